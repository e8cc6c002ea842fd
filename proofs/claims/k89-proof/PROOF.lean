import PyProof.Rows.All
import Wide.All
import OpenK.AllK
import Wide.FinOn
import Lean
import PyProof.EqAt
import PyProof.EqKinds
import PyProof.TupleCall
import PyProof.NeKinds
import PyProof.Draws
import PyProof.SumWalkG
import PyProof.ListRange
import PyProof.ZipIter
import PyProof.Rows.SortRev
import KE.IntBitsLaws
import PyProof.ListMulRoad
import PyProof.TupleKey
import PyProof.ReprRoads
import PyProof.ReprLen
import PyProof.CallStr
import PyProof.Rows.RuleIs
import PyProof.StrLawsRepr
import PyProof.Rows.SortShellK
import KE.KSortTup
import PyProof.Rows.SeqMore2
import KE.KRevIter
import PyProof.RulesTry
import PyProof.StationsW
import PyProof.RulesAs
import PyProof.NsDelKeeps
import PyProof.Rows.Own
import PyProof.Rows.Catch
import KE.KTryMore
import KE.KIsNot
import OpenK.KDescr
import PyProof.ExcAttrAll.ValueError
import PyProof.FString
import PyProof.InstStoreFacts
import OpenK.KMake
import KE.KItemsList
import KE.KPairComp
import PyProof.DictWalks
import KE.KDictSum
import PyProof.Rows.TupAdd
import PyProof.Rows.StrJoin2
import PySem.Challenge.RW_fewreels_k89_whole_from_store_to_one_row
noncomputable section
open List renaming length_map → Yaa, getElem?_eq_some_iff → Yab, getElem?_eq_getElem → Yac, getElem?_map → Yaf, length_append → Yag, mem_append → Yah, map_append → Yai, mem_singleton → Yaj, getD_eq_getElem?_getD → Yak, size_toArray → Yal, mem_of_getElem? → Yam, replicate → Yan, mem_cons_of_mem → Yas, length_take → Yav, append_assoc → Yax, mem_cons_self → Yay, getElem?_append_left → Yaz, mem_cons → YaD, range → YaE, flatten_cons → YaF, getElem?_append_right → YaG, length_cons → YaH, mem_append_right → YaI, map_cons → YaJ, mem_flatMap → YaL, take_length → YaM, getElem?_set_ne → YaO, take_add_one → YaQ, mem_map → YaS, take_append_drop → YaU, length_drop → YaX, take_of_length_le → YaY, pairwise_append → Ya0, mem_append_left → Ya1, mem_of_mem_drop → Ya3, append_nil → Ya4, zip → Ya5, length → Ya8, mem_of_mem_take → Yba, mem_or_eq_of_mem_set → Ybb, sum_cons → Ybe, pairwise_cons → Ybf, map_map → Ybh, replicate_succ → Ybj, flatten_append → Ybk, mem_range → Ybu, map_congr_left → Ybw, getElem_mem → Yby, pairwise_map → Ybz, perm_append_comm → YbD, ext_getElem → YbE, length_eq_zero_iff → YbF, getElem?_set_self → YbI, not_mem_nil → YbL, flatMap_append → YbM, filterMap_cons → YbN, dropLast_concat_getLast → YbP, take_zero → YbR, getElem?_of_mem → YbS, nodup_cons → YbY, map_set → YbZ, concat_eq_append → Yb0, lookup_cons → Yb1, range_succ → Yb2, mem_filterMap → Yb6, map_take → Yb7, length_singleton → Yb8, getElem?_take → Yb9, getElem?_drop → Yca, eq_nil_or_concat → Ycb, nodup_append → Yce, length_range → Ycf, getElem?_take_of_lt → Ycg, map_drop → Ycj, all_eq_true → Ycl, nodup_nil → Ycm, mem_iff_getElem? → Ycq, length_replicate → Ycr, length_flatten → YcD, length_nil → YcF, getElem?_replicate → YcG, filter_append → YcH, take_succ_eq_append_getElem → YcK, flatten_replicate_singleton → YcL, reverse_cons → YcN, eq_nil_of_length_eq_zero → YcT, getElem?_mapIdx → YcX, reverse_append → YcY, length_set → YcZ, length_pos_iff → Yc0, getElem?_range → Yc1, foldl_cons → Yc2, ne_nil_of_mem → Yc8, map_nil → Yc9, filterMap_map → Yda, pairwise_iff_getElem → Ydd, drop_zero → Yde, length_filterMap_le → Ydh, getElem_take → Ydi, pairwise_singleton → Ydl, eraseIdx_cons_succ → Ydm, reverse_nil → Ydp, mem_reverse → Ydq, length_pos_of_mem → Ydt, zipWith → Ydw, sum_append → Ydx, mem_filter → Ydy, length_filter_le → Ydz, getElem?_eq_none → YdA, filterMap_append → YdB, flatten_flatten → YdI, take_succ_cons → YdJ, sum_append_nat → YdK, getD_cons_zero → YdL, getD_cons_succ → YdM, zip_cons_cons → YdT, mem_replicate → YdU, mapIdx_append → YdV, take_sublist → Yd3, eraseIdx_eq_take_drop_succ → Yd4, eraseIdxIfInBounds_toArray → Yd5, zipIdx_cons → Yd9, take_append_of_le_length → Yea, mem_flatten → Yeb, length_tail → Yec, getElem_map → Yed, filter_cons → Yee, cons_append → Yef, sum → Yem, of_mem_zip → Yep, nil_append → Yeq, forIn_cons → Yer, getElem?_eq_none_iff → YeE, drop_eq_getElem_cons → YeF, length_erase_of_mem → YeJ, foldl → YeK, eq_of_mem_replicate → YeL, pairwise_mergeSort → YeM, range_succ_eq_map → YeP, length_eq_one_iff → YeQ, drop_of_length_le → YeR, singleton_append → YeT, getElem?_reverse → YeU, extract → YeV, eraseIdx_sublist → YeW, count_cons_of_ne → YeX, mem_iff_getElem → Ye5, map_eq_cons_iff → Ye6, length_eraseIdx → Ye7, count_cons_self → Ye8, zipWith_append → Yfc, mergeSort_perm → Yfd, map_id → Yfe, length_reverse → Yff, getElem_of_mem → Yfg, filter_eq_self → Yfh, map_replicate → Yfn, count_pos_iff → Yfo, getElem_drop → Yfu, foldl_append → Yfv, ext_getElem? → Yfw, perm_middle → YfB, nodup_range → YfC, getElem_inj → YfD
open PySem.W renaming Frag → Yad, keepIn → Yao, nsIn → Yaq, codeIn → Yat, fnOf → YaA, mg_none_of → YaW, kia_one → YbQ, kitOne → Yc3, findIn → Yc4, methodObj → YdR, kat_nil → Yd6, instObj → Yd7, OpenLaw → Yd8, lookIn → Yei, cellsFrom_some → YeC, callWith_K → YeS, specialIn → Ye0, kitx_list → Ye1, kitx_dict → Ye2, plainGet → Yfa, mg_of → Yfy, WalkO → Yfz
open PySem.Heap renaming get?_push_of_some → Yae, lt_size → Yar, get?_push_size → YaC, size_push → YbA, get?_update_other → YbV, get?_update_self → YcR, SameBut → YdC, IsTuple → YdD, ExtBut → YdN, IsList → Yet, get?_update_ne → Yfi, size_update → YfF
open Nat renaming le_refl → Yap, lt_of_lt_of_le → Yaw, ne_of_lt → YaP, zero_le → Ya2, lt_irrefl → Ybl, le_trans → Ybm, lt_or_ge → Ybt, le_of_lt → Ybv, zero_add → YbT, ne_of_gt → YbU, min_eq_left → Yb3, lt_succ_self → Yb5, not_lt_zero → Ycv, le_succ → Ycw, lt_succ_of_lt → YcO, min_eq_right → YcW, sub_self → Ydc, add_sub_cancel_left → Ydo, lt_of_le_of_lt → YdX, eq_zero_or_pos → YdY, mod_eq_of_lt → Yej, max_eq_right → Yek, le_of_not_lt → Yel, sub_zero → Ye3, le_total → Ye4, add_lt_add_left → Yfm, succ → Yfr, lt_or_eq_of_le → Yfs, mod_lt → YfA
open Array renaming getElem?_toList → Yau, length_toList → Ya7, getD_eq_getD_getElem? → Ybc, toList_append → Ybg, getElem?_eq_getElem → Ycd, toList_reverse → Ycz, toList_push → YcM, toList_extract → YcV, getElem?_eq_some_iff → Yc7, toList_setIfInBounds → Yev, perm_iff_toList_perm → Yew, toList_inj → Yfx
open Option.some renaming inj → YaB
open Int renaming toNat_natCast → YaK, mul_le_mul_of_nonneg_left → Ya6, mul_le_mul_of_nonneg_right → YbG, le_refl → YbO, emod_lt_of_pos → Ycc, emod_nonneg → Ych, mul_sub → Yck, mul_add → YcP, mul_one → Yc5, mul_nonneg → Ydg, add_mul → Ydr, pow_succ → YdG, mul_comm → YdH, pow_add → Yez, fdiv_eq_ediv_of_nonneg → YeG, add_mul_emod_self_left → YeH, le_trans → Ye9, emod_eq_of_lt → YfE
open Or renaming inl → YaN, inr → Yd2
open PySem.Builtin.Int renaming intBits → YaR
open Bool renaming false_eq_true → YaT, false_ne_true → YaZ, eq_iff_iff → YcI, and_eq_true → YcU, not_true → Ydn
open PySem renaming boot_len → YaV, mem_of_lookup → YbW, call → Yfj
open PySem.F renaming plainAttrs_list → Ya9, type_list_append → YbB, slot_list_append → YbC, args_tuple_add_2 → Yeo, entry_tuple_add → Yey, slot_tuple_add → YeD
open PySem.Builtin.SmallTypes renaming nextOf → Ybd, ownedTupleIsFree → YbX, ownedTupleHandOut → Yc6
open PySem.PassesOwn renaming never → Ybi
open Ne renaming symm → Ybn
open ForInStep renaming yield → Ybo, done → Ycx
open Option renaming toList_some → Ybp, map_eq_some_iff → YcJ, getD_some → Yfk, getD_none → Yfl, map_some → Yfp
open Classical renaming byContradiction → Ybq
open List.Perm renaming append_right → Ybr, refl → Ybx, append_left → YbK, trans → Ydj, swap → Ydu, of_eq → YdZ
open PySem.PyData renaming depthAll → Ybs, depth → Yds, int → Yfb
open PySem.Value renaming ref → YbH, none → Ycu, type → Ydf, bool → Ydv, str → Yeg, int → Yeh
open PySem.Obj renaming mapSeq → YbJ, data_mapFields → Yfq
open List.Pairwise renaming nil → Yb4
open PyProof.Rows renaming callWith_type1 → Yci, slot_tuple_getitem → YcC, envOfC → Ydk
open PySem.Builtin.Slice renaming slicePlaces → Ycn, sliceAdjust → YcS, sliceApplied → YdO
open PySem.NameKind renaming free → Yco, cell → Yft
open PyProof.Rows.KeyOrd renaming kle_refl → Ycp, kle_of_klt → Ycs, kle_trans → YcQ, kle_antisymm → YeY
open PySem.Builtin.Tuple renaming tupleExact → Yct
open PySem.Builtin.List renaming listTooLong → Ycy, listExtendWith → YdP
open PySem.AutoSeq1 renaming wpAny_loadPart' → YcA
open PySem.Shared renaming heap → YcB
open False renaming elim → YcE
open PySem.Str renaming ofString → Ydb, empty → YdW
open PySem.Builtin.Builtins renaming bindParams → YdE
open PySem.Around renaming under_plainId → YdF
open Sum renaming inl → YdQ, inr → Yex
open PyProof.Rows.SortSt renaming mk' → YdS
open PySem.Builtin.Range renaming rangeSize → Yd0
open True renaming intro → Yd1
open PySem.Heap.IsSliceOf renaming new → Yen
open PySem.Heap.SameBut renaming update → Yes
open PySem.Calls renaming Name_function_global → Yeu, call_function_entry → YeA, callWith_builtin → YeO
open PySem.Walks renaming list → YeB
open PySem.Heap.IsTuple renaming push → YeI
open PySem.Heap.IsList renaming push → YeN
open PySem.SeqAt.EqAt renaming same → YeZ
set_option Elab.async false
set_option linter.all false
set_option maxRecDepth 100000
namespace L2
open PySem PySem.Spec PyProof.Rows
abbrev Key:=Sum Int Str
def ZnJ:Key->Value->Bool
 | .inl k,v=>Value.isInt k v
 | .inr x,v=>Value.isStrOf x v
def keyH (w:World):Key->Int
 | .inl k=>hashInt k
 | .inr x=>hashStr w x
theorem ZaJ:∀ {k:Key}{v:Value},ZnJ k v=true->(∃ i t,k=YdQ i/\v=Yeh i t)∨(∃ x t,k=Yex x/\v=Yeg x t)
 | .inl i,v,h=>by
  obtain⟨t,e⟩:=Value.isInt_shape (k:=i) (v:=v) h;exact .inl ⟨i,t,rfl,e⟩
 | .inr x,v,h=>by
  obtain⟨t,e⟩:=Value.isStrOf_shape (x:=x) (v:=v) h;exact .inr ⟨x,t,rfl,e⟩
theorem ZnI (a b:Int):decide ((YdQ a:Key)=YdQ b)=(a == b):=by
 by_cases e:a=b
 ·subst e;simp
 ·have h:¬ (YdQ a:Key)=YdQ b:=fun q=>e (Sum.inl.inj q);rw[decide_eq_false h];exact (beq_eq_false_iff_ne.mpr e).symm
theorem ZnF (a b:Str):decide ((Yex a:Key)=Yex b)=decide (a=b):=by
 by_cases e:a=b
 ·subst e;simp
 ·have h:¬ (Yex a:Key)=Yex b:=fun q=>e (Sum.inr.inj q);rw[decide_eq_false h,decide_eq_false e]
theorem ZnH (a:Int) (b:Str):decide ((YdQ a:Key)=Yex b)=false:=decide_eq_false (fun q=>nomatch q)
theorem ZnG (a:Str) (b:Int):decide ((Yex a:Key)=YdQ b)=false:=decide_eq_false (fun q=>nomatch q)
def Zgw (prog:Program) (w:World):PySem.KeyKind prog w Key where
 is:=ZnJ
 hash:=keyH w
 inj:=fun v a b ha hb=>by
  rcases ZaJ ha with ⟨i,t,rfl,rfl⟩ | ⟨x,t,rfl,rfl⟩
  ·rcases ZaJ hb with ⟨j,u,rfl,e⟩ | ⟨y,u,rfl,e⟩
   ·injection e with e1 _;rw[e1]
   ·exact nomatch e
  ·rcases ZaJ hb with ⟨j,u,rfl,e⟩ | ⟨y,u,rfl,e⟩
   ·exact nomatch e
   ·injection e with e1 _;rw[e1]
 byValue:=fun k v h=>by
  rcases ZaJ h with ⟨i,t,rfl,rfl⟩ | ⟨x,t,rfl,rfl⟩ <;> rfl
 pyHash:=fun hv h=>by
  rcases ZaJ hv with ⟨i,t,rfl,rfl⟩ | ⟨x,t,rfl,rfl⟩
  ·exact wpAny_pyHash_int h
  ·exact wpAny_pyHash_str h
 eqBool:=fun hu hv h=>by
  rcases ZaJ hu with ⟨i,t,rfl,rfl⟩ | ⟨x,t,rfl,rfl⟩
  ·rcases ZaJ hv with ⟨j,u,rfl,rfl⟩ | ⟨y,u,rfl,rfl⟩
   ·rw[ZnI] at h;exact wpAny_eqBool_int h
   ·rw[ZnH] at h;exact SeqAt.EqAt.int_str i t y u _ _ _ _ h
  ·rcases ZaJ hv with ⟨j,u,rfl,rfl⟩ | ⟨y,u,rfl,rfl⟩
   ·rw[ZnG] at h;exact SeqAt.EqAt.str_int x t j u _ _ _ _ h
   ·rw[ZnF] at h;exact wpAny_eqBool_str h
 «strs»:=fun k x t v h=>by
  rcases ZaJ h with ⟨i,u,rfl,e⟩ | ⟨y,u,rfl,e⟩
  ·exact nomatch e
  ·injection e with e1 _;subst e1;cases v <;> rfl
end L2
namespace L2
open PySem PySem.Spec PyProof.Rows
inductive V where
 | non | bl (b:Bool) | int (i:Int) | str (x:Str) | byt (b:Array UInt8) | flt (b:UInt64) | ref (a:Addr) | ty (n:String)
 deriving DecidableEq
def RelV:V->Value->Prop
 | .non,u=>u=Ycu
 | .bl b,u=>u=Ydv b
 | .int i,u=>∃ t,u=Yeh i t
 | .str x,u=>∃ t,u=Yeg x t
 | .byt b,u=>∃ t,u=Value.bytes b t
 | .flt b,u=>∃ t,u=Value.float b t
 | .ref a,u=>u=YbH a
 | .ty n,u=>u=Ydf n
abbrev Vals:List V->List Value->Prop:=Paired RelV
theorem Vals.length {xs:List V}{us:List Value} (r:Vals xs us):xs.length=us.length:=Paired.length r
theorem Vals.get:∀ {xs:List V}{us:List Value}{i:Nat}{x:V},Vals xs us->xs[i]?=some x->∃ u,us[i]?=some u/\RelV x u
 | _,_,_,_,.nil,e=>by simp at e
 | _,_,0,_,.cons r _,e=>by simp at e;subst e;exact⟨_,rfl,r⟩
 | _,_,i+1,x,.cons _ t,e=>by
  obtain⟨u,h1,h2⟩:=Vals.get (i:=i) (x:=x) t (by simpa using e);exact⟨u,by simpa using h1,h2⟩
theorem Vals.set {x:V}{u:Value} (r:RelV x u):∀ {xs:List V}{us:List Value} (i:Nat),Vals xs us->Vals (xs.set i x) (us.set i u)
 | _,_,_,.nil=>.nil
 | _,_,0,.cons _ t=>.cons r t
 | _,_,i+1,.cons q t=>.cons q (Vals.set r i t)
theorem Vals.append:∀ {xs ys:List V}{us ws:List Value},Vals xs us->Vals ys ws->Vals (xs++ys) (us++ws)
 | _,_,_,_,.nil,s=>s
 | _,_,_,_,.cons r t,s=>.cons r (Vals.append t s)
theorem Vals.take:∀ {xs:List V}{us:List Value} (n:Nat),Vals xs us->Vals (xs.take n) (us.take n)
 | _,_,0,_=>.nil
 | _,_,_+1,.nil=>.nil
 | _,_,n+1,.cons r t=>.cons r (Vals.take n t)
theorem Vals.drop:∀ {xs:List V}{us:List Value} (n:Nat),Vals xs us->Vals (xs.drop n) (us.drop n)
 | _,_,0,r=>r
 | _,_,_+1,.nil=>.nil
 | _,_,n+1,.cons _ t=>Vals.drop n t
theorem Vals.none_of:∀ {xs:List V}{us:List Value}{i:Nat},Vals xs us->xs[i]?=none->us[i]?=none:=fun {xs us i} r e=>by
 have h1:=r.length;have h2:xs.length<=i:=YeE.mp e;exact YeE.mpr (by omega)
def RelO:Option V->Option Value->Prop
 | some v,some u=>RelV v u
 | none,none=>True
 | _,_=>False
def KV {κ:Type}:List (κ × V)->List (κ × Value)->Prop:=Paired fun (p:κ × V) (q:κ × Value)=>p.1=q.1/\RelV p.2 q.2
def kV:Key->V
 | .inl i=>.int i
 | .inr x=>.str x
inductive HO where
 | lst (xs:List V)
 | tup (xs:List V)
 | dK (kvs:List (Key × V)) | dT (kvs:List (List Key × V))
 | set (S:Int->Bool) (n:Nat)
 | ins (C dx:Addr) (fs:List (Str × V))
 | own (x:Addr)
 | xd (fs:List (Str × V))
 | met (f x:Addr)
 | rng (lo hi:Int)
 | frz (o:Obj) (u:HO)
 | tbl (ps:Array Value)
 | ext (φ:Heap->Prop)
abbrev Hp:=Addr->Option HO
def upd (H:Hp) (a:Addr) (o:HO):Hp:=fun b=>if b=a then some o else H b
theorem Zab {H:Hp}{a:Addr}{o:HO}:upd H a o a=some o:=by unfold upd;rw[if_pos rfl]
theorem Zai {H:Hp}{a b:Addr}{o:HO} (h:b≠a):upd H a o b=H b:=by unfold upd;rw[if_neg h]
theorem Zom {H:Hp}{a b:Addr}{o u:HO} (h:H a=some o) (h':H b=some u) (d:o≠u):a≠b:=by
 intro e;subst e;rw[h] at h';exact d (YaB h')
theorem Zae {H:Hp}{a b:Addr}{o:HO} (h:H a=some o) (h':H b=none):a≠b:=by
 intro e;subst e;rw[h] at h';cases h'
def IsTupD (h:Heap) (a:Addr) (items:Array Value):Prop:=∃ o,h.get? a=some o/\o.cls=.type "tuple"/\o.dict=none/\∃ n,o.data=.seq items n
theorem IsTupD.tup {h:Heap}{a:Addr}{items:Array Value} (x:IsTupD h a items):IsTup h a items:=let ⟨o,e,c,_,d⟩:=x;⟨o,e,c,d⟩
theorem IsTupD.new (h:Heap) (items:Array Value):IsTupD (h.push { cls:=.type "tuple",data:=.seq items }) h.objs.size items:=⟨_,YaC _ rfl,rfl,rfl,_,rfl⟩
section
variable (P:Program) (w:World)
def ObjOk (H:Hp) (h:Heap) (a:Addr):HO->Prop
 | .lst xs=>xs.length<=sizeLine/\∃ (its:List Value) (n:Nat),Vals xs its/\h.get? a=some { cls:=.type "list",data:=.seq its.toArray n }
 | .tup xs=>xs.length<=sizeLine/\∃ its:List Value,Vals xs its/\IsTupD h a its.toArray
 | .dK kvs=>kvs.length<=sizeLine/\(a == sysModules)=false/\∃ vs,KV kvs vs/\h.DictOf (Zgw P w) a vs
 | .dT kvs=>kvs.length<=sizeLine/\(a == sysModules)=false/\∃ xs:List (List Key × Addr × Value),
   Paired (fun (p:List Key × V) (q:List Key × Addr × Value)=>p.1=q.1/\H q.2.1=some (.tup (p.1.map kV))/\RelV p.2 q.2.2) kvs xs /\
   ∃ o es ep,h.get? a=some o/\o.ExactDict/\o.data=.dict es ep/\es.toList=xs.map (entryOfKey (tupleKind (Zgw P w)))/\(xs.map (·.1)).Nodup
 | .set S n=>h.SetOf (intKind P w) a S n
 | .ins C dx fs=>H dx=some (.own a)/\fs.length<=1000/\dx≠a/\h.get? a=some (Yd7 C dx) /\
   ∃ mA,h.Ns1 dx mA/\(∀ f,RelO (fs.lookup f) (mA f))/\PySem.Within mA (fs.map (·.1))
 | .own _=>∃ o,h.get? a=some o
 | .xd fs=>∃ mA,h.Ns1 a mA/\∀ f,RelO (fs.lookup f) (mA f)
 | .rng lo hi=>∃ t u v,h.get? a=some { cls:=.type "range",data:=.fields #[.int lo t,.int hi u,.int 1 v] }
 | .frz o u=>h.get? a=some o/\ObjOk H h a u
 | .tbl ps=>h.get? a=some { cls:=.none,data:=.fields ps }
 | .met f x=>h.get? a=some (YdR (.ref f) (.ref x))
 | .ext φ=>φ h/\(∃ o,h.get? a=some o)/\∀ h1 h2:Heap,φ h1->(∀ o,h1.get? a=some o->h2.get? a=some o)->φ h2
def HOk (H:Hp) (h:Heap):Prop:=∀ a o,H a=some o->ObjOk P w H h a o
end
section
variable {P:Program}{w:World}{H H':Hp}{h h':Heap}{a:Addr}{o:HO}
theorem ObjOk.lt (x:ObjOk P w H h a o):a<h.objs.size:=by
 cases o with
 | lst xs=>obtain⟨_,_,_,_,e⟩:=x;exact Yar e
 | tup xs=>obtain⟨_,_,_,p⟩:=x;exact p.tup.lt
 | dK kvs=>obtain⟨_,_,_,_,o,_,_,e,_⟩:=x;exact Yar e
 | dT kvs=>obtain⟨_,_,_,_,o,_,_,e,_⟩:=x;exact Yar e
 | set S n=>obtain⟨o,_,_,_,e,_⟩:=x;exact Yar e
 | ins C dx fs=>obtain⟨_,_,_,e,_⟩:=x;exact Yar e
 | own y=>obtain⟨_,e⟩:=x;exact Yar e
 | xd fs=>obtain⟨_,⟨_,_,_,e,_⟩,_⟩:=x;exact Yar e
 | rng lo hi=>obtain⟨_,_,_,e⟩:=x;exact Yar e
 | frz ob u=>obtain⟨e,_⟩:=x;exact Yar e
 | tbl ps=>exact Yar (show h.get? a=some _ from x)
 | met f y=>exact Yar (show h.get? a=some _ from x)
 | ext φ=>obtain⟨_,⟨_,e⟩,_⟩:=x;exact Yar e
theorem Paired.mapP {α β:Type}{F G:α->β->Prop}:∀ {l₁:List α}{l₂:List β},Paired F l₁ l₂->(∀ a b,F a b->G a b)->Paired G l₁ l₂
 | _,_,.nil,_=>.nil
 | _,_,.cons r t,f=>.cons (f _ _ r) (Paired.mapP t f)
theorem ObjOk.stay (x:ObjOk P w H h a o) (k:∀ b u,(b=a∨H b=some (.own a))->h.get? b=some u->h'.get? b=some u)
  (ho:∀ b,H b=some (.own a)->H' b=some (.own a)) (ht:∀ b xs,H b=some (.tup xs)->H' b=some (.tup xs)):ObjOk P w H' h' a o:=by
 induction o with
 | lst xs=>obtain⟨z,its,n,r,e⟩:=x;exact⟨z,its,n,r,k _ _ (.inl rfl) e⟩
 | tup xs=>obtain⟨z,its,r,ob,e,c⟩:=x;exact⟨z,its,r,ob,k _ _ (.inl rfl) e,c⟩
 | dK kvs=>obtain⟨z,y,vs,r,ob,es,ep,e,c⟩:=x;exact⟨z,y,vs,r,ob,es,ep,k _ _ (.inl rfl) e,c⟩
 | dT kvs=>
  obtain⟨z,y,xs,r,ob,es,ep,e,c⟩:=x;exact⟨z,y,xs,Paired.mapP r fun p q z=>⟨z.1,ht _ _ z.2.1,z.2.2⟩,ob,es,ep,k _ _ (.inl rfl) e,c⟩
 | set S n=>obtain⟨ob,es,ep,t,e,c⟩:=x;exact⟨ob,es,ep,t,k _ _ (.inl rfl) e,c⟩
 | ins C dx fs=>
  obtain⟨d,z,ne,e,mA,⟨od,es,ep,e2,c⟩,r⟩:=x;exact⟨ho _ d,z,ne,k _ _ (.inl rfl) e,mA,⟨od,es,ep,k _ _ (.inr d) e2,c⟩,r⟩
 | own y=>obtain⟨ob,e⟩:=x;exact⟨ob,k _ _ (.inl rfl) e⟩
 | xd fs=>obtain⟨mA,⟨od,es,ep,e,c⟩,r⟩:=x;exact⟨mA,⟨od,es,ep,k _ _ (.inl rfl) e,c⟩,r⟩
 | rng lo hi=>obtain⟨t,u,v,e⟩:=x;exact⟨t,u,v,k _ _ (.inl rfl) e⟩
 | frz ob u ih=>obtain⟨e,q⟩:=x;exact⟨k _ _ (.inl rfl) e,ih q⟩
 | tbl ps=>
  have e:h.get? a=some { cls:=.none,data:=.fields ps }:=x;show h'.get? a=some { cls:=.none,data:=.fields ps };exact k a _ (.inl rfl) e
 | met f y=>
  have e:h.get? a=some (YdR (.ref f) (.ref y)):=x;show h'.get? a=some (YdR (.ref f) (.ref y));exact k a _ (.inl rfl) e
 | ext φ=>obtain⟨p,⟨o,e⟩,st⟩:=x;exact⟨st _ _ p fun o q=>k _ _ (.inl rfl) q,⟨o,k _ _ (.inl rfl) e⟩,st⟩
theorem HOk.lt (x:HOk P w H h) (e:H a=some o):a<h.objs.size:=(x a o e).lt
theorem HOk.fresh (x:HOk P w H h) (e:h.objs.size<=a):H a=none:=by
 cases q:H a with
 | none=>rfl
 | some u=>exact absurd (Yaw (x.lt q) e) (Ybl _)
theorem HOk.kept (x:HOk P w H h) (k:∀ b u,h.get? b=some u->h'.get? b=some u):HOk P w H h':=fun a o e=>
 (x a o e).stay (fun b u _ q=>k b u q) (fun _ q=>q) fun _ _ q=>q
theorem HOk.laid (x:HOk P w H h) (k:∀ b u,h.get? b=some u->h'.get? b=some u) (hp:h.objs.size<=a) (new:ObjOk P w (upd H a o) h' a o):HOk P w (upd H a o) h':=fun b u e=>by
 have hn:=x.fresh hp;by_cases hb:b=a
 ·subst hb;rw[Zab] at e;cases e;exact new
 ·rw[Zai hb] at e;exact (x b u e).stay (fun c v _ q=>k c v q) (fun c q=>by rw[Zai (Zae q hn)];exact q) fun c xs q=>by rw[Zai (Zae q hn)];exact q
end
def Rd (H:Hp) (a:Addr) (u:HO):Prop:=H a=some u∨∃ o,H a=some (.frz o u)
theorem Rd.ok {P:Program}{w:World}{H:Hp}{h:Heap}{a:Addr}{u:HO} (r:Rd H a u) (x:HOk P w H h):ObjOk P w H h a u:=by
 rcases r with r | ⟨o,r⟩
 ·exact x a u r
 ·obtain⟨_,q⟩:=x a _ r;exact q
def Mut:Option HO->Prop
 | some (.lst _)=>True
 | some (.dK _)=>True
 | some (.dT _)=>True
 | some (.set _ _)=>True
 | some (.ins _ _ _)=>True
 | some (.ext _)=>True
 | _=>False
section
variable {P:Program}{w:World}{H:Hp}{h h':Heap}{x e:Addr}{o':HO}
theorem HOk.write (ok:HOk P w H h) (mu:Mut (H x)) (he:e=x∨H e=some (.own x)) (k:∀ b u,b≠e->h.get? b=some u->h'.get? b=some u) (heo:∃ u,h'.get? e=some u)
  (new:ObjOk P w (upd H x o') h' x o'):HOk P w (upd H x o') h':=fun b u q=>by
 have nown:∀ c y,H c=some (.own y)->c≠x:=fun c y r z=>by subst z;rw[r] at mu;exact mu
 have ntup:∀ c xs,H c=some (.tup xs)->c≠x:=fun c xs r z=>by subst z;rw[r] at mu;exact mu
 by_cases hb:b=x
 ·subst hb;rw[Zab] at q;cases q;exact new
 ·rw[Zai hb] at q;by_cases hbe:b=e
  ·have q':H b=some (.own x):=by
    rcases he with z | z
    ·exact absurd (hbe.trans z) hb
    ·rw[hbe];exact z
   rw[q] at q';cases q';obtain⟨v,hv⟩:=heo;exact⟨v,by rw[hbe];exact hv⟩
  ·refine (ok b u q).stay (fun c v hc r=>k c v ?_ r) (fun c r=>by rw[Zai (nown c b r)];exact r) fun c xs r=>by rw[Zai (ntup c xs r)];exact r
   rcases hc with rfl | hc
   ·exact hbe
   ·rintro rfl;rcases he with z | z
    ·exact nown c b hc z
    ·rw[hc] at z;cases z;exact hb rfl
end
structure Un (fs ex:List Addr) (H H':Hp) (h h':Heap):Prop where
 keep:∀ b o,h.get? b=some o->H b=none->b ∉ fs->b ∉ ex->h'.get? b=some o
 slot:∀ b o,h.get? b=some o->H b=none->b∈fs->b ∉ ex->∃ sl,h'.get? b=some { o with slots:=sl }
 free:∀ b o,h.get? b=some o->H b=none->b ∉ ex->H' b=none
 there:∀ b o,h.get? b=some o->b ∉ ex->∃ o',h'.get? b=some o'
 tups:∀ b xs,H b=some (.tup xs)->H' b=some (.tup xs)
 frzs:∀ b o u,H b=some (.frz o u)->H' b=some (.frz o u)
 tbls:∀ b ps,H b=some (.tbl ps)->∃ more,H' b=some (.tbl (ps++more))
section
variable {fs fs' ex ex':List Addr}{H H1 H2:Hp}{h h1 h2 h':Heap}{a x e:Addr}{o:HO}
theorem Un.any (u:Un fs ex H H1 h h1) {b:Addr}{ob:Obj} (q:h.get? b=some ob) (n:H b=none) (hx:b ∉ ex):∃ sl,h1.get? b=some { ob with slots:=sl }:=by
 by_cases hb:b∈fs
 ·exact u.slot b ob q n hb hx
 ·exact⟨ob.slots,u.keep b ob q n hb hx⟩
theorem Un.kept (k:∀ b u,h.get? b=some u->h'.get? b=some u):Un fs ex H H h h' :=
 ⟨fun b ob q _ _ _=>k b ob q,fun b ob q _ _ _=>⟨ob.slots,k b ob q⟩,fun _ _ _ n _=>n,fun b ob q _=>⟨ob,k b ob q⟩,fun _ _ q=>q,fun _ _ _ q=>q,fun _ ps q=>⟨#[],by rw[q];simp⟩⟩
theorem Un.refl:Un fs ex H H h h:=Un.kept fun _ _ q=>q
theorem Un.laid (k:∀ b u,h.get? b=some u->h'.get? b=some u) (hp:h.objs.size<=a) (hn:H a=none):Un fs ex H (upd H a o) h h' where
 keep:=fun b u q _ _ _=>k b u q
 slot:=fun b u q _ _ _=>⟨u.slots,k b u q⟩
 free:=fun b u q n _=>by rw[Zai (YaP (Yaw (Yar q) hp))];exact n
 there:=fun b u q _=>⟨u,k b u q⟩
 tups:=fun b xs q=>by rw[Zai (Zae q hn)];exact q
 frzs:=fun b u xs q=>by rw[Zai (Zae q hn)];exact q
 tbls:=fun b ps q=>⟨#[],by rw[Zai (Zae q hn),q];simp⟩
theorem Un.write (mu:Mut (H x)) (he:e=x∨H e=some (.own x)) (k:∀ b u,b≠e->h.get? b=some u->h'.get? b=some u) (heo:∃ u,h'.get? e=some u):Un fs ex H (upd H x o) h h':=by
 have hx:∀ b,H b=none->b≠x:=fun b n z=>by subst z;rw[n] at mu;exact mu
 have hb:∀ b,H b=none->b≠e:=fun b n z=>by
  subst z;rcases he with r | r
  ·exact hx b n r
  ·rw[n] at r;cases r
 have hm:∀ b u,H b=some u->¬ Mut (some u)->b≠x:=fun b u q nm z=>by subst z;rw[q] at mu;exact nm mu
 refine⟨fun b u q n _ _=>k b u (hb b n) q,fun b u q n _ _=>⟨u.slots,k b u (hb b n) q⟩,fun b u q n _=>by rw[Zai (hx b n)];exact n,fun b u q _=>?_,
  fun b xs q=>by rw[Zai (hm b _ q fun z=>z)];exact q,fun b u xs q=>by rw[Zai (hm b _ q fun z=>z)];exact q,fun b ps q=>⟨#[],by rw[Zai (hm b _ q fun z=>z),q];simp⟩⟩
 by_cases hbe:b=e
 ·subst hbe;exact heo
 ·exact⟨u,k b u hbe q⟩
end
def trk (h:Heap) (H:Hp):List Addr:=(YaE h.objs.size).filter fun a=>(H a).isSome
def hidT (h:Heap) (H:Hp):Heap:=PySem.W.hideAll h (trk h H)
theorem ZjH (h:Heap) (H:Hp):(hidT h H).objs.size=h.objs.size:=PySem.W.hideAll_size _ _
theorem Zli {h:Heap}{H:Hp}{b:Addr}{o:Obj} (e:h.get? b=some o) (n:H b=none):(hidT h H).get? b=some o :=
 PySem.W.hideAll_get _ e fun hm=>by
  have q:(H b).isSome=true:=(Ydy.mp hm).2
  rw[n] at q;simp at q
theorem ZmF {h:Heap}{H:Hp}{b:Addr}{o:Obj} (e:(hidT h H).get? b=some o):h.get? b=some o/\H b=none:=by
 have e':h.get? b=some o:=PySem.W.of_hideAll (trk h H) e;refine⟨e',?_⟩
 cases q:H b with
 | none=>rfl
 | some x=>
  have hm:b∈trk h H:=Ydy.mpr ⟨Ybu.mpr (Yar e'),by simp[q]⟩;have z:(hidT h H).get? b=none:=PySem.W.hideAll_none (trk h H) hm;rw[z] at e;cases e
def ZmV (g h:Heap) (L:Addr):List (Addr × Obj):=(YaE h.objs.size).filterMap fun a=>if a=L∨(g.get? a).isSome=true then none else (h.get? a).map fun o=>(a,o)
def rest (g h:Heap) (L d:Addr):List (Addr × Obj):=(ZmV g h L).filter fun p=>decide (p.1≠d)
end L2
namespace L2
open PySem PySem.Spec PyProof.Rows
structure Mod (K:Yad) (mg:Str->Option Value) (base:Heap):Prop where
 kin:K.In base
 glob:base.Ns mainGlobals mg
 blt:∃ mb,base.Ns builtinsNs mb/\∀ x:Str,x≠"__name__"->mb x=bootBuiltins x
 nolimit:base.NoLimit
structure Cx where
 prog:Program
 w:World
 K:Yad
 mg:Str->Option Value
 base:Heap
 A:Around
 N:List Str
 s₀:Shared
 H₀:Hp
 env:Env
 outer:List Env
 stack:List Env
 ex:List Addr
 fn:Str->Bool
 calm:Bool
 pn:List (Addr × Obj)
 xe:Value->Shared->Prop
def frs (l:List Env):List Addr:=l.filterMap (·.frame)
abbrev Cx.fs (X:Cx):List Addr:=frs X.outer
def Vis (sc:Scope) (x:Str):Prop:=sc.names.lookup x=some .local ∨ sc.names.lookup x=some .cell∨sc.names.lookup x=some .free
def Loc (sc:Scope) (x:Str):Prop:=sc.names.lookup x=some .local ∨ sc.names.lookup x=some .cell
def Look (env:Env) (h:Heap) (m:Str->Option Value) (x:Str) (u:Value):Prop :=
 (env.kindOf x=some .local /\ m x=some u)∨((env.kindOf x=some .cell∨env.kindOf x=some .free)/\∃ c,env.cells.lookup x=some c/\h.IsCell c (some u))
structure Cx.Ok (X:Cx):Prop where
 mod:Mod X.K X.mg X.base
 kind:X.env.scope.kind=.function
 glob:X.env.globals=mainGlobals
 blt:X.env.builtins=builtinsNs
 above:X.s₀.heap.objs.size<=X.env.locals
 inj:∀ x y c,X.env.cells.lookup x=some c->X.env.cells.lookup y=some c->x=y
 has:∀ x,(X.env.kindOf x=some .cell∨X.env.kindOf x=some .free)->∃ c,X.env.cells.lookup x=some c
 cab:∀ x c,X.fn x=true->X.env.cells.lookup x=some c->X.s₀.heap.objs.size<=c
 hd:X.calm=true->X.A.handled=none
 frames:X.A.frames=some X.stack
 stk:X.stack=X.outer∨(X.stack=X.env::X.outer/\X.env.frame=some X.env.locals)
 exf:∀ b∈X.ex,b≠X.env.locals/\∀ x c,X.env.cells.lookup x=some c->c≠b
 bs:∀ b o,X.base.get? b=some o->X.s₀.heap.get? b=some o/\X.H₀ b=none
 bsz:X.base.objs.size<=X.s₀.heap.objs.size
 noex:∀ b o,X.base.get? b=some o->b ∉ X.ex
 exfs:∀ b∈X.ex,b ∉ X.fs
 funs:X.s₀.heap.FunFrames X.base X.outer
 frf:∀ b∈X.fs,X.H₀ b=none
structure Inv (X:Cx) (pins:List (Addr × Obj)) (σ:List (Option V)) (H:Hp) (s:Shared):Prop where
 ok:X.Ok
 os:s.os=X.s₀.os
 bare:AllBare s.gens
 base:Un X.fs X.ex X.H₀ H X.s₀.heap s.heap
 loc:∃ m,s.heap.Ns X.env.locals m/\∀ (i:Nat) (x:Str) (v:V),X.N[i]?=some x->σ[i]?=some (some v)->Vis X.env.scope x->∃ u,RelV v u/\Look X.env s.heap m x u
 cell:∀ x c,X.env.cells.lookup x=some c->∃ v,s.heap.IsCell c v
 free:H X.env.locals=none
 freeC:∀ x c,X.env.cells.lookup x=some c->H c=none
 pin:∀ p∈X.pn++pins,s.heap.get? p.1=some p.2/\H p.1=none/\p.1≠X.env.locals/\p.1 ∉ X.fs/\∀ v,p.2.data≠.cell v
 hok:HOk X.prog X.w H s.heap
 len:σ.length=X.N.length
section
variable {X:Cx}{pins:List (Addr × Obj)}{σ:List (Option V)}{H H':Hp}{s:Shared}{h':Heap}
theorem Cx.Ok.nofr (ok:X.Ok) {b:Addr}{o:Obj} (e:X.base.get? b=some o):b ∉ X.fs:=fun hb=>by
 have:=(ok.funs.mem hb).1
 rw[e] at this;cases this
theorem Inv.bs (I:Inv X pins σ H s):∀ b o,X.base.get? b=some o->s.heap.get? b=some o/\H b=none:=fun b o e=>
 ⟨I.base.keep b o (I.ok.bs b o e).1 (I.ok.bs b o e).2 (I.ok.nofr e) (I.ok.noex b o e),I.base.free b o (I.ok.bs b o e).1 (I.ok.bs b o e).2 (I.ok.noex b o e)⟩
theorem Inv.bk (I:Inv X pins σ H s):∀ b o,X.base.get? b=some o->s.heap.get? b=some o:=fun b o e=>(I.bs b o e).1
theorem Inv.mod (I:Inv X pins σ H s):Mod X.K X.mg X.base:=I.ok.mod
theorem Inv.kIn (I:Inv X pins σ H s):X.K.In s.heap:=I.ok.mod.kin.keeps I.bk
theorem Inv.lt (I:Inv X pins σ H s):X.env.locals<s.heap.objs.size:=let ⟨_,hn,_⟩:=I.loc;hn.lt
theorem Inv.sz (I:Inv X pins σ H s):X.s₀.heap.objs.size<=s.heap.objs.size:=Ybm I.ok.above (Ybv I.lt)
theorem Inv.nofs (I:Inv X pins σ H s) {a:Addr} (h:s.heap.objs.size<=a):a ∉ X.fs:=fun hb=>by
 obtain⟨_,o,ho,_⟩:=I.ok.funs.mem hb;exact absurd (Yaw (Yar ho) (Ybm I.sz h)) (Ybl _)
theorem Inv.cne (I:Inv X pins σ H s):∀ x c,X.env.cells.lookup x=some c->c≠X.env.locals:=fun x c e z=>by
 obtain⟨v,o,ho,hd⟩:=I.cell x c e;obtain⟨m,⟨o',es,ep,ho',hd',_⟩,_⟩:=I.loc;rw[z,ho'] at ho;cases ho;rw[hd'] at hd;cases hd
theorem Inv.funs (I:Inv X pins σ H s):s.heap.FunFrames X.base X.outer:=by
 have all:∀ (l:List Env),(∀ b∈frs l,b∈X.fs)->X.s₀.heap.FunFrames X.base l->s.heap.FunFrames X.base l:=by
  intro l
  induction l with
  | nil=>intro _ _;trivial
  | cons env r ih=>
   intro hs hl;obtain⟨hk,⟨L,o,hf,hn,ho,hd⟩,hr⟩:=hl;have hL:L∈X.fs:=hs L (by unfold frs;rw[YbN,hf];exact Yay);obtain⟨sl,e⟩:=I.base.slot L o ho (I.ok.frf L hL) hL fun z=>I.ok.exfs L z hL;exact⟨hk,⟨L,_,hf,hn,e,hd⟩,ih (fun b hb=>hs b (by unfold frs;rw[YbN,hf];exact Yas _ hb)) hr⟩
 exact all X.outer (fun _ hb=>hb) I.ok.funs
theorem Inv.stack (I:Inv X pins σ H s):s.heap.FunFrames X.base X.stack:=by
 rcases I.ok.stk with e | ⟨e,hf⟩
 ·rw[e];exact I.funs
 ·rw[e];obtain⟨m,hn,_⟩:=I.loc;refine .cons (by rw[I.ok.kind];decide) hf hn ?_ I.funs;exact Heap.get?_none_of_le (Ybm I.ok.bsz I.ok.above)
theorem Inv.stkSub (I:Inv X pins σ H s):∀ b∈frs X.stack,b∈X.env.locals::X.fs:=fun b hb=>by
 rcases I.ok.stk with e | ⟨e,hf⟩
 ·rw[e] at hb;exact Yas _ hb
 ·rw[e] at hb;unfold frs at hb;rw[YbN,hf] at hb;exact hb
theorem Inv.stkFree (I:Inv X pins σ H s):∀ b∈frs X.stack,H b=none:=fun b hb=>by
 rcases YaD.mp (I.stkSub b hb) with e | hb
 ·rw[e];exact I.free
 ·obtain⟨_,o,ho,_⟩:=I.ok.funs.mem hb;exact I.base.free b o ho (I.ok.frf b hb) fun z=>I.ok.exfs b z hb
theorem Inv.step {g':Array GenState}{t':Nat}{d':Drawn}{ch:List Addr} (I:Inv X pins σ H s)
  (hch:∀ b∈ch,(b∈X.ex∨X.s₀.heap.objs.size<=b)/\b≠X.env.locals/\(∀ x c,X.env.cells.lookup x=some c->c≠b)/\∀ p∈X.pn++pins,p.1≠b)
  (keep:∀ b o,b≠X.env.locals->b ∉ X.fs->b ∉ ch->s.heap.get? b=some o->H b=none->h'.get? b=some o)
  (slot:∀ b o,b≠X.env.locals->b∈X.fs->b ∉ ch->s.heap.get? b=some o->H b=none->∃ sl,h'.get? b=some { o with slots:=sl }) (free:∀ b o,b ∉ ch->s.heap.get? b=some o->H b=none->H' b=none)
  (there:∀ b o,b ∉ ch->s.heap.get? b=some o->∃ o',h'.get? b=some o')
  (tups:∀ b xs,H b=some (.tup xs)->H' b=some (.tup xs)) (frzs:∀ b o u,H b=some (.frz o u)->H' b=some (.frz o u)) (tbls:∀ b ps,H b=some (.tbl ps)->∃ more,H' b=some (.tbl (ps++more)))
  (ns:∀ m,s.heap.Ns X.env.locals m->h'.Ns X.env.locals m) (hok:HOk X.prog X.w H' h') (hg:AllBare g') :
  Inv X pins σ H' { s with heap:=h',gens:=g',drawn:=d',toks:=t' }:=by
 have neL:∀ b o,X.s₀.heap.get? b=some o->b≠X.env.locals:=fun b o e=>YaP (Yaw (Yar e) I.ok.above);have neC:∀ b o,X.s₀.heap.get? b=some o->b ∉ X.ex->b ∉ ch:=fun b o e hx hb=>by
  rcases (hch b hb).1 with z | z
  ·exact hx z
  ·exact absurd (Yaw (Yar e) z) (Ybl _)
 have cellK:∀ x c,X.env.cells.lookup x=some c->∀ v,s.heap.IsCell c v->h'.IsCell c v:=fun x c e v ⟨o,ho,hd⟩=>by
  have nch:c ∉ ch:=fun z=>(hch c z).2.2.1 x c e rfl;by_cases hc:c∈X.fs
  ·obtain⟨sl,q⟩:=slot c o (I.cne x c e) hc nch ho (I.freeC x c e);exact⟨_,q,hd⟩
  ·exact⟨o,keep c o (I.cne x c e) hc nch ho (I.freeC x c e),hd⟩
 refine⟨I.ok,I.os,hg,⟨fun b o e n hb hx=>?_,fun b o e n hb hx=>?_,fun b o e n hx=>?_,fun b o e hx=>?_,fun b xs e=>tups b xs (I.base.tups b xs e),fun b o xs e=>frzs b o xs (I.base.frzs b o xs e),fun b ps e=>?_⟩,?_,fun x c e=>?_,?_,fun x c e=>?_,fun p hp=>?_,hok,I.len⟩
 ·exact keep b o (neL b o e) hb (neC b o e hx) (I.base.keep b o e n hb hx) (I.base.free b o e n hx)
 ·obtain⟨sl,e1⟩:=I.base.slot b o e n hb hx;obtain⟨sl',e2⟩:=slot b _ (neL b o e) hb (neC b o e hx) e1 (I.base.free b o e n hx);exact⟨sl',e2⟩
 ·obtain⟨o',e1⟩:=I.base.there b o e hx;exact free b o' (neC b o e hx) e1 (I.base.free b o e n hx)
 ·obtain⟨o',e1⟩:=I.base.there b o e hx;exact there b o' (neC b o e hx) e1
 ·obtain⟨m1,e1⟩:=I.base.tbls b ps e;obtain⟨m2,e2⟩:=tbls b _ e1;exact⟨m1++m2,by rw[e2,Array.append_assoc]⟩
 ·obtain⟨m,hn,hl⟩:=I.loc;refine⟨m,ns m hn,fun i x v e1 e2 e3=>?_⟩;obtain⟨u,r,l⟩:=hl i x v e1 e2 e3;refine⟨u,r,?_⟩;rcases l with l | ⟨k,c,e,z⟩
  ·exact .inl l
  ·exact .inr ⟨k,c,e,cellK x c e _ z⟩
 ·obtain⟨v,z⟩:=I.cell x c e;exact⟨v,cellK x c e v z⟩
 ·obtain⟨m,⟨o,_,_,ho,_⟩,_⟩:=I.loc;exact free _ o (fun z=>(hch _ z).2.1 rfl) ho I.free
 ·obtain⟨v,o,ho,hd⟩:=I.cell x c e;exact free c o (fun z=>(hch c z).2.2.1 x c e rfl) ho (I.freeC x c e)
 ·obtain⟨e,n,ne,nf,d⟩:=I.pin p hp;have nch:p.1 ∉ ch:=fun z=>(hch p.1 z).2.2.2 p hp rfl;exact⟨keep p.1 p.2 ne nf nch e n,free p.1 p.2 nch e n,ne,nf,d⟩
theorem Inv.un {t':Nat} (I:Inv X pins σ H s) (u:Un X.fs [] H H' s.heap h') (hok:HOk X.prog X.w H' h'):Inv X pins σ H' { s with heap:=h',toks:=t' }:=by
 obtain⟨m,⟨o,es,ep,ho,r⟩,_⟩:=id I.loc;obtain⟨sl,hL⟩:=u.any ho I.free (by simp);exact I.step (g':=s.gens) (d':=s.drawn) (ch:=[]) (fun _ z=>nomatch z) (fun b o _ hb _ e n=>u.keep b o e n hb (by simp)) (fun b o _ hb _ e n=>u.slot b o e n hb (by simp)) (fun b o _ e n=>u.free b o e n (by simp)) (fun b o _ e=>u.there b o e (by simp)) u.tups u.frzs u.tbls (fun m' hm=>by
  obtain⟨o',es',ep',ho',r'⟩:=hm;rw[ho] at ho';cases ho';exact⟨_,es',ep',hL,r'⟩) hok I.bare
theorem Inv.call {g':Array GenState}{t':Nat}{d':Drawn}{ch:List Addr} (I:Inv X pins σ H s) (u:Un (frs X.stack) ch H H' s.heap h') (hok:HOk X.prog X.w H' h') (hg:AllBare g')
  (hch:∀ b∈ch,(b∈X.ex∨X.s₀.heap.objs.size<=b)/\b≠X.env.locals/\(∀ x c,X.env.cells.lookup x=some c->c≠b)/\∀ p∈X.pn++pins,p.1≠b) :
  Inv X pins σ H' { s with heap:=h',gens:=g',drawn:=d',toks:=t' }:=by
 obtain⟨m,⟨o,es,ep,ho,r⟩,_⟩:=id I.loc;obtain⟨sl,hL⟩:=u.any ho I.free fun z=>(hch _ z).2.1 rfl;exact I.step (ch:=ch) hch (fun b o hL hb hc e n=>u.keep b o e n (fun z=>(YaD.mp (I.stkSub b z)).elim hL hb) hc) (fun b o _ _ hc e n=>u.any e n hc) (fun b o hc e n=>u.free b o e n hc) (fun b o hc e=>u.there b o e hc) u.tups u.frzs u.tbls (fun m' hm=>by
  obtain⟨o',es',ep',ho',r'⟩:=hm;rw[ho] at ho';cases ho';exact⟨_,es',ep',hL,r'⟩) hok hg
theorem Inv.turned {t':Nat}{it:Addr} (I:Inv X pins σ H s) (k:∀ b o,b≠it->s.heap.get? b=some o->h'.get? b=some o) (hn:H it=none) (hL:it≠X.env.locals)
  (h1:it∈X.ex∨X.s₀.heap.objs.size<=it) (h2:∀ x c,X.env.cells.lookup x=some c->c≠it) (h3:∀ p∈X.pn++pins,p.1≠it):Inv X pins σ H { s with heap:=h',toks:=t' }:=by
 have nit:∀ b u,H b=some u->b≠it:=fun b u e z=>by rw[z,hn] at e;cases e
 refine I.step (g':=s.gens) (d':=s.drawn) (ch:=[it]) (fun b hb=>?_) (fun b o _ _ hc e _=>k b o (fun z=>hc (by simp[z])) e) (fun b o _ _ hc e _=>⟨o.slots,k b o (fun z=>hc (by simp[z])) e⟩) (fun _ _ _ _ n=>n)
  (fun b o hc e=>⟨o,k b o (fun z=>hc (by simp[z])) e⟩) (fun _ _ e=>e) (fun _ _ _ e=>e) (fun b ps e=>⟨#[],by rw[e];simp⟩) (fun m hm=>?_) (fun b u e=>?_) I.bare
 ·have e:b=it:=by simpa using hb
  subst e;exact⟨h1,hL,h2,h3⟩
 ·obtain⟨o,es,ep,ho,r⟩:=hm;exact⟨o,es,ep,k _ o (Ybn hL) ho,r⟩
 ·refine (I.hok b u e).stay (fun c v hc q=>k c v ?_ q) (fun _ q=>q) fun _ _ q=>q;rcases hc with z | z
  ·rw[z];exact nit b u e
  ·exact nit c _ z
theorem Inv.tok (I:Inv X pins σ H s) (t:Nat):Inv X pins σ H { s with toks:=t }:=I.un (h':=s.heap) (t':=t) Un.refl I.hok
theorem Inv.kept {t':Nat} (I:Inv X pins σ H s) (k:∀ b u,s.heap.get? b=some u->h'.get? b=some u):Inv X pins σ H { s with heap:=h',toks:=t' }:=I.un (Un.kept k) (I.hok.kept k)
theorem Inv.laid {a:Addr}{o:HO}{t':Nat} (I:Inv X pins σ H s) (k:∀ b u,s.heap.get? b=some u->h'.get? b=some u) (hp:s.heap.objs.size<=a) (new:ObjOk X.prog X.w (upd H a o) h' a o) :
  Inv X pins σ (upd H a o) { s with heap:=h',toks:=t' }:=I.un (Un.laid k hp (I.hok.fresh hp)) (I.hok.laid k hp new)
theorem Inv.write {x e:Addr}{o:HO}{t':Nat} (I:Inv X pins σ H s) (mu:Mut (H x)) (he:e=x∨H e=some (.own x)) (k:∀ b u,b≠e->s.heap.get? b=some u->h'.get? b=some u) (heo:∃ u,h'.get? e=some u)
  (new:ObjOk X.prog X.w (upd H x o) h' x o):Inv X pins σ (upd H x o) { s with heap:=h',toks:=t' }:=I.un (Un.write mu he k heo) (I.hok.write mu he k heo new)
theorem Inv.weak {σ':List (Option V)} (I:Inv X pins σ H s) (hl:σ'.length=σ.length) (w:∀ (i:Nat) v,σ'[i]?=some (some v)->σ[i]?=some (some v)):Inv X pins σ' H s :=
 ⟨I.ok,I.os,I.bare,I.base,let ⟨m,hn,hl'⟩:=I.loc;⟨m,hn,fun i x v e1 e2 e3=>hl' i x v e1 (w i v e2) e3⟩,I.cell,I.free,I.freeC,I.pin,I.hok,hl.trans I.len⟩
theorem Inv.pins_of {pins':List (Addr × Obj)} (I:Inv X pins σ H s) (h:∀ p∈pins',s.heap.get? p.1=some p.2/\H p.1=none/\p.1≠X.env.locals/\p.1 ∉ X.fs/\∀ v,p.2.data≠.cell v):Inv X pins' σ H s :=
 ⟨I.ok,I.os,I.bare,I.base,I.loc,I.cell,I.free,I.freeC,fun p hp=>(Yah.mp hp).elim (fun z=>I.pin p (Ya1 _ z)) (h p),I.hok,I.len⟩
theorem Zha {N:List Str} (hN:N.Nodup) {i j:Nat}{x:Str} (a:N[i]?=some x) (b:N[j]?=some x):i=j:=by
 obtain⟨h1,e1⟩:=Yab.mp a;obtain⟨h2,e2⟩:=Yab.mp b;exact (YfD hN).mp (e1.trans e2.symm)
theorem Zdp {M:Model}{A:Around}{E:Value->Shared->Prop}{i:Nat}{x:Str}{v:V}{u:Value}{Q:Unit->Shared->Prop} (I:Inv X pins σ H s) (hN:X.N.Nodup) (hi:X.N[i]?=some x) (hx:Loc X.env.scope x) (r:RelV v u)
  (h:∀ s',Inv X pins (σ.set i (some v)) H s'->(∃ a,YdC a s.heap s'.heap/\(a=X.env.locals∨X.env.cells.lookup x=some a))->Q () s') (hf:X.fn x=true∨X.env.scope.names.lookup x=some .local:=by first | left;rfl | right;rfl | assumption):wpAny M A (storeName X.env x u) Q E s:=by
 obtain⟨m,hn,hl⟩:=id I.loc;have hcls:(X.env.scope.kind == .class || (X.env.scope.kind == .module && X.env.locals != X.env.globals))=false:=by rw[I.ok.kind];rfl
 have hiσ:i<σ.length:=by rw[I.len];exact (Yab.mp hi).1
 have cne:=I.cne;have tracked:∀ {a:Addr}{h':Heap},(∃ o,s.heap.get? a=some o/\H a=none)->YdC a s.heap h'->HOk X.prog X.w H h':=fun {a h'} ha hs b ob e=>by
  obtain⟨_,_,hfree⟩:=ha;refine (I.hok b ob e).stay (fun c w' hc q=>(hs.2 c ?_).trans q) (fun _ q=>q) fun _ _ q=>q;rintro rfl;rcases hc with rfl | hc
  ·rw[hfree] at e;cases e
  ·rw[hfree] at hc;cases hc
 rcases hx with hk | hk
 ·refine wpAny_storeName_local hk hn (fun h' hn' hs=>?_) hcls;obtain⟨oL,_,_,hoL,_⟩:=id hn;refine h _ ⟨I.ok,I.os,I.bare,⟨fun b o e n hb hx=>?_,fun b o e n hb hx=>?_,I.base.free,fun b o e hx=>?_,I.base.tups,I.base.frzs,I.base.tbls⟩,⟨_,hn',fun j y v' e1 e2 e3=>?_⟩,fun y c e=>?_,I.free,I.freeC,fun p hp=>?_,tracked ⟨oL,hoL,I.free⟩ hs,by simpa using I.len⟩ ⟨_,hs,.inl rfl⟩
  ·exact (hs.2 b (YaP (Yaw (Yar e) I.ok.above))).trans (I.base.keep b o e n hb hx)
  ·obtain⟨sl,e1⟩:=I.base.slot b o e n hb hx;exact⟨sl,(hs.2 b (YaP (Yaw (Yar e) I.ok.above))).trans e1⟩
  ·obtain⟨o',e1⟩:=I.base.there b o e hx;exact⟨o',(hs.2 b (YaP (Yaw (Yar e) I.ok.above))).trans e1⟩
  ·by_cases hj:j=i
   ·subst hj;rw[hi] at e1;cases e1;rw[YbI hiσ] at e2;cases e2;exact⟨u,r,.inl ⟨hk,by simp⟩⟩
   ·rw[YaO (Ybn hj)] at e2;obtain⟨u',r',q⟩:=hl j y v' e1 e2 e3;refine⟨u',r',?_⟩;rcases q with ⟨k,e⟩ | ⟨k,c,e,z⟩
    ·refine .inl ⟨k,?_⟩;have:y≠x:=fun e=>hj (Zha hN e1 (e ▸ hi));simp[this,e]
    ·exact .inr ⟨k,c,e,z.sameBut hs (cne y c e)⟩
  ·obtain⟨w',z⟩:=I.cell y c e;exact⟨w',z.sameBut hs (cne y c e)⟩
  ·obtain⟨e,n,ne,nf,d⟩:=I.pin p hp;exact⟨(hs.2 p.1 ne).trans e,n,ne,nf,d⟩
 ·have hfn:X.fn x=true:=by
   rcases hf with z | z
   ·exact z
   ·rw[z] at hk;cases hk
  obtain⟨c,hc⟩:=I.ok.has x (.inl hk);obtain⟨w',z⟩:=I.cell x c hc;refine wpAny_storeName_cell I.ok.kind hk hc z (fun h' hc' hs=>?_);obtain⟨oc,hoc,hocd⟩:=id z;refine h { s with heap:=h' } ⟨I.ok,I.os,I.bare,⟨fun b o e n hb hx=>?_,fun b o e n hb hx=>?_,I.base.free,fun b o e hx=>?_,I.base.tups,I.base.frzs,I.base.tbls⟩,⟨m,hn.sameBut hs (Ybn (cne x c hc)),fun j y v' e1 e2 e3=>?_⟩,fun y c' e=>?_,I.free,I.freeC,fun p hp=>?_,tracked ⟨oc,hoc,I.freeC x c hc⟩ hs,by simpa using I.len⟩ ⟨c,hs,.inr hc⟩
  ·exact (hs.2 b (YaP (Yaw (Yar e) (I.ok.cab x c hfn hc)))).trans (I.base.keep b o e n hb hx)
  ·obtain⟨sl,e1⟩:=I.base.slot b o e n hb hx;exact⟨sl,(hs.2 b (YaP (Yaw (Yar e) (I.ok.cab x c hfn hc)))).trans e1⟩
  ·obtain⟨o',e1⟩:=I.base.there b o e hx;exact⟨o',(hs.2 b (YaP (Yaw (Yar e) (I.ok.cab x c hfn hc)))).trans e1⟩
  ·by_cases hj:j=i
   ·subst hj;rw[hi] at e1;cases e1;rw[YbI hiσ] at e2;cases e2;exact⟨u,r,.inr ⟨.inl hk,c,hc,hc'⟩⟩
   ·rw[YaO (Ybn hj)] at e2;obtain⟨u',r',q⟩:=hl j y v' e1 e2 e3;refine⟨u',r',?_⟩;rcases q with q | ⟨k,c',e,z'⟩
    ·exact .inl q
    ·refine .inr ⟨k,c',e,z'.sameBut hs ?_⟩;rintro rfl;exact hj (Zha hN e1 (I.ok.inj _ _ _ e hc ▸ hi))
  ·by_cases hcc:c'=c
   ·subst hcc;exact⟨_,hc'⟩
   ·obtain⟨w2,z2⟩:=I.cell y c' e;exact⟨w2,z2.sameBut hs hcc⟩
  ·obtain⟨e,n,ne,nf,d⟩:=I.pin p hp;refine⟨(hs.2 p.1 ?_).trans e,n,ne,nf,d⟩;intro q;rw[q,hoc] at e;have q':oc=p.2:=YaB e;exact d w' (by rw[<- q'];exact hocd)
theorem Zez {M:Model}{A:Around}{E:Value->Shared->Prop}{i:Nat}{x:Str}{v:V}{u:Value}{Q:Unit->Shared->Prop} (I:Inv X pins σ H s) (hN:X.N.Nodup) (hi:X.N[i]?=some x) (hx:Loc X.env.scope x) (r:RelV v u)
  (h:∀ s',Inv X pins (σ.set i (some v)) H s'->Q () s') (hf:X.fn x=true∨X.env.scope.names.lookup x=some .local:=by first | left;rfl | right;rfl | assumption):wpAny M A (storeName X.env x u) Q E s :=
 Zdp I hN hi hx r (fun s' I' _=>h s' I') hf
theorem Inv.call' {s':Shared}{ch:List Addr} (I:Inv X pins σ H s) (ho:s'.os=s.os) (u:Un (frs X.stack) ch H H' s.heap s'.heap) (hok:HOk X.prog X.w H' s'.heap) (hg:AllBare s'.gens)
  (hch:∀ b∈ch,(b∈X.ex∨X.s₀.heap.objs.size<=b)/\b≠X.env.locals/\(∀ x c,X.env.cells.lookup x=some c->c≠b)/\∀ p∈X.pn++pins,p.1≠b):Inv X pins σ H' s':=by
 obtain⟨h',g',d',t',o'⟩:=s';have e:o'=s.os:=ho;subst e;exact I.call (g':=g') (t':=t') (d':=d') u hok hg hch
end
abbrev XK:=Value->Option Addr->Hp->Prop
abbrev St:=List (Option V)
abbrev VK:=V->Hp->Prop
abbrev TE:=St->Hp->VK->Prop
abbrev TT:=St->Hp->(Bool->Hp->Prop)->Prop
abbrev TA:=St->Hp->(List V->Hp->Prop)->Prop
structure Ends where
 nx:St->Hp->Prop
 rt:VK
 bk:St->Hp->Prop:=fun _ _=>False
 ct:St->Hp->Prop:=fun _ _=>False
abbrev TS:=Ends->St->Hp->Prop
def EP (X:Cx) (pins:List (Addr × Obj)) (σ:St) (Q:VK) (u:Value) (s':Shared):Prop:=∃ v H',Inv X pins σ H' s'/\RelV v u/\Q v H'
def TP (X:Cx) (pins:List (Addr × Obj)) (σ:St) (Q:Bool->Hp->Prop) (b:Bool) (s':Shared):Prop:=∃ H',Inv X pins σ H' s'/\Q b H'
def AP (X:Cx) (pins:List (Addr × Obj)) (σ:St) (Q:List V->Hp->Prop) (us:List Value) (s':Shared):Prop:=∃ vs H',Inv X pins σ H' s'/\Vals vs us/\Q vs H'
def SP (X:Cx) (pins:List (Addr × Obj)) (D:Ends) (f:Flow) (s':Shared):Prop :=
 match f with
 | .next=>∃ σ' H',Inv X pins σ' H' s'/\D.nx σ' H'
 | .brk=>∃ σ' H',Inv X pins σ' H' s'/\D.bk σ' H'
 | .cont=>∃ σ' H',Inv X pins σ' H' s'/\D.ct σ' H'
 | .ret u=>∃ v σ' H',Inv X pins σ' H' s'/\RelV v u/\D.rt v H'
def PE (X:Cx) (e:Expr) (t:TE):Prop :=
 ∀ (pins:List (Addr × Obj)) (s:Shared) (σ:St) (H:Hp) (Q:VK),Inv X pins σ H s->t σ H Q->wpAny (model X.prog X.w) X.A (eval e X.env) (EP X pins σ Q) X.xe s
def PT (X:Cx) (e:Expr) (t:TT):Prop :=
 ∀ (pins:List (Addr × Obj)) (s:Shared) (σ:St) (H:Hp) (Q:Bool->Hp->Prop),Inv X pins σ H s->t σ H Q->wpAny (model X.prog X.w) X.A (isTrue e X.env (eval e X.env)) (TP X pins σ Q) X.xe s
def PW (X:Cx) (e:Expr) (t:TT):Prop :=
 ∀ (whole:Sem Value) (pins:List (Addr × Obj)) (s:Shared) (σ:St) (H:Hp) (Q:Bool->Hp->Prop),Inv X pins σ H s->t σ H Q->wpAny (model X.prog X.w) X.A (isTrue e X.env whole) (TP X pins σ Q) X.xe s
theorem PW.pt {X:Cx}{e:Expr}{t:TT} (h:PW X e t):PT X e t:=h _
def PA (X:Cx) (es:List Expr) (t:TA):Prop :=
 ∀ (pos:Pos) (pins:List (Addr × Obj)) (s:Shared) (σ:St) (H:Hp) (Q:List V->Hp->Prop),Inv X pins σ H s->t σ H Q->wpAny (model X.prog X.w) X.A (spliced (backTo pos (starEach es X.env))) (AP X pins σ Q) X.xe s
def PS (X:Cx) (st:Stmt) (t:TS):Prop :=
 ∀ (pins:List (Addr × Obj)) (s:Shared) (σ:St) (H:Hp) (D:Ends),Inv X pins σ H s->t D σ H->wpAny (model X.prog X.w) X.A (exec st X.env) (SP X pins D) X.xe s
def PSs (X:Cx) (st:List Stmt) (t:TS):Prop :=
 ∀ (pins:List (Addr × Obj)) (s:Shared) (σ:St) (H:Hp) (D:Ends),Inv X pins σ H s->t D σ H->wpAny (model X.prog X.w) X.A (execs st X.env) (SP X pins D) X.xe s
theorem thn {α:Type}{t:Sem α}{Q Q':α->Shared->Prop}{M:Model}{A:Around}{E:Value->Shared->Prop}{s:Shared} (h:wpAny M A t Q E s) (hQ:∀ a s,Q a s->Q' a s):wpAny M A t Q' E s:=wpAny_mono h hQ fun _ _ x=>x
end L2
namespace L2
open PySem PySem.Spec PyProof.Rows
section
variable {X:Cx}
def tVar (i:Nat):TE:=fun σ H Q=>∃ v,σ[i]?=some (some v)/\Q v H
def tC (v:V):TE:=fun _ H Q=>Q v H
theorem ZlK {i:Nat}{x:Str}{pos:Pos} (hN:X.N[i]?=some x) (hv:Vis X.env.scope x) (hd:(x == ("__debug__":Str))=false:=by decide) (hcd:(x == ("__classdict__":Str))=false:=by decide):PE X (.Name x pos) (tVar i):=by
 intro pins s σ H Q I h;obtain⟨v,e,h⟩:=h;obtain⟨m,hn,hl⟩:=I.loc;obtain⟨u,r,l⟩:=hl i x v hN e hv;have fin:EP X pins σ Q u s:=⟨v,H,I,r,h⟩
 rcases l with ⟨hk,hm⟩ | ⟨hk,c,hc,hcell⟩
 ·exact wpAny_Name (wpAny_loadName_local I.ok.kind hk hn hm fin) hd
 ·rcases hk with hk | hk
  ·exact wpAny_Name (wpAny_loadName_cell I.ok.kind hk hc hcell fin) hd
  ·exact wpAny_Name (wpAny_loadName_free I.ok.kind hk hc hcell fin hcd) hd
theorem Zag {i j pos}:PE X (.Constant (.int i) j pos) (tC (.int i)):=fun _ _ _ H _ I h=>wpAny_Constant_int ⟨.int i,H,I.tok _,⟨_,rfl⟩,h⟩
theorem ZhP {b j pos}:PE X (.Constant (.bool b) j pos) (tC (.bl b)):=fun _ _ _ H _ I h=>Constant_bool ⟨.bl b,H,I,rfl,h⟩
theorem Zc2 {j pos}:PE X (.Constant .none j pos) (tC .non):=fun _ _ _ H _ I h=>Constant_none ⟨.non,H,I,rfl,h⟩
def Gl (X:Cx) (x:Str):Prop:=X.env.kindOf x=some .globalImplicit
theorem Zjw {E:Value->Shared->Prop}{pins:List (Addr × Obj)}{s:Shared}{σ:St}{H:Hp}{x:Str}{u:Value}{pos:Pos}{Q:Value->Shared->Prop} (I:Inv X pins σ H s) (hg:Gl X x) (hm:X.mg x=some u) (h:Q u s)
  (hd:(x == ("__debug__":Str))=false:=by decide):wpAny (model X.prog X.w) X.A (eval (.Name x pos) X.env) Q E s :=
 Yeu I.ok.kind hg (Calls.loadGlobal_global (by rw[I.ok.glob];exact I.mod.glob.keeps I.bk) hm h) hd
theorem Zei {E:Value->Shared->Prop}{pins:List (Addr × Obj)}{s:Shared}{σ:St}{H:Hp}{x:Str}{u:Value}{pos:Pos}{Q:Value->Shared->Prop} (I:Inv X pins σ H s) (hg:Gl X x) (hm:X.mg x=none) (hv:bootBuiltins x=some u) (h:Q u s)
  (hn:x≠"__name__":=by decide) (hd:(x == ("__debug__":Str))=false:=by decide):wpAny (model X.prog X.w) X.A (eval (.Name x pos) X.env) Q E s:=by
 obtain⟨mb,h1,h2⟩:=I.mod.blt;exact Yeu I.ok.kind hg (Calls.loadGlobal_builtin (by rw[I.ok.glob];exact I.mod.glob.keeps I.bk) hm (by rw[I.ok.blt];exact h1.keeps I.bk) ((h2 x hn).trans hv) h) hd
theorem ZiS {x:Str}{v:V}{u:Value}{pos:Pos} (hg:Gl X x) (hm:X.mg x=some u) (r:RelV v u) (hd:(x == ("__debug__":Str))=false:=by decide):PE X (.Name x pos) (tC v) :=
 fun _ _ _ H _ I h=>Zjw I hg hm ⟨v,H,I,r,h⟩ hd
theorem Zmv {x:Str}{v:V}{u:Value}{pos:Pos} (hg:Gl X x) (hm:X.mg x=none) (hv:bootBuiltins x=some u) (r:RelV v u) (hn:x≠"__name__":=by decide) (hd:(x == ("__debug__":Str))=false:=by decide):PE X (.Name x pos) (tC v) :=
 fun _ _ _ H _ I h=>Zei I hg hm hv ⟨v,H,I,r,h⟩ hn hd
variable {a b:Expr}{ta tb:TE}{pos:Pos}
def PC (X:Cx) (op:CmpOp) (a b:Expr) (t:TE):Prop :=
 ∀ (pins:List (Addr × Obj)) (s:Shared) (σ:St) (H:Hp) (Q:VK),Inv X pins σ H s->t σ H Q ->
  wpAny (model X.prog X.w) X.A (eval a X.env) (fun v s₁=>wpAny (model X.prog X.w) X.A (eval b X.env) (fun u s₂=>wpAny (model X.prog X.w) X.A (compareOp op v u) (EP X pins σ Q) X.xe s₂) X.xe s₁) X.xe s
theorem Zlc (b:Expr) {op:CmpOp} (h:op≠.In) (h2:op≠.NotIn):behindInMarks op b=false:=by
 have e1:(op == CmpOp.In)=false:=by cases op <;> first | rfl | exact absurd rfl h
 have e2:(op == CmpOp.NotIn)=false:=by cases op <;> first | rfl | exact absurd rfl h2
 cases b <;> simp[behindInMarks,e1,e2]
def tIsN (ta:TE):TE:=fun σ H Q=>ta σ H fun x H1=>Q (.bl (decide (x=.non))) H1
theorem RelV.none_iff {x:V}{v:Value} (r:RelV x v):(v == Ycu)=decide (x=.non):=by
 cases x with
 | non=>cases r;rfl
 | bl _=>cases r;rfl
 | int _=>obtain⟨t,rfl⟩:=r;rfl
 | str _=>obtain⟨t,rfl⟩:=r;rfl
 | byt _=>obtain⟨t,rfl⟩:=r;rfl
 | flt _=>obtain⟨t,rfl⟩:=r;rfl
 | ref _=>cases r;rfl
 | ty _=>cases r;rfl
theorem Znq {j pos'} (ha:PE X a ta):PC X .Is a (.Constant .none j pos') (tIsN ta):=by
 intro pins s σ H Q I h;refine thn (ha pins s σ H _ I h) fun v s1 ⟨x,H1,I1,r1,q1⟩=>?_;exact Constant_none (is_none_gen ⟨.bl _,H1,I1,by rw[r1.none_iff];rfl,q1⟩)
def tB (t:TE):TT:=fun σ H Q=>t σ H fun x H1=>∃ c,x=.bl c/\Q c H1
theorem Znk {op:CmpOp}{t:TE} (h:PC X op a b t) (h1:behindInMarks op b=false:=by first | exact Zlc _ (by decide) (by decide) | rfl):PT X (.Compare a [op] [b] pos) (tB t):=by
 intro pins s σ H Q I hw;refine wpAny_isTrue_Compare1 (thn (h pins s σ H _ I hw) fun v s1 h1=>thn h1 fun u s2 h2=>thn h2 fun c s3 ⟨x,H1,I1,r1,q1⟩=>?_) h1;obtain⟨d,rfl,q⟩:=q1;cases r1;exact wpAny_truthy_bool ⟨H1,I1,q⟩
theorem ZdA {e:Expr}{t:TE} (h:PE X e t) (he:∀ whole,isTrue e X.env whole=(do let v <- whole;standAt e.pos;holding [v] (truthy v)):=by intro _;rfl):PT X e (tB t):=by
 intro pins s σ H Q I hw;refine isTrue_plain (thn (h pins s σ H _ I hw) fun v s1 ⟨x,H1,I1,r1,q1⟩=>?_) (he _);obtain⟨d,rfl,q⟩:=q1;cases r1;exact wpAny_truthy_bool ⟨H1,I1,q⟩
variable {tA tB':TT}{rest:List Expr}
def tOr (t u:TT):TT:=fun σ H Q=>t σ H fun c H1=>if c=true then Q true H1 else u σ H1 Q
def tNot (t:TT):TT:=fun σ H Q=>t σ H fun c H1=>Q (!c) H1
theorem Zb2 (ha:PT X a tA):PW X (.BoolOp .Or [a] pos) tA:=by
 intro wh pins s σ H Q I h;refine isTrue_or (thn (ha pins s σ H Q I h) fun c s1 e=>?_)
 cases c with
 | false=>exact isTrue_or_nil e
 | true=>exact e
theorem ZdP (ha:PT X a tA) (hb:PW X (.BoolOp .Or (b::rest) pos) tB'):PW X (.BoolOp .Or (a::b::rest) pos) (tOr tA tB'):=by
 intro wh pins s σ H Q I h;refine isTrue_or (thn (ha pins s σ H _ I h) fun c s1 ⟨H1,I1,q1⟩=>?_)
 cases c with
 | true=>exact⟨H1,I1,q1⟩
 | false=>exact hb wh pins s1 σ H1 Q I1 q1
theorem ZbB (ha:PT X a tA):PT X (.UnaryOp .Not a pos) (tNot tA):=by
 intro pins s σ H Q I h;exact isTrue_not (ha pins s σ H (fun c H1=>Q (!c) H1) I h)
def Zob (ta tb:TE):TE:=fun σ H Q=>ta σ H fun x H1=>∃ c,x=.bl c/\if c=true then tb σ H1 Q else Q (.bl false) H1
def Zoa (ta:TE):TE:=fun σ H Q=>ta σ H fun x H1=>∃ c,x=.bl c/\Q (.bl (!c)) H1
theorem Zfr {op}{t:TE} (h:PE X a t):PE X (.BoolOp op [a] pos) t:=fun pins s σ H Q I hw=>BoolOp_one (h pins s σ H Q I hw)
theorem Zfs (ha:PE X a ta) (hb:PE X (.BoolOp .And (b::rest) pos) tb):PE X (.BoolOp .And (a::b::rest) pos) (Zob ta tb):=by
 intro pins s σ H Q I h;refine BoolOp_and (thn (ha pins s σ H _ I h) fun v s1 ⟨x,H1,I1,r1,q1⟩=>?_);obtain⟨c,rfl,q1⟩:=q1;cases r1;refine wpAny_truthy_bool ?_
 cases c with
 | true=>exact hb pins s1 σ H1 Q I1 q1
 | false=>exact⟨.bl false,H1,I1,rfl,q1⟩
theorem Zno (ha:PE X a ta):PE X (.UnaryOp .Not a pos) (Zoa ta):=by
 intro pins s σ H Q I h;refine UnaryOp_ (thn (ha pins s σ H _ I h) fun v s1 ⟨x,H1,I1,r1,q1⟩=>?_);obtain⟨c,rfl,q1⟩:=q1;cases r1;exact not_of (wpAny_truthy_bool ⟨.bl (!c),H1,I1,rfl,q1⟩)
def tIf (t:TT) (ta tb:TE):TE:=fun σ H Q=>t σ H fun c H1=>if c=true then ta σ H1 Q else tb σ H1 Q
theorem Zg6 {c:Expr} (hc:PT X c tA) (ha:PE X a ta) (hb:PE X b tb):PE X (.IfExp c a b pos) (tIf tA ta tb):=by
 intro pins s σ H Q I h;refine wpAny_IfExp (thn (hc pins s σ H _ I h) fun d s1 ⟨H1,I1,q1⟩=>?_)
 cases d with
 | true=>exact ha pins s1 σ H1 Q I1 q1
 | false=>exact hb pins s1 σ H1 Q I1 q1
end
end L2
namespace L2
open PySem PySem.Spec PyProof.Rows
def SqL (K:Yad) (H:Hp) (a:Addr) (xs:List V):Prop :=
 Rd H a (.lst xs) ∨
  ∃ (o:Obj) (its:Array Value) (n:Nat),K.lookup a=some o/\o.cls=.type "list"/\o.dict=none/\o.data=.seq its n/\its.size<=sizeLine/\Vals xs its.toList
def SqT (K:Yad) (H:Hp) (a:Addr) (xs:List V):Prop :=
 Rd H a (.tup xs) ∨
  ∃ (o:Obj) (its:Array Value) (n:Nat),K.lookup a=some o/\o.cls=.type "tuple"/\o.data=.seq its n/\its.size<=sizeLine/\Vals xs its.toList
noncomputable def absV:Value->Option V
 | .none=>some .non
 | .bool b=>some (.bl b)
 | .int i _=>some (.int i)
 | .str x _=>some (.str x)
 | .bytes b _=>some (.byt b)
 | .float b _=>some (.flt b)
 | .ref a=>some (.ref a)
 | .type n=>some (.ty n)
 | _=>none
theorem RelV.abs {x:V}{u:Value} (r:RelV x u):absV u=some x:=by
 cases x with
 | non=>cases r;rfl
 | bl _=>cases r;rfl
 | int _=>obtain⟨t,rfl⟩:=r;rfl
 | str _=>obtain⟨t,rfl⟩:=r;rfl
 | byt _=>obtain⟨t,rfl⟩:=r;rfl
 | flt _=>obtain⟨t,rfl⟩:=r;rfl
 | ref _=>cases r;rfl
 | ty _=>cases r;rfl
theorem RelV.inj {x y:V}{u:Value} (r:RelV x u) (q:RelV y u):x=y:=YaB (r.abs.symm.trans q.abs)
theorem Vals.inj:∀ {xs ys:List V}{us:List Value},Vals xs us->Vals ys us->xs=ys
 | _,_,_,.nil,.nil=>rfl
 | _,_,_,.cons r t,.cons r' t'=>by rw[r.inj r',Vals.inj t t']
section
variable {X:Cx}{pins:List (Addr × Obj)}{σ:St}{H:Hp}{s:Shared}{a:Addr}{xs ys:List V}
theorem SqL.of {K:Yad} (h:H a=some (.lst xs)):SqL K H a xs:=.inl (.inl h)
theorem SqT.of {K:Yad} (h:H a=some (.tup xs)):SqT K H a xs:=.inl (.inl h)
theorem Inv.list (I:Inv X pins σ H s) (h:SqL X.K H a xs):∃ its:List Value,Vals xs its/\PlainL s.heap a its.toArray/\xs.length<=sizeLine:=by
 rcases h with h | ⟨o,its,n,hk,hc,hd,hs,hz,r⟩
 ·obtain⟨z,its,n,r,e⟩:=h.ok I.hok;exact⟨its,r,⟨_,n,e,rfl,rfl,rfl⟩,z⟩
 ·refine⟨its.toList,r,⟨o,n,I.kIn a o hk,hc,hd,by simpa using hs⟩,?_⟩;have e:=r.length;simp only[Ya7] at e;omega
theorem Inv.tuple (I:Inv X pins σ H s) (h:SqT X.K H a xs):∃ its:List Value,Vals xs its/\IsTup s.heap a its.toArray/\xs.length<=sizeLine:=by
 rcases h with h | ⟨o,its,n,hk,hc,hs,hz,r⟩
 ·obtain⟨z,its,r,p⟩:=h.ok I.hok;exact⟨its,r,p.tup,z⟩
 ·refine⟨its.toList,r,⟨o,I.kIn a o hk,hc,n,by simpa using hs⟩,?_⟩;have e:=r.length;simp only[Ya7] at e;omega
theorem Inv.list_inj (I:Inv X pins σ H s) (h:SqL X.K H a xs) (h':SqL X.K H a ys):xs=ys:=by
 obtain⟨its,r,⟨o,n,e,_,_,d⟩,_⟩:=I.list h;obtain⟨its',r',⟨o',n',e',_,_,d'⟩,_⟩:=I.list h';rw[e] at e';cases e';rw[d] at d';injection d' with d1 _;have:its=its':=by simpa using congrArg Array.toList d1
 subst this;exact r.inj r'
theorem Inv.tuple_inj (I:Inv X pins σ H s) (h:SqT X.K H a xs) (h':SqT X.K H a ys):xs=ys:=by
 obtain⟨its,r,⟨o,e,_,n,d⟩,_⟩:=I.tuple h;obtain⟨its',r',⟨o',e',_,n',d'⟩,_⟩:=I.tuple h';rw[e] at e';cases e';rw[d] at d';injection d' with d1 _;have:its=its':=by simpa using congrArg Array.toList d1
 subst this;exact r.inj r'
end
abbrev Cx.wish (X:Cx) (E:Value->Shared->Prop):Cx:={ X with xe:=E }
abbrev Cx.nox (X:Cx):Cx:=X.wish fun _ _=>False
theorem Cx.Ok.wish {X:Cx} (ok:X.Ok) (E:Value->Shared->Prop):(X.wish E).Ok :=
 ⟨ok.mod,ok.kind,ok.glob,ok.blt,ok.above,ok.inj,ok.has,ok.cab,ok.hd,ok.frames,ok.stk,ok.exf,ok.bs,ok.bsz,ok.noex,ok.exfs,ok.funs,ok.frf⟩
theorem Cx.Ok.unwish {X:Cx}{E:Value->Shared->Prop} (ok:(X.wish E).Ok):X.Ok :=
 ⟨ok.mod,ok.kind,ok.glob,ok.blt,ok.above,ok.inj,ok.has,ok.cab,ok.hd,ok.frames,ok.stk,ok.exf,ok.bs,ok.bsz,ok.noex,ok.exfs,ok.funs,ok.frf⟩
section
variable {X:Cx}{pins:List (Addr × Obj)}{σ:St}{H:Hp}{s:Shared}{E:Value->Shared->Prop}
theorem Inv.wish (I:Inv X pins σ H s) (E:Value->Shared->Prop):Inv (X.wish E) pins σ H s:=⟨I.ok.wish E,I.os,I.bare,I.base,I.loc,I.cell,I.free,I.freeC,I.pin,I.hok,I.len⟩
theorem Inv.unwish (I:Inv (X.wish E) pins σ H s):Inv X pins σ H s:=⟨I.ok.unwish,I.os,I.bare,I.base,I.loc,I.cell,I.free,I.freeC,I.pin,I.hok,I.len⟩
theorem SP.unwish {D:Ends}{f:Flow}{s':Shared} (h:SP (X.wish E) pins D f s'):SP X pins D f s':=by
 cases f with
 | next=>obtain⟨σ',H',I,q⟩:=h;exact⟨σ',H',I.unwish,q⟩
 | brk=>obtain⟨σ',H',I,q⟩:=h;exact⟨σ',H',I.unwish,q⟩
 | cont=>obtain⟨σ',H',I,q⟩:=h;exact⟨σ',H',I.unwish,q⟩
 | ret u=>obtain⟨v,σ',H',I,r,q⟩:=h;exact⟨v,σ',H',I.unwish,r,q⟩
theorem PSs.nox {st:List Stmt}{t:TS} (h:PSs X.nox st t):PSs X st t:=fun pins s σ H D I hw=>
 wpAny_mono (h pins s σ H D (I.wish _) hw) (fun _ _ q=>q.unwish) fun _ _ z=>YcE z
end
section
variable {X:Cx}{st:Stmt}{rest:List Stmt}{t u:TS}{e:Expr}{te:TE}{pos:Pos}
def Zm2:TS:=fun D σ H=>D.nx σ H
def tSeq (t u:TS):TS:=fun D σ H=>t { D with nx:=u D } σ H
theorem ZaH:PSs X [] Zm2:=fun _ _ σ H _ I h=>wpAny_execs_nil ⟨σ,H,I,h⟩
theorem Zaf (h1:PS X st t) (h2:PSs X rest u):PSs X (st::rest) (tSeq t u):=by
 intro pins s σ H D I h;refine wpAny_execs_cons (thn (h1 pins s σ H { D with nx:=u D } I h) fun f s1 q=>?_)
 cases f with
 | next=>
  obtain⟨σ',H',I',q⟩:=q;exact h2 pins s1 σ' H' D I' q
 | ret v=>exact q
 | brk=>exact q
 | cont=>exact q
theorem Zak (h1:PS X st t):PSs X [st] t:=by
 intro pins s σ H D I h;refine wpAny_execs_cons (thn (h1 pins s σ H D I h) fun f s1 q=>?_)
 cases f with
 | next=>exact wpAny_execs_nil q
 | ret v=>exact q
 | brk=>exact q
 | cont=>exact q
theorem Inv.quiet {pins:List (Addr × Obj)}{σ:St}{H:Hp}{s:Shared} (I:Inv X pins σ H s):interactive X.env=false:=by simp[interactive,I.ok.kind]
def Zm4 (te:TE):TS:=fun D σ H=>te σ H fun _ H1=>D.nx σ H1
theorem ZaD (he:PE X e te) (hs:swapsWith e none pos.line X.env=pure false:=by rfl):PS X (.Expr e pos) (Zm4 te):=by
 intro pins s σ H D I h;exact wpAny_Expr_any (thn (he pins s σ H _ I h) fun v s1 ⟨x,H1,I1,r1,q1⟩=>⟨σ,H1,I1,q1⟩) I.quiet hs
def tRet (te:TE):TS:=fun D σ H=>te σ H D.rt
theorem Zas (he:PE X e te):PS X (.Return (some e) pos) (tRet te):=by
 intro pins s σ H D I h;exact wpAny_Return_some (thn (he pins s σ H _ I h) fun v s1 ⟨x,H1,I1,r1,q1⟩=>⟨x,σ,H1,I1,r1,q1⟩)
def tIfS (c:TT) (t u:TS):TS:=fun D σ H=>c σ H fun b H1=>if b=true then t D σ H1 else u D σ H1
theorem Zbo {c:Expr}{a b:List Stmt}{tc:TT} (hc:PT X c tc) (ha:PSs X a t) (hb:PSs X b u):PS X (.If c a b pos) (tIfS tc t u):=by
 intro pins s σ H D I h;refine wpAny_If (thn (hc pins s σ H _ I h) fun d s1 ⟨H1,I1,q1⟩=>?_)
 cases d with
 | true=>exact ha pins s1 σ H1 D I1 q1
 | false=>exact hb pins s1 σ H1 D I1 q1
def Zm3:TS:=fun _ _ _=>False
theorem ZaK {sts:List Stmt}:PSs X sts Zm3:=fun _ _ _ _ _ _ h=>h.elim
end
abbrev TG:=V->St->Hp->(St->Hp->Prop)->Prop
abbrev TGs:=List V->St->Hp->(St->Hp->Prop)->Prop
def PG (X:Cx) (target:Expr) (t:TG):Prop :=
 ∀ (pins:List (Addr × Obj)) (s:Shared) (σ:St) (H:Hp) (v:V) (u:Value) (Q:St->Hp->Prop),Inv X pins σ H s->RelV v u->t v σ H Q ->
  wpAny (model X.prog X.w) X.A (assign target X.env u) (fun _ s'=>∃ σ' H',Inv X pins σ' H' s'/\Q σ' H') X.xe s
def PGs (X:Cx) (ts:List Expr) (t:TGs):Prop :=
 ∀ (pins:List (Addr × Obj)) (s:Shared) (σ:St) (H:Hp) (vs:List V) (us:List Value) (Q:St->Hp->Prop),Inv X pins σ H s->Vals vs us->t vs σ H Q ->
  wpAny (model X.prog X.w) X.A (assignInOrder ((assignEach ts X.env).map (·.2)) us) (fun _ s'=>∃ σ' H',Inv X pins σ' H' s'/\Q σ' H') X.xe s
abbrev TSet:=V->V->V->Hp->(Hp->Prop)->Prop
def PSet (X:Cx) (t:TSet):Prop :=
 ∀ (pins:List (Addr × Obj)) (s:Shared) (σ:St) (H:Hp) (o i v:V) (ov iv u:Value) (Q:Hp->Prop),Inv X pins σ H s->RelV o ov->RelV i iv->RelV v u->t o i v H Q ->
  wpAny (model X.prog X.w) X.A (setItem ov iv u) (fun _ s'=>∃ H',Inv X pins σ H' s'/\Q H') X.xe s
abbrev TIp:=V->V->Hp->VK->Prop
def PIp (X:Cx) (op:Operator) (t:TIp):Prop :=
 ∀ (pins:List (Addr × Obj)) (s:Shared) (σ:St) (H:Hp) (x y:V) (v u:Value) (Q:VK),Inv X pins σ H s->RelV x v->RelV y u->t x y H Q ->
  wpAny (model X.prog X.w) X.A (inplaceOp op v u) (EP X pins σ Q) X.xe s
section
variable {X:Cx}{pos:Pos}
def ZbE (i:Nat):TG:=fun v σ H Q=>Q (σ.set i (some v)) H
theorem Zah {i:Nat}{x:Str} (hN:X.N.Nodup) (hi:X.N[i]?=some x) (hx:Loc X.env.scope x) (hf:X.fn x=true∨X.env.scope.names.lookup x=some .local:=by first | left;rfl | right;rfl | assumption):PG X (.Name x pos) (ZbE i):=by
 intro pins s σ H v u Q I r h;exact wpAny_assign_Name (Zez I hN hi hx r (fun s' I'=>⟨_,H,I',h⟩) hf)
def gNil:TGs:=fun vs σ H Q=>vs=[]/\Q σ H
def ZdJ (t:TG) (u:TGs):TGs:=fun vs σ H Q=>∃ v r,vs=v::r/\t v σ H fun σ' H'=>u r σ' H' Q
theorem ZaC:PGs X [] gNil:=by
 intro pins s σ H vs us Q I r h;obtain⟨e,h⟩:=h;subst e;cases r;exact assignInOrder_nil ⟨σ,H,I,h⟩
theorem Zan {e:Expr}{es:List Expr}{t:TG}{u:TGs} (h1:PG X e t) (h2:PGs X es u)
  (hs:(assignEach (e::es) X.env).map (·.2)=assign e X.env::(assignEach es X.env).map (·.2):=by rfl):PGs X (e::es) (ZdJ t u):=by
 intro pins s σ H vs us Q I r h;obtain⟨v,vr,e1,h⟩:=h;subst e1
 cases r with
 | cons r rr=>
  rw[hs];refine assignInOrder_cons (thn (h1 pins s σ H _ _ _ I r h) fun _ s1 ⟨σ1,H1,I1,q1⟩=>?_);exact h2 pins s1 σ1 H1 _ _ Q I1 rr q1
def gTup (K:Yad) (n:Nat) (t:TGs):TG:=fun v σ H Q=>∃ a xs,v=.ref a/\SqT K H a xs/\xs.length=n/\t xs σ H Q
theorem Zbh {es:List Expr}{k:Nat}{t:TGs}{n:Nat} (hc:X.calm=true) (h:PGs X es t)
  (hn:(assignEach es X.env).length=n:=by rfl) (hst:(assignEach es X.env).findIdx? (·.1)=none:=by rfl):PG X (.Tuple es k pos) (gTup X.K n t):=by
 intro pins s σ H v u Q I r hw;obtain⟨a,xs,e1,hq,hl,hw⟩:=hw;subst e1;cases r;obtain⟨its,rv,ht,hz⟩:=I.tuple hq;refine assign_Tuple_tuple (I.ok.hd hc) ht (by simp[hn,<- hl,rv.length]) hst fun h' hx=>?_;have I1:Inv X pins σ H { s with heap:=h' }:=I.kept (t':=s.toks) fun b o e=>hx b o (YaP (Yar e)) e;exact h pins _ σ H xs _ Q I1 (by simpa using rv) hw
def gSub (to ti:TE) (t:TSet):TG:=fun v σ H Q=>to σ H fun o H1=>ti σ H1 fun i H2=>t o i v H2 fun H3=>Q σ H3
theorem Zed {o i:Expr}{to ti:TE}{t:TSet} (ho:PE X o to) (hi:PE X i ti) (hs:PSet X t)
  (ha:∀ v,assign (.Subscript o i pos) X.env v=(do
   let ov <- holding [v] (eval o X.env)
   let iv <- holding [v,ov] (eval i X.env)
   standAt pos
   holding [v,ov,iv] (setItem ov iv v)
   release [v,ov,iv] []):=by intro _;rfl):PG X (.Subscript o i pos) (gSub to ti t):=by
 intro pins s σ H v u Q I r h;rw[ha];refine wpAny_bind (wpAny_holding (thn (ho pins s σ H _ I h) fun ov s1 ⟨x,H1,I1,r1,q1⟩=>?_));refine wpAny_bind (wpAny_holding (thn (hi pins s1 σ H1 _ I1 q1) fun iv s2 ⟨y,H2,I2,r2,q2⟩=>?_));refine wpAny_bind (wpAny_standAt (wpAny_bind (wpAny_holding (thn (hs pins s2 σ H2 x y v ov iv u _ I2 r1 r2 r q2) fun _ s3 ⟨H3,I3,q3⟩=>?_))));exact wpAny_release ⟨σ,H3,I3,q3⟩
def tAsg (te:TE) (g:TG):TS:=fun D σ H=>te σ H fun x H1=>g x σ H1 D.nx
theorem ZbC {tg e:Expr}{te:TE}{g:TG} (he:PE X e te) (hg:PG X tg g) (hs:swapsWithSole [tg] e pos.line X.env=pure false:=by rfl) (hw:swappedStores [tg] e X.env=pure none:=by rfl)
  (h1:(assignEach [tg] X.env).map (·.2)=[assign tg X.env]:=by rfl):PS X (.Assign [tg] e pos) (tAsg te g):=by
 intro pins s σ H D I h;refine wpAny_Assign_stores (thn (he pins s σ H _ I h) fun v s1 ⟨x,H1,I1,r1,q1⟩=>?_) hs hw;rw[h1];exact thn (hg pins s1 σ H1 x v _ I1 r1 q1) fun _ s2 q=>q
theorem Zat {i:Nat}{x:Str}{e:Expr}{te:TE}{pos':Pos} (hN:X.N.Nodup) (hi:X.N[i]?=some x) (hx:Loc X.env.scope x) (he:PE X e te) (hs:swapsWith e (some (.Name x pos')) pos.line X.env=pure false:=by rfl) (hf:X.fn x=true∨X.env.scope.names.lookup x=some .local:=by first | left;rfl | right;rfl | assumption) :
  PS X (.Assign [.Name x pos'] e pos) (tAsg te (ZbE i)):=by
 intro pins s σ H D I h;refine wpAny_Assign_Name (thn (he pins s σ H _ I h) fun v s1 ⟨y,H1,I1,r1,q1⟩=>?_) hs;exact Zez I1 hN hi hx r1 (fun s2 I2=>⟨_,H1,I2,q1⟩) hf
def tAug (i:Nat) (te:TE) (ti:TIp):TS:=fun D σ H=>∃ x,σ[i]?=some (some x)/\te σ H fun y H1=>ti x y H1 fun z H2=>D.nx (σ.set i (some z)) H2
theorem ZlI {i:Nat}{x:Str}{e:Expr}{te:TE}{op:Operator}{ti:TIp}{pos':Pos} (hN:X.N.Nodup) (hi:X.N[i]?=some x) (hx:Loc X.env.scope x) (he:PE X e te) (ho:PIp X op ti) (hf:X.fn x=true∨X.env.scope.names.lookup x=some .local:=by first | left;rfl | right;rfl | assumption) :
  PS X (.AugAssign (.Name x pos') op e pos) (tAug i te ti):=by
 intro pins s σ H D I h;obtain⟨v,e1,h⟩:=h;obtain⟨m,hn,hl⟩:=I.loc;have vis:Vis X.env.scope x:=by rcases hx with k | k;exact .inl k;exact .inr (.inl k)
 obtain⟨u,r,l⟩:=hl i x v hi e1 vis;refine wpAny_AugAssign_Name ?_;have go:wpAny (model X.prog X.w) X.A (eval e X.env) (fun w s₂=>wpAny (model X.prog X.w) X.A (inplaceOp op u w) (fun r s₃=>wpAny (model X.prog X.w) X.A (storeName X.env x r) (fun _=>SP X pins D .next) X.xe s₃) X.xe s₂) X.xe s:=by
  refine thn (he pins s σ H _ I h) fun w s1 ⟨y,H1,I1,r1,q1⟩=>?_;refine thn (ho pins s1 σ H1 v y u w _ I1 r r1 q1) fun z s2 ⟨zv,H2,I2,r2,q2⟩=>?_;exact Zez I2 hN hi hx r2 (fun s3 I3=>⟨_,H2,I3,q2⟩) hf
 rcases l with ⟨hk,hm⟩ | ⟨hk,c,hc,hcell⟩
 ·exact wpAny_loadName_local I.ok.kind hk hn hm go
 ·rcases hk with hk | hk
  ·exact wpAny_loadName_cell I.ok.kind hk hc hcell go
  ·rcases hx with k | k
   ·have:X.env.scope.names.lookup x=some .free:=hk;rw[k] at this;cases this
   ·have:X.env.scope.names.lookup x=some .free:=hk;rw[k] at this;cases this
def ipI (f:Int->Int->Int):TIp:=fun x y H Q=>∃ i j,x=.int i/\y=.int j/\Q (.int (f i j)) H
theorem ZlS:PIp X .Add (ipI fun i j=>i+j):=by
 intro pins s σ H x y v u Q I r1 r2 h;obtain⟨i,j,e1,e2,q⟩:=h;subst e1;subst e2;obtain⟨t,rfl⟩:=r1;obtain⟨t',rfl⟩:=r2;exact iadd_int ⟨.int _,H,I.tok _,⟨_,rfl⟩,q⟩
end
section
variable {X:Cx}{pos:Pos}
def Zm0 (c:TT) (tb:TS):TS:=fun D σ H=>∃ W:Nat->St->Hp->Prop,(∃ m,W m σ H)/\∀ m σ H,W m σ H ->
 c σ H fun b H1=>if b=true then ∃ N:St->Hp->Prop,(∀ σ' H',N σ' H'->∃ m',m'<m/\W m' σ' H')/\tb { D with nx:=N,ct:=N,bk:=D.nx } σ H1 else D.nx σ H1
theorem Zdf {c:Expr}{body:List Stmt}{tc:TT}{tb:TS} (hp:PassesOwn (model X.prog X.w) X.A X.env X.xe) (hc:PT X c tc) (hb:PSs X body tb):PS X (.While c body [] pos) (Zm0 tc tb):=by
 intro pins s σ H D I h;obtain⟨W,⟨m0,w0⟩,turn⟩:=h;refine wpAny_While (codeAny_whileLoop (fun n s'=>∃ σ' H',Inv X pins σ' H' s'/\W n σ' H') ?_ m0 ⟨σ,H,I,w0⟩);rintro n s1 ⟨σ1,H1,I1,w1⟩;refine wpAny_passesOwn hp (thn (hc pins s1 σ1 H1 _ I1 (turn n σ1 H1 w1)) fun b s2 ⟨H2,I2,q2⟩=>?_)
 cases b with
 | true=>
  obtain⟨N,hN,q2⟩:=q2;rw[if_pos rfl];refine wpAny_passesOwn hp (thn (hb pins s2 σ1 H2 _ I2 q2) fun f s3 q3=>?_)
  cases f with
  | next=>
   obtain⟨σ3,H3,I3,n3⟩:=q3;obtain⟨m',hm,w3⟩:=hN σ3 H3 n3;exact⟨m',hm,σ3,H3,I3,w3⟩
  | cont=>
   obtain⟨σ3,H3,I3,n3⟩:=q3;obtain⟨m',hm,w3⟩:=hN σ3 H3 n3;exact⟨m',hm,σ3,H3,I3,w3⟩
  | brk=>exact q3
  | ret v=>exact q3
 | false=>
  rw[if_neg YaZ];exact wpAny_execs_nil ⟨σ1,H2,I2,q2⟩
end
structure It where
 go:Nat->Hp->Prop
 yld:Nat->Hp->V->Hp->Prop
 stop:Nat->Hp->Prop
def FpOk (X:Cx) (pins:List (Addr × Obj)) (H:Hp) (b:Addr):Prop :=
 H b=none/\b≠X.env.locals/\b ∉ X.fs/\(b∈X.ex∨X.s₀.heap.objs.size<=b)/\(∀ x c,X.env.cells.lookup x=some c->c≠b)/\∀ p∈X.pn++pins,p.1≠b
theorem Inv.fpOk {X:Cx}{pins:List (Addr × Obj)}{σ:St}{H H':Hp}{s:Shared}{b:Addr} (I:Inv X pins σ H s) (hb:s.heap.objs.size<=b) (hn:H' b=none):FpOk X pins H' b:=by
 refine⟨hn,YbU (Yaw I.lt hb),I.nofs hb,.inr (Ybm I.sz hb),fun x c e z=>?_,fun p hp z=>?_⟩
 ·obtain⟨v,q⟩:=I.cell x c e;exact absurd (Yaw q.lt (by rw[z];exact hb)) (Ybl _)
 ·exact absurd (Yaw (Yar (I.pin p hp).1) (by rw[z];exact hb)) (Ybl _)
structure Turn (P:Program) (w:World) (K:Yad) (tg:Expr) (J:It) (fp:List Addr) (it:Addr) (tn:Nat->Heap->Prop):Prop where
 mem:it∈fp
 obj:∀ i h,tn i h->∀ b∈fp,∃ o,h.get? b=some o/\∀ v,o.data≠.cell v
 keep:∀ i h h',tn i h->(∀ b∈fp,∀ o,h.get? b=some o->h'.get? b=some o)->tn i h'
 item:∀ (X:Cx),X.prog=P->X.w=w->X.K=K->X.calm=true->∀ (i:Nat) (pins:List (Addr × Obj)) (s:Shared) (σ:St) (H:Hp) (E:Value->Shared->Prop),Inv X pins σ H s->(∀ b∈fp,FpOk X pins H b)->tn i s.heap->J.go i H ->
  wpAny (model P w) X.A (pyNext (.ref it)) (fun r s1=>∃ u,r=some u /\
   wpAny (model P w) X.A (letOwnedTupleGo tg (.ref it) u) (fun _ s2=>∃ x H',Inv X pins σ H' s2/\RelV x u/\J.yld i H x H'/\tn (i+1) s2.heap/\∀ b∈fp,H' b=none) E s1) E s
 done:∀ (X:Cx),X.prog=P->X.w=w->X.K=K->X.calm=true->∀ (i:Nat) (pins:List (Addr × Obj)) (s:Shared) (σ:St) (H:Hp) (E:Value->Shared->Prop),Inv X pins σ H s->(∀ b∈fp,FpOk X pins H b)->tn i s.heap->J.stop i H ->
  wpAny (model P w) X.A (pyNext (.ref it)) (fun r s1=>r=none/\Inv X pins σ H s1) E s
 self:∀ (A:Around) (i:Nat) (s:Shared) (Q:Value->Shared->Prop) (E:Value->Shared->Prop),tn i s.heap->Q (.ref it) s->wpAny (model P w) A (pyIter (.ref it)) Q E s
abbrev TI:=St->Hp->(It->Hp->Prop)->Prop
def PIE (X:Cx) (pins:List (Addr × Obj)) (σ:St) (tg:Expr) (R:It->Hp->Prop) (itv:Value) (s2:Shared):Prop :=
 ∃ (it:Addr) (fp:List Addr) (tn:Nat->Heap->Prop) (J:It) (H':Hp),itv=.ref it/\Inv X pins σ H' s2/\Turn X.prog X.w X.K tg J fp it tn/\tn 0 s2.heap/\(∀ b∈fp,FpOk X pins H' b)/\R J H'
def PI (X:Cx) (tg iter:Expr) (wi:TI):Prop :=
 ∀ (pins:List (Addr × Obj)) (s:Shared) (σ:St) (H:Hp) (R:It->Hp->Prop),Inv X pins σ H s->wi σ H R ->
  wpAny (model X.prog X.w) X.A (eval iter X.env) (fun v s1=>wpAny (model X.prog X.w) X.A (pyIter v) (PIE X pins σ tg R) X.xe s1) X.xe s
theorem ZmP {M:Model}{A:Around}{E:Value->Shared->Prop}{s:Shared}{tg:Expr}{it:Addr}{u:Value}{o:Obj}{n:String}{vs:Array Value}{Q:Unit->Shared->Prop} (ho:s.heap.get? it=some o) (hc:o.cls=.type n) (hd:o.data=.fields vs)
    (hn:["enumerate","zip","dict_itemiterator","dict_reverseitemiterator","odict_iterator","itertools.zip_longest","itertools.pairwise"].contains n=false) (hQ:Q () s):wpAny M A (letOwnedTupleGo tg (.ref it) u) Q E s:=by
  unfold letOwnedTupleGo;cases tg <;> first
    | exact wpAny_pure hQ
    | (cases u <;> first
        | exact wpAny_pure hQ
        | (refine wpAny_bind (wpAny_load ho ?_)
           rw[hc,hd];show wpAny M A (if (["enumerate","zip","dict_itemiterator","dict_reverseitemiterator","odict_iterator","itertools.zip_longest","itertools.pairwise"].contains n && vs[0]? == some (rawInt _))=true then _ else _) Q E s;rw[if_neg (by intro h;rw[hn,Bool.false_and] at h;cases h)];exact wpAny_pure hQ))
def Itl (K:Yad) (a:Addr):It :=
 ⟨fun i H=>∃ xs x,SqL K H a xs/\xs[i]?=some x,fun i H x H'=>H'=H/\∀ xs,SqL K H a xs->xs[i]?=some x,fun i H=>∃ xs,SqL K H a xs/\xs.length<=i⟩
def Itt (K:Yad) (a:Addr):It :=
 ⟨fun i H=>∃ xs x,SqT K H a xs/\xs[i]?=some x,fun i H x H'=>H'=H/\∀ xs,SqT K H a xs->xs[i]?=some x,fun i H=>∃ xs,SqT K H a xs/\xs.length<=i⟩
def Itr (lo:Int) (n:Nat):It:=⟨fun i _=>i<n,fun i H x H'=>H'=H/\x=.int (lo+i),fun i _=>n<=i⟩
theorem Ze9 {P:Program}{w:World}{K:Yad}{tg:Expr} (a it:Addr):Turn P w K tg (Itl K a) [it] it (fun i h=>h.IsListIter it a i) where
 mem:=by simp
 obj:=fun i h st b hb=>by
  have e:b=it:=by simpa using hb
  subst e;obtain⟨o,e,c,d⟩:=st;exact⟨o,e,fun v z=>by rw[d] at z;cases z⟩
 keep:=fun i h h' st k=>st.at fun o e=>k it (by simp) o e
 item:=by
  intro X hP hw hK hc i pins s σ H E I hf st hg;subst hP hw hK;obtain⟨xs,x,hq,hx⟩:=hg;obtain⟨its,rv,p,hz⟩:=I.list hq;obtain⟨u,hu,ru⟩:=rv.get hx;obtain⟨f0,f1,f2,f3,f4,f5⟩:=hf it (by simp);refine wpAny_pyNext_list_item st p.isList (x:=u) (by simpa using hu) fun h' st' sb=>?_;have I1:Inv X pins σ H { s with heap:=h' }:=I.turned (t':=s.toks) (fun b o hb e=>(sb.2 b hb).trans e) f0 f1 f3 f4 f5;obtain⟨o,e,c,d⟩:=id st';exact⟨u,rfl,ZmP (s:={ s with heap:=h' }) e c d (by decide) ⟨x,H,I1,ru,⟨rfl,fun ys hy=>by rw[I.list_inj hy hq];exact hx⟩,st',fun b hb=>(hf b hb).1⟩⟩
 done:=by
  intro X hP hw hK hc i pins s σ H E I hf st hg;subst hP hw hK;obtain⟨xs,hq,hx⟩:=hg;obtain⟨its,rv,p,hz⟩:=I.list hq;obtain⟨f0,f1,f2,f3,f4,f5⟩:=hf it (by simp);have hl:=rv.length;exact wpAny_pyNext_list_end (I.ok.hd hc) st p.isList (by simp;omega) fun h' eb=>⟨rfl,I.turned (t':=s.toks) (fun b o hb e=>eb b o hb e) f0 f1 f3 f4 f5⟩
 self:=fun _ _ _ _ _ st h=>wpAny_pyIter_listiter st h
theorem ZdV {P:Program}{w:World}{K:Yad}{tg:Expr} (a it:Addr):Turn P w K tg (Itt K a) [it] it (fun i h=>h.IsTupleIter it a i) where
 mem:=by simp
 obj:=fun i h st b hb=>by
  have e:b=it:=by simpa using hb
  subst e;obtain⟨o,e,c,d⟩:=st;exact⟨o,e,fun v z=>by rw[d] at z;cases z⟩
 keep:=fun i h h' st k=>st.at fun o e=>k it (by simp) o e
 item:=by
  intro X hP hw hK hc i pins s σ H E I hf st hg;subst hP hw hK;obtain⟨xs,x,hq,hx⟩:=hg;obtain⟨its,rv,p,hz⟩:=I.tuple hq;obtain⟨u,hu,ru⟩:=rv.get hx;obtain⟨f0,f1,f2,f3,f4,f5⟩:=hf it (by simp);refine wpAny_pyNext_tuple_item st (show s.heap.IsTuple a its.toArray from p) (x:=u) (by simpa using hu) fun h' st' sb=>?_;have I1:Inv X pins σ H { s with heap:=h' }:=I.turned (t':=s.toks) (fun b o hb e=>(sb.2 b hb).trans e) f0 f1 f3 f4 f5;obtain⟨o,e,c,d⟩:=id st';exact⟨u,rfl,ZmP (s:={ s with heap:=h' }) e c d (by decide) ⟨x,H,I1,ru,⟨rfl,fun ys hy=>by rw[I.tuple_inj hy hq];exact hx⟩,st',fun b hb=>(hf b hb).1⟩⟩
 done:=by
  intro X hP hw hK hc i pins s σ H E I hf st hg;subst hP hw hK;obtain⟨xs,hq,hx⟩:=hg;obtain⟨its,rv,p,hz⟩:=I.tuple hq;obtain⟨f0,f1,f2,f3,f4,f5⟩:=hf it (by simp);have hl:=rv.length;exact wpAny_pyNext_tuple_end (I.ok.hd hc) st (show s.heap.IsTuple a its.toArray from p) (by simp;omega) fun h' eb=>⟨rfl,I.turned (t':=s.toks) (fun b o hb e=>eb b o hb e) f0 f1 f3 f4 f5⟩
 self:=fun _ _ _ _ _ st h=>wpAny_pyIter_tupleiter st h
theorem Zhs {P:Program}{w:World}{K:Yad}{tg:Expr} (it:Addr) (lo:Int) (n:Nat):Turn P w K tg (Itr lo n) [it] it (fun i h=>IsRangeIter h it (lo+(i:Nat)*1) ((n:Int) - (i:Nat)) 1) where
 mem:=by simp
 obj:=fun i h st b hb=>by
  have e:b=it:=by simpa using hb
  subst e;exact⟨_,st,fun v z=>by
   have z':Data.fields _=Data.cell v:=z;cases z'⟩
 keep:=fun i h h' st k=>k it (by simp) _ st
 item:=by
  intro X hP hw hK hc i pins s σ H E I hf st hg;subst hP hw hK;obtain⟨f0,f1,f2,f3,f4,f5⟩:=hf it (by simp);have W:=Walks.range (prog:=X.prog) (w:=X.w) (I.ok.hd hc) it lo 1 n;refine W.item i s _ _ hg st fun v h' tk hv st' kk=>?_;obtain⟨t,rfl⟩:=hv;have I1:Inv X pins σ H { s with heap:=h',toks:=tk }:=I.turned (fun b o hb e=>kk b o (by simpa using hb) e) f0 f1 f3 f4 f5;refine⟨_,rfl,ZmP (s:={ s with heap:=h',toks:=tk }) (n:="range_iterator") st' rfl rfl (by decide) ⟨.int (lo+i),H,I1,⟨t,?_⟩,⟨rfl,rfl⟩,st',fun b hb=>(hf b hb).1⟩⟩;rw[Yc5]
 done:=by
  intro X hP hw hK hc i pins s σ H E I hf st hg;subst hP hw hK;obtain⟨f0,f1,f2,f3,f4,f5⟩:=hf it (by simp);exact wpAny_pyNext_range_end (I.ok.hd hc) st (by have:n<=i:=hg;omega) fun h' eb=>⟨rfl,I.turned (t':=s.toks) (fun b o hb e=>eb b o hb e) f0 f1 f3 f4 f5⟩
 self:=fun _ _ _ _ _ st h=>wpAny_pyIter_rangeiter st h
end L2
namespace L2
open PySem PySem.Spec PyProof.Rows
section
variable {X:Cx}{tg:Expr}
def Zot (K:Yad) (tl:TE):TI:=fun σ H R=>tl σ H fun x H1=>∃ a,x=.ref a/\(∃ xs,SqL K H1 a xs)/\R (Itl K a) H1
def iTup (K:Yad) (tl:TE):TI:=fun σ H R=>tl σ H fun x H1=>∃ a,x=.ref a/\(∃ xs,SqT K H1 a xs)/\R (Itt K a) H1
theorem ZiL {l:Expr}{tl:TE} (hl:PE X l tl):PI X tg l (Zot X.K tl):=by
 intro pins s σ H R I h;refine thn (hl pins s σ H _ I h) fun v s1 ⟨x,H1,I1,r1,q1⟩=>?_;obtain⟨a,e,⟨xs,hq⟩,q⟩:=q1;subst e;cases r1;obtain⟨its,rv,p,hz⟩:=I1.list hq;refine wpAny_pyIter_list p.isList ?_;refine⟨s1.heap.objs.size,[s1.heap.objs.size],_,_,H1,rfl,I1.kept (t':=s1.toks) fun b o e=>Yae _ e,Ze9 a _,⟨_,YaC _ rfl,rfl,rfl⟩,fun b hb=>?_,q⟩;have e:b=s1.heap.objs.size:=by simpa using hb
 subst e;exact I1.fpOk (Yap _) (I1.hok.fresh (Yap _))
theorem Zg2 {l:Expr}{tl:TE} (hl:PE X l tl):PI X tg l (iTup X.K tl):=by
 intro pins s σ H R I h;refine thn (hl pins s σ H _ I h) fun v s1 ⟨x,H1,I1,r1,q1⟩=>?_;obtain⟨a,e,⟨xs,hq⟩,q⟩:=q1;subst e;cases r1;obtain⟨its,rv,p,hz⟩:=I1.tuple hq;refine wpAny_pyIter_tuple (show s1.heap.IsTuple a its.toArray from p) ?_;refine⟨s1.heap.objs.size,[s1.heap.objs.size],_,_,H1,rfl,I1.kept (t':=s1.toks) fun b o e=>Yae _ e,ZdV a _,⟨_,YaC _ rfl,rfl,rfl⟩,fun b hb=>?_,q⟩;have e:b=s1.heap.objs.size:=by simpa using hb
 subst e;exact I1.fpOk (Yap _) (I1.hok.fresh (Yap _))
theorem Zkz {pins:List (Addr × Obj)}{σ:St}{H:Hp}{s:Shared}{R:It->Hp->Prop}{E:Value->Shared->Prop}{lo hi:Int}{t u v:Tok}{tk:Nat} (I:Inv X pins σ H s) (h1:-(2 ^ 62)<=lo) (h2:lo<2 ^ 62) (h3:-(2 ^ 62)<=hi) (h4:hi<2 ^ 62)
  (q:R (Itr lo (hi - lo).toNat) H):wpAny (model X.prog X.w) X.A (pyIter (.ref s.heap.objs.size)) (PIE X pins σ tg R) E { s with heap:=s.heap.push { cls:=.type "range",data:=.fields #[.int lo t,.int hi u,.int 1 v] },toks:=tk }:=by
 refine wpAny_pyIter_range (IsRange.new ..) (small_one h1 h2 h3 h4) ?_;have I1:Inv X pins σ H { s with heap:=s.heap.push { cls:=.type "range",data:=.fields #[.int lo t,.int hi u,.int 1 v] },toks:=tk }:=I.kept fun b o e=>Yae _ e;refine⟨(s.heap.push { cls:=.type "range",data:=.fields #[.int lo t,.int hi u,.int 1 v] }).objs.size,[(s.heap.push { cls:=.type "range",data:=.fields #[.int lo t,.int hi u,.int 1 v] }).objs.size],_,_,H,rfl,
  I1.kept (t':=tk) fun b o e=>Yae _ e,Zhs _ lo (hi - lo).toNat,?_,fun b hb=>?_,q⟩
 ·have e1:lo+((0:Nat):Int)*1=lo:=by simp
  have e2:(((hi - lo).toNat:Nat):Int) - ((0:Nat):Int)=Yd0 lo hi 1:=by rw[rangeSize_one];split <;> omega
  show IsRangeIter _ _ (lo+((0:Nat):Int)*1) ((((hi - lo).toNat:Nat):Int) - ((0:Nat):Int)) 1;rw[e1,e2];exact YaC _ rfl
 ·have e:b=(s.heap.push { cls:=.type "range",data:=.fields #[.int lo t,.int hi u,.int 1 v] }).objs.size:=by simpa using hb
  subst e;exact I1.fpOk (Yap _) (I1.hok.fresh (Yap _))
def Zos (ta:TA):TI:=fun σ H R=>ta σ H fun vs H1=>∃ j:Int,vs=[.int j]/\-(2 ^ 62)<=j/\j<2 ^ 62/\R (Itr 0 j.toNat) H1
theorem Za3 {a:Expr}{ta:TA}{p pos:Pos} (hg:Gl X "range") (hm:X.mg "range"=none) (ha:PA X [a] ta) (hs:starEach [a] X.env=[(false,eval a X.env)]:=by rfl):PI X tg (.Call (.Name "range" p) [a] [] pos) (Zos ta):=by
 intro pins s σ H R I h;refine Call_ (Zei I hg hm boot_range (Yci (thn (ha pos pins s σ H _ I h) fun us s1 ⟨vs,H1,I1,r1,q1⟩=>?_) hs rfl));obtain⟨j,e,q1,q2,q⟩:=q1;subst e
 cases r1 with
 | cons r rr=>
  cases rr;obtain⟨t,rfl⟩:=r;exact call_range_1 (Zkz I1 (by omega) (by omega) q1 q2 (by simpa using q))
def tFor (wi:TI) (g:TG) (tb:TS):TS:=fun D σ H=>wi σ H fun J H1=>∃ W:Nat->Nat->St->Hp->Prop,(∃ m,W 0 m σ H1)/\∀ i m σ H,W i m σ H ->
 (J.stop i H/\D.nx σ H)∨(J.go i H/\∃ N:St->Hp->Prop,(∀ σ' H',N σ' H'->∃ m',m'<m/\W (i+1) m' σ' H')/\∀ x H',J.yld i H x H'->g x σ H' fun σ2 H2=>tb { D with nx:=N,ct:=N,bk:=D.nx } σ2 H2)
def ZdB (fp:List Addr) (h:Heap):List (Addr × Obj):=fp.filterMap fun b=>(h.get? b).map fun o=>(b,o)
theorem ZaY {fp:List Addr}{h:Heap}{b:Addr}{o:Obj} (hb:b∈fp) (e:h.get? b=some o):(b,o)∈ZdB fp h:=Yb6.mpr ⟨b,hb,by rw[e];rfl⟩
theorem Zjc {fp:List Addr}{h:Heap}{p:Addr × Obj} (hp:p∈ZdB fp h):p.1∈fp/\h.get? p.1=some p.2:=by
 obtain⟨b,hb,e⟩:=Yb6.mp hp
 cases q:h.get? b with
 | none=>rw[q] at e;cases e
 | some o=>
  rw[q] at e;have e':(b,o)=p:=YaB e;subst e';exact⟨hb,q⟩
theorem Inv.pinned {pins:List (Addr × Obj)}{σ:St}{H:Hp}{s:Shared}{fp:List Addr} (I:Inv X pins σ H s) (hf:∀ b∈fp,FpOk X pins H b) (ho:∀ b∈fp,∃ o,s.heap.get? b=some o/\∀ v,o.data≠.cell v):Inv X (pins++ZdB fp s.heap) σ H s :=
 I.pins_of fun p hp=>(Yah.mp hp).elim (fun z=>I.pin p (YaI _ z)) fun z=>by
  obtain⟨hb,e⟩:=Zjc z;obtain⟨f0,f1,f2,_⟩:=hf p.1 hb;obtain⟨o,e',d⟩:=ho p.1 hb;rw[e] at e';cases e';exact⟨e,f0,f1,f2,d⟩
theorem Inv.unpinned {pins pl:List (Addr × Obj)}{σ:St}{H:Hp}{s:Shared} (I:Inv X (pins++pl) σ H s):Inv X pins σ H s:=I.pins_of fun p hp=>I.pin p (YaI _ (Ya1 _ hp))
theorem Zbp {iter:Expr}{body:List Stmt}{wi:TI}{g:TG}{tb:TS}{pos:Pos} (hp:PassesOwn (model X.prog X.w) X.A X.env X.xe) (hc:X.calm=true) (hi:PI X tg iter wi) (hg:PG X tg g) (hb:PSs X body tb)
  (hs:∀ x,foldedSetIterable iter X.env x=pure x:=by intro _;rfl):PS X (.For tg iter body [] pos) (tFor wi g tb):=by
 intro pins s σ H D I h;refine wpAny_For (thn (hi pins s σ H _ I h) fun v s1 h1=>thn h1 fun itv s2 h2=>?_) hs;obtain⟨it,fp,tn,J,H2,e,I2,T,st2,f2,W,⟨m0,w0⟩,turn⟩:=h2;subst e;have stat:∀ {H':Hp},(∀ b∈fp,H' b=none)->∀ b∈fp,FpOk X pins H' b:=fun hn b hb=>⟨hn b hb,(f2 b hb).2⟩
 refine codeAny_forLoop_any (fun n s'=>∃ i σ' H',Inv X pins σ' H' s'/\tn i s'.heap/\(∀ b∈fp,H' b=none)/\W i n σ' H') ?_ m0 ⟨0,σ,H2,I2,st2,fun b hb=>(f2 b hb).1,w0⟩;rintro n s3 ⟨i,σ3,H3,I3,st3,fr3,w3⟩;rcases turn i n σ3 H3 w3 with ⟨stop,qn⟩ | ⟨go,N,hN,step⟩
 ·refine wpAny_passesOwn hp (thn (T.done X rfl rfl rfl hc i pins s3 σ3 H3 X.xe I3 (stat fr3) st3 stop) fun r s4 ⟨hr,I4⟩=>?_);subst hr;exact wpAny_execs_nil ⟨σ3,H3,I4,qn⟩
 ·refine wpAny_passesOwn hp (thn (T.item X rfl rfl rfl hc i pins s3 σ3 H3 X.xe I3 (stat fr3) st3 go) fun r s4 ⟨u,hr,h4⟩=>?_);subst hr;refine wpAny_passesOwn hp (thn h4 fun _ s5 ⟨x,H5,I5,r5,y5,st5,fr5⟩=>?_);have I5':=I5.pinned (stat fr5) (T.obj _ _ st5);refine wpAny_passesOwn hp (thn (hg _ s5 σ3 H5 x u _ I5' r5 (step x H5 y5)) fun _ s6 ⟨σ6,H6,I6,q6⟩=>?_);refine wpAny_passesOwn hp (thn (hb _ s6 σ6 H6 _ I6 q6) fun f s7 q7=>?_);have again:∀ {σ7:St}{H7:Hp},Inv X (pins++ZdB fp s5.heap) σ7 H7 s7->N σ7 H7->∃ m,m<n/\∃ i σ' H',Inv X pins σ' H' s7/\tn i s7.heap/\(∀ b∈fp,H' b=none)/\W i m σ' H':=fun {σ7 H7} I7 n7=>by
   obtain⟨m',hm,w7⟩:=hN σ7 H7 n7;refine⟨m',hm,i+1,σ7,H7,I7.unpinned,T.keep _ _ _ st5 fun b hb o e=>(I7.pin (b,o) (YaI _ (YaI _ (ZaY hb e)))).1,fun b hb=>?_,w7⟩;obtain⟨o,e,d⟩:=T.obj _ _ st5 b hb;exact (I7.pin (b,o) (YaI _ (YaI _ (ZaY hb e)))).2.1
  cases f with
  | next=>obtain⟨σ7,H7,I7,n7⟩:=q7;exact again I7 n7
  | cont=>obtain⟨σ7,H7,I7,n7⟩:=q7;exact again I7 n7
  | brk=>obtain⟨σ7,H7,I7,q7⟩:=q7;exact⟨σ7,H7,I7.unpinned,q7⟩
  | ret v=>obtain⟨x7,σ7,H7,I7,r7,q7⟩:=q7;exact⟨x7,σ7,H7,I7.unpinned,r7,q7⟩
end
theorem ZbO {lo:Int}{n:Nat}{g:TG}{tb:TS}{D:Ends}{σ:St}{H:Hp} (Pv:Nat->St->Hp->Prop) (h0:Pv 0 σ H)
  (hs:∀ i σ H,i<n->Pv i σ H->g (.int (lo+i)) σ H fun σ2 H2=>tb { D with nx:=Pv (i+1),ct:=Pv (i+1),bk:=D.nx } σ2 H2) (hd:∀ σ H,Pv n σ H->D.nx σ H) :
  ∃ W:Nat->Nat->St->Hp->Prop,(∃ m,W 0 m σ H)/\∀ i m σ H,W i m σ H ->
   ((Itr lo n).stop i H/\D.nx σ H)∨((Itr lo n).go i H/\∃ N:St->Hp->Prop,(∀ σ' H',N σ' H'->∃ m',m'<m/\W (i+1) m' σ' H')/\∀ x H',(Itr lo n).yld i H x H'->g x σ H' fun σ2 H2=>tb { D with nx:=N,ct:=N,bk:=D.nx } σ2 H2):=by
 refine⟨fun i m σ H=>m=n - i/\i<=n/\Pv i σ H,⟨n,by simp,Ya2 _,h0⟩,?_⟩;rintro i m σ H ⟨rfl,hi,p⟩;by_cases hlt:i<n
 ·refine .inr ⟨hlt,Pv (i+1),fun σ' H' p'=>⟨n - (i+1),by omega,rfl,hlt,p'⟩,fun x H' y=>?_⟩;obtain⟨e,y⟩:=y;subst e y;exact hs i σ _ hlt p
 ·have e:i=n:=by omega
  subst e;exact .inl ⟨Yap _,hd σ H p⟩
end L2
namespace L2
open PySem PySem.Spec PyProof.Rows
abbrev R2:=V->V->Hp->VK->Prop
def OpR (X:Cx) (f:Value->Value->Sem Value) (r:R2):Prop :=
 ∀ (pins:List (Addr × Obj)) (s:Shared) (σ:St) (H:Hp) (x y:V) (v u:Value) (Q:VK),Inv X pins σ H s->RelV x v->RelV y u->r x y H Q ->
  wpAny (model X.prog X.w) X.A (f v u) (EP X pins σ Q) X.xe s
def UnR (X:Cx) (f:Value->Sem Value) (r:V->Hp->VK->Prop):Prop :=
 ∀ (pins:List (Addr × Obj)) (s:Shared) (σ:St) (H:Hp) (x:V) (v:Value) (Q:VK),Inv X pins σ H s->RelV x v->r x H Q ->
  wpAny (model X.prog X.w) X.A (f v) (EP X pins σ Q) X.xe s
def Zbf (X:Cx) (f:Value) (r:List V->Hp->VK->Prop):Prop :=
 ∀ (pins:List (Addr × Obj)) (s:Shared) (σ:St) (H:Hp) (xs:List V) (us:List Value) (Q:VK),Inv X pins σ H s->Vals xs us->r xs H Q ->
  wpAny (model X.prog X.w) X.A (call f us) (EP X pins σ Q) X.xe s
def TruR (X:Cx) (r:V->Hp->(Bool->Hp->Prop)->Prop):Prop :=
 ∀ (pins:List (Addr × Obj)) (s:Shared) (σ:St) (H:Hp) (x:V) (v:Value) (Q:Bool->Hp->Prop),Inv X pins σ H s->RelV x v->r x H Q ->
  wpAny (model X.prog X.w) X.A (truthy v) (TP X pins σ Q) X.xe s
def tOp (r:R2) (ta tb:TE):TE:=fun σ H Q=>ta σ H fun x H1=>tb σ H1 fun y H2=>r x y H2 Q
def tUn (r:V->Hp->VK->Prop) (ta:TE):TE:=fun σ H Q=>ta σ H fun x H1=>r x H1 Q
def rI (C:Int->Int->Prop) (g:Int->Int->V):R2:=fun x y H Q=>∃ i j,x=.int i/\y=.int j/\C i j/\Q (g i j) H
def rI0 (g:Int->Int->V):R2:=fun x y H Q=>∃ i j,x=.int i/\y=.int j/\Q (g i j) H
def rU (g:Int->V):V->Hp->VK->Prop:=fun x H Q=>∃ i,x=.int i/\Q (g i) H
section
variable {X:Cx}{a b c:Expr}{ta tb tc:TE}{pos:Pos}
theorem binT (ha:PE X a ta) (hb:PE X b tb) {pins:List (Addr × Obj)}{s:Shared}{σ:St}{H:Hp}{R:V->V->Hp->Prop} (I:Inv X pins σ H s)
  (h:ta σ H fun x H1=>tb σ H1 fun y H2=>R x y H2) {Q:Value->Shared->Prop}{f:Value->Value->Sem Value}
  (hf:∀ v u s2 x y H2,Inv X pins σ H2 s2->RelV x v->RelV y u->R x y H2->wpAny (model X.prog X.w) X.A (f v u) Q X.xe s2) :
  wpAny (model X.prog X.w) X.A (eval a X.env) (fun v s₁=>wpAny (model X.prog X.w) X.A (eval b X.env) (fun u s₂=>wpAny (model X.prog X.w) X.A (f v u) Q X.xe s₂) X.xe s₁) X.xe s:=by
 refine thn (ha pins s σ H _ I h) fun v s1 ⟨x,H1,I1,r1,q1⟩=>?_;refine thn (hb pins s1 σ H1 _ I1 q1) fun u s2 ⟨y,H2,I2,r2,q2⟩=>?_;exact hf v u s2 x y H2 I2 r1 r2 q2
theorem Zaw {op:Operator}{r:R2} (ho:OpR X (binaryOp op) r) (ha:PE X a ta) (hb:PE X b tb):PE X (.BinOp a op b pos) (tOp r ta tb):=by
 intro pins s σ H Q I h;exact wpAny_BinOp (binT ha hb I h fun v u s2 x y H2 I2 rx ry q=>ho pins s2 σ H2 x y v u Q I2 rx ry q)
theorem ZhO {op:UnaryOp}{r:V->Hp->VK->Prop} (ho:UnR X (unaryOp op) r) (ha:PE X a ta):PE X (.UnaryOp op a pos) (tUn r ta):=by
 intro pins s σ H Q I h;exact UnaryOp_ (thn (ha pins s σ H _ I h) fun v s1 ⟨x,H1,I1,r1,q1⟩=>ho pins s1 σ H1 x v Q I1 r1 q1)
theorem opI {f:Value->Value->Sem Value}{C:Int->Int->Prop}{g:Int->Int->Int}
  (rule:∀ (i j:Int) (t u:Tok) (s:Shared) (Q:Value->Shared->Prop) (E:Value->Shared->Prop),C i j->Q (.int (g i j) s.toks) { s with toks:=s.toks+1 }->wpAny (model X.prog X.w) X.A (f (.int i t) (.int j u)) Q E s) :
  OpR X f (rI C fun i j=>.int (g i j)):=by
 intro pins s σ H x y v u Q I rx ry h;obtain⟨i,j,rfl,rfl,hc,q⟩:=h;obtain⟨t,rfl⟩:=rx;obtain⟨t',rfl⟩:=ry;exact rule i j t t' s _ _ hc ⟨.int (g i j),H,I.tok _,⟨_,rfl⟩,q⟩
theorem opI0 {f:Value->Value->Sem Value}{g:Int->Int->Int}
  (rule:∀ (i j:Int) (t u:Tok) (s:Shared) (Q:Value->Shared->Prop) (E:Value->Shared->Prop),Q (.int (g i j) s.toks) { s with toks:=s.toks+1 }->wpAny (model X.prog X.w) X.A (f (.int i t) (.int j u)) Q E s) :
  OpR X f (rI0 fun i j=>.int (g i j)):=by
 intro pins s σ H x y v u Q I rx ry h;obtain⟨i,j,rfl,rfl,q⟩:=h;obtain⟨t,rfl⟩:=rx;obtain⟨t',rfl⟩:=ry;exact rule i j t t' s _ _ ⟨.int (g i j),H,I.tok _,⟨_,rfl⟩,q⟩
theorem opB0 {f:Value->Value->Sem Value}{g:Int->Int->Bool}
  (rule:∀ (i j:Int) (t u:Tok) (s:Shared) (Q:Value->Shared->Prop) (E:Value->Shared->Prop),Q (.bool (g i j)) s->wpAny (model X.prog X.w) X.A (f (.int i t) (.int j u)) Q E s) :
  OpR X f (rI0 fun i j=>.bl (g i j)):=by
 intro pins s σ H x y v u Q I rx ry h;obtain⟨i,j,rfl,rfl,q⟩:=h;obtain⟨t,rfl⟩:=rx;obtain⟨t',rfl⟩:=ry;exact rule i j t t' s _ _ ⟨.bl (g i j),H,I,rfl,q⟩
def CDiv (i j:Int):Prop:=0<j/\j<1073741824
def CPow (i j:Int):Prop:=0<=j/\j<=1000000/\i.natAbs<2 ^ 64
def CMul (i j:Int):Prop:=(-(2 ^ 64)<i/\i<2 ^ 64)∨(-(2 ^ 64)<j/\j<2 ^ 64)
theorem CMul.ok {i j:Int} (h:CMul i j):IntMulOk i j:=by
 rcases h with ⟨h1,h2⟩ | ⟨h1,h2⟩
 ·exact .of_left (intBits_le_64 h1 h2)
 ·exact .of_right (intBits_le_64 h1 h2)
theorem Za4:OpR X (binaryOp .Add) (rI0 fun i j=>.int (i+j)):=opI0 fun _ _ _ _ _ _ _ q=>add_int q
theorem ZbD:OpR X (binaryOp .Sub) (rI0 fun i j=>.int (i - j)):=opI0 fun _ _ _ _ _ _ _ q=>sub_int q
theorem Zc3:OpR X (binaryOp .Mult) (rI CMul fun i j=>.int (i*j)):=opI fun _ _ _ _ _ _ _ hc q=>mul_int q hc.ok
theorem Zi0:OpR X (binaryOp .FloorDiv) (rI CDiv fun i j=>.int (i / j)):=opI fun i j _ _ _ _ _ hc q=>by
 have h1:(0:Int)<j:=hc.1;have h2:j<1073741824:=hc.2;exact floordiv_int (by omega) (by rw[YeG i (by omega)];exact q) (.inl (PyProof.noPylong_small (by omega)))
theorem ZbM:OpR X (binaryOp .Mod) (rI (fun _ j=>0<j) fun i j=>.int (i % j)):=opI fun i j _ _ _ _ _ hc q=>by
 have h1:(0:Int)<j:=hc;exact mod_int' (by omega) (by rw[Int.fmod_eq_emod_of_nonneg i (by omega)];exact q)
theorem Zee:OpR X (binaryOp .Pow) (rI CPow fun i j=>.int (i ^ j.toNat)):=opI fun _ _ _ _ _ _ _ hc q=>pow_int_small hc.1 hc.2.1 hc.2.2 q
theorem unI {f:Value->Sem Value}{g:Int->Int}
  (rule:∀ (i:Int) (t:Tok) (s:Shared) (Q:Value->Shared->Prop) (E:Value->Shared->Prop),Q (.int (g i) s.toks) { s with toks:=s.toks+1 }->wpAny (model X.prog X.w) X.A (f (.int i t)) Q E s) :
  UnR X f (rU fun i=>.int (g i)):=by
 intro pins s σ H x v Q I rx h;obtain⟨i,rfl,q⟩:=h;obtain⟨t,rfl⟩:=rx;exact rule i t s _ _ ⟨.int (g i),H,I.tok _,⟨_,rfl⟩,q⟩
theorem ZdU:UnR X (unaryOp .USub) (rU fun i=>.int (-i)):=unI fun _ _ _ _ _ q=>neg_int q
end
noncomputable def scal:V->V->Bool
 | .non,.non=>true | .non,.int _=>true | .int _,.non=>true | .non,.bl _=>true | .bl _,.non=>true | .non,.str _=>true | .str _,.non=>true
 | .int _,.int _=>true | .bl _,.bl _=>true | .str _,.str _=>true | .byt _,.byt _=>true
 | .int _,.str _=>true | .str _,.int _=>true | .bl _,.str _=>true | .str _,.bl _=>true
 | _,_=>false
def rEq:R2:=fun x y H Q=>scal x y=true/\Q (.bl (decide (x=y))) H
def rNe:R2:=fun x y H Q=>scal x y=true/\Q (.bl (!decide (x=y))) H
theorem ZjS {i j:Int}:decide (V.int i=V.int j)=(i == j):=by
 rw[YcI];simp
theorem ZlX {i j:Bool}:decide (V.bl i=V.bl j)=(i == j):=by
 rw[YcI];simp
theorem ZjR {i j:Str}:decide (V.str i=V.str j)=(i == j):=by
 rw[YcI];simp
theorem ZjT {i j:Array UInt8}:decide (V.byt i=V.byt j)=(i.toList == j.toList):=by
 rw[YcI];cases i;cases j;simp
section
variable {X:Cx}{a b c:Expr}{ta tb tc:TE}{pos:Pos}
theorem ZaB {pins:List (Addr × Obj)}{σ:St}{H:Hp}{s:Shared}{Q:VK}{k k':Bool} (I:Inv X pins σ H s) (q:Q (.bl k) H) (e:k=k'):EP X pins σ Q (.bool k') s:=by
 subst e;exact⟨.bl k,H,I,rfl,q⟩
theorem ZkK:OpR X (compareOp .Eq) rEq:=by
 intro pins s σ H x y v u Q I rx ry h;obtain⟨hs,q⟩:=h
 cases x with
 | non=>
  cases rx
  cases y with
  | non=>cases ry;exact PySem.EqNone.eq_none_none (ZaB I q (by simp))
  | bl j=>cases ry;exact PySem.EqNone.eq_none_bool (ZaB I q (by simp))
  | int j=>obtain⟨t',rfl⟩:=ry;exact PySem.EqNone.eq_none_int (ZaB I q (by simp))
  | str j=>obtain⟨t',rfl⟩:=ry;exact PySem.EqNone.eq_none_str (ZaB I q (by simp))
  | _=>exact absurd (show false=true from hs) YaZ
 | bl i=>
  cases rx
  cases y with
  | non=>cases ry;exact PySem.EqNone.eq_bool_none (ZaB I q (by simp))
  | bl j=>cases ry;exact eq_bool (ZaB I q ZlX)
  | str j=>obtain⟨t',rfl⟩:=ry;exact PySem.EqMixed.eq_bool_str (ZaB I q (by simp))
  | _=>exact absurd (show false=true from hs) YaZ
 | int i=>
  obtain⟨t,rfl⟩:=rx
  cases y with
  | non=>cases ry;exact PySem.EqNone.eq_int_none (ZaB I q (by simp))
  | int j=>obtain⟨t',rfl⟩:=ry;exact eq_int (ZaB I q ZjS)
  | str j=>obtain⟨t',rfl⟩:=ry;exact PySem.EqMixed.eq_int_str (ZaB I q (by simp))
  | _=>exact absurd (show false=true from hs) YaZ
 | str i=>
  obtain⟨t,rfl⟩:=rx
  cases y with
  | non=>cases ry;exact PySem.EqNone.eq_str_none (ZaB I q (by simp))
  | bl j=>cases ry;exact PySem.EqMixed.eq_str_bool (ZaB I q (by simp))
  | int j=>obtain⟨t',rfl⟩:=ry;exact PySem.EqMixed.eq_str_int (ZaB I q (by simp))
  | str j=>obtain⟨t',rfl⟩:=ry;exact eq_str (ZaB I q ZjR)
  | _=>exact absurd (show false=true from hs) YaZ
 | byt i=>
  obtain⟨t,rfl⟩:=rx
  cases y with
  | byt j=>obtain⟨t',rfl⟩:=ry;exact PySem.W.eq_bytes (ZaB I q ZjT)
  | _=>exact absurd (show false=true from hs) YaZ
 | _=>cases y <;> exact absurd (show false=true from hs) YaZ
theorem Znu:OpR X (compareOp .NotEq) rNe:=by
 intro pins s σ H x y v u Q I rx ry h;obtain⟨hs,q⟩:=h
 cases x with
 | non=>
  cases rx
  cases y with
  | non=>cases ry;exact PySem.EqNone.ne_none_none (ZaB I q (by simp))
  | bl j=>cases ry;exact PySem.EqNone.ne_none_bool (ZaB I q (by simp))
  | int j=>obtain⟨t',rfl⟩:=ry;exact PySem.EqNone.ne_none_int (ZaB I q (by simp))
  | str j=>obtain⟨t',rfl⟩:=ry;exact PySem.EqNone.ne_none_str (ZaB I q (by simp))
  | _=>exact absurd (show false=true from hs) YaZ
 | bl i=>
  cases rx
  cases y with
  | non=>cases ry;exact PySem.EqNone.ne_bool_none (ZaB I q (by simp))
  | bl j=>cases ry;exact ne_bool (ZaB I q (congrArg not ZlX))
  | str j=>obtain⟨t',rfl⟩:=ry;exact PySem.EqMixed.ne_bool_str (ZaB I q (by simp))
  | _=>exact absurd (show false=true from hs) YaZ
 | int i=>
  obtain⟨t,rfl⟩:=rx
  cases y with
  | non=>cases ry;exact PySem.EqNone.ne_int_none (ZaB I q (by simp))
  | int j=>obtain⟨t',rfl⟩:=ry;exact ne_int (ZaB I q (congrArg not ZjS))
  | str j=>obtain⟨t',rfl⟩:=ry;exact PySem.EqMixed.ne_int_str (ZaB I q (by simp))
  | _=>exact absurd (show false=true from hs) YaZ
 | str i=>
  obtain⟨t,rfl⟩:=rx
  cases y with
  | non=>cases ry;exact PySem.EqNone.ne_str_none (ZaB I q (by simp))
  | bl j=>cases ry;exact PySem.EqMixed.ne_str_bool (ZaB I q (by simp))
  | int j=>obtain⟨t',rfl⟩:=ry;exact PySem.EqMixed.ne_str_int (ZaB I q (by simp))
  | str j=>obtain⟨t',rfl⟩:=ry;exact ne_str (ZaB I q (congrArg not ZjR))
  | _=>exact absurd (show false=true from hs) YaZ
 | byt i=>
  obtain⟨t,rfl⟩:=rx
  cases y with
  | byt j=>obtain⟨t',rfl⟩:=ry;exact PySem.W.ne_bytes (ZaB I q (congrArg not ZjT))
  | _=>exact absurd (show false=true from hs) YaZ
 | _=>cases y <;> exact absurd (show false=true from hs) YaZ
theorem Zc8:OpR X (compareOp .Lt) (rI0 fun i j=>.bl (decide (i<j))):=opB0 fun _ _ _ _ _ _ _ q=>lt_int q
theorem ZdC:OpR X (compareOp .LtE) (rI0 fun i j=>.bl (decide (i<=j))):=opB0 fun _ _ _ _ _ _ _ q=>le_int q
theorem ZeS:OpR X (compareOp .Gt) (rI0 fun i j=>.bl (decide (j<i))):=opB0 fun _ _ _ _ _ _ _ q=>gt_int q
theorem Zmz:OpR X (compareOp .GtE) (rI0 fun i j=>.bl (decide (j<=i))):=opB0 fun _ _ _ _ _ _ _ q=>ge_int q
theorem Znv:OpR X (compareOp .Is) (fun x y H Q=>y=.non/\Q (.bl (decide (x=.non))) H):=by
 intro pins s σ H x y v u Q I rx ry h;obtain⟨rfl,q⟩:=h;cases ry;refine is_none_gen (ZaB I q ?_);cases x <;> first
  | (cases rx;rfl)
  | (obtain⟨t,rfl⟩:=rx;rfl)
theorem ZiY:OpR X (compareOp .IsNot) (fun x y H Q=>y=.non/\Q (.bl (!decide (x=.non))) H):=by
 intro pins s σ H x y v u Q I rx ry h;obtain⟨rfl,q⟩:=h;cases ry;refine isnot_none_gen (ZaB I q ?_);cases x <;> first
  | (cases rx;rfl)
  | (obtain⟨t,rfl⟩:=rx;rfl)
theorem ZaA (b:Expr) {op:CmpOp} (h:op≠.In:=by decide) (h2:op≠.NotIn:=by decide):behindInMarks op b=false:=by
 have e1:(op == CmpOp.In)=false:=by cases op <;> first | rfl | exact absurd rfl h
 have e2:(op == CmpOp.NotIn)=false:=by cases op <;> first | rfl | exact absurd rfl h2
 cases b <;> simp[behindInMarks,e1,e2]
theorem ZiT {op:CmpOp}{r:R2} (ho:OpR X (compareOp op) r) (ha:PE X a ta) (hb:PE X b tb) (hm:behindInMarks op b=false):PE X (.Compare a [op] [b] pos) (tOp r ta tb):=by
 intro pins s σ H Q I h;exact wpAny_Compare1 (binT ha hb I h fun v u s2 x y H2 I2 rx ry q=>ho pins s2 σ H2 x y v u Q I2 rx ry q) hm
def Zm1 (t:TE):TT:=fun σ H Q=>t σ H fun x H'=>∃ k,x=.bl k/\Q k H'
theorem Zax {op:CmpOp}{r:R2} (ho:OpR X (compareOp op) r) (ha:PE X a ta) (hb:PE X b tb) (hm:behindInMarks op b=false):PT X (.Compare a [op] [b] pos) (Zm1 (tOp r ta tb)):=by
 intro pins s σ H Q I h;refine wpAny_isTrue_Compare1 (thn (ha pins s σ H _ I h) fun v s1 ⟨x,H1,I1,r1,q1⟩=>thn (hb pins s1 σ H1 _ I1 q1) fun u s2 ⟨y,H2,I2,r2,q2⟩=>
  thn (ho pins s2 σ H2 x y v u _ I2 r1 r2 q2) fun c s3 ⟨z,H3,I3,r3,k,e,q3⟩=>?_) hm
 subst e;cases r3;exact wpAny_truthy_bool ⟨H3,I3,q3⟩
def ZlA (r r':R2) (ta tb tc:TE):TE:=fun σ H Q=>ta σ H fun x H1=>tb σ H1 fun y H2=>r x y H2 fun z H3=>∃ k,z=.bl k /\
 (if k=true then tc σ H3 fun w' H4=>r' y w' H4 Q else Q (.bl false) H3)
theorem ZeR {op op':CmpOp}{r r':R2} (ho:OpR X (compareOp op) r) (ho':OpR X (compareOp op') r') (ha:PE X a ta) (hb:PE X b tb) (hc:PE X c tc)
  (hm:lastMarks [op,op'] [b,c]=false:=by with_unfolding_all rfl):PE X (.Compare a [op,op'] [b,c] pos) (ZlA r r' ta tb tc):=by
 intro pins s σ H Q I h;refine Compare_chain (thn (ha pins s σ H _ I h) fun v s1 ⟨x,H1,I1,r1,q1⟩=>chain_link (thn (hb pins s1 σ H1 _ I1 q1) fun u s2 ⟨y,H2,I2,r2,q2⟩=>
  thn (ho pins s2 σ H2 x y v u _ I2 r1 r2 q2) fun d s3 ⟨z,H3,I3,r3,k,e,q3⟩=>?_)) hm
 subst e;cases r3;refine wpAny_truthy_bool ?_
 cases k with
 | false=>exact ite_ff ⟨.bl false,H3,I3,rfl,q3⟩
 | true=>exact ite_tt (chain_last (thn (hc pins s3 σ H3 _ I3 q3) fun w' s4 ⟨z',H4,I4,r4,q4⟩=>ho' pins s4 σ H4 y z' u w' Q I4 r2 r4 q4))
theorem ZeN {op op':CmpOp}{r r':R2} (ho:OpR X (compareOp op) r) (ho':OpR X (compareOp op') r') (ha:PE X a ta) (hb:PE X b tb) (hc:PE X c tc)
  (hm:lastMarks [op,op'] [b,c]=false:=by with_unfolding_all rfl):PT X (.Compare a [op,op'] [b,c] pos) (Zm1 (ZlA r r' ta tb tc)):=by
 intro pins s σ H Q I h;refine isTrue_chain (thn (ha pins s σ H _ I h) fun v s1 ⟨x,H1,I1,r1,q1⟩=>test_link (thn (hb pins s1 σ H1 _ I1 q1) fun u s2 ⟨y,H2,I2,r2,q2⟩=>
  thn (ho pins s2 σ H2 x y v u _ I2 r1 r2 q2) fun d s3 ⟨z,H3,I3,r3,k,e,q3⟩=>?_)) hm
 subst e;cases r3;refine wpAny_truthy_bool ?_
 cases k with
 | false=>
  obtain⟨k',e',q'⟩:=q3;cases e';exact ite_ff ⟨H3,I3,q'⟩
 | true=>
  refine ite_tt (test_last (thn (hc pins s3 σ H3 _ I3 q3) fun w' s4 ⟨z',H4,I4,r4,q4⟩=>thn (ho' pins s4 σ H4 y z' u w' _ I4 r2 r4 q4) fun d' s5 ⟨z2,H5,I5,r5,k2,e2,q5⟩=>?_));subst e2;cases r5;exact wpAny_truthy_bool ⟨H5,I5,q5⟩
def TruV (K:Yad) (x:V) (H:Hp) (k:Bool):Prop :=
 match x with
 | .non=>k=false
 | .bl b=>k=b
 | .int i=>k=(i != 0)
 | .str y=>y.length<=sizeLine/\k=((y.length:Int) != 0)
 | .byt y=>y.size<=sizeLine/\k=((y.size:Int) != 0)
 | .ref p=>(∃ xs,SqL K H p xs/\k = !xs.isEmpty)∨(∃ xs,SqT K H p xs/\k = !xs.isEmpty)∨∃ kvs,H p=some (.dK kvs)/\k = !kvs.isEmpty
 | _=>False
theorem ZhW {κ:Type}{kvs:List (κ × V)}{vs:List (κ × Value)} (r:KV kvs vs):(!vs.isEmpty) = !kvs.isEmpty:=by
 cases r <;> rfl
theorem Zel {xs:List V}{its:List Value} (r:Vals xs its):(!its.toArray.isEmpty) = !xs.isEmpty:=by
 cases r <;> simp
theorem Zfw:(sizeLine:Nat)<2 ^ 63:=by rw[sizeLine_eq];decide
theorem Zly:TruR X (fun x H Q=>∃ k,TruV X.K x H k/\Q k H):=by
 intro pins s σ H x v Q I rx h;obtain⟨k,e,q⟩:=h;have hl:=Zfw;have hs:sizeLine=16777216:=sizeLine_eq
 cases x with
 | non=>
  cases rx;have e':k=false:=e;subst e';exact truthy_none ⟨H,I,q⟩
 | bl b=>
  cases rx;have e':k=b:=e;subst e';exact wpAny_truthy_bool ⟨H,I,q⟩
 | int i=>
  obtain⟨t,rfl⟩:=rx;have e':k=(i != 0):=e;subst e';exact PySem.P.truthy_int ⟨H,I,q⟩
 | str y=>
  obtain⟨t,rfl⟩:=rx;obtain⟨hy,e'⟩:y.length<=sizeLine/\k=((y.length:Int) != 0):=e;subst e';exact PySem.P.truthy_str (by omega) ⟨H,I.tok _,q⟩
 | byt y=>
  obtain⟨t,rfl⟩:=rx;obtain⟨hy,e'⟩:y.size<=sizeLine/\k=((y.size:Int) != 0):=e;subst e';exact PySem.W.truthy_bytes (by omega) ⟨H,I.tok _,q⟩
 | ref p=>
  cases rx;have e':(∃ xs,SqL X.K H p xs/\k = !xs.isEmpty)∨(∃ xs,SqT X.K H p xs/\k = !xs.isEmpty)∨∃ kvs,H p=some (.dK kvs)/\k = !kvs.isEmpty:=e;rcases e' with ⟨xs,hx,e'⟩ | ⟨xs,hx,e'⟩ | ⟨kvs,hx,e'⟩
  ·subst e';obtain⟨its,r,pl,hz⟩:=I.list hx;have hlen:=r.length;exact wpAny_truthy_list pl.isList (by simp only[Yal];omega) ⟨H,I.tok _,by rw[Zel r];exact q⟩
  ·subst e';obtain⟨its,r,pl,hz⟩:=I.tuple hx;have hlen:=r.length;exact truthy_tuple pl (by simp only[Yal];omega) ⟨H,I.tok _,by rw[Zel r];exact q⟩
  ·subst e';obtain⟨hz,hS,vs,r,m⟩:kvs.length<=sizeLine/\(p == sysModules)=false/\∃ vs,KV kvs vs/\s.heap.DictOf (Zgw X.prog X.w) p vs:=I.hok p _ hx;have hlen:kvs.length=vs.length:=Paired.length r;exact wpAny_truthy_dict hS m (by omega) ⟨H,I.tok _,by rw[ZhW r];exact q⟩
 | _=>exact (show False from e).elim
theorem Zde (ha:PE X a ta) (he:∀ whole,isTrue a X.env whole=(do let v <- whole;standAt a.pos;holding [v] (truthy v))) :
  PT X a (fun σ H Q=>ta σ H fun x H'=>∃ k,TruV X.K x H' k/\Q k H'):=by
 intro pins s σ H Q I h;exact isTrue_plain (thn (ha pins s σ H _ I h) fun v s1 ⟨x,H1,I1,r1,q1⟩=>Zly pins s1 σ H1 x v Q I1 r1 q1) (he _)
theorem Zb6 {x:V}{us:List Value} (r:Vals [x] us):∃ u,us=[u]/\RelV x u:=by
 cases r with
 | cons r1 r2=>cases r2;exact⟨_,rfl,r1⟩
theorem Zib {x y:V}{us:List Value} (r:Vals [x,y] us):∃ u w',us=[u,w']/\RelV x u/\RelV y w':=by
 cases r with
 | cons r1 r2=>
  cases r2 with
  | cons r3 r4=>cases r4;exact⟨_,_,rfl,r1,r3⟩
theorem Zhn:Zbf X (.builtin "abs") (fun xs H Q=>∃ i,xs=[.int i]/\Q (.int (if i<0 then -i else i)) H):=by
 intro pins s σ H xs us Q I r h;obtain⟨i,rfl,q⟩:=h;obtain⟨u,rfl,t,rfl⟩:=Zb6 r;exact call_abs_int fun u tk=>⟨.int (if i<0 then -i else i),H,I.tok _,⟨_,rfl⟩,q⟩
theorem Zj6 (hc:X.calm=true):Zbf X (.builtin "max") (fun xs H Q=>∃ i j,xs=[.int i,.int j]/\Q (.int (if j > i then j else i)) H):=by
 intro pins s σ H xs us Q I r h;obtain⟨i,j,rfl,q⟩:=h;obtain⟨u,w',rfl,⟨t,rfl⟩,⟨t',rfl⟩⟩:=Zib r;refine max_two_ints (I.ok.hd hc) fun h' tk k=>⟨_,H,I.kept k,?_,q⟩
 by_cases hj:j > i
 ·rw[if_pos hj,if_pos hj];exact⟨_,rfl⟩
 ·rw[if_neg hj,if_neg hj];exact⟨_,rfl⟩
theorem Zj4 (hc:X.calm=true):Zbf X (.builtin "min") (fun xs H Q=>∃ i j,xs=[.int i,.int j]/\Q (.int (if j<i then j else i)) H):=by
 intro pins s σ H xs us Q I r h;obtain⟨i,j,rfl,q⟩:=h;obtain⟨u,w',rfl,⟨t,rfl⟩,⟨t',rfl⟩⟩:=Zib r;refine min_two_ints (I.ok.hd hc) fun h' tk k=>⟨_,H,I.kept k,?_,q⟩
 by_cases hj:j<i
 ·rw[if_pos hj,if_pos hj];exact⟨_,rfl⟩
 ·rw[if_neg hj,if_neg hj];exact⟨_,rfl⟩
end
end L2
namespace L2
open PySem PySem.Spec PyProof.Rows
structure ObjM (h:Heap) (x dx C:Addr) (mA:Str->Option Value):Prop where
 obj:h.get? x=some (Yd7 C dx)
 ns:h.Ns1 dx mA
 ne:dx≠x
theorem Zjr {h:Heap}{dx:Addr}{mA:Str->Option Value} (n:h.Ns1 dx mA):∃ od,h.get? dx=some od/\∀ name,Yei name od=some (mA name):=by
 obtain⟨o,es,ep,ho,hd,hk,_,hm⟩:=n;refine⟨o,ho,fun name=>?_⟩;have e:=hm name;unfold nsFind findBy at e;rw[<- Array.find?_toList] at e;unfold Yei;rw[hd];dsimp only;split
 ·rename_i y q;rw[q] at e;exact congrArg some e
 ·rename_i q;rw[q] at e;have a:es.toList.any (·.refKey)=false:=by
   rw[List.any_eq_false];intro y hy;obtain⟨z,t,hkey⟩:=hk y (Array.mem_toList_iff.mp hy);simp[DictEntry.refKey,hkey]
  have a':¬ es.toList.any (·.refKey)=true:=by rw[a];exact YaZ
  rw[if_neg a'];exact congrArg some e
theorem ObjM.look {h:Heap}{x dx C:Addr}{mA:Str->Option Value} (I:ObjM h x dx C mA):∃ od,PySem.W.InstAt h x (Yd7 C dx) C (some od)/\∀ name,Yei name od=some (mA name) :=
 let ⟨od,ho,hl⟩:=Zjr I.ns
 ⟨od,⟨I.obj,rfl,rfl,ho⟩,hl⟩
section
variable {prog:Program}{w:World}{A:Around}{E:Value->Shared->Prop}{s:Shared}{K:Yad}{x dx C f:Addr}{mA:Str->Option Value}{name:Str}{v:Value}
end
section
variable {P:Program}{w:World}{H H':Hp}{h h':Heap}{a C dx:Addr}{fs fs':List (Str × V)}
theorem ZmN (hok:HOk P w H h) (e:H a=some (.ins C dx fs)):∃ mA,ObjM h a dx C mA/\(∀ f,RelO (fs.lookup f) (mA f))/\PySem.Within mA (fs.map (·.1))/\fs.length<=1000/\H dx=some (.own a):=by
 obtain⟨d,z,ne,ob,mA,n,r,q⟩:=(show ObjOk P w H h a (.ins C dx fs) from hok a _ e)
 exact⟨mA,⟨ob,n,ne⟩,r,q,z,d⟩
end
structure Cls (K:Yad) (C:Addr):Prop where
 pg:Yfa K C YdW=true
 hd:PySem.W.hasDictIn K C=true
 po:PySem.W.plainOver K C=true
 sa:Yc4 K (.ref C) "__setattr__"=some (some (.builtin "object.__setattr__"))
theorem Cls.get {K:Yad}{C:Addr} (c:Cls K C) (f:Str):Yfa K C f=true:=c.pg
structure Con (K:Yad) (C:Addr) (f:Str) (v:V) (u:Value):Prop where
 at_:Yc4 K (.ref C) f=some (some u)
 rel:RelV v u
 get:Ye0 K u "__get__"=some none
 cp:PySem.W.copiedNames.contains f=false
structure Meth (K:Yad) (C:Addr) (m:Str) (f:Addr):Prop where
 at_:Yc4 K (.ref C) m=some (some (.ref f))
 fn:PySem.W.isFn K (.ref f)=true
 kp:Yao K (.ref f)=true
section
variable {X:Cx}{pins:List (Addr × Obj)}{σ:St}{H:Hp}{s:Shared}{a C dx:Addr}{fs:List (Str × V)}{f:Str}{v:V}{A:Around}{E:Value->Shared->Prop}
end
section
variable {X:Cx}{o e value:Expr}{f:Str}{pos pos' tpos:Pos}{ta tv:TE}
end
section
variable {X:Cx}{pins:List (Addr × Obj)}{σ:St}{H:Hp}{s:Shared}{A:Around}{E:Value->Shared->Prop}{Q:Value->Shared->Prop}{c:Value}{b:Bool}
inductive TyOf (K:Yad) (H:Hp):V->Value->Prop where
 | non:TyOf K H .non (.type "NoneType")
 | bl (x:Bool):TyOf K H (.bl x) (.type "bool")
 | int (i:Int):TyOf K H (.int i) (.type "int")
 | str (x:Str):TyOf K H (.str x) (.type "str")
 | flt (x:UInt64):TyOf K H (.flt x) (.type "float")
 | lst {a:Addr}{xs:List V} (e:H a=some (.lst xs)):TyOf K H (.ref a) (.type "list")
 | frz {a:Addr}{o:Obj}{xs:List V} (e:H a=some (.frz o (.lst xs))):TyOf K H (.ref a) (.type "list")
 | tup {a:Addr}{xs:List V} (e:H a=some (.tup xs)):TyOf K H (.ref a) (.type "tuple")
 | dK {a:Addr}{kvs:List (Key × V)} (e:H a=some (.dK kvs)):TyOf K H (.ref a) (.type "dict")
 | dT {a:Addr}{kvs:List (List Key × V)} (e:H a=some (.dT kvs)):TyOf K H (.ref a) (.type "dict")
 | ins {a C dx:Addr}{fs:List (Str × V)} (e:H a=some (.ins C dx fs)) (cl:Cls K C) (ha:Yc4 K (.ref C) "__class__"=some (some (.builtin "object.__class__")))
   (hn:Ye0 K (.builtin "object.__class__") "__get__"=some (some (.builtin "getset_descriptor.__get__"))) (htk:PySem.W.takesIn K (.builtin "object.__class__")=some true)
   (hm:PySem.W.mroIn K C (.type "object")=some true):TyOf K H (.ref a) (.ref C)
theorem ZjE {x:V}{u t:Value} (I:Inv X pins σ H s) (rx:RelV x u) (ty:TyOf X.K H x t) (e:Yc3 X.K t c=some b) (h:∀ tk,Q (.bool b) { s with toks:=tk }) :
  wpAny (model X.prog X.w) A (call (.builtin "isinstance") [u,c]) Q E s:=by
 cases ty with
 | non=>cases (show u=Ycu from rx);exact YbQ PySem.W.kitx_none I.kIn Yd1 e (fun z=>nomatch z) h
 | bl y=>cases (show u=Ydv y from rx);exact YbQ PySem.W.kitx_bool I.kIn Yd1 e (fun z=>nomatch z) h
 | int i=>obtain⟨t,q⟩:=(show ∃ t,u=Yeh i t from rx);cases q;exact YbQ PySem.W.kitx_int I.kIn Yd1 e (fun z=>nomatch z) h
 | str y=>obtain⟨t,q⟩:=(show ∃ t,u=Yeg y t from rx);cases q;exact YbQ PySem.W.kitx_str I.kIn Yd1 e (fun z=>nomatch z) h
 | flt y=>obtain⟨t,q⟩:=(show ∃ t,u=Value.float y t from rx);cases q;exact YbQ PySem.W.kitx_float I.kIn Yd1 e (fun z=>nomatch z) h
 | @lst a xs ea=>
  cases (show u=YbH a from rx);obtain⟨_,_,n,_,h1⟩:=(show ObjOk X.prog X.w H s.heap a (.lst xs) from I.hok a _ ea)
  exact YbQ Ye1 I.kIn ⟨_,h1,rfl⟩ e (fun z=>nomatch z) h
 | @frz a ob xs ea=>
  cases (show u=YbH a from rx);obtain⟨_,_,_,n,_,h1⟩:=(show ObjOk X.prog X.w H s.heap a (.frz ob (.lst xs)) from I.hok a _ ea)
  exact YbQ Ye1 I.kIn ⟨_,h1,rfl⟩ e (fun z=>nomatch z) h
 | @tup a xs ea=>
  cases (show u=YbH a from rx);obtain⟨_,_,_,p⟩:=(show ObjOk X.prog X.w H s.heap a (.tup xs) from I.hok a _ ea)
  obtain⟨o,h1,h2,_⟩:=p;exact YbQ PySem.W.kitx_tuple I.kIn ⟨o,h1,h2⟩ e (fun z=>nomatch z) h
 | @dK a kvs ea=>
  cases (show u=YbH a from rx);obtain⟨_,_,vs,_,p⟩:=(show ObjOk X.prog X.w H s.heap a (.dK kvs) from I.hok a _ ea)
  obtain⟨o,es,ep,h1,h2,_⟩:=p;exact YbQ Ye2 I.kIn ⟨o,h1,h2.1⟩ e (fun z=>nomatch z) h
 | @dT a kvs ea=>
  cases (show u=YbH a from rx);obtain⟨_,_,xs,_,o,es,ep,h1,h2,_⟩:=(show ObjOk X.prog X.w H s.heap a (.dT kvs) from I.hok a _ ea)
  exact YbQ Ye2 I.kIn ⟨o,h1,h2.1⟩ e (fun z=>nomatch z) h
 | @ins a C dx fs ea cl ha hn htk hm=>
  cases (show u=YbH a from rx);obtain⟨mA,O,_⟩:=ZmN I.hok ea;obtain⟨od,J,_⟩:=O.look;exact YbQ (PySem.W.kitx_own (cl.get _) cl.hd ha hn htk hm) I.kIn J e (fun z=>nomatch z) h
end
end L2
namespace L2
open PySem PySem.Spec PyProof.Rows
structure Room (k:Nat) (A:Around):Prop where
 hd:A.handled=none
 dp:A.depth+3*k+5<recursionLimit
 un:A.units+16*k+200<cLine
 gd:A.guards=some []
theorem Room.mono {j k:Nat}{A:Around} (r:Room k A) (h:j<=k):Room j A:=⟨r.hd,by have:=r.dp;omega,by have:=r.un;omega,r.gd⟩
theorem Room.deeper {k:Nat}{A:Around} (r:Room (k+1) A) (env:Env):Room k (A.deeper env) :=
 ⟨r.hd,by have:=r.dp;show A.depth+1+3*k+5<_;omega,by have:=r.un;show A.units+3+16*k+200<_;omega,r.gd⟩
theorem Room.depth {k:Nat}{A:Around} (r:Room k A):A.depth<recursionLimit:=by have:=r.dp;omega
theorem Room.units {k:Nat}{A:Around} (r:Room k A):A.units+64<cLine:=by have:=r.un;omega
def tNil:TA:=fun _ H Q=>Q [] H
def Zkj (ta:TE) (tr:TA):TA:=fun σ H Q=>ta σ H fun x H1=>tr σ H1 fun xs H2=>Q (x::xs) H2
section
variable {X:Cx}{e:Expr}{es:List Expr}{te:TE}{t:TA}{pos:Pos}
theorem Zad:PA X [] tNil:=fun _ _ _ _ H Q I h=>Calls.spliced_nil ⟨[],H,I,.nil,h⟩
theorem Zaa (ha:PE X e te) (hr:PA X es t) (hs:starEach (e::es) X.env=(false,eval e X.env)::starEach es X.env:=by rfl):PA X (e::es) (Zkj te t):=by
 intro pos pins s σ H Q I h;rw[hs];show wpAny _ _ (spliced ((false,eval e X.env)::backTo pos (starEach es X.env))) _ _ s;refine Calls.spliced_cons (thn (ha pins s σ H _ I h) fun u s1 ⟨x,H1,I1,r1,q1⟩=>?_);exact thn (hr pos pins s1 σ H1 _ I1 q1) fun us s2 ⟨xs,H2,I2,r2,q2⟩=>⟨x::xs,H2,I2,.cons r1 r2,q2⟩
def tTup (t:TA):TE:=fun σ H Q=>t σ H fun xs H1=>xs.length<=sizeLine/\∀ p,H1 p=none->Q (.ref p) (upd H1 p (.tup xs))
def tLst (t:TA):TE:=fun σ H Q=>t σ H fun xs H1=>xs.length<=sizeLine/\∀ p,H1 p=none->Q (.ref p) (upd H1 p (.lst xs))
theorem Za6 {x1} (h:PA X es t):PE X (.Tuple es x1 pos) (tTup t):=by
 intro pins s σ H Q I hq;refine wpAny_Tuple_spliced (thn (h pos pins s σ H _ I hq) fun us s1 ⟨xs,H1,I1,r,z,q⟩=>⟨by rw[<- r.length];exact z,?_⟩);have hf:H1 s1.heap.objs.size=none:=I1.hok.fresh (Yap _);refine⟨.ref s1.heap.objs.size,upd H1 s1.heap.objs.size (.tup xs),I1.laid (t':=s1.toks) (fun b u e=>Yae _ e) (Yap _) ?_,rfl,q _ hf⟩;exact⟨z,us,r,⟨_,YaC _ rfl,rfl,rfl,_,rfl⟩⟩
theorem ZaM (h:PA X es t):PE X (.List es pos) (tLst t):=by
 intro pins s σ H Q I hq;refine wpAny_List_spliced (thn (h pos pins s σ H _ I hq) fun us s1 ⟨xs,H1,I1,r,z,q⟩=>⟨by rw[<- r.length];exact z,?_⟩);have hf:H1 s1.heap.objs.size=none:=I1.hok.fresh (Yap _);refine⟨.ref s1.heap.objs.size,upd H1 s1.heap.objs.size (.lst xs),I1.laid (t':=s1.toks) (fun b u e=>Yae _ e) (Yap _) ?_,rfl,q _ hf⟩;exact⟨z,us,0,r,YaC _ rfl⟩
end
abbrev Sp:=List V->Hp->VK->XK->Prop
abbrev CXT:=List Env->Hp->Shared->XK->Value->Shared->Prop
structure Env0 (P:Program) (w:World) (K:Yad) (mg:Str->Option Value) (base:Heap) (A:Around) (outer:List Env) (s:Shared) (H:Hp):Prop where
 frames:A.frames=some outer
 mod:Mod K mg base
 bs:∀ b o,base.get? b=some o->s.heap.get? b=some o/\H b=none
 bsz:base.objs.size<=s.heap.objs.size
 funs:s.heap.FunFrames base outer
 frf:∀ b∈frs outer,H b=none
 hok:HOk P w H s.heap
 bare:AllBare s.gens
def CE (outer:List Env) (P:Program) (w:World) (H:Hp) (s:Shared) (Q:VK) (u:Value) (s':Shared):Prop :=
 ∃ v H',s'.os=s.os/\AllBare s'.gens/\Un (frs outer) [] H H' s.heap s'.heap/\HOk P w H' s'.heap/\RelV v u/\Q v H'
def CR (CX:CXT) (outer:List Env) (P:Program) (w:World) (H:Hp) (s:Shared) (Q:VK) (E:XK) (r:Result) (s':Shared):Prop :=
 match r with
 | .ok (.ret u)=>CE outer P w H s Q u s'
 | .ok _=>False
 | .error e=>CX outer H s E e s'
structure FnOk (P:Program) (w:World) (K:Yad) (mg:Str->Option Value) (base:Heap) (CX:CXT) (k:Nat) (f:Addr) (fd:FuncData) (ps:List Str) (sp:Sp):Prop where
 len:∀ vs H Q E,sp vs H Q E->vs.length=ps.length
 run:∀ (A:Around) (outer:List Env) (s:Shared) (H:Hp) (args:Args) (us:List Value) (vs:List V) (Q:VK) (E:XK),Room k A->Env0 P w K mg base A outer s H->BindsTo s fd args (ps.zip us)->Vals vs us->sp vs H Q E ->
  codeAny (model P w) A (.call (.ref f) args) (CR CX outer P w H s Q E) s
theorem FnOk.mono {P:Program}{w:World}{K:Yad}{mg:Str->Option Value}{base:Heap}{CX:CXT}{j k:Nat}{f:Addr}{fd:FuncData}{ps:List Str}{sp:Sp} (F:FnOk P w K mg base CX j f fd ps sp) (h:j<=k) :
  FnOk P w K mg base CX k f fd ps sp:=⟨F.len,fun A outer s H args us vs Q E hr=>F.run A outer s H args us vs Q E (hr.mono h)⟩
section
variable {X:Cx}{pins:List (Addr × Obj)}{σ:St}{H:Hp}{s s':Shared}
theorem Inv.env0 (I:Inv X pins σ H s):Env0 X.prog X.w X.K X.mg X.base X.A X.stack s H :=
 ⟨I.ok.frames,I.ok.mod,I.bs,Ybm I.ok.bsz I.sz,I.stack,I.stkFree,I.hok,I.bare⟩
theorem Inv.after {Q:VK}{u:Value} (I:Inv X pins σ H s) (h:CE X.stack X.prog X.w H s Q u s'):EP X pins σ Q u s':=by
 obtain⟨v,H',os,bare,un,hok,r,q⟩:=h;obtain⟨hh,g,d,t,os'⟩:=s';obtain rfl:os'=s.os:=os;exact⟨v,H',I.call (h':=hh) (g':=g) (d':=d) (t':=t) (ch:=[]) un hok bare (fun b z=>absurd z (by simp)),r,q⟩
end
def Zil (sp:Sp) (dvs:List V) (E:XK) (t:TA):TE:=fun σ H Q=>t σ H fun vs H1=>sp (vs++dvs) H1 Q E
def Binds (K:Yad) (fd:FuncData) (ps:List Str) (ds:List Value):Prop :=
 ∀ (s:Shared) (us:List Value),K.In s.heap->(us++ds).length=ps.length->BindsTo s fd ⟨us,[]⟩ (ps.zip (us++ds))
theorem Binds.all {K:Yad}{fd:FuncData}{ps:List Str} (h:∀ us:List Value,us.length=ps.length->bindArgs fd ⟨us,[]⟩=pure (ps.zip us)):Binds K fd ps []:=fun s us _ hl=>by
 rw[Ya4] at hl ⊢;exact .of_eq (h us hl)
def Zkd (CX:CXT) (X:Cx) (E:XK):Prop:=∀ (pins:List (Addr × Obj)) (σ:St) (H:Hp) (s:Shared) (e:Value) (s':Shared),Inv X pins σ H s->CX X.stack H s E e s'->X.xe e s'
section
variable {X:Cx}{CX:CXT}{k:Nat}{f C:Addr}{fd:FuncData}{ps:List Str}{sp:Sp}{dvs:List V}{ds:List Value}{E:XK}{x m:Str}{p pos apos:Pos}{e o:Expr}{es:List Expr}{ta:TE}{t:TA}
theorem ZlE {pins:List (Addr × Obj)}{σ:St}{H:Hp}{s:Shared}{Q:VK}{us:List Value}{vs:List V} (F:FnOk X.prog X.w X.K X.mg X.base CX k f fd ps sp) (hr:Room k X.A) (hb:Binds X.K fd ps ds) (hd:Vals dvs ds) (hx:Zkd CX X E)
  (I:Inv X pins σ H s) (r:Vals vs us) (h:sp (vs++dvs) H Q E):wpAny (model X.prog X.w) X.A (call (.ref f) us) (EP X pins σ Q) X.xe s:=by
 have r2:Vals (vs++dvs) (us++ds):=r.append hd;have hl:(us++ds).length=ps.length:=by rw[<- r2.length];exact F.len _ _ _ _ h
 refine wpAny_call (codeAny_mono (F.run X.A X.stack s H ⟨us,[]⟩ (us++ds) (vs++dvs) Q E hr I.env0 (hb s us I.kIn hl) r2 h) fun r s' hq=>?_)
 cases r with
 | error e=>exact hx pins σ H s e s' I hq
 | ok fl=>
  cases fl with
  | ret u=>exact I.after hq
  | next=>exact YcE hq
  | brk=>exact YcE hq
  | cont=>exact YcE hq
theorem ZiU (F:FnOk X.prog X.w X.K X.mg X.base CX k f fd ps sp) (hr:Room k X.A) (hg:Gl X x) (hm:X.mg x=some (.ref f)) (hk:Yao X.K (.ref f)=true) (hb:Binds X.K fd ps ds) (hd:Vals dvs ds) (hx:Zkd CX X E)
  (ha:PA X (e::es) t) (hdb:(x == ("__debug__":Str))=false:=by decide) (he:starEach (e::es) X.env=(false,eval e X.env)::starEach es X.env:=by rfl) (hpl:(backTo pos (starEach es X.env)).any (·.1)=false:=by rfl) :
  PE X (.Call (.Name x p) (e::es) [] pos) (Zil sp dvs E t):=by
 intro pins s σ H Q I h;refine wpAny_Call_Name_kw (Zjw I hg hm ?_ hdb);refine YeS (h₀:=X.base) I.ok.mod.kin hk (thn (ha pos pins s σ H _ I h) fun us s1 ⟨vs,H1,I1,r,q⟩=>⟨I1.kIn,?_⟩) he hpl;exact ZlE F hr hb hd hx I1 r q
structure Mk (K:Yad) (C f:Addr):Prop where
 makes:PySem.W.makesIn K C=true
 init:Yc4 K (.ref C) "__init__"=some (some (.ref f))
 fn:PySem.W.isFn K (.ref f)=true
 kp:Yao K (.ref C)=true
end
section
variable {X:Cx}{CX:CXT}{k:Nat}{f C:Addr}{fd:FuncData}{ps ks:List Str}{sp:Sp}{E:XK}{x m:Str}{p pos apos kpos:Pos}{e o:Expr}{es:List Expr}{kws:List Keyword}{te ta:TE}{t tk:TA}{nm:Option Str}
structure KBinds (K:Yad) (fd:FuncData) (ps ks:List Str) (g:List Value->List Value->List Value) (gV:List V->List V->List V):Prop where
 to:∀ (s:Shared) (us ws:List Value),K.In s.heap->(g us ws).length=ps.length->BindsTo s fd ⟨us,ks.zip ws⟩ (ps.zip (g us ws))
 rel:∀ {vs:List V}{us:List Value}{zs:List V}{ws:List Value},Vals vs us->Vals zs ws->Vals (gV vs zs) (g us ws)
variable {g:List Value->List Value->List Value}{gV:List V->List V->List V}
end
structure FnScope (N P:List Str) (sc:Scope):Prop where
 kind:sc.kind=.function
 co:sc.isCoroutine=false
 gen:sc.isGenerator=false
 nd:N.Nodup
 pre:N.take P.length=P
 par:∀ x∈P,sc.names.lookup x=some .local ∨ sc.names.lookup x=some .cell
 nofree:∀ y∈sc.names,y.2≠.free
theorem ZfQ {kindOf:Str->Option NameKind}{x:Str}:∀ {binds:List (Str × Value)}{m:Str->Option Value},(∀ v,(x,v) ∉ binds)->bindL kindOf binds m x=m x
 | [],_,_=>rfl
 | (n,v)::r,m,h=>by
  unfold bindL;rw[ZfQ fun w hw=>h w (Yas _ hw)];split
  ·have:x≠n:=by rintro rfl;exact h v Yay
   simp[this]
  ·rfl
theorem ZfS {kindOf:Str->Option NameKind}{x:Str}:∀ {binds:List (Str × Value)}{m:Str->Option Value},(∀ v,(x,v) ∉ binds)->bindC kindOf binds m x=m x
 | [],_,_=>rfl
 | (n,v)::r,m,h=>by
  unfold bindC;rw[ZfS fun w hw=>h w (Yas _ hw)];split
  ·rfl
  ·have:x≠n:=by rintro rfl;exact h v Yay
   simp[this]
theorem ZfR {kindOf:Str->Option NameKind}{x:Str}{v:Value}:∀ {P:List Str}{vs:List Value}{i:Nat}{m:Str->Option Value},P.Nodup->P[i]?=some x->vs[i]?=some v->kindOf x=some .local ->
  bindL kindOf (P.zip vs) m x=some v
 | [],_,_,_,_,h,_,_=>by simp at h
 | _::_,[],_,_,_,_,h,_=>by simp at h
 | p::P,w::vs,0,m,nd,h1,h2,hk=>by
  simp at h1 h2;subst h1;subst h2;show bindL kindOf ((p,w)::P.zip vs) m p=_;unfold bindL;rw[ZfQ fun v hv=>(YbY.mp nd).1 (Yep hv).1,if_pos hk];simp
 | p::P,w::vs,i+1,m,nd,h1,h2,hk=>by
  show bindL kindOf ((p,w)::P.zip vs) m x=_;unfold bindL;exact ZfR (i:=i) (YbY.mp nd).2 (by simpa using h1) (by simpa using h2) hk
theorem ZfT {kindOf:Str->Option NameKind}{x:Str}{v:Value}:∀ {P:List Str}{vs:List Value}{i:Nat}{m:Str->Option Value},P.Nodup->P[i]?=some x->vs[i]?=some v->kindOf x≠some .local ->
  bindC kindOf (P.zip vs) m x=some v
 | [],_,_,_,_,h,_,_=>by simp at h
 | _::_,[],_,_,_,_,h,_=>by simp at h
 | p::P,w::vs,0,m,nd,h1,h2,hk=>by
  simp at h1 h2;subst h1;subst h2;show bindC kindOf ((p,w)::P.zip vs) m p=_;unfold bindC;rw[ZfS fun v hv=>(YbY.mp nd).1 (Yep hv).1,if_neg hk];simp
 | p::P,w::vs,i+1,m,nd,h1,h2,hk=>by
  show bindC kindOf ((p,w)::P.zip vs) m x=_;unfold bindC;exact ZfT (i:=i) (YbY.mp nd).2 (by simpa using h1) (by simpa using h2) hk
def start (N:List Str) (vs:List V):St:=vs.map some++Yan (N.length - vs.length) none
def cxOf (CX:CXT) (P:Program) (w:World) (K:Yad) (mg:Str->Option Value) (base:Heap) (N:List Str) (qual:Str) (scope:Scope) (f:Addr) (cd:Value) (A:Around) (outer:List Env) (s:Shared) (H:Hp) (E:XK):Cx where
 prog:=P
 w:=w
 K:=K
 mg:=mg
 base:=base
 A:=A.deeper (envOfC qual scope s.heap.objs.size f cd)
 N:=N
 s₀:=s
 H₀:=H
 env:=envOfC qual scope s.heap.objs.size f cd
 outer:=outer
 stack:=envOfC qual scope s.heap.objs.size f cd::outer
 ex:=[]
 calm:=true
 fn:=fun _=>true
 pn:=[]
 xe:=fun e s'=>wpAny (model P w) (A.deeper (envOfC qual scope s.heap.objs.size f cd)) (leaving (envOfC qual scope s.heap.objs.size f cd) e) (fun _ s''=>CX outer H s E e s'') (fun e' s''=>CX outer H s E e' s'') s'
theorem Zhl {sc:Scope}{n:Nat}{x:Str} (h:sc.names.lookup x=some .cell):∃ c,(cellsFrom n sc.names []).lookup x=some c:=by
 have q:=YeC sc.names n [] (.inl h);exact Option.isSome_iff_exists.mp q
theorem ZjF {CX:CXT}{P:Program}{w:World}{K:Yad}{mg:Str->Option Value}{base:Heap}{N ps:List Str}{qual:Str}{scope:Scope}{f:Addr}{cd:Value}{A:Around}{outer:List Env}{s s1:Shared}{H:Hp}{E:XK}{us:List Value}{vs:List V}
  (S:FnScope N ps scope) (hd:A.handled=none) (e0:Env0 P w K mg base A outer s H) (hl:vs.length=ps.length) (r:Vals vs us)
  (x:InCallC s s.heap.objs.size (bindL (envOfC qual scope s.heap.objs.size f cd).kindOf (ps.zip us) fun _=>none) (cellsFrom (s.heap.objs.size+1) scope.names []) (bindC (envOfC qual scope s.heap.objs.size f cd).kindOf (ps.zip us) fun _=>none) s1) :
  Inv (cxOf CX P w K mg base N qual scope f cd A outer s H E) [] (start N vs) H s1:=by
 have hpl:ps.length<=N.length:=by have:=congrArg Ya8 S.pre;rw[Yav] at this;omega
 obtain⟨h1,tk,rfl,hk⟩:=x.done;have noA:∀ b:Addr,b ∉ (cxOf CX P w K mg base N qual scope f cd A outer s H E).ex:=fun b z=>absurd (show b∈([]:List Addr) from z) (by simp);refine⟨⟨e0.mod,S.kind,rfl,rfl,Yap _,fun y z c h1 h2=>?_,fun y hy=>?_,fun y c _ h=>?_,fun _=>hd,Around.frames_deeper e0.frames,.inr ⟨rfl,rfl⟩,fun b z=>absurd z (noA b),e0.bs,e0.bsz,fun b _ _=>noA b,fun b z=>absurd z (noA b),e0.funs,e0.frf⟩,
  rfl,e0.bare,Un.kept hk,⟨_,x.toInCall.ns,fun i y v h1 h2 h3=>?_⟩,fun y c h=>⟨_,x.cell y c h⟩,e0.hok.fresh (Yap _),fun y c h=>?_,fun p hp=>absurd (show p∈([]:List (Addr × Obj)) from hp) (by simp),e0.hok.kept hk,?_⟩
 ·exact name_of_addr x.apart (YbW h1) (YbW h2)
 ·have hy:scope.names.lookup y=some .cell∨scope.names.lookup y=some .free:=hy;rcases hy with hy | hy
  ·exact Zhl hy
  ·exact absurd rfl (S.nofree _ (YbW hy))
 ·exact Ybv (x.above y c (YbW h))
 ·have hi:i<vs.length:=by
   unfold start at h2;by_cases hi:i<vs.length
   ·exact hi
   ·rw[YaG (by simpa using hi)] at h2;rw[YcG] at h2;split at h2 <;> cases h2
  have ha:vs[i]?=some v:=by
   unfold start at h2;rw[Yaz (by simpa using hi),Yaf] at h2
   cases e:vs[i]? with
   | none=>rw[e] at h2;cases h2
   | some a=>rw[e] at h2;cases h2;rfl
  obtain⟨u,hu,rv⟩:=r.get ha;have hp:ps[i]?=some y:=by
   rw[<- S.pre,Ycg (by omega)];exact h1
  have ndP:ps.Nodup:=by rw[<- S.pre];exact S.nd.sublist (Yd3 _ _)
  refine⟨u,rv,?_⟩;rcases S.par y (Yam hp) with k | k
  ·exact .inl ⟨k,ZfR ndP hp hu k⟩
  ·obtain⟨c,e⟩:=Zhl (n:=s.heap.objs.size+1) k;refine .inr ⟨.inl k,c,e,?_⟩;have q:=x.cell y c e;rw[ZfT ndP hp hu (by show scope.names.lookup y≠_;rw[k];decide)] at q;exact q
 ·exact e0.hok.fresh (Ybv (x.above y c (YbW h)))
 ·unfold start;show _=N.length;rw[Yag,Yaa,Ycr];omega
theorem ZnQ {CX:CXT}{P:Program}{w:World}{K:Yad}{mg:Str->Option Value}{base:Heap}{k:Nat}{f:Addr}{name qual:Str}{params:Arguments}{body:List Stmt}{scope:Scope}{dV kV doc pm cdv ct oc:Value}{an od:Option Addr}
  {osl:Array (Option Value)}{N ps:List Str}{sp:Sp} (lk:K.lookup f=some ⟨oc,od,.func (YaA name qual params body scope dV kV doc pm an cdv ct),osl⟩) (hcd:Yat K cdv qual=true) (S:FnScope N ps scope)
  (len:∀ vs H Q E,sp vs H Q E->vs.length=ps.length)
  (hbody:∀ (A:Around) (outer:List Env) (s:Shared) (H:Hp) (vs:List V) (Q:VK) (E:XK),Room k (A.deeper (envOfC qual scope s.heap.objs.size f cdv))->sp vs H Q E ->
   ∃ t,PSs (cxOf CX P w K mg base N qual scope f cdv A outer s H E) body t/\t { nx:=fun _ H'=>Q .non H',rt:=Q } (start N vs) H) :
  FnOk P w K mg base CX (k+1) f (YaA name qual params body scope dV kV doc pm an cdv ct) ps sp:=by
 refine⟨len,fun A outer s H args us vs Q E hr e0 hb r hsp=>?_⟩;have hl:=len _ _ _ _ hsp;have KX:K.In s.heap:=e0.mod.kin.keeps fun b o e=>(e0.bs b o e).1
 have lim:s.heap.NoLimit:=e0.mod.nolimit.keeps fun b o e=>(e0.bs b o e).1
 have hkind:∀ y∈ps.zip us,scope.names.lookup y.1=some .local ∨ (scope.names.lookup y.1=some .cell/\((cellsFrom (s.heap.objs.size+1) scope.names []).lookup y.1).isSome=true):=fun ⟨n,v⟩ hy=>by
  rcases S.par n (Yep hy).1 with q | q
  ·exact .inl q
  ·exact .inr ⟨q,YeC _ _ _ (.inl q)⟩
 refine codeAny_call_function hr.depth (KX _ _ lk) rfl S.co S.gen rfl (PySem.W.codeRec_of KX hcd) (hb _ _ _ _ ?_);refine wpAny_newFunctionEnv_cells S.kind hkind fun env he s1 x=>?_;subst he;refine⟨lim.keeps x.toInCall.keep,codeAny_func ?_⟩;obtain⟨t,ht,hq⟩:=hbody A outer s H vs Q E (hr.deeper _) hsp;have I:Inv (cxOf CX P w K mg base N qual scope f cdv A outer s H E) [] (start N vs) H s1:=ZjF S hr.hd e0 hl r x;refine wpAny_mono (ht [] s1 (start N vs) H _ I hq) (fun fl s' hs=>?_) fun e s' hs=>hs;have fin:∀ {σ':St}{H':Hp}{v:V}{u:Value},Inv (cxOf CX P w K mg base N qual scope f cdv A outer s H E) [] σ' H' s'->RelV v u->Q v H'->CE outer P w H s Q u s' :=
  fun {σ' H' v u} J rv q=>⟨v,H',J.os,J.bare,J.base,J.hok,rv,q⟩
 cases fl with
 | ret u=>
  obtain⟨v,σ',H',J,rv,q⟩:=hs;exact fin J rv q
 | next=>
  obtain⟨σ',H',J,q⟩:=hs;exact fin (v:=V.non) (u:=Ycu) J rfl q
 | brk=>
  obtain⟨_,_,_,q⟩:=hs;exact YcE q
 | cont=>
  obtain⟨_,_,_,q⟩:=hs;exact YcE q
end L2
namespace L2
open PySem PySem.Spec PyProof.Rows
section
variable {X:Cx}{x:Str}{p pos:Pos}{e:Expr}{es:List Expr}{t:TA}{id T:String}{r:List V->Hp->VK->Prop}
def tCB (r:List V->Hp->VK->Prop) (t:TA):TE:=fun σ H Q=>t σ H fun vs H1=>r vs H1 Q
theorem Zaj (hc:Zbf X (.builtin id) r) (hg:Gl X x) (hm:X.mg x=none) (hv:bootBuiltins x=some (.builtin id)) (ha:PA X (e::es) t) (hn:x≠"__name__":=by decide) (hdb:(x == ("__debug__":Str))=false:=by decide)
  (he:starEach (e::es) X.env=(false,eval e X.env)::starEach es X.env:=by rfl) (hpl:(backTo pos (starEach es X.env)).any (·.1)=false:=by rfl):PE X (.Call (.Name x p) (e::es) [] pos) (tCB r t):=by
 intro pins s σ H Q I h;refine wpAny_Call_Name_kw (Zei I hg hm hv ?_ hn hdb);exact PyProof.Rows.callWith_builtin1 (thn (ha pos pins s σ H _ I h) fun us s1 ⟨vs,H1,I1,r1,q1⟩=>hc pins s1 σ H1 vs us Q I1 r1 q1) he hpl
theorem ZaZ (hc:Zbf X (.type T) r) (hg:Gl X x) (hm:X.mg x=none) (hv:bootBuiltins x=some (.type T)) (ha:PA X (e::es) t) (hn:x≠"__name__":=by decide) (hdb:(x == ("__debug__":Str))=false:=by decide)
  (he:starEach (e::es) X.env=(false,eval e X.env)::starEach es X.env:=by rfl) (hpl:(backTo pos (starEach es X.env)).any (·.1)=false:=by rfl):PE X (.Call (.Name x p) (e::es) [] pos) (tCB r t):=by
 intro pins s σ H Q I h;refine wpAny_Call_Name_kw (Zei I hg hm hv ?_ hn hdb);exact Yci (thn (ha pos pins s σ H _ I h) fun us s1 ⟨vs,H1,I1,r1,q1⟩=>hc pins s1 σ H1 vs us Q I1 r1 q1) he hpl
end
end L2
namespace HT
open PySem PyProof.Rows
def lexLt:List Int->List Int->Bool
 | [],[]=>false
 | [],_::_=>true
 | _::_,[]=>false
 | x::xs,y::ys=>if x=y then lexLt xs ys else decide (x<y)
theorem lexLt_cons (x y:Int) (xs ys:List Int):lexLt (x::xs) (y::ys)=if x=y then lexLt xs ys else decide (x<y):=rfl
theorem ZeW:lexLt [] []=false:=rfl
theorem ZdQ (y:Int) (ys:List Int):lexLt [] (y::ys)=true:=rfl
theorem ZdR (x:Int) (xs:List Int):lexLt (x::xs) []=false:=rfl
theorem Zln (A:Around) (s:Shared) (a:Int) (t:Tok) (c:Int) (u:Tok):∃ e,SeqAt.EqAt A s (.int a t) (.int c u) e/\(e=true↔a=c) :=
 ⟨(a == c),SeqAt.EqAt.int_int a t c u,by simp⟩
theorem Zky (A:Around) (s:Shared) (a:Int) (t:Tok) (c:Int) (u:Tok) (prog:Program) (w:World) (E:Value->Shared->Prop) (Q:Value->Shared->Prop) (h:Q (.bool (decide (a<c))) s) :
  wpAny (model prog w) A (richCompare .Lt (.int a t) (.int c u)) Q E s :=
 (PyProof.Rows.lt_int h:wpAny (model prog w) A (compareOp .Lt (.int a t) (.int c u)) Q E s)
section
open PySem.SeqAt
open PySem.AutoSeq1 (wpAny_loadPart')
open PySem.MeetsSeq PySem.MeetsSeq2 PySem.MeetsSeq3
theorem Zeu (l b:Addr) (items items2:Array Value) (n n2:Nat) (dd dd2:Option Addr) (sl sl2:Array (Option Value)) (ns ms:List Int) (hi:IntsAre items.toList ns) (hj:IntsAre items2.toList ms) :
  Meets (Builtin.«tuple.__lt__» ⟨[.ref l,.ref b],[]⟩)
   (fun _ R s=>s.heap.get? l=some { cls:=.type "tuple",dict:=dd,data:=.seq items n,slots:=sl }/\s.heap.get? b=some { cls:=.type "tuple",dict:=dd2,data:=.seq items2 n2,slots:=sl2 } /\
    R (.ok (.ret (.bool (lexLt ns ms)))) s) :=
 .of_wp fun prog w A R s h=>by
  obtain⟨hp,g,d,tk,os⟩:=s;obtain⟨hl,hb,h⟩:=h;have f2:=AutoSeq1.sub_tuple_tuple;have z1:items.size=ns.length:=by rw[<- hi.length];simp
  have z2:items2.size=ms.length:=by rw[<- hj.length];simp
  wp_walk using wpAny_loadPart' hl,wpAny_loadPart' hb,wpAny_forIn_list _ (fun rest b s'=>b.1=none/\s'=⟨hp,g,d,tk,os⟩/\∃ (vs ws:List Value) (ns' ms':List Int),rest=vs.zip ws /\
   IntsAre vs ns'/\IntsAre ws ms'/\ns'.length+items2.size=ms'.length+items.size/\R (.ok (.ret (.bool (lexLt ns' ms')))) ⟨hp,g,d,tk,os⟩) _
  case turn=>
   rintro⟨y,x⟩ rest b s' ⟨hb',rfl,vs,ws,ns',ms',hz,hvi,hwi,hlen,hR⟩
   cases hvi with
   | nil=>rw[List.zip_nil_left] at hz;cases hz
   | cons a t hvi'=>
    cases hwi with
    | nil=>rw[List.zip_nil_right] at hz;cases hz
    | cons c u hwi'=>
     rw[YdT] at hz;injection hz with hyx hrest;injection hyx with hy hx;subst hy hx;rw[lexLt_cons] at hR;simp only[YaH] at hlen;obtain⟨e,he,hiff⟩:=Zln A.in1 ⟨hp,g,d,tk,os⟩ a t c u;refine wpAny_bind (he prog w _ _ ?_)
     cases e with
     | true=>
      rw[if_pos (hiff.mp rfl)] at hR
      wp_walk
      exact⟨rfl,rfl,_,_,_,_,hrest,hvi',hwi',by omega,hR⟩
     | false=>
      rw[if_neg (fun q=>absurd (hiff.mpr q) YaZ)] at hR;have hri:=Zky A.in1 ⟨hp,g,d,tk,os⟩ a t c u prog w
      wp_walk using hri
      exact⟨_,rfl,by simpa using hR⟩
  case fin=>
   rintro⟨b1,b2⟩ s' ⟨hb',rfl,vs,ws,ns',ms',hz,hvi,hwi,hlen,hR⟩;simp only at hb';subst hb';have hv:lexLt ns' ms'=decide (items.size<items2.size):=by
    cases hvi with
    | nil=>
     cases hwi with
     | nil=>
      simp only[YcF] at hlen;rw[ZeW];exact (decide_eq_false (by omega)).symm
     | cons c u hw=>
      simp only[YcF,YaH] at hlen;rw[ZdQ];exact (decide_eq_true (by omega)).symm
    | cons a t hv=>
     cases hwi with
     | nil=>
      simp only[YcF,YaH] at hlen;rw[ZdR];exact (decide_eq_false (by omega)).symm
     | cons c u hw=>
      rw[YdT] at hz;cases hz
   rw[hv] at hR
   wp_walk
   exact⟨_,rfl,by simpa[Builtin.Tuple.tupleCompareSizes] using hR⟩
  case h=>
   exact⟨rfl,rfl,items.toList,items2.toList,ns,ms,rfl,hi,hj,by omega,h⟩
end
section
variable {prog:Program}{w:World}{A:Around}{E:Value->Shared->Prop}{s:Shared}
theorem lt_tupInts {l b:Addr}{items items2:Array Value}{ns ms:List Int}{Q:Value->Shared->Prop} (hl:IsTup s.heap l items) (hb:IsTup s.heap b items2) (hi:IntsAre items.toList ns) (hj:IntsAre items2.toList ms)
  (hu:A.units<cLine) (h:Q (.bool (lexLt ns ms)) s):wpAny (model prog w) A (compareOp .Lt (.ref l) (.ref b)) Q E s:=by
 obtain⟨⟨cls,dd,data,sl⟩,ho,hc,n,hd⟩:=id hl;obtain⟨⟨cls2,dd2,data2,sl2⟩,ho2,hc2,n2,hd2⟩:=id hb;simp only at hc hd hc2 hd2;subst hc hd hc2 hd2;exact richCompare_meets_room (op:=.Lt) ⟨_,ho,rfl⟩ ⟨_,ho2,rfl⟩ PySem.F.slot_tuple_lt PySem.F.entry_tuple_lt (PySem.F.args_tuple_lt_2 _ _) (Zeu l b items items2 n n2 dd dd2 sl sl2 ns ms hi hj)
  ⟨ho,ho2,show Ydv (lexLt ns ms)≠Value.notImplemented/\Q (.bool (lexLt ns ms)) s from⟨(fun x=>nomatch x),h⟩⟩ hu
theorem cat_tup {t b:Addr}{vs ws:List Value}{Q:Value->Shared->Prop} (ht:IsTup s.heap t vs.toArray) (hb:IsTup s.heap b ws.toArray) (hv:vs≠[])
  (h1:ws=[]->Q (.ref t) s) (h2:ws≠[]->Q (.ref s.heap.objs.size) { s with heap:=s.heap.push { cls:=.type "tuple",data:=.seq (vs++ws).toArray } })
  (hsz:vs.length+ws.length<=sizeLine):wpAny (model prog w) A (binaryOp .Add (.ref t) (.ref b)) Q E s:=by
 obtain⟨⟨cls,dd,data,sl⟩,ho,hc,n,hd⟩:=id ht;obtain⟨⟨cls2,dd2,data2,sl2⟩,ho2,hc2,n2,hd2⟩:=id hb;simp only at hc hd hc2 hd2;subst hc hd hc2 hd2;have e:vs.toArray++ws.toArray=(vs++ws).toArray:=by simp
 by_cases hw:ws=[]
 ·exact concat_meets ⟨_,ho,rfl⟩ ⟨_,ho2,rfl⟩ noFill_tuple_add seq_tuple_add YeD Yey (Yeo _ _)
   (tuple_addW1 t b vs.toArray ws.toArray n n2 dd dd2 sl sl2 (by simpa using hv) (by simp[hw])) ⟨ho,ho2,h1 hw⟩
 ·refine concat_meets ⟨_,ho,rfl⟩ ⟨_,ho2,rfl⟩ noFill_tuple_add seq_tuple_add YeD Yey (Yeo _ _)
   (tuple_addW2 t b vs.toArray ws.toArray n n2 dd dd2 sl sl2 (by simpa using hv) (by simpa using hw) (by rw[Yal,Yal];exact hsz)) ⟨ho,ho2,?_⟩
  rw[e];exact h2 hw
def sIx (n d:Nat):Option Int->Nat
 | none=>d
 | some v=>if v<0 then (v+(n:Int)).toNat else min v.toNat n
theorem sIx_nat (n d k:Nat):sIx n d (some (k:Int))=min k n:=by
 show (if (k:Int)<0 then ((k:Int)+(n:Int)).toNat else min (k:Int).toNat n)=min k n;rw[if_neg (by omega),YaK]
theorem Zng (n d:Nat) (hd:d<=n) (o:Option Int):sIx n d o<=n:=by
 cases o with
 | none=>exact hd
 | some v=>
  show (if v<0 then (v+(n:Int)).toNat else min v.toNat n)<=n;by_cases hv:v<0
  ·rw[if_pos hv];omega
  ·rw[if_neg hv];exact Nat.min_le_right _ _
theorem ZjZ (v:Int) (n d:Nat):(if v<0 then max (v+(n:Int)) 0 else min v (n:Int))=((sIx n d (some v):Nat):Int):=by
 show (if v<0 then max (v+(n:Int)) 0 else min v (n:Int))=(((if v<0 then (v+(n:Int)).toNat else min v.toNat n):Nat):Int);by_cases hv:v<0
 ·simp only[if_pos hv];omega
 ·simp only[if_neg hv];omega
theorem Zh6 (lo hi:Option Int) (n:Nat):YcS lo hi 1 (n:Int)=(((sIx n 0 lo:Nat):Int),((sIx n n hi:Nat):Int)):=by
 have h1:¬ ((1:Int)<0):=by omega
 unfold YcS;simp only[h1,if_false];refine Prod.ext ?_ ?_
 ·cases lo with
  | none=>rfl
  | some v=>exact ZjZ v n 0
 ·cases hi with
  | none=>rfl
  | some v=>exact ZjZ v n n
theorem ZhN (i j:Nat):Ycn (i:Int) (j:Int) 1=j - i:=by
 unfold Ycn;have h1:(1:Int) > 0:=by omega
 simp only[h1,if_true,Int.ediv_one];split <;> omega
theorem ZdY {v:Value}{o:Option Int}{Q:Option Int->Shared->Prop} (p:IsPart v o) (h:Q o s):wpAny (model prog w) A (Builtin.Slice.slicePartIndex v) Q E s:=by
 cases p with
 | none=>exact slicePart_none h
 | int i t=>exact slicePart_int h
theorem Zc6 {sl:Addr}{vl vu:Value}{lo hi:Option Int}{n:Nat}{Q:Int × Int × Nat->Shared->Prop} (hs:s.heap.IsSliceOf sl vl vu .none) (pl:IsPart vl lo) (pu:IsPart vu hi)
  (h:Q (((sIx n 0 lo:Nat):Int),1,sIx n n hi - sIx n 0 lo) s):wpAny (model prog w) A (YdO (.ref sl) (pure (n:Int))) Q E s:=by
 obtain⟨os,hos,hcs,hds⟩:=id hs;unfold YdO Builtin.Slice.sliceFields;refine wpAny_bind (wpAny_bind (wpAny_field hos hds (x:=vl) rfl (wpAny_bind (wpAny_field hos hds (x:=vu) rfl (wpAny_bind (wpAny_field hos hds (x:=.none) rfl (wpAny_pure ?_)))))));refine wpAny_bind (slicePart_none ?_);show wpAny _ _ (if ((1:Int) == 0)=true then _ else _) _ _ s;rw[if_neg (by decide)];refine wpAny_bind (ZdY pl (wpAny_bind (ZdY pu (wpAny_bind (wpAny_pure ?_)))));show wpAny _ _ (match YcS lo hi 1 (n:Int) with | (lo,hi)=>pure (lo,(1:Int),Ycn lo hi 1)) _ _ s;rw[Zh6 lo hi n];show wpAny _ _ (pure (((sIx n 0 lo:Nat):Int),(1:Int),Ycn ((sIx n 0 lo:Nat):Int) ((sIx n n hi:Nat):Int) 1)) _ _ s;rw[ZhN];exact wpAny_pure h
theorem ZkF (xs:Array Value) (i k:Nat):((YaE k).filterMap fun (m:Nat)=>xs[((i:Int)+(m:Int)*1).toNat]?).toArray=((xs.toList.drop i).take k).toArray:=by
 have e:(fun (m:Nat)=>xs[((i:Int)+(m:Int)*1).toNat]?)=fun m=>xs[i+m]?:=by
  funext m
  have:((i:Int)+(m:Int)*1).toNat=i+m:=by omega
  rw[this]
 rw[e];have:=pick_run xs i k;rw[Yda] at this;have e2:((fun x=>xs[x]?) ∘ fun x=>i+x)=fun m=>xs[i+m]?:=rfl;rw[e2] at this;rw[this]
theorem getItem_tuple_cut {t sl:Addr}{items:Array Value}{vl vu:Value}{lo hi:Option Int}{Q:Value->Shared->Prop} (ht:IsTup s.heap t items) (hs:s.heap.IsSliceOf sl vl vu .none) (pl:IsPart vl lo) (pu:IsPart vu hi)
  (hw:¬ (sIx items.size 0 lo=0/\sIx items.size items.size hi=items.size))
  (h:Q (.ref s.heap.objs.size) { s with heap:=s.heap.push { cls:=.type "tuple",data:=.seq ((items.toList.drop (sIx items.size 0 lo)).take (sIx items.size items.size hi - sIx items.size 0 lo)).toArray } })
  (hsz:items.size<=sizeLine):wpAny (model prog w) A (getItem (.ref t) (.ref sl)) Q E s:=by
 have htake:sizeOk (.seq ((items.toList.drop (sIx items.size 0 lo)).take (sIx items.size items.size hi - sIx items.size 0 lo)).toArray):=by
  show ((items.toList.drop (sIx items.size 0 lo)).take (sIx items.size items.size hi - sIx items.size 0 lo)).toArray.size<=sizeLine;rw[Yal,Yav,YaX,Ya7];omega
 have hj:sIx items.size items.size hi<=items.size:=Zng _ _ (Yap _) hi;obtain⟨os,hos,hcs,hds⟩:=id hs;have hTs:s.TypeIs (.ref sl) "slice":=⟨os,hos,hcs⟩
 unfold getItem
 try with_reducible refine wpAny_holding ?_
 first | refine wpAny_bind (wpAny_pure ?_) | skip
 refine wpAny_bind (wpAny_sequenceKey ht.typeIs (by decide) ?_);refine wpAny_bind (wpAny_callSpecial?_slot (name:=Ydb "__getitem__") ht.typeIs YcC
  (wpAny_call_entry YcC ht.typeIs entry_tuple_getitem ?_ (args_tuple_getitem _ _)))
 show wpAny _ _ (Builtin.Tuple.tupleItemsOf (.ref t) >>= _) _ _ s;refine wpAny_bind (tupleItemsOf_ ht ?_);refine wpAny_bind (wpAny_typeOf hTs ?_);rw[if_pos (by decide)];refine wpAny_bind (Zc6 hs pl pu ?_);have hno:¬ ((((sIx items.size 0 lo:Nat):Int) == 0 && (1:Int) == 1 && (sIx items.size items.size hi - sIx items.size 0 lo) == items.size)=true):=by
  intro q;rw[YcU,YcU] at q;have q1:((sIx items.size 0 lo:Nat):Int)=0:=eq_of_beq q.1.1;have q2:sIx items.size items.size hi - sIx items.size 0 lo=items.size:=eq_of_beq q.2;exact hw ⟨by omega,by omega⟩
 show wpAny _ _ (if (((sIx items.size 0 lo:Nat):Int) == 0 && (1:Int) == 1 && (sIx items.size items.size hi - sIx items.size 0 lo) == items.size)=true then _ else _) _ _ s;rw[if_neg hno,ZkF]
 first
  | exact wpAny_bind (m:=Yct _) (wpAny_newObj_type (wpAny_pure ⟨_,rfl,wpAny_pure h⟩) htake)
  | exact wpAny_bind (m:=Yct _) (wpAny_newObj_type (wpAny_bind (wpAny_pure (wpAny_pure ⟨_,rfl,wpAny_pure h⟩))) htake)
  | exact wpAny_bind (wpAny_bind (m:=Yct _) (wpAny_newObj_type (wpAny_pure (wpAny_pure ⟨_,rfl,wpAny_pure h⟩)) htake))
  | exact wpAny_bind (wpAny_bind (m:=Yct _) (wpAny_newObj_type (wpAny_pure ⟨_,rfl,wpAny_pure h⟩) htake))
end
end HT
namespace L2
open PySem PySem.Spec PyProof.Rows
abbrev TO:=St->Hp->(Option Int->Hp->Prop)->Prop
def PO (X:Cx) (e:Option Expr) (t:TO):Prop :=
 ∀ (pins:List (Addr × Obj)) (s:Shared) (σ:St) (H:Hp) (Q:Option Int->Hp->Prop),Inv X pins σ H s->t σ H Q ->
  wpAny (model X.prog X.w) X.A (evalPart e X.env) (fun u s'=>∃ o H',Inv X pins σ H' s'/\IsPart u o/\Q o H') X.xe s
def Zl4:TO:=fun _ H Q=>Q none H
def Zn9 (t:TE):TO:=fun σ H Q=>t σ H fun x H1=>∃ i,x=.int i/\Q (some i) H1
theorem Za1 {ns:List Int}:∀ {us:List Value},Vals (ns.map V.int) us->IntsAre us ns:=by
 induction ns with
 | nil=>intro us r;rw[Yc9] at r;cases r;exact .nil
 | cons n ns ih=>
  intro us r;rw[YaJ] at r
  cases r with
  | cons r1 r2=>
   obtain⟨t,e⟩:=r1;subst e;exact .cons n t (ih r2)
section
variable {X:Cx}{e:Expr}{te:TE}{lo hi:Option Expr}{tl th:TO}{pos p2:Pos}
theorem Zcc:PO X none Zl4:=by
 intro pins s σ H Q I h;rw[evalPart_none];exact wpAny_pure ⟨none,H,I,.none,h⟩
theorem ZbL (h:PE X e te):PO X (some e) (Zn9 te):=by
 intro pins s σ H Q I hw;rw[evalPart_some];refine thn (h pins s σ H _ I hw) fun u s1 ⟨x,H1,I1,r1,q1⟩=>?_;obtain⟨i,rfl,q⟩:=q1;obtain⟨t,rfl⟩:=r1;exact⟨some i,H1,I1,.int i t,q⟩
def SlR (X:Cx) (r:V->Option Int->Option Int->Hp->VK->Prop):Prop :=
 ∀ (pins:List (Addr × Obj)) (s:Shared) (σ:St) (H:Hp) (x:V) (v vl vu:Value) (lo hi:Option Int) (sl:Addr) (Q:VK),Inv X pins σ H s->RelV x v->s.heap.IsSliceOf sl vl vu .none->IsPart vl lo->IsPart vu hi->r x lo hi H Q ->
  ∃ T id,typeLookup (.type T) "__getitem__"=pure (some (.builtin id))/\s.TypeIs v T/\wpAny (model X.prog X.w) X.A (getItem v (.ref sl)) (EP X pins σ Q) X.xe s
def tSl (r:V->Option Int->Option Int->Hp->VK->Prop) (te:TE) (tl th:TO):TE:=fun σ H Q=>te σ H fun x H1=>tl σ H1 fun l H2=>th σ H2 fun u H3=>r x l u H3 Q
theorem Zby {r:V->Option Int->Option Int->Hp->VK->Prop} (hr:SlR X r) (he:PE X e te) (hl:PO X lo tl) (hu:PO X hi th):PE X (.Subscript e (.Slice lo hi none p2) pos) (tSl r te tl th):=by
 intro pins s σ H Q I h;refine Subscript_ (thn (he pins s σ H _ I h) fun v s1 ⟨x,H1,I1,r1,q1⟩=>?_);refine wpAny_Slice (thn (hl pins s1 σ H1 _ I1 q1) fun vl s2 ⟨l,H2,I2,pl,q2⟩=>thn (hu pins s2 σ H2 _ I2 q2) fun vu s3 ⟨u,H3,I3,pu,q3⟩=>?_);rw[evalPart_none];refine wpAny_pure ?_;have I4:Inv X pins σ H3 { s3 with heap:=s3.heap.push { cls:=.type "slice",data:=.fields #[vl,vu,.none] } }:=I3.kept (t':=s3.toks) fun b ob q=>Yae _ q;obtain⟨T,id,hT,ht,hg⟩:=hr pins { s3 with heap:=s3.heap.push { cls:=.type "slice",data:=.fields #[vl,vu,.none] } } σ H3 x v vl vu l u s3.heap.objs.size Q I4 r1 (Yen ..) pl pu q3;show wpAny (model X.prog X.w) X.A (subscriptTail e (.Slice lo hi none p2) v (.ref s3.heap.objs.size)) (EP X pins σ Q) X.xe { s3 with heap:=s3.heap.push { cls:=.type "slice",data:=.fields #[vl,vu,.none] } };exact tail_any (ops:=[.ref s3.heap.objs.size,v]) ht hT hg (by with_unfolding_all rfl)
def cutV (xs:List V) (lo hi:Option Int):List V:=(xs.drop (HT.sIx xs.length 0 lo)).take (HT.sIx xs.length xs.length hi - HT.sIx xs.length 0 lo)
theorem ZdL (xs:List V) (lo hi:Option Int):(cutV xs lo hi).length<=xs.length:=by
 unfold cutV;rw[Yav,YaX];omega
def rSlT (K:Yad):V->Option Int->Option Int->Hp->VK->Prop:=fun x lo hi H Q=>∃ a xs,x=.ref a/\SqT K H a xs /\
 ¬ (HT.sIx xs.length 0 lo=0/\HT.sIx xs.length xs.length hi=xs.length)/\∀ p,H p=none->Q (.ref p) (upd H p (.tup (cutV xs lo hi)))
theorem ZlB:SlR X (rSlT X.K):=by
 intro pins s σ H x v vl vu lo hi sl Q I rx hs pl pu h;obtain⟨a,xs,rfl,hx,hw,q⟩:=h;cases rx;obtain⟨its,r,ht,hz⟩:=I.tuple hx;have hlen:its.toArray.size=xs.length:=by rw[Yal];exact r.length.symm
 refine⟨"tuple",_,YcC.lookup,ht.typeIs,?_⟩;refine HT.getItem_tuple_cut ht hs pl pu (by rw[hlen];exact hw) ?_ (by rw[hlen];exact hz);rw[hlen];refine⟨.ref s.heap.objs.size,_,I.laid (t':=s.toks) (o:=.tup (cutV xs lo hi)) (fun b ob q=>Yae _ q) (Yap _) ?_,rfl,q _ (I.hok.fresh (Yap _))⟩;exact⟨Ybm (ZdL xs lo hi) hz,_,(r.drop (HT.sIx xs.length 0 lo)).take (HT.sIx xs.length xs.length hi - HT.sIx xs.length 0 lo),IsTupD.new _ _⟩
def Znj (K:Yad):R2:=fun x y H Q=>∃ a b xs ys,x=.ref a/\y=.ref b/\SqT K H a xs/\SqT K H b ys/\xs≠[]/\xs.length+ys.length<=sizeLine /\
 (ys=[]->Q (.ref a) H)/\(ys≠[]->∀ p,H p=none->Q (.ref p) (upd H p (.tup (xs++ys))))
theorem Vals.nil_iff {xs:List V}{us:List Value} (r:Vals xs us):us=[]↔xs=[]:=by
 cases r with
 | nil=>simp
 | cons _ _=>simp
theorem ZmA:OpR X (binaryOp .Add) (Znj X.K):=by
 intro pins s σ H x y v u Q I rx ry h;obtain⟨a,b,xs,ys,rfl,rfl,ha,hb,hx,hz,q1,q2⟩:=h;cases rx;cases ry;obtain⟨its,r1,p1,_⟩:=I.tuple ha;obtain⟨its2,r2,p2,_⟩:=I.tuple hb;refine HT.cat_tup p1 p2 (fun z=>hx (r1.nil_iff.mp z)) (fun z=>⟨.ref a,H,I,rfl,q1 (r2.nil_iff.mp z)⟩) (fun z=>?_) (by rw[<- r1.length,<- r2.length];exact hz);refine⟨.ref s.heap.objs.size,_,I.laid (t':=s.toks) (o:=.tup (xs++ys)) (fun b ob q=>Yae _ q) (Yap _) ?_,rfl,q2 (fun w=>z (r2.nil_iff.mpr w)) _ (I.hok.fresh (Yap _))⟩;exact⟨by rw[Yag];exact hz,_,r1.append r2,IsTupD.new _ _⟩
end
end L2
namespace L2
open PySem PySem.Spec PyProof.Rows
noncomputable def ixN (n:Nat) (i:Int):Option Nat:=if 0<=i then (if i<n then some i.toNat else none) else if -(n:Int)<=i then some (i+n).toNat else none
def atI {α:Type} (xs:List α) (i:Int):Option α:=(ixN xs.length i).bind fun j=>xs[j]?
theorem ZjA {n:Nat}{i:Int}{j:Nat} (h:ixN n i=some j):seqIndex? i n=some j/\j<n/\-(n:Int)<=i/\i<n:=by
 unfold ixN at h;by_cases h0:0<=i
 ·rw[if_pos h0] at h;by_cases h1:i<n
  ·rw[if_pos h1] at h;have e:i.toNat=j:=YaB h;exact⟨by rw[seqIndex_of h0 h1,e],by omega,by omega,h1⟩
  ·rw[if_neg h1] at h;cases h
 ·rw[if_neg h0] at h;by_cases h1:-(n:Int)<=i
  ·rw[if_pos h1] at h;have e:(i+n).toNat=j:=YaB h;exact⟨by rw[seqIndex_neg (by omega) h1,e],by omega,h1,by omega⟩
  ·rw[if_neg h1] at h;cases h
theorem Zkb {α:Type}{xs:List α}{i:Int}{v:α} (h:atI xs i=some v):∃ j,seqIndex? i xs.length=some j/\xs[j]?=some v/\j<xs.length/\-(xs.length:Int)<=i/\i<xs.length:=by
 unfold atI at h
 cases e:ixN xs.length i with
 | none=>rw[e] at h;cases h
 | some j=>
  rw[e] at h;obtain⟨h1,h2,h3,h4⟩:=ZjA e;exact⟨j,h1,h,h2,h3,h4⟩
theorem ZbS {α:Type}{xs:List α}{j:Nat}{v:α} (h:xs[j]?=some v):atI xs (j:Int)=some v:=by
 have hj:j<xs.length:=(Yab.mp h).1
 have e:ixN xs.length (j:Int)=some j:=by
  unfold ixN;rw[if_pos (by omega),if_pos (by omega)];simp
 unfold atI;rw[e];exact h
theorem Zdl {α:Type} (xs:List α) (v:α):atI (xs++[v]) (-1)=some v:=by
 have hl:(xs++[v]).length=xs.length+1:=by simp
 have e:ixN (xs++[v]).length (-1)=some xs.length:=by
  unfold ixN;rw[hl,if_neg (by decide),if_pos (by omega)];congr 1;omega
 unfold atI;rw[e];show (xs++[v])[xs.length]?=some v;simp
def ZmX (b:Expr):Prop:=∀ o i,subscripted b false o i=operate [o,i] (getItem o i)
def IxR (X:Cx) (r:R2):Prop :=
 ∀ (value slice:Expr) (pins:List (Addr × Obj)) (s:Shared) (σ:St) (H:Hp) (x y:V) (v u:Value) (Q:VK),Inv X pins σ H s->RelV x v->RelV y u->r x y H Q ->
  subscripted slice false v u=operate [v,u] (getItem v u)->wpAny (model X.prog X.w) X.A (subscriptTail value slice v u) (EP X pins σ Q) X.xe s
def MtR (X:Cx) (id:String) (r:V->List V->Hp->VK->Prop):Prop :=
 ∀ (pins:List (Addr × Obj)) (s:Shared) (σ:St) (H:Hp) (x:V) (xs:List V) (v:Value) (us:List Value) (Q:VK),Inv X pins σ H s->RelV x v->Vals xs us->r x xs H Q ->
  wpAny (model X.prog X.w) X.A (call (.builtin id) (v::us)) (EP X pins σ Q) X.xe s
section
variable {X:Cx}{a b:Expr}{ta tb:TE}{pos:Pos}
theorem IxR.or {r r':R2} (h:IxR X r) (h':IxR X r'):IxR X (fun x y H Q=>r x y H Q∨r' x y H Q):=by
 intro value slice pins s σ H x y v u Q I rx ry q hs;rcases q with q | q
 ·exact h value slice pins s σ H x y v u Q I rx ry q hs
 ·exact h' value slice pins s σ H x y v u Q I rx ry q hs
theorem ZaS {r:R2} (hr:IxR X r) (ha:PE X a ta) (hb:PE X b tb) (hs:ZmX b):PE X (.Subscript a b pos) (tOp r ta tb):=by
 intro pins s σ H Q I h;exact Subscript_ (binT ha hb I h fun v u s2 x y H2 I2 rx ry q=>hr a b pins s2 σ H2 x y v u Q I2 rx ry q (hs _ _))
def rIxL (K:Yad):R2:=fun x y H Q=>∃ p xs i v,x=.ref p/\y=.int i/\SqL K H p xs/\atI xs i=some v/\Q v H
def rIxT (K:Yad):R2:=fun x y H Q=>∃ p xs i v,x=.ref p/\y=.int i/\SqT K H p xs/\atI xs i=some v/\Q v H
theorem ix_list:IxR X (rIxL X.K):=by
 intro value slice pins s σ H x y v u Q I rx ry h hs;obtain⟨p,xs,i,z,rfl,rfl,hq,he,q⟩:=h;cases rx;obtain⟨t,rfl⟩:=ry;obtain⟨its,r,pl,hz⟩:=I.list hq;obtain⟨j,h1,h2,h3,h4,h5⟩:=Zkb he;obtain⟨w,ew,rw'⟩:=r.get h2;have hl:=r.length;have hn:=Zfw;have fin:EP X pins σ Q w s:=⟨z,H,I,rw',q⟩
 by_cases h0:0<=i
 ·have hj:i.toNat=j:=by
   rw[seqIndex_of h0 h5] at h1;exact YaB h1
  exact item_listR pl.isList h0 (by omega) (by rw[hj];simpa using ew) fin hs
 ·have hj:(i+(its.toArray.size:Int)).toNat=j:=by
   rw[seqIndex_neg (by omega) h4] at h1;rw[Yal,<- hl];exact YaB h1
  exact subscriptTail_builtinR (x:=w) pl.isList.typeIs slot_list_getitem.lookup
   (wpAny_getItem_list_neg (Q:=fun r s'=>r=w/\EP X pins σ Q r s') pl.isList (by omega) (by rw[Yal] <;> omega) (by omega) (by rw[hj];simpa using ew) ⟨rfl,fin⟩) hs
theorem Zb3:IxR X (rIxT X.K):=by
 intro value slice pins s σ H x y v u Q I rx ry h hs;obtain⟨p,xs,i,z,rfl,rfl,hq,he,q⟩:=h;cases rx;obtain⟨t,rfl⟩:=ry;obtain⟨its,r,pl,hz⟩:=I.tuple hq;obtain⟨j,h1,h2,h3,h4,h5⟩:=Zkb he;obtain⟨w,ew,rw'⟩:=r.get h2;have hl:=r.length;have hn:=Zfw;have fin:EP X pins σ Q w s:=⟨z,H,I,rw',q⟩
 exact subscriptTail_builtinR (x:=w) pl.typeIs slot_tuple_getitem.lookup
  (getItem_tuple (j:=j) (Q:=fun r s'=>r=w/\EP X pins σ Q r s') pl (by omega) (by omega) (by rw[Yal,<- hl];exact h1) (by simpa using ew) ⟨rfl,fin⟩) hs
theorem ZhU (its:List Value) (n j:Nat) (u:Value):YbJ (·.setIfInBounds j u) { cls:=.type "list",data:=.seq its.toArray n }={ cls:=.type "list",data:=.seq (its.set j u).toArray n }:=by
 simp[YbJ]
theorem Inv.lst {pins:List (Addr × Obj)}{σ:St}{H:Hp}{s:Shared}{p:Addr}{xs:List V} (I:Inv X pins σ H s) (h:H p=some (.lst xs)) :
  ∃ (its:List Value) (n:Nat),Vals xs its/\s.heap.get? p=some { cls:=.type "list",data:=.seq its.toArray n }/\xs.length<=sizeLine:=by
 obtain⟨z,its,n,r,e⟩:=I.hok p _ h;exact⟨its,n,r,e,z⟩
theorem Inv.lstUpd {pins:List (Addr × Obj)}{σ:St}{H:Hp}{s:Shared}{p:Addr}{xs ys:List V}{its its':List Value}{n n':Nat}{f:Obj->Obj} (I:Inv X pins σ H s) (h:H p=some (.lst xs))
  (ho:s.heap.get? p=some { cls:=.type "list",data:=.seq its.toArray n }) (hf:f { cls:=.type "list",data:=.seq its.toArray n }={ cls:=.type "list",data:=.seq its'.toArray n' }) (r:Vals ys its') (hz:ys.length<=sizeLine) (t:Nat) :
  Inv X pins σ (upd H p (.lst ys)) { s with heap:=s.heap.update p f,toks:=t }:=by
 have e:(s.heap.update p f).get? p=some { cls:=.type "list",data:=.seq its'.toArray n' }:=by
  rw[YcR f ho (by rw[hf] <;> rfl),hf]
 refine I.write (x:=p) (e:=p) (by rw[h];trivial) (.inl rfl) (fun b u hb q=>(YbV _ _ (Ybn hb)).trans q) ⟨_,e⟩ ?_;exact⟨hz,its',n',r,e⟩
def Zoh:V->V->V->Hp->(Hp->Prop)->Prop:=fun o i v H Q=>∃ p xs k j,o=.ref p/\i=.int k/\H p=some (.lst xs)/\ixN xs.length k=some j/\Q (upd H p (.lst (xs.set j v)))
theorem ZbV:PSet X Zoh:=by
 intro pins s σ H o i v ov iv u Q I ro ri rv h;obtain⟨p,xs,k,j,rfl,rfl,hp,hj,q⟩:=h;cases ro;obtain⟨t,rfl⟩:=ri;obtain⟨its,n,r,ho,hz⟩:=I.lst hp;obtain⟨h1,h2,h3,h4⟩:=ZjA hj;have hl:=r.length;have hn:=Zfw;have I':Inv X pins σ (upd H p (.lst (xs.set j v))) { s with heap:=s.heap.update p (YbJ (·.setIfInBounds j u)) } :=
  I.lstUpd hp ho (ZhU its n j u) (r.set rv j) (by rw[YcZ];exact hz) s.toks
 by_cases h0:0<=k
 ·have hk:k.toNat=j:=by
   rw[seqIndex_of h0 h4] at h1;exact YaB h1
  exact PySem.W.ki_setAt ho h0 (by omega) (by rw[Yal,<- hl];exact h4) (by rw[hk];exact⟨_,I',q⟩)
 ·have hk:(k+(its.toArray.size:Int)).toNat=j:=by
   rw[seqIndex_neg (by omega) h3] at h1;rw[Yal,<- hl];exact YaB h1
  exact PySem.W.ki_setBack ho (by omega) (by rw[Yal,<- hl];exact h3) (by omega) (by rw[hk];exact⟨_,I',q⟩)
theorem Zfj (lo hi:Option Int) (n:Nat):(sliceBounds lo hi none n).1=((HT.sIx n 0 lo:Nat):Int)/\(sliceBounds lo hi none n).2.1=((HT.sIx n n hi:Nat):Int)/\(sliceBounds lo hi none n).2.2=1:=by
 refine⟨?_,?_,rfl⟩
 ·cases lo with
  | none=>simp[sliceBounds,HT.sIx]
  | some i=>
   simp only[sliceBounds,HT.sIx,Yfl,show (1:Int) > 0 by decide,if_true];by_cases h:i<0
   ·simp only[h,if_true] <;> omega
   ·simp only[h,if_false] <;> omega
 ·cases hi with
  | none=>simp[sliceBounds,HT.sIx]
  | some i=>
   simp only[sliceBounds,HT.sIx,Yfl,show (1:Int) > 0 by decide,if_true];by_cases h:i<0
   ·simp only[h,if_true] <;> omega
   ·simp only[h,if_false] <;> omega
theorem ZeK (its:List Value) (lo hi:Option Int):slicePick its.toArray lo hi none=((its.drop (HT.sIx its.length 0 lo)).take (HT.sIx its.length its.length hi - HT.sIx its.length 0 lo)).toArray:=by
 obtain⟨h1,h2,h3⟩:=Zfj lo hi its.toArray.size;unfold slicePick;rw[h1,h2,h3];simp only[sliceRange_one,pick_run,Yal] <;> rfl
def rSlL (K:Yad):V->Option Int->Option Int->Hp->VK->Prop:=fun x lo hi H Q=>∃ a xs,x=.ref a/\SqL K H a xs/\∀ p,H p=none->Q (.ref p) (upd H p (.lst (cutV xs lo hi)))
theorem ZeL:SlR X (rSlL X.K):=by
 intro pins s σ H x v vl vu lo hi sl Q I rx hs pl pu h;obtain⟨a,xs,rfl,hx,q⟩:=h;cases rx;obtain⟨its,r,ht,hz⟩:=I.list hx;have hlen:=r.length;refine⟨"list",_,slot_list_getitem.lookup,ht.isList.typeIs,?_⟩;refine wpAny_getItem_list_slice ht.isList hs pl pu .none (by simp) ?_ (by rw[Yal] <;> omega);rw[ZeK,<- hlen];refine⟨.ref s.heap.objs.size,_,I.laid (t':=s.toks) (o:=.lst (cutV xs lo hi)) (fun b ob q=>Yae _ q) (Yap _) ?_,rfl,q _ (I.hok.fresh (Yap _))⟩;exact⟨Ybm (ZdL xs lo hi) hz,_,0,(r.drop (HT.sIx xs.length 0 lo)).take (HT.sIx xs.length xs.length hi - HT.sIx xs.length 0 lo),YaC _ rfl⟩
theorem Zap:Zbf X (.builtin "len") (fun xs H Q=>∃ p ys,xs=[.ref p]/\(SqL X.K H p ys∨SqT X.K H p ys)/\Q (.int ys.length) H):=by
 intro pins s σ H xs us Q I r h;obtain⟨p,ys,rfl,hq,q⟩:=h;obtain⟨u,rfl,rx⟩:=Zb6 r;cases rx;have hn:=Zfw;rcases hq with hq | hq
 ·obtain⟨its,r',pl,hz⟩:=I.list hq;have hlen:=r'.length;exact Calls.call_len_list pl.isList (by simp only[Yal] <;> omega) ⟨.int ys.length,H,I.tok _,⟨s.toks+1,by rw[Yal,hlen]⟩,q⟩
 ·obtain⟨its,r',pl,hz⟩:=I.tuple hq;have hlen:=r'.length;exact len_tuple pl (by simp only[Yal] <;> omega) ⟨.int ys.length,H,I.tok _,⟨s.toks+1,by rw[Yal,hlen]⟩,q⟩
theorem ZfO:Zbf X (.type "list") (fun xs H Q=>∃ p ys,xs=[.ref p]/\(SqL X.K H p ys∨SqT X.K H p ys)/\∀ l,H l=none->Q (.ref l) (upd H l (.lst ys))):=by
 intro pins s σ H xs us Q I r h;obtain⟨p,ys,rfl,hq,q⟩:=h;obtain⟨u,rfl,rx⟩:=Zb6 r;cases rx;have fin:∀ (its:List Value),Vals ys its->ys.length<=sizeLine->∀ (h':Heap) (c':Nat),(∀ b o',s.heap.get? b=some o'->h'.get? b=some o') ->
   h'.get? s.heap.objs.size=some { cls:=.type "list",dict:=none,data:=.seq its.toArray c',slots:=#[] }->EP X pins σ Q (.ref s.heap.objs.size) { s with heap:=h' }:=fun its r' hz h' c' kp e=>
  ⟨.ref s.heap.objs.size,_,I.laid (t':=s.toks) kp (Yap _) (show ObjOk X.prog X.w _ h' _ (.lst ys) from⟨hz,its,c',r',e⟩),rfl,q _ (I.hok.fresh (Yap _))⟩
 rcases hq with hq | hq
 ·obtain⟨its,r',pl,hz⟩:=I.list hq;have hlen:=r'.length;obtain⟨o,ho,hc,n,hd⟩:=pl.isList;exact call_list_seq p (.inl rfl) ho hc hd (fun h' c' kp e=>fin its r' hz h' c' kp e) (by simp only[Yal] <;> omega)
 ·obtain⟨its,r',pl,hz⟩:=I.tuple hq;have hlen:=r'.length;obtain⟨o,ho,hc,n,hd⟩:=pl;exact call_list_seq p (.inr rfl) ho hc hd (fun h' c' kp e=>fin its r' hz h' c' kp e) (by simp only[Yal] <;> omega)
theorem ZaP:Zbf X (.type "tuple") (fun xs H Q=>∃ p ys,xs=[.ref p]/\((SqL X.K H p ys/\∀ l,H l=none->Q (.ref l) (upd H l (.tup ys)))∨(SqT X.K H p ys/\Q (.ref p) H))):=by
 intro pins s σ H xs us Q I r h;obtain⟨p,ys,rfl,h⟩:=h;obtain⟨u,rfl,rx⟩:=Zb6 r;cases rx;rcases h with ⟨hq,q⟩ | ⟨hq,q⟩
 ·obtain⟨its,r',pl,hz⟩:=I.list hq;have hlen:=r'.length;refine call_tuple_list pl.isList (fun h' kp=>?_) (by simp only[Yal] <;> omega);have I1:Inv X pins σ H { s with heap:=h' }:=I.kept (t':=s.toks) kp;have I2:Inv X pins σ (upd H h'.objs.size (.tup ys)) { s with heap:=h'.push { cls:=.type "tuple",data:=.seq its.toArray } } :=
   I1.laid (t':=s.toks) (fun b o e=>Yae _ e) (Yap _) (show ObjOk X.prog X.w _ _ _ (.tup ys) from⟨hz,its,r',IsTupD.new _ _⟩)
  exact⟨.ref h'.objs.size,_,I2,rfl,q _ (I1.hok.fresh (Yap _))⟩
 ·obtain⟨its,r',pl,hz⟩:=I.tuple hq;exact call_tuple_same pl ⟨.ref p,H,I,rfl,q⟩
def tyV (K:Yad) (T:String) (x:V) (H:Hp):Prop:=match x with
 | .str _=>T="str"
 | .int _=>T="int"
 | .ref p=>(T="list"/\∃ xs,SqL K H p xs)∨(T="tuple"/\∃ o,K.lookup p=some o/\o.cls=.type "tuple"/\o.dict=none) ∨
   (T="dict"/\((∃ kvs,H p=some (.dK kvs))∨∃ kvs,H p=some (.dT kvs)))∨(T="set"/\∃ S n,H p=some (.set S n))
 | _=>False
theorem Zlw {pins:List (Addr × Obj)}{σ:St}{H:Hp}{s:Shared}{T:String}{x:V}{v:Value} (I:Inv X pins σ H s) (r:RelV x v) (ty:tyV X.K T x H) :
  s.TypeIs v T/\∀ a,v=.ref a->∃ ob,s.heap.get? a=some ob/\ob.dict=none:=by
 cases x with
 | str z=>
  obtain⟨t,rfl⟩:=r;cases (show T="str" from ty);exact⟨typeIs_str s z t,fun _ e=>nomatch e⟩
 | int i=>
  obtain⟨t,rfl⟩:=r;cases (show T="int" from ty);exact⟨typeIs_int s i t,fun _ e=>nomatch e⟩
 | ref p=>
  cases r;rcases ty with ⟨rfl,xs,hq⟩ | ⟨rfl,o,hk,hc,hd⟩ | ⟨rfl,hk⟩ | ⟨rfl,S,n,hk⟩
  ·obtain⟨its,_,pl,_⟩:=I.list hq;refine⟨pl.isList.typeIs,fun a e=>?_⟩;cases e;obtain⟨o,n,e,c,hd,_⟩:=pl;exact⟨o,e,hd⟩
  ·refine⟨⟨o,I.kIn p o hk,hc⟩,fun a e=>?_⟩;cases e;exact⟨o,I.kIn _ o hk,hd⟩
  ·have z:∃ o,s.heap.get? p=some o/\o.ExactDict:=by
    rcases hk with ⟨kvs,hk⟩ | ⟨kvs,hk⟩
    ·obtain⟨_,_,_,_,o,_,_,e,ex,_⟩:=I.hok p _ hk;exact⟨o,e,ex⟩
    ·obtain⟨_,_,_,_,o,_,_,e,ex,_⟩:=I.hok p _ hk;exact⟨o,e,ex⟩
   obtain⟨o,e,ex⟩:=z;refine⟨⟨o,e,ex.1⟩,fun a e2=>?_⟩;cases e2;exact⟨o,e,ex.2.1⟩
  ·obtain⟨o,_,_,_,e,ex,_⟩:=I.hok p _ hk;refine⟨⟨o,e,ex.1⟩,fun a e2=>?_⟩;cases e2;exact⟨o,e,ex.2.1⟩
 | _=>exact YcE ty
def tBM0 (K:Yad) (T:String) (r:V->List V->Hp->VK->Prop) (to:TE):TE:=fun σ H Q=>to σ H fun x H1=>tyV K T x H1/\r x [] H1 Q
def tBM (K:Yad) (T:String) (r:V->List V->Hp->VK->Prop) (to:TE) (t:TA):TE:=fun σ H Q=>to σ H fun x H1=>tyV K T x H1/\t σ H1 fun xs H2=>r x xs H2 Q
variable {o e:Expr}{es:List Expr}{to:TE}{t:TA}{name:Str}{apos cpos:Pos}{T id:String}{r:V->List V->Hp->VK->Prop}
theorem Znp (pa:PlainAttrs T) (slot:Slot T name id) (hty:typeOf (.builtin id)=pure (.type "method_descriptor")) (hm:MtR X id r) (ho:PE X o to)
  (hbase:attributeBase o name X.env (eval o X.env)=eval o X.env:=by rfl) (hline:(apos.endLine == cpos.line)=true:=by rfl):PE X (.Call (.Attribute o name apos) [] [] cpos) (tBM0 X.K T r to):=by
 intro pins s σ H Q I h;refine wpAny_Call_method0_late hbase hline (thn (ho pins s σ H _ I h) fun v s1 ⟨x,H1,I1,r1,ty,q1⟩=>?_);obtain⟨h1,h2⟩:=Zlw I1 r1 ty;exact⟨T,id,pa,slot,hty,h1,h2,YeO rfl (PySem.evalArgs_none (hm pins s1 σ H1 x [] v [] Q I1 r1 .nil q1))⟩
theorem Zc7 (pa:PlainAttrs T) (slot:Slot T name id) (hty:typeOf (.builtin id)=pure (.type "method_descriptor")) (hm:MtR X id r) (ho:PE X o to) (ha:PA X (e::es) t)
  (hbase:attributeBase o name X.env (eval o X.env)=eval o X.env:=by rfl)
  (hfew:((backTo cpos (starEach (e::es) X.env)).all (fun x=>!x.1) && (backToKw cpos (keywordEach [] X.env)).all (fun x=>x.1.isSome)
   && decide ((e::es).length+([]:List Keyword).length+(if ([]:List Keyword).isEmpty then 0 else 1)<30))=true:=by rfl)
  (hline:(apos.endLine == cpos.line)=true:=by rfl) (hs:starEach (e::es) X.env=(false,eval e X.env)::starEach es X.env:=by rfl) (hplain:(backTo cpos (starEach es X.env)).any (·.1)=false:=by rfl) :
  PE X (.Call (.Attribute o name apos) (e::es) [] cpos) (tBM X.K T r to t):=by
 intro pins s σ H Q I h;refine wpAny_Call_method_late hbase hfew hline rfl (thn (ho pins s σ H _ I h) fun v s1 ⟨x,H1,I1,r1,ty,q1⟩=>?_);obtain⟨h1,h2⟩:=Zlw I1 r1 ty;refine⟨T,id,pa,slot,hty,h1,h2,?_⟩;have hA:=ha cpos pins s1 σ H1 _ I1 q1;rw[hs] at hA ⊢;refine YeO (by show (false || (backTo cpos (starEach es X.env)).any (·.1))=false;rw[hplain] <;> rfl) (Calls.evalArgs_plain ?_);exact thn hA fun us s2 ⟨vs,H2,I2,r2,q2⟩=>hm pins s2 σ H2 x vs v us Q I2 r1 r2 q2
end
end L2
namespace L2
open PySem PySem.Spec PyProof.Rows
def MtM (X:Cx) (id:String) (r:V->List V->Hp->VK->Prop):Prop :=
 ∀ (pins:List (Addr × Obj)) (s:Shared) (σ:St) (H:Hp) (x:V) (xs:List V) (v:Value) (us:List Value) (Q:VK),Inv X pins σ H s->RelV x v->Vals xs us->r x xs H Q ->
  wpAny (model X.prog X.w) X.A (call (.builtin id) (v::us)) (EP X pins σ Q) X.xe s
theorem Vals.one:∀ {x:V}{us:List Value},Vals [x] us->∃ u,us=[u]/\RelV x u
 | _,_,.cons r .nil=>⟨_,rfl,r⟩
theorem Vals.eraseIdx:∀ {xs:List V}{us:List Value} (i:Nat),Vals xs us->Vals (xs.eraseIdx i) (us.eraseIdx i)
 | _,_,_,.nil=>.nil
 | _,_,0,.cons _ t=>t
 | _,_,i+1,.cons r t=>.cons r (Vals.eraseIdx i t)
theorem Vals.reverse {xs:List V}{us:List Value} (h:Vals xs us):Vals xs.reverse us.reverse:=by
 induction h with
 | nil=>exact .nil
 | cons r t ih=>rw[YcN,YcN];exact Vals.append ih (.cons r .nil)
theorem Vals.rep {xs:List V}{us:List Value} (h:Vals xs us):∀ k:Nat,Vals (Yan k xs).flatten (Yan k us).flatten
 | 0=>.nil
 | k+1=>by
  rw[Ybj,Ybj,YaF,YaF];exact Vals.append h (Vals.rep h k)
theorem Zfx {α:Type}:∀ (l:List α) (i:Nat),(l.eraseIdx i).length<=l.length
 | [],_=>Yap _
 | _::_,0=>Ycw _
 | _::r,i+1=>Nat.succ_le_succ (Zfx r i)
theorem ZfC (its:List Value):∀ (k:Nat) (acc:List Value),
  YeK (fun x1 x2=>x1++x2) acc.toArray (Yan k its.toArray)=(acc++(Yan k its).flatten).toArray
 | 0,acc=>by simp
 | k+1,acc=>by
  have e:acc.toArray++its.toArray=(acc++its).toArray:=by simp
  have e2:(acc++its)++(Yan k its).flatten=acc++(Yan (k+1) its).flatten:=by
   rw[Ybj,YaF,Yax]
  rw[<- e2,<- ZfC its k (acc++its),<- e,Ybj,Yc2]
section
variable {X:Cx}{pins:List (Addr × Obj)}{σ:St}{H:Hp}{s:Shared}{l b:Addr}{xs ys zs:List V}
theorem Inv.lset {its its':List Value}{n:Nat}{f:Array Value->Array Value}{t':Nat} (I:Inv X pins σ H s) (hH:H l=some (.lst xs))
  (e:s.heap.get? l=some { cls:=.type "list",data:=.seq its.toArray n }) (hf:f its.toArray=its'.toArray) (hv:Vals ys its') (hz:ys.length<=sizeLine) :
  Inv X pins σ (upd H l (.lst ys)) { s with heap:=s.heap.update l (YbJ f),toks:=t' }:=by
 have q:=PySem.IsL.update e f;rw[hf] at q;refine I.write (x:=l) (e:=l) (by rw[hH];exact trivial) (.inl rfl) (fun b' u hb hu=>(YbV s.heap (YbJ f) (Ybn hb)).trans hu) ⟨_,q⟩ ?_;exact⟨hz,its',_,hv,q⟩
theorem Inv.lnew {its:List Value}{t':Nat} (I:Inv X pins σ H s) (hv:Vals ys its) (hz:ys.length<=sizeLine) :
  Inv X pins σ (upd H s.heap.objs.size (.lst ys)) { s with heap:=s.heap.push { cls:=.type "list",data:=.seq its.toArray },toks:=t' } :=
 I.laid (fun _ _ q=>Yae _ q) (Yap _) ⟨hz,its,0,hv,YaC _ rfl⟩
theorem Inv.fresh (I:Inv X pins σ H s):H s.heap.objs.size=none:=I.hok.fresh (Yap _)
theorem Inv.lstM (I:Inv X pins σ H s) (hH:H l=some (.lst xs)):xs.length<=sizeLine/\∃ (its:List Value) (n:Nat),Vals xs its/\xs.length=its.length/\s.heap.get? l=some { cls:=.type "list",data:=.seq its.toArray n }:=by
 obtain⟨z,its,n,r,e⟩:=I.hok l _ hH;exact⟨z,its,n,r,r.length,e⟩
theorem Zg9 {n:Nat} (h:n<=sizeLine):Ycy n=false:=by
 unfold Ycy;exact decide_eq_false (by omega)
end
section
variable {X:Cx}
def ZiF:V->List V->Hp->VK->Prop:=fun x vs H Q=>∃ l xs y,x=.ref l/\vs=[y]/\H l=some (.lst xs)/\xs.length<sizeLine/\Q .non (upd H l (.lst (xs++[y])))
theorem ZaT:MtM X "list.append" ZiF:=by
 intro pins s σ H x vs v us Q I rx rv h;obtain⟨l,xs,y,rfl,rfl,hH,hz,q⟩:=h;cases rx;obtain⟨u,rfl,ru⟩:=rv.one;obtain⟨z,its,n,r,hl,e⟩:=I.lstM hH;refine call_meets F.slot_list_append ⟨_,e,rfl⟩ F.entry_list_append (F.args_list_append_2 _ _) (PySem.list_append l its.toArray n u (by rw[Yal];omega)) ⟨e,?_⟩;refine⟨.non,_,I.lset (its':=its++[u]) hH e (by simp) (r.append (.cons ru .nil)) ?_,rfl,q⟩;rw[Yag,Yb8];omega
def Zmr:V->List V->Hp->VK->Prop:=fun x vs H Q=>∃ l b xs zs,x=.ref l/\vs=[.ref b]/\H l=some (.lst xs)/\H b=some (.lst zs)/\xs.length+zs.length<=sizeLine/\Q .non (upd H l (.lst (xs++zs)))
theorem Zji:MtM X "list.extend" Zmr:=by
 intro pins s σ H x vs v us Q I rx rv h;obtain⟨l,b,xs,zs,rfl,rfl,hH,hB,hz,q⟩:=h;cases rx;obtain⟨u,rfl,ru⟩:=rv.one;cases ru;obtain⟨z,its,n,r,hl,e⟩:=I.lstM hH;obtain⟨z2,its2,n2,r2,hl2,e2⟩:=I.lstM hB;have hsz:its.toArray.size+its2.toArray.size<=sizeLine:=by rw[Yal,Yal];omega
 have hlong:¬ (!its.toArray.isEmpty && Ycy (its.toArray.size+its2.toArray.size))=true:=by
  rw[Zg9 hsz,Bool.and_false];exact YaZ
 refine call_meets F.slot_list_extend ⟨_,e,rfl⟩ F.entry_list_extend (F.args_list_extend_2 _ _)
  (AutoSeq1.list_extend_list_list_0 l its.toArray n b its2.toArray n2 hlong (by rw[Yal];omega) (by omega)) ⟨e,e2,?_⟩
 refine⟨.non,_,I.lset (its':=its++its2) hH e (by simp) (r.append r2) ?_,rfl,q⟩;rw[Yag];omega
def Zni:V->List V->Hp->VK->Prop:=fun x vs H Q=>∃ l xs i k y,x=.ref l/\vs=[.int i]/\H l=some (.lst xs)/\-(2 ^ 63)<=i/\i<2 ^ 63/\seqIndex? i xs.length=some k/\xs[k]?=some y/\Q y (upd H l (.lst (xs.eraseIdx k)))
theorem Zld:MtM X "list.pop" Zni:=by
 intro pins s σ H x vs v us Q I rx rv h;obtain⟨l,xs,i,k,y,rfl,rfl,hH,h1,h2,hk,hy,q⟩:=h;cases rx;obtain⟨u,rfl,ru⟩:=rv.one;obtain⟨t,rfl⟩:=ru;obtain⟨z,its,n,r,hl,e⟩:=I.lstM hH;obtain⟨w,hw,rw'⟩:=r.get hy;refine call_meets F.slot_list_pop ⟨_,e,rfl⟩ F.entry_list_pop (F.args_list_pop_2 _ _)
  (MeetsSeq.list_pop_at l its.toArray n i t k w (fitsIndex_both h1 h2) (by rw[Yal,<- hl];exact hk) (by rw[<- Yau];exact hw) (by rw[Yal];omega)) ⟨e,?_⟩
 refine⟨y,_,I.lset (its':=its.eraseIdx k) hH e ?_ (r.eraseIdx k) ?_,rw',q⟩
 ·show its.toArray.eraseIdxIfInBounds k=(its.eraseIdx k).toArray;rw[Yd5]
 ·have:=Zfx xs k;omega
def rCat:R2:=fun x y H Q=>∃ l b xs zs,x=.ref l/\y=.ref b/\H l=some (.lst xs)/\H b=some (.lst zs)/\xs.length+zs.length<=sizeLine/\∀ p,H p=none->Q (.ref p) (upd H p (.lst (xs++zs)))
theorem Zef:OpR X (binaryOp .Add) rCat:=by
 intro pins s σ H x y v u Q I rx ry h;obtain⟨l,b,xs,zs,rfl,rfl,hH,hB,hz,q⟩:=h;cases rx;cases ry;obtain⟨z,its,n,r,hl,e⟩:=I.lstM hH;obtain⟨z2,its2,n2,r2,hl2,e2⟩:=I.lstM hB;refine PySem.P.add_list e e2 ?_ (by rw[Yal,Yal];omega);have ea:its.toArray++its2.toArray=(its++its2).toArray:=by simp
 rw[ea];exact⟨.ref _,_,I.lnew (t':=s.toks) (r.append r2) (by rw[Yag];omega),rfl,q _ I.fresh⟩
def rRep:R2:=fun x y H Q=>∃ l k xs,x=.ref l/\y=.int k/\H l=some (.lst xs)/\-(2 ^ 63)<=k/\k<2 ^ 63/\xs.length*k.toNat<=sizeLine /\
 ∀ p,H p=none->Q (.ref p) (upd H p (.lst (Yan k.toNat xs).flatten))
theorem ZmJ {α:Type} (xs:List α) (k:Nat):(Yan k xs).flatten.length=k*xs.length:=by
 induction k with
 | zero=>simp
 | succ k ih=>rw[Ybj,YaF,Yag,ih,Nat.succ_mul,Nat.add_comm]
theorem Zft:OpR X (binaryOp .Mult) rRep:=by
 intro pins s σ H x y v u Q I rx ry h;obtain⟨l,k,xs,rfl,rfl,hH,h1,h2,hz,q⟩:=h;cases rx;obtain⟨t,rfl⟩:=ry;obtain⟨z,its,n,r,hl,e⟩:=I.lstM hH;have hlen:its.toArray.size*k.toNat<=sizeLine:=by rw[Yal,<- hl];exact hz
 have hcap:¬ its.toArray.size*k.toNat > (2 ^ 63 - 1) / 8:=by
  have:(sizeLine:Nat)<=(2 ^ 63 - 1) / 8:=by decide
  omega
 have hfit:¬ (!Builtin.List.listFitsIndex k)=true:=by
  rw[fitsIndex_both h1 h2];exact YaZ
 have hlong:¬ Ycy (its.toArray.size*k.toNat)=true:=by
  rw[Zg9 hlen];exact YaZ
 have hnew:YeK (fun x1 x2=>x1++x2) #[] (Yan (if its.toArray.isEmpty=true then 0 else k.toNat) its.toArray)=(Yan k.toNat its).flatten.toArray:=by
  have f0:∀ m:Nat,YeK (fun x1 x2=>x1++x2) #[] (Yan m its.toArray)=(Yan m its).flatten.toArray:=fun m=>by
   have:=ZfC its m [];rw[Yeq] at this;exact this
  rw[f0]
  cases its with
  | nil=>simp
  | cons a r'=>rw[if_neg (by simp)]
 refine wpAny_binaryOp_repeat_ref (T:="list") (U:="int") (by decide) ⟨_,e,rfl⟩ (fun s'=>typeIs_int s' k t) noFill_list_mul F.fills_int_mul F.slot_int_rmul repeat_list F.slot_int_index.lookup
  (call_meets F.slot_int_rmul (typeIs_int s k t) F.entry_int_rmul (F.args_int_rmul_2 _ _) (int___rmul___int_list k t l its.toArray n)
   ⟨e,rfl,⟨_,e,rfl⟩,call_meets F.slot_list_mul ⟨_,e,rfl⟩ F.entry_list_mul (F.args_list_mul_2 _ _) (AutoListH.list___mul___list_int_3 l its.toArray n k t hfit hcap hlong) ⟨e,?_⟩⟩)
 rw[hnew];exact⟨.ref _,_,I.lnew (t':=s.toks) (r.rep k.toNat) (by rw[ZmJ,Nat.mul_comm];exact hz),rfl,q _ I.fresh⟩
end
section
variable {prog:Program}{w:World}{A:Around}{E:Value->Shared->Prop}{s:Shared}
set_option maxRecDepth 100000 in
end
section
variable {X:Cx}
end
end L2
namespace Att
open PySem PySem.W PySem.Calls PyProof.Rows
theorem ZdH {P:Params}{h:Heap}:∀ (ns:List Int) (vs:List Value),WellAll P h vs (ns.map WData.int)->IntsAre vs ns:=by
 intro ns
 induction ns with
 | nil=>
  intro vs w;rw[Yc9] at w;cases w;exact .nil
 | cons n ns ih=>
  intro vs w;rw[YaJ] at w
  cases w with
  | cons a b=>
   cases a;exact .cons _ _ (ih _ b)
theorem Zit {l:OpenLaw}{n:Nat} (hn:l.most=some n) {P:Params}{h:Heap}{args:List WData}{vals:List Value}
  (hpre:l.row.toRowW.claim.pre args=true) (hwl:WellAll P h vals args) :
  ∃ a vs ns,vals=[YbH a]/\args=[WData.list (ns.map WData.int)]/\h.get? a=some { cls:=.type "list",data:=.seq vs.toArray }/\IntsAre vs ns/\ns.length<=n:=by
 have hsh:WShape.hasAll [] args [.list .int]=true:=(pre_splitW hpre).1
 have hc:l.pre.holds [] { args:=args }=true:=(pre_splitW hpre).2
 obtain⟨d,r,rfl,h1,h2⟩:=hasAllW_cons hsh;obtain rfl:=hasAllW_nil h2;obtain⟨xs,rfl,h3⟩:=hasW_list h1;obtain⟨ns,rfl⟩:=items_int h3;have hlen:ns.length<=n:=by
  unfold OpenLaw.pre at hc;have h4:(WTm.not (.lt (.lit (.int (n:Int))) (.len (.arg 0)))).holds [] { args:=[.list (ns.map .int)] }=true:=by
   have h4:=(holds_andW hc).1
   rw[hn] at h4;exact h4
  have h5:=condW_of h4 (w_not (w_lt w_lit (w_len_list (w_arg rfl))));rw[Yaa] at h5;refine Yel fun q=>?_;have q':(n:Int)<((ns.length:Nat):Int):=by omega
  first
   | (rw[decide_eq_true q'] at h5;exact absurd h5 (by decide))
   | (simp at h5;omega)
 cases hwl with
 | cons w1 w2=>
  cases w2
  cases w1 with
  | list ho hall=>exact⟨_,_,ns,rfl,rfl,ho,ZdH ns _ hall,hlen⟩
theorem ZiK (l:OpenLaw) (args:List WData):l.row.toRowW.claim.post args (.bool true) args=true :=
 postW_of (r:=l.row.toRowW) (X:=(true == true))
  (show WShape.has [] (.bool true) .bool=true by first | rfl | decide | simp[WShape.has,WShape.arms,WShape.armsAll])
  (show (WTm.eq .res (.lit (.bool true))).value [] { args:=args,res:=some (.bool true),after:=args }=some (.bool (true == true)) from w_eq_bool (w_res rfl) w_lit) rfl
theorem attach_call {l:OpenLaw}{n:Nat}{q:Program}{loose:List Str}{XP:(Str->Option Value)->Heap->Prop}{YP:World->Heap->Prop}{d:DefRec}
  (hn:l.most=some n) (hdf:d.params.defaults=[])
  (call:∀ (w:World) (s₀ s₁:Shared) (mg mb:Str->Option Value) (fa:Addr) (o:Obj) (pm cd doc:Value) (a:Addr) (vs:List Value) (ns:List Int),
   Ground q loose [] XP w s₀ mg mb s₁.heap->YP w s₁.heap ->
   s₁.heap.get? fa=some o->o.data=.func (docDef d.name d.params d.body d.scope pm cd doc)->s₁.heap.CodeRec cd d.name->mg d.name=some (.ref fa) ->
   s₁.heap.get? a=some { cls:=.type "list",data:=.seq vs.toArray }->IntsAre vs ns->ns.length<=n->s₁.gens=#[] ->
   codeAny (model l.prog w) callerA (.call (.ref fa) ⟨[.ref a],[]⟩) (fun r s'=>r=.ok (.ret (.bool true))/\OldK s₁.heap s'.heap/\s'.os=s₁.os/\AllBare s'.gens) s₁) :
  WalkO q loose XP YP l.row.toRowW d [] (fun f vs=>Yfj f vs):=by
 intro w s₀ s₁ mg mb G Y fa o pm cd doc dV kV ho hd hcd hD hmg hg args vals as hpre hlay hrd hwl hlo;obtain rfl:dV=.none:=Dflts.none hD hdf;obtain rfl:kV=.none:=Dflts.noKw hD;obtain⟨a,vs,ns,rfl,rfl,hobj,hints,hlen⟩:=Zit hn hpre hwl;refine enter_call (codeAny_mono (call w s₀ s₁ mg mb fa o pm cd doc a vs ns G Y ho (fd_plain hd) hcd hmg hobj hints hlen hg) fun r s' hq=>?_);obtain⟨rfl,h2,h3,h4⟩:=hq;exact⟨.inl ⟨.bool true,.bool true,[],rfl,fun _=>rfl,.bool true,ZiK l _,fun _=>⟨Yb4,fun _ hm=>(nomatch hm)⟩⟩,h2,h3,h4⟩
section
variable {prog:Program}{w:World}{A:Around}{E:Value->Shared->Prop}{s:Shared}{K:Frag}
def Zoz (h:Heap) (L d:Addr):List (Addr × Obj):=(YaE h.objs.size).filterMap fun a=>if a=L∨a=d then none else (h.get? a).map fun o=>(a,o)
end
end Att
namespace L2
open PySem PySem.Spec PyProof.Rows
theorem Ze8:∀ {vs:List Value}{ns:List Int},IntsAre vs ns->Vals (ns.map V.int) vs
 | _,_,.nil=>.nil
 | _,_,.cons n t h=>.cons ⟨t,rfl⟩ (Ze8 h)
def Only (H:Hp):Prop:=∀ b,H b=none∨∃ o xs,H b=some (.frz o (.lst xs))
theorem Zlg {P:Program}{w:World}{K:Yad}{mg mb:Str->Option Value}{CX:CXT}{k:Nat}{fa a:Addr}{fd:FuncData}{x:Str}{sp:Sp}{s₁:Shared}{vs:List Value}{ns:List Int}
  (KX:K.In s₁.heap) (hns:s₁.heap.Ns mainGlobals mg) (hb:s₁.heap.Ns builtinsNs mb) (hbb:∀ x:Str,x≠"__name__"->mb x=bootBuiltins x) (hlim:s₁.heap.NoLimit) (hg:s₁.gens=#[])
  (ha:s₁.heap.get? a=some { cls:=.type "list",data:=.seq vs.toArray }) (hi:IntsAre vs ns) (hl:ns.length<=sizeLine) (hr:Room k callerA)
  (F:∀ base:Heap,K.In base->base.Ns mainGlobals mg->FnOk P w K mg base CX k fa fd [x] sp) (hbind:∀ (s:Shared) (u:Value),BindsTo s fd ⟨[u],[]⟩ [(x,u)])
  (hsp:∀ H:Hp,Only H->SqL K H a (ns.map V.int)->sp [.ref a] H (fun v _=>v=.bl true) fun _ _ _=>False)
  (hCX:∀ H e s',CX [] H s₁ (fun _ _ _=>False) e s'->False) :
  codeAny (model P w) callerA (.call (.ref fa) ⟨[.ref a],[]⟩) (fun r s'=>r=.ok (.ret (.bool true))/\OldK s₁.heap s'.heap/\s'.os=s₁.os/\AllBare s'.gens) s₁:=by
 have rv:=Ze8 hi;have lenV:=hi.length;have core:∀ H:Hp,Only H->SqL K H a (ns.map V.int)->HOk P w H s₁.heap->(∀ b,H b≠none->b=a)->(H a≠none->K.lookup a=none) ->
   codeAny (model P w) callerA (.call (.ref fa) ⟨[.ref a],[]⟩) (fun r s'=>r=.ok (.ret (.bool true))/\OldK s₁.heap s'.heap/\s'.os=s₁.os/\AllBare s'.gens) s₁:=by
  intro H hO hS hok hA hK;have base_of:∀ {b:Addr}{o:Obj},s₁.heap.get? b=some o->H b=none->(hidT s₁.heap H).get? b=some o:=fun e n=>Zli e n;have noA:∀ {b:Addr}{o:Obj}{es:Array DictEntry}{ep:Nat},s₁.heap.get? b=some o->o.data=.dict es ep->H b=none:=fun {b o es ep} e d=>by
   cases q:H b with
   | none=>rfl
   | some u=>
    have e':b=a:=hA b (by rw[q];simp);subst e';rw[ha] at e;cases e;have d':Data.seq vs.toArray _=Data.dict es ep:=d;cases d'
  have nsK:∀ {b:Addr}{m:Str->Option Value},s₁.heap.Ns b m->(hidT s₁.heap H).Ns b m:=fun {b m} ⟨o,es,ep,e,d,r⟩=>⟨o,es,ep,base_of e (noA e d),d,r⟩
  have hKb:K.In (hidT s₁.heap H):=fun b o e=>base_of (KX b o e) (by
   cases q:H b with
   | none=>rfl
   | some u=>
    have e':b=a:=hA b (by rw[q];simp);subst e';rw[hK (by rw[q];simp)] at e;cases e)
  have hM:Mod K mg (hidT s₁.heap H):=⟨hKb,nsK hns,⟨mb,nsK hb,hbb⟩,let ⟨mc,h1,h2⟩:=hlim;⟨mc,nsK h1,h2⟩⟩
  have e0:Env0 P w K mg (hidT s₁.heap H) callerA [] s₁ H:=⟨rfl,hM,fun b o e=>ZmF e,Nat.le_of_eq (ZjH _ _),trivial,fun b hb=>absurd (show b∈([]:List Addr) from hb) (by simp),hok,.of_eq hg⟩
  refine codeAny_mono ((F _ hKb (nsK hns)).run callerA [] s₁ H ⟨[.ref a],[]⟩ [.ref a] [.ref a] _ _ hr e0 (hbind s₁ (.ref a)) (.cons rfl .nil) (hsp H hO hS)) fun r s' h=>?_
  cases r with
  | error e=>exact (hCX H e s' h).elim
  | ok fl=>
   cases fl with
   | next=>exact YcE h
   | brk=>exact YcE h
   | cont=>exact YcE h
   | ret u=>
    obtain⟨v,H',os,bare,un,hok',r',q⟩:=h;have q':v=.bl true:=q;subst q';obtain rfl:u=Ydv true:=r';refine⟨rfl,OldK.of_keep fun b o e=>?_,os,bare⟩
    cases q:H b with
    | none=>exact un.keep b o e q (by intro z;exact absurd (show b∈([]:List Addr) from z) (by simp)) (by simp)
    | some u=>
     rcases hO b with z | ⟨ob,xs,z⟩
     ·rw[q] at z;cases z
     ·have z2:=un.frzs b ob _ z;obtain⟨e1,_⟩:=hok b _ z;obtain⟨e2,_⟩:=hok' b _ z2;rw[e] at e1;cases e1;exact e2
 cases hk:K.lookup a with
 | some o=>
  have e:=KX a o hk;rw[ha] at e;cases e;refine core (fun _=>none) (fun _=>.inl rfl) (.inr ⟨_,vs.toArray,_,hk,rfl,rfl,rfl,by rw[Yal,lenV];exact hl,by simpa using rv⟩) (fun b u z=>by have z':(none:Option HO)=some u:=z;cases z') (fun b z=>absurd rfl z) fun z=>absurd rfl z
 | none=>
  refine core (fun b=>if b=a then some (.frz { cls:=.type "list",data:=.seq vs.toArray } (.lst (ns.map V.int))) else none) (fun b=>?_) (.inl (.inr ⟨{ cls:=.type "list",data:=.seq vs.toArray },if_pos rfl⟩)) (fun b u z=>?_) (fun b z=>?_) fun _=>hk
  ·by_cases hb:b=a
   ·exact .inr ⟨_,_,if_pos hb⟩
   ·exact .inl (if_neg hb)
  ·by_cases hb:b=a
   ·have z':=(if_pos hb).symm.trans z;cases z';subst hb;exact⟨ha,by rw[Yaa];exact hl,vs,_,rv,ha⟩
   ·have z':=(if_neg hb).symm.trans z;cases z'
  ·by_cases hb:b=a
   ·exact hb
   ·exact absurd (if_neg hb) z
end L2
namespace L2
open PySem PySem.Spec PyProof.Rows
theorem walk_of {l:Yd8}{n k:Nat}{q:Program}{loose:List Str}{XP:(Str->Option Value)->Heap->Prop}{YP:World->Heap->Prop}{d:DefRec}{K:Params->Yad}{CX:World->CXT}{sp:World->Sp}{x:Str}
  (hn:l.most=some n) (hn2:n<=sizeLine) (hdf:d.params.defaults=[]) (hr:Room k callerA)
  (hY:∀ (w:World) (h:Heap),YP w h->(K w.params).In h)
  (F:∀ (w:World) (mg:Str->Option Value) (fa:Addr) (h:Heap),(K w.params).In h->h.Ns mainGlobals mg->mg d.name=some (.ref fa) ->
   ∃ fd:FuncData,(∀ (s:Shared) (u:Value),BindsTo s fd ⟨[u],[]⟩ [(x,u)]) /\
    ∀ base:Heap,(K w.params).In base->base.Ns mainGlobals mg->FnOk l.prog w (K w.params) mg base (CX w) k fa fd [x] (sp w))
  (hsp:∀ (w:World) (H:Hp) (a:Addr) (ns:List Int),ns.length<=n->Only H->SqL (K w.params) H a (ns.map V.int)->sp w [.ref a] H (fun v _=>v=.bl true) fun _ _ _=>False)
  (hCX:∀ (w:World) (H:Hp) (s:Shared) (e:Value) (s':Shared),CX w [] H s (fun _ _ _=>False) e s'->False) :
  Yfz q loose XP YP l.row.toRowW d [] (fun f vs=>Yfj f vs):=by
 refine Att.attach_call hn hdf fun w s₀ s₁ mg mb fa o pm cd doc a vs ns G Y ho hd hcd hmg hobj hints hlen hg=>?_;have KX:=hY w _ Y;obtain⟨fd,hb,hF⟩:=F w mg fa _ KX G.T.g hmg;exact Zlg KX G.T.g G.T.b G.T.builtins G.T.nolimit hg hobj hints (Ybm hlen hn2) hr hF hb (fun H hO hS=>hsp w H a ns hlen hO hS) fun H e s'=>hCX w H s₁ e s'
end L2
namespace L2
open PySem PySem.Spec PyProof.Rows
def Zao (s:Stmt):Arguments:=match s with
 | .FunctionDef _ a _ _ _ _ _ _ _ _=>a
 | _=>{ posonlyargs:=[],args:=[],vararg:=none,kwonlyargs:=[],kw_defaults:=[],kwarg:=none,defaults:=[] }
def Zal (s:Stmt):List Stmt:=match s with
 | .FunctionDef _ _ b _ _ _ _ _ _ _=>b
 | _=>[]
def Zac (s:Stmt):Scope:=match s with
 | .FunctionDef _ _ _ _ _ _ sc _ _ _=>sc
 | _=>{ kind:=.function,names:=[],isGenerator:=false,isCoroutine:=false }
abbrev CX0:CXT:=fun _ _ _ _ _ _=>False
abbrev E0:XK:=fun _ _ _=>False
theorem Zmw {X:Cx}:Zkd CX0 X E0:=fun _ _ _ _ _ _ _ h=>h.elim
structure Fun (K:Yad) (x qual:Str) (st:Stmt) (f:Addr) (fd:FuncData):Prop where
 ex:∃ (oc:Value) (od:Option Addr) (kV doc pm:Value) (an:Option Addr) (cdv ct:Value) (osl:Array (Option Value)),
  fd=YaA x qual (Zao st) (Zal st) (Zac st) .none kV doc pm an cdv ct/\K.lookup f=some ⟨oc,od,.func fd,osl⟩/\Yat K cdv qual=true
 kp:Yao K (.ref f)=true
section
variable {P:Program}{w:World}{K:Yad}{mg:Str->Option Value}{base:Heap}
theorem Fun.ok {x qual:Str}{st:Stmt}{f:Addr}{fd:FuncData}{N ps:List Str}{k:Nat}{sp:Sp} (F:Fun K x qual st f fd) (S:FnScope N ps (Zac st)) (len:∀ vs H Q E,sp vs H Q E->vs.length=ps.length)
  (hbody:∀ (cdv:Value) (A:Around) (outer:List Env) (s:Shared) (H:Hp) (vs:List V) (Q:VK) (E:XK),Room k (A.deeper (envOfC qual (Zac st) s.heap.objs.size f cdv))->sp vs H Q E ->
   ∃ t,PSs (cxOf CX0 P w K mg base N qual (Zac st) f cdv A outer s H E).nox (Zal st) t/\t { nx:=fun _ H'=>Q .non H',rt:=Q } (start N vs) H):FnOk P w K mg base CX0 (k+1) f fd ps sp:=by
 obtain⟨oc,od,kV,doc,pm,an,cdv,ct,osl,rfl,lk,hcd⟩:=F.ex;refine ZnQ lk hcd S len fun A outer s H vs Q E hr hsp=>?_;obtain⟨t,h,q⟩:=hbody cdv A outer s H vs Q E hr hsp;exact⟨t,h.nox,q⟩
theorem Fun.binds {x qual:Str}{st:Stmt}{f:Addr}{fd:FuncData}{ps:List Str} (F:Fun K x qual st f fd)
  (h:∀ (kV doc pm:Value) (an:Option Addr) (cdv ct:Value) (us:List Value),us.length=ps.length->bindArgs (YaA x qual (Zao st) (Zal st) (Zac st) .none kV doc pm an cdv ct) ⟨us,[]⟩=pure (ps.zip us)):Binds K fd ps []:=by
 obtain⟨oc,od,kV,doc,pm,an,cdv,ct,osl,rfl,lk,hcd⟩:=F.ex;exact .all (h kV doc pm an cdv ct)
theorem Zav {x qual:Str}{st:Stmt}{f:Addr}{oc:Value}{od an:Option Addr}{osl:Array (Option Value)}{kV doc pm cdv ct:Value} (l:K.lookup f=some ⟨oc,od,.func (YaA x qual (Zao st) (Zal st) (Zac st) .none kV doc pm an cdv ct),osl⟩)
  (c:Yat K cdv qual=true) (k:Yao K (.ref f)=true):Fun K x qual st f (YaA x qual (Zao st) (Zal st) (Zac st) .none kV doc pm an cdv ct):=⟨⟨oc,od,kV,doc,pm,an,cdv,ct,osl,rfl,l,c⟩,k⟩
end
theorem Zou {A:Around}{k:Nat} (hr:Room k A):A.units+1<cLine:=YdX (Nat.add_le_add_left (by decide:1<=64) _) hr.units
theorem Zaz {n:Nat} (h:n<=1000):n<sizeLine:=YdX h (by decide)
section
variable {X:Cx}
theorem pv (i:Nat) {x:Str}{pos:Pos} (hN:X.N[i]?=some x:=by rfl) (hv:Vis X.env.scope x:=by first | exact YaN rfl | exact Yd2 (YaN rfl) | exact Yd2 (Yd2 rfl)) (hd:(x == ("__debug__":Str))=false:=by decide)
  (hcd:(x == ("__classdict__":Str))=false:=by decide):PE X (.Name x pos) (tVar i):=ZlK hN hv hd hcd
end
theorem iteF {A B:Prop} (h:B):if false=true then A else B:=by
 rw[if_neg YaZ];exact h
theorem iteT {A B:Prop} (h:A):if true=true then A else B:=by
 rw[if_pos rfl];exact h
theorem ite2 {c A B:Prop} [Decidable c] (h1:c->A) (h2:¬ c->B):if c then A else B:=by
 by_cases h:c
 ·rw[if_pos h];exact h1 h
 ·rw[if_neg h];exact h2 h
theorem ZnL {c A B:Prop} [Decidable c] (hc:c) (h:B):if (!decide c)=true then A else B:=by
 rw[decide_eq_true hc];exact iteF h
def Same (H H':Hp):Prop:=∀ b o,H b=some o->H' b=some o
theorem Same.refl (H:Hp):Same H H:=fun _ _ h=>h
theorem Same.trans {H H1 H2:Hp} (a:Same H H1) (b:Same H1 H2):Same H H2:=fun c o h=>b c o (a c o h)
theorem Same.free {H H':Hp} (e:Same H H') {l:Addr} (h:H' l=Option.none):H l=Option.none:=by
 cases q:H l with
 | none=>rfl
 | some o=>
  rw[e l o q] at h;cases h
theorem Same.seq {K:Yad}{H H':Hp}{a:Addr}{xs:List V} (e:Same H H') (h:SqL K H a xs):SqL K H' a xs:=by
 rcases h with (h | ⟨o,h⟩) | h
 ·exact .inl (.inl (e _ _ h))
 ·exact .inl (.inr ⟨o,e _ _ h⟩)
 ·exact .inr h
end L2
set_option maxHeartbeats 4000000
namespace L2
open PySem PySem.Spec PyProof.Rows
noncomputable def ZbQ (env:Env):List (Str × NameKind)->List (Str × Addr)->List (Str × Addr)
 | [],cs=>cs
 | (n,k)::r,cs=>ZbQ env r (if k == .free then (n,(env.cells.lookup n).getD 0)::cs else cs)
abbrev clOf (scope:Scope) (env:Env):List (Str × Addr):=ZbQ env scope.names []
theorem Zcx {env:Env}:∀ (names:List (Str × NameKind)) (cs:List (Str × Addr)),(∀ x∈names,x.2=.free->∃ c,env.cells.lookup x.1=some c) ->
  (forIn names cs fun (x:Str × NameKind) r=>do
   if x.2 == .free then
    let c <- cellOf env x.1
    pure (Ybo ((x.1,c)::r))
   else pure (Ybo r):Sem (List (Str × Addr)))=pure (ZbQ env names cs)
 | [],cs,_=>rfl
 | (n,k)::r,cs,h=>by
  rw[Yer];have ih:=fun cs'=>Zcx (env:=env) r cs' fun x hx=>h x (Yas _ hx);by_cases hk:k=.free
  ·subst hk;obtain⟨c,hc⟩:=h (n,.free) Yay rfl;have hc':env.cells.lookup n=some c:=hc;have ec:cellOf env n=pure c:=by unfold cellOf;rw[hc']
   dsimp only;rw[if_pos (by rfl),ec];show (forIn r ((n,c)::cs) _:Sem _)=_;rw[ih]
   conv=>rhs;unfold ZbQ
   rw[if_pos (by rfl),hc'];rfl
  ·have hb:(k == Yco)=false:=by simpa using hk
   dsimp only;rw[if_neg (by rw[hb];decide)];show (forIn r cs _:Sem _)=_;rw[ih]
   conv=>rhs;unfold ZbQ
   rw[if_neg (by rw[hb];decide)]
theorem Zb1 {scope:Scope}{env:Env} (h:∀ x∈scope.names,x.2=.free->∃ c,env.cells.lookup x.1=some c):closureFor scope env=pure (clOf scope env):=by
 unfold closureFor;have e:=Zcx (env:=env) scope.names [] h;simp only[bind_pure];exact e
theorem ZfM {env:Env}{x:Str}{c:Addr}:∀ (names:List (Str × NameKind)) (cs:List (Str × Addr)),(ZbQ env names cs).lookup x=some c->((x,Yco)∈names/\c=(env.cells.lookup x).getD 0)∨cs.lookup x=some c
 | [],_,h=>.inr h
 | (n,k)::r,cs,h=>by
  unfold ZbQ at h;rcases ZfM r _ h with ⟨h1,h2⟩ | h1
  ·exact .inl ⟨Yas _ h1,h2⟩
  ·by_cases hk:k=.free
   ·subst hk;rw[if_pos (by rfl),Yb1] at h1
    cases e:x == n with
    | true=>
     rw[e] at h1;have en:x=n:=eq_of_beq e;subst en;exact .inl ⟨Yay,(YaB h1).symm⟩
    | false=>rw[e] at h1;exact .inr h1
   ·have hb:(k == Yco)=false:=by simpa using hk
    rw[if_neg (by rw[hb];decide)] at h1;exact .inr h1
theorem Zj0 {env:Env}{x:Str}:∀ (names:List (Str × NameKind)) (cs:List (Str × Addr)),(∃ c,cs.lookup x=some c)->∃ c,(ZbQ env names cs).lookup x=some c
 | [],_,h=>h
 | (n,k)::r,cs,h=>by
  unfold ZbQ;refine Zj0 r _ ?_;split
  ·rw[Yb1];split
   ·exact⟨_,rfl⟩
   ·exact h
  ·exact h
theorem Zj1 {env:Env}{x:Str}:∀ (names:List (Str × NameKind)) (cs:List (Str × Addr)),(x,Yco)∈names->∃ c,(ZbQ env names cs).lookup x=some c
 | [],_,h=>by simp at h
 | (n,k)::r,cs,h=>by
  unfold ZbQ;rcases YaD.mp h with e | h
  ·cases e;refine Zj0 r _ ?_;rw[if_pos (by rfl),Yb1];exact⟨(env.cells.lookup x).getD 0,by simp⟩
  ·exact Zj1 r _ h
theorem ZhK {scope:Scope}{env:Env}{x:Str} (hcell:∀ y∈scope.names,y.2≠.cell) (h:(relabel scope env).names.lookup x=some .cell∨(relabel scope env).names.lookup x=some .free):(x,Yco)∈scope.names:=by
 have hm:∃ k,(x,k)∈(relabel scope env).names/\(k=.cell∨k=.free):=by
  rcases h with h | h
  ·exact⟨_,YbW h,.inl rfl⟩
  ·exact⟨_,YbW h,.inr rfl⟩
 obtain⟨k,hm,hk⟩:=hm;obtain⟨⟨n,k'⟩,h1,h2⟩:=YaS.mp hm;dsimp only at h2;split at h2
 ·rename_i hc;have:k'=.free:=by
   simp only[YcU,beq_iff_eq] at hc;exact hc.1.1
  cases h2;subst this;exact h1
 ·cases h2;rcases hk with rfl | rfl
  ·exact absurd rfl (hcell _ h1)
  ·exact h1
theorem Zc1 {env:Env}{x:Str}:∀ {names:List (Str × NameKind)},names.lookup x=some .free ->
  (names.map fun (n,k)=>if (k == Yco && env.scope.kind == .function && env.kindOf n == some .cell) then (n,Yft) else (n,k)).lookup x=some .cell ∨
  (names.map fun (n,k)=>if (k == Yco && env.scope.kind == .function && env.kindOf n == some .cell) then (n,Yft) else (n,k)).lookup x=some .free
 | [],h=>by simp at h
 | (n,k)::r,h=>by
  have ih:=@Zc1 env x r;rw[YaJ];dsimp only
  cases hx:x == n with
  | true=>
   simp only[Yb1,hx] at h;cases h;split
   ·left;simp[Yb1,hx]
   ·right;simp[Yb1,hx]
  | false=>
   simp only[Yb1,hx] at h;split
   ·simp only[Yb1,hx];exact ih h
   ·simp only[Yb1,hx];exact ih h
section
variable {prog:Program}{w:World}{A:Around}{R:Result->Shared->Prop}{s:Shared}
theorem Zcf {elt target iter:Expr}{ifs:List Expr}{scope:Scope}{pos:Pos}{it acc:Value}{env:Env} (I:Nat->Shared->Prop)
  (turn:∀ n s,I n s->wpAny (model prog w) A (pyNext it) (fun r s₁=>match r with
   | none=>R (.ok .next) s₁
   | some v=>wpAny (model prog w) A (letOwnedTupleGo target it v) (fun _ s₁'=>wpAny (model prog w) A (assign target env v) (fun _ s₂=>
     wpAny (model prog w) A (forIn ifs true fun c r=>if r=true then do let ok <- isTrue c env (eval c env);pure (Ybo ok) else pure (Ybo r)) (fun ok s₃=>
      if ok=true then wpAny (model prog w) A (eval elt env) (fun x s₄=>
       wpAny (model prog w) A (call (.builtin "list.append") [acc,x]) (fun _ s₅=>∃ m,m<n/\I m s₅) (fun _ _=>False) s₄) (fun _ _=>False) s₃
      else ∃ m,m<n/\I m s₃) (fun _ _=>False) s₂) (fun _ _=>False) s₁') (fun _ _=>False) s₁) (fun _ _=>False) s)
  (n:Nat) (h:I n s) :
  codeAny (model prog w) A (.compLoop (.ListComp elt [⟨target,iter,ifs,0⟩] scope pos) 0 it acc env) R s:=by
 refine codeAny_loop rfl I (fun n s hI=>?_) n h;show wpAny _ A ((compTurn (.ListComp elt [⟨target,iter,ifs,0⟩] scope pos) 0 it acc env).onRaise (fun x=>do noteFrame x env;theTreesLotGoes x)) _ _ s;refine wpAny_noted ?_;rw[compTurn_list];refine wpAny_bind (wpAny_standAt (wpAny_bind (wpAny_mono (turn n s hI) (fun r s₁ h₁=>?_) fun _ _ h'=>h'.elim)))
 cases r with
 | none=>exact wpAny_pure h₁
 | some v=>
  refine wpAny_bind (wpAny_mono h₁ (fun _ s₁' h₁=>?_) fun _ _ h'=>h'.elim);refine wpAny_bind (wpAny_mono h₁ (fun _ s₂ h₂=>wpAny_bind (wpAny_mono h₂ (fun ok s₃ h₃=>?_) fun _ _ h'=>h'.elim)) fun _ _ h'=>h'.elim)
  cases ok with
  | false=>exact wpAny_pure ⟨rfl,h₃⟩
  | true=>
   exact wpAny_bind (wpAny_bind (wpAny_mono h₃ (fun x s₄ h₄=>wpAny_bind (wpAny_mono h₄ (fun _ s₅ h₅=>wpAny_pure (wpAny_pure ⟨rfl,h₅⟩)) fun _ _ h'=>h'.elim)) fun _ _ h'=>h'.elim))
end
def PTs (X:Cx) (ifs:List Expr) (t:TT):Prop :=
 ∀ (pins:List (Addr × Obj)) (s:Shared) (σ:St) (H:Hp) (Q:Bool->Hp->Prop),Inv X pins σ H s->t σ H Q ->
  wpAny (model X.prog X.w) X.A (forIn ifs true fun c r=>if r=true then do let ok <- isTrue c X.env (eval c X.env);pure (Ybo ok) else pure (Ybo r)) (TP X pins σ Q) X.xe s
def Zcn:TT:=fun _ H Q=>Q true H
theorem Zay {X:Cx}:PTs X [] Zcn:=fun _ _ _ H _ I h=>wpAny_tests_nil ⟨H,I,h⟩
theorem Zdz {X:Cx}{c:Expr}{t:TT} (h:PT X c t):PTs X [c] t:=fun pins s σ H Q I q=>wpAny_tests_one (h pins s σ H Q I q)
def Cx.blk (X:Cx) (scope:Scope) (own:List Str) (js:List Nat) (s₂:Shared) (H₂:Hp) (C:Addr) (fp:List Addr) (pins:List (Addr × Obj)):Cx where
 prog:=X.prog
 w:=X.w
 K:=X.K
 mg:=X.mg
 base:=X.base
 A:=X.A
 N:=own++js.map fun j=>X.N.getD j YdW
 s₀:=s₂
 H₀:=H₂
 env:=compEnvC scope (clOf scope X.env) C X.env
 outer:=X.stack
 stack:=X.stack
 ex:=fp
 fn:=fun _=>false
 calm:=X.calm
 pn:=X.pn++pins
 xe:=fun _ _=>False
def blkσ (own:List Str) (js:List Nat) (σ:St):St:=own.map (fun _=>none)++js.map fun j=>(σ[j]?).join
section
variable {X:Cx}{pins:List (Addr × Obj)}{σ:St}{H H':Hp}{s s':Shared}{scope:Scope}{own:List Str}{js:List Nat}{C:Addr}{fp:List Addr}
structure CompOk (X:Cx) (scope:Scope) (own:List Str) (js:List Nat):Prop where
 kind:scope.kind=.function
 cell:∀ y∈scope.names,y.2≠.cell
 free:∀ y∈scope.names,y.2=.free->X.env.kindOf y.1=some .cell∨X.env.kindOf y.1=some .free
 names:∀ y∈scope.names,y.2=.local -> scope.names.lookup y.1=some .local
 out:∀ j∈js,∃ x,X.N[j]?=some x/\scope.names.lookup x=some .free
theorem CompOk.cl (c:CompOk X scope own js) (I:Inv X pins σ H s):∀ x∈scope.names,x.2=.free->∃ c,X.env.cells.lookup x.1=some c:=fun x hx hf=>I.ok.has x.1 (c.free x hx hf)
theorem CompOk.look (c:CompOk X scope own js) (I:Inv X pins σ H s) {x:Str}{a:Addr} (h:(clOf scope X.env).lookup x=some a):X.env.cells.lookup x=some a:=by
 rcases ZfM _ _ h with ⟨h1,h2⟩ | h1
 ·obtain⟨c',e⟩:=c.cl I (x,.free) h1 rfl;have e':X.env.cells.lookup x=some c':=e;rw[e'] at h2 ⊢;subst h2;rfl
 ·simp at h1
theorem ZnW (c:CompOk X scope own js) (I:Inv X pins σ H s) (hC:s.heap.objs.size<=C) (hf:∀ b∈fp,FpOk X pins H b) (ho:∀ b∈fp,∃ o,s.heap.get? b=some o):(X.blk scope own js s H C fp pins).Ok where
 mod:=I.ok.mod
 kind:=c.kind
 glob:=I.ok.glob
 blt:=I.ok.blt
 above:=hC
 inj:=fun x y a h1 h2=>I.ok.inj x y a (c.look I h1) (c.look I h2)
 has:=fun x hx=>Zj1 _ _ (ZhK c.cell hx)
 cab:=fun x a h=>by cases h
 hd:=I.ok.hd
 frames:=I.ok.frames
 stk:=.inl rfl
 exf:=fun b hb=>by
  obtain⟨o,e⟩:=ho b hb;exact⟨YaP (Yaw (Yar e) hC),fun x a h=>(hf b hb).2.2.2.2.1 x a (c.look I h)⟩
 bs:=I.bs
 bsz:=Ybm I.ok.bsz I.sz
 noex:=fun b o e hb=>by
  rcases (hf b hb).2.2.2.1 with z | z
  ·exact I.ok.noex b o e z
  ·exact absurd (Yaw (Yar e) (Ybm I.ok.bsz z)) (Ybl _)
 exfs:=fun b hb hm=>by
  rcases YaD.mp (I.stkSub b hm) with z | z
  ·exact (hf b hb).2.1 z
  ·exact (hf b hb).2.2.1 z
 funs:=I.stack
 frf:=I.stkFree
theorem ZgM (own:List Str) (js:List Nat) (σ:St) (X:Cx):(blkσ own js σ).length=(own++js.map fun j=>X.N.getD j YdW).length:=by
 unfold blkσ;simp
theorem ZfP {acc:Addr}{m:Str->Option Value}{tk:Nat}{h':Heap} (c:CompOk X scope own js) (I:Inv X pins σ H s) (hC:s.heap.objs.size<=C) (hf:∀ b∈fp,FpOk X pins H b) (ho:∀ b∈fp,∃ o,s.heap.get? b=some o)
  (hn:h'.Ns C m) (k:∀ b u,s.heap.get? b=some u->h'.get? b=some u) (hacc:s.heap.objs.size<=acc) (haC:acc≠C) (hl:h'.get? acc=some { cls:=.type "list",data:=.seq ([]:List Value).toArray 0 }) :
  Inv (X.blk scope own js s H C fp pins) [] (blkσ own js σ) (upd H acc (.lst [])) { s with heap:=h',toks:=tk }:=by
 have ok:=ZnW c I hC hf ho;have fresh:∀ {a:Addr},s.heap.objs.size<=a->H a=none:=fun h=>I.hok.fresh h;have neA:∀ b o,s.heap.get? b=some o->b≠acc:=fun b o e=>YaP (Yaw (Yar e) hacc);refine⟨ok,rfl,I.bare,Un.laid k hacc (fresh hacc),⟨m,hn,fun i x v e1 e2 e3=>?_⟩,fun x a e=>?_,?_,fun x a e=>?_,fun p hp=>?_,I.hok.laid k hacc ⟨Ya2 _,[],0,.nil,hl⟩,ZgM own js σ X⟩
 ·
  have hi:own.length<=i:=by
   refine Yel fun hi=>?_;unfold blkσ at e2;rw[Yaz (by simpa using hi),Yaf] at e2
   cases q:own[i]? with
   | none=>rw[q] at e2;cases e2
   | some z=>rw[q] at e2;cases e2
  have e1':(js.map fun j=>X.N.getD j YdW)[i - own.length]?=some x:=by
   have e1:(own++js.map fun j=>X.N.getD j YdW)[i]?=some x:=e1
   rwa [YaG hi] at e1
  have e2':(js.map fun j=>(σ[j]?).join)[i - own.length]?=some (some v):=by
   unfold blkσ at e2;rw[YaG (by simpa using hi)] at e2;simpa using e2
  rw[Yaf] at e1' e2'
  cases q:js[i - own.length]? with
  | none=>rw[q] at e1';cases e1'
  | some j=>
   rw[q] at e1' e2';obtain⟨x',hx',hfree⟩:=c.out j (Yam q);have ex:x'=x:=by
    have:X.N.getD j YdW=x:=YaB e1';rw[Yak,hx'] at this;exact this
   subst ex;have eσ:σ[j]?=some (some v):=by
    have e2'':(σ[j]?).join=some v:=YaB e2'
    cases r:σ[j]? with
    | none=>rw[r] at e2'';cases e2''
    | some z=>rw[r] at e2'';cases z with
     | none=>cases e2''
     | some y=>cases e2'';rfl
   have hmem:(x',Yco)∈scope.names:=YbW hfree;have hkX:=c.free _ hmem rfl;have vis:Vis X.env.scope x':=by
    rcases hkX with z | z
    ·exact .inr (.inl z)
    ·exact .inr (.inr z)
   obtain⟨m0,hn0,hl0⟩:=I.loc;obtain⟨u,r,l⟩:=hl0 j x' v hx' eσ vis;refine⟨u,r,.inr ⟨Zc1 hfree,?_⟩⟩;obtain⟨a,ha⟩:=Zj1 (env:=X.env) scope.names [] hmem;refine⟨a,ha,?_⟩;have haX:=c.look I ha;rcases l with ⟨z,_⟩ | ⟨_,a',ha',⟨o,ho',hd⟩⟩
   ·have z:X.env.kindOf x'=some .local:=z;rcases hkX with y | y
    ·have y:X.env.kindOf x'=some .cell:=y;rw[z] at y;cases y
    ·have y:X.env.kindOf x'=some .free:=y;rw[z] at y;cases y
   ·rw[haX] at ha';cases ha';exact⟨o,k _ o ho',hd⟩
 ·obtain⟨v,o,ho',hd⟩:=I.cell x a (c.look I e);exact⟨v,o,k _ o ho',hd⟩
 ·show upd H acc (.lst []) C=none;rw[Zai (Ybn haC)];exact fresh hC
 ·have e':=c.look I e;obtain⟨v,o,ho',hd⟩:=I.cell x a e';rw[Zai (neA a o ho')];exact I.freeC x a e'
 ·have hp:p∈X.pn++pins:=by simpa[Cx.blk] using hp
  obtain⟨e,n,ne,nf,d⟩:=I.pin p hp;refine⟨k _ _ e,by rw[Zai (neA _ _ e)];exact n,YaP (Yaw (Yar e) hC),fun z=>?_,d⟩;rcases YaD.mp (I.stkSub _ z) with q | q
  ·exact ne q
  ·exact nf q
theorem Zj8 {τ:St}{pl:List (Addr × Obj)} (I:Inv X pins σ H s) (hf:∀ b∈fp,FpOk X pins H b) (J:Inv (X.blk scope own js s H C fp pins) pl τ H' s'):Inv X pins σ H' s' :=
 I.call' J.os J.base J.hok J.bare fun b hb=>⟨(hf b hb).2.2.2.1,(hf b hb).2.1,(hf b hb).2.2.2.2.1,(hf b hb).2.2.2.2.2⟩
theorem Inv.other {h':Heap} (I:Inv X pins σ H s) (hs:YdC C s.heap h') (hn:H C=none) (hL:C≠X.env.locals) (h1:X.s₀.heap.objs.size<=C) (h2:∀ x c,X.env.cells.lookup x=some c->c≠C) (h3:∀ p∈X.pn++pins,p.1≠C) :
  Inv X pins σ H { s with heap:=h' } :=
 I.turned (t':=s.toks) (fun b o hb e=>(hs.2 b hb).trans e) hn hL (.inr h1) h2 h3
end
def Zh7 (own:List Str) (g:TG):Prop:=∀ (js:List Nat) (σ:St) (x:V) (H:Hp) (Q:St->Hp->Prop),g x (blkσ own js σ) H Q ->
 g x (blkσ own js σ) H fun τ H'=>(∀ (j:Nat) v,(blkσ own js σ)[j]?=some (some v)->τ[j]?=some (some v))/\Q τ H'
theorem ZaN {own:List Str}{js:List Nat}{σ:St}{i:Nat}{v:V} (hi:i<own.length):(blkσ own js σ)[i]?≠some (some v):=by
 unfold blkσ;rw[Yaz (by simpa using hi),Yaf]
 cases own[i]? with
 | none=>intro h;cases h
 | some z=>intro h;cases h
theorem Zau {own:List Str}{i:Nat} (hi:i<own.length:=by decide):Zh7 own (ZbE i):=fun js σ x H Q h=>⟨fun j v e=>by
 have hj:j≠i:=by rintro rfl;exact ZaN hi e
 rw[YaO (Ybn hj)];exact e,h⟩
theorem Zbq {K:Yad}{own:List Str}{i k:Nat} (hi:i<own.length:=by decide) (hk:k<own.length:=by decide):Zh7 own (gTup K 2 (ZdJ (ZbE i) (ZdJ (ZbE k) gNil))):=fun js σ x H Q h=>by
 obtain⟨a,xs,rfl,hq,hl,v,r,rfl,w,r',rfl,e,h⟩:=h;refine⟨a,_,rfl,hq,hl,v,_,rfl,w,r',rfl,e,fun j z e=>?_,h⟩;have hj:j≠i:=by rintro rfl;exact ZaN hi e
 have hj':j≠k:=by rintro rfl;exact ZaN hk e
 rw[YaO (Ybn hj'),YaO (Ybn hj)];exact e
def Zbg (own:List Str) (js:List Nat) (g:TG) (tt:TT) (te:TE) (σ:St) (J:It) (H1:Hp) (Q:VK):Prop :=
 ∀ acc,H1 acc=none->∃ (W:Nat->Hp->Prop) (n:Nat),W 0 (upd H1 acc (.lst []))/\∀ i H2,W i H2 ->
  (J.stop i H2/\Q (.ref acc) H2)∨(i<n/\J.go i H2/\∀ x H3,J.yld i H2 x H3->g x (blkσ own js σ) H3 fun τ H4=>tt τ H4 fun c H5=>
   if c=true then te τ H5 fun y H6=>∃ ys,H6 acc=some (.lst ys)/\ys.length<sizeLine/\W (i+1) (upd H6 acc (.lst (ys++[y]))) else W (i+1) H5)
def Zm5 (own:List Str) (js:List Nat) (wi:TI) (g:TG) (tt:TT) (te:TE):TE:=fun σ H Q=>wi σ H fun J H1=>Zbg own js g tt te σ J H1 Q
section
variable {X:Cx}{scope:Scope}{own:List Str}{js:List Nat}{elt iter target:Expr}{ifs:List Expr}{wi:TI}{g:TG}{tt:TT}{te:TE}{pos:Pos}
theorem Zj7 {pins:List (Addr × Obj)}{σ:St}{H2:Hp}{s₂:Shared}{it:Addr}{fp:List Addr}{tn:Nat->Heap->Prop}{J:It}{Q:VK}{E:Value->Shared->Prop}{RR:Value->Addr->Result->Shared->Prop}
  (c:CompOk X scope own js) (hc:X.calm=true) (hgk:Zh7 own g)
  (hg:∀ s H C fp pins,PG (X.blk scope own js s H C fp pins) target g) (ht:∀ s H C fp pins,PTs (X.blk scope own js s H C fp pins) ifs tt) (he:∀ s H C fp pins,PE (X.blk scope own js s H C fp pins) elt te)
  (I:Inv X pins σ H2 s₂) (T:Turn X.prog X.w X.K target J fp it tn) (st:tn 0 s₂.heap) (hf:∀ b∈fp,FpOk X pins H2 b) (h:Zbg own js g tt te σ J H2 Q)
  (hRR:∀ acc C H' s' m,s₂.heap.objs.size<=C->H' C=none->Inv X pins σ H' s'->s'.heap.Ns C m->Q (.ref acc) H'->RR (.ref acc) C (.ok .next) s') :
  wpAny (model X.prog X.w) X.A (newList []) (fun acc s₃=>wpAny (model X.prog X.w) X.A (newFunctionEnv scope X.env.globals (clOf scope X.env) [] X.env.qual none .none (some X.env)) (fun cenv s₄=>
   codeAny (model X.prog X.w) X.A (.compStart (.ListComp elt [⟨target,iter,ifs,0⟩] scope pos) 0 (.ref it) acc { cenv with scope:=relabel scope X.env }) (RR acc cenv.locals) s₄) E s₃) E s₂:=by
 refine wpAny_newObj_type (wpAny_newFunctionEnv c.cell (by intro y hy;simp at hy) (fun h₁ hns₁ hsb₁=>?_) c.kind);dsimp only at hns₁ hsb₁ ⊢;generalize hH2:s₂.heap.push { cls:=.type "list",dict:=none,data:=.seq ([]:List Value).toArray }=G2 at hns₁ hsb₁ ⊢;have hC:G2.objs.size=s₂.heap.objs.size+1:=by rw[<- hH2,YbA]
 have hDC:s₂.heap.objs.size≠G2.objs.size:=by rw[hC];exact YaP (Yb5 _)
 have hCle:s₂.heap.objs.size<=G2.objs.size:=by rw[hC];exact Ycw _
 have old:∀ b o,s₂.heap.get? b=some o->h₁.get? b=some o:=fun b o e=>hsb₁.extBut b o (YaP (Yaw (Yar e) hCle)) (Yae _ (hH2 ▸ Yae _ e));have hacc:h₁.get? s₂.heap.objs.size=some { cls:=.type "list",data:=.seq ([]:List Value).toArray 0 }:=hsb₁.extBut _ _ hDC (Yae _ (hH2 ▸ YaC _ rfl));have ho2:∀ b∈fp,∃ o,s₂.heap.get? b=some o:=fun b hb=>let ⟨o,e,_⟩:=T.obj 0 _ st b hb;⟨o,e⟩
 have I0:∀ tk,Inv (X.blk scope own js s₂ H2 G2.objs.size fp pins) [] (blkσ own js σ) (upd H2 s₂.heap.objs.size (.lst [])) { s₂ with heap:=h₁,toks:=tk }:=fun tk=>
  ZfP c I hCle hf ho2 hns₁ old (Yap _) hDC hacc
 obtain⟨W,nn,w0,turn⟩:=h s₂.heap.objs.size (I.hok.fresh (Yap _));generalize hacc':s₂.heap.objs.size=acc at *;generalize hGC:G2.objs.size=C at *;have st1:tn 0 h₁:=T.keep 0 _ _ st fun b _ o e=>old b o e;have fOk:∀ {H':Hp},(∀ b∈fp,H' b=none)->∀ b∈fp,FpOk (X.blk scope own js s₂ H2 C fp pins) [] H' b:=fun hn b hb=>by
  obtain⟨f0,f1,f2,f3,f4,f5⟩:=hf b hb;obtain⟨o,e⟩:=ho2 b hb;refine⟨hn b hb,YaP (Yaw (Yar e) (by rw[<- hacc'] at hCle;exact hCle)),fun z=>?_,.inl hb,fun x a h=>f4 x a (c.look I h),fun p hp=>f5 p (by simpa[Cx.blk] using hp)⟩;rcases YaD.mp (I.stkSub b z) with q | q
  ·exact f1 q
  ·exact f2 q
 have loop:∀ s₃:Shared,s₃={ s₂ with heap:=h₁,toks:=s₂.toks+([]:List (Str × Value)).length } ->
   codeAny (model X.prog X.w) X.A (.compLoop (.ListComp elt [⟨target,iter,ifs,0⟩] scope pos) 0 (.ref it) (.ref acc) (compEnvC scope (clOf scope X.env) C X.env)) (RR (.ref acc) C) s₃:=by
  rintro s₃ rfl;refine Zcf (fun n s'=>∃ i H',n=nn - i/\Inv (X.blk scope own js s₂ H2 C fp pins) [] (blkσ own js σ) H' s'/\tn i s'.heap/\(∀ b∈fp,H' b=none)/\W i H') ?_ nn ⟨0,_,rfl,I0 _,st1,fun b hb=>?_,w0⟩
  ·rintro n s3 ⟨i,H3,en,I3,st3,fr3,w3⟩;rcases turn i H3 w3 with ⟨stop,qn⟩ | ⟨hin,go,step⟩
   ·refine thn (T.done (X.blk scope own js s₂ H2 C fp pins) rfl rfl rfl hc i [] s3 _ H3 (fun _ _=>False) I3 (fOk fr3) st3 stop) fun r s4 ⟨hr,I4⟩=>?_;subst hr;obtain⟨m,hn,_⟩:=I4.loc;exact hRR acc C H3 s4 m hCle I4.free (Zj8 I hf I4) hn qn
   ·refine thn (T.item (X.blk scope own js s₂ H2 C fp pins) rfl rfl rfl hc i [] s3 _ H3 (fun _ _=>False) I3 (fOk fr3) st3 go) fun r s4 ⟨u,hr,h4⟩=>?_;subst hr;refine thn h4 fun _ s5 ⟨x,H5,I5,r5,y5,st5,fr5⟩=>?_;have I5':=I5.pinned (fOk fr5) (T.obj _ _ st5);have again:∀ {σ7:St}{H7:Hp}{s7:Shared},Inv (X.blk scope own js s₂ H2 C fp pins) ([]++ZdB fp s5.heap) σ7 H7 s7->(∀ (j:Nat) v,(blkσ own js σ)[j]?=some (some v)->σ7[j]?=some (some v))->W (i+1) H7 ->
      ∃ m,m<n/\∃ i H',m=nn - i/\Inv (X.blk scope own js s₂ H2 C fp pins) [] (blkσ own js σ) H' s7/\tn i s7.heap/\(∀ b∈fp,H' b=none)/\W i H':=fun {σ7 H7 s7} I7 hw w7=>by
     refine⟨nn - (i+1),by omega,i+1,H7,rfl,(I7.unpinned).weak ((ZgM own js σ X).trans I7.len.symm) hw,T.keep _ _ _ st5 fun b hb o e=>(I7.pin (b,o) (YaI _ (YaI _ (ZaY hb e)))).1,fun b hb=>?_,w7⟩;obtain⟨o,e,d⟩:=T.obj _ _ st5 b hb;exact (I7.pin (b,o) (YaI _ (YaI _ (ZaY hb e)))).2.1
    refine thn (hg s₂ H2 C fp pins _ s5 _ H5 x u _ I5' r5 (hgk _ _ _ _ _ (step x H5 y5))) fun _ s6 ⟨σ6,H6,I6,kp,q6⟩=>?_;refine thn (ht s₂ H2 C fp pins _ s6 σ6 H6 _ I6 q6) fun ok s7 ⟨H7,I7,q7⟩=>?_
    cases ok with
    | false=>
     exact again I7 kp q7
    | true=>
     refine thn (he s₂ H2 C fp pins _ s7 σ6 H7 _ I7 q7) fun y s8 ⟨v,H8,I8,r8,ys,hl,hz,w8⟩=>?_;refine thn (ZaT (X:=X.blk scope own js s₂ H2 C fp pins) _ s8 σ6 H8 (.ref acc) [v] (.ref acc) [y] (fun _ H9=>W (i+1) H9) I8 rfl (.cons r8 .nil) ⟨acc,ys,v,rfl,rfl,hl,hz,w8⟩) fun _ s9 ⟨_,H9,I9,_,w9⟩=>?_;exact again I9 kp w9
  ·rw[Zai ?_]
   ·exact (hf b hb).1
   ·obtain⟨o,e⟩:=ho2 b hb;rw[<- hacc'];exact YaP (Yar e)
 exact codeAny_compStart_list (loop _ rfl) (T.self _ 0 _ _ _ st1 (loop _ rfl))
theorem ZaE (c:CompOk X scope own js) (hc:X.calm=true) (hi:PI X target iter wi) (hgk:Zh7 own g)
  (hg:∀ s H C fp pins,PG (X.blk scope own js s H C fp pins) target g) (ht:∀ s H C fp pins,PTs (X.blk scope own js s H C fp pins) ifs tt) (he:∀ s H C fp pins,PE (X.blk scope own js s H C fp pins) elt te)
  (hs:∀ x,foldedSetIterable iter X.env x=pure x:=by intro _;rfl):PE X (.ListComp elt [⟨target,iter,ifs,0⟩] scope pos) (Zm5 own js wi g tt te):=by
 intro pins s σ H Q I h;rw[eval_ListComp];refine wpAny_comprehension_free (use:=none) rfl hs (Zb1 (c.cl I)) c.kind c.names (thn (hi pins s σ H _ I h) fun v s1 h1=>thn h1 fun itv s2 h2=>?_);obtain⟨it,fp,tn,J,H2,e,I2,T,st2,f2,hw⟩:=h2;subst e;refine Zj7 (RR:=fun acc C=>compPost (model X.prog X.w) X.A X.xe none (EP X pins σ Q) acc C) c hc hgk hg ht he I2 T st2 f2 hw ?_;intro acc C H' s' m hCs hCn I' hn q;refine⟨m,hn,fun h' hs'=>⟨.ref acc,H',I'.other hs' hCn ?_ ?_ ?_ ?_,rfl,q⟩⟩
 ·exact YbU (Yaw I2.lt hCs)
 ·exact Ybm I2.sz hCs
 ·intro x a e z;obtain⟨v,q⟩:=I2.cell x a e;exact absurd (Yaw q.lt (by rw[z];exact hCs)) (Ybl _)
 ·intro p hp z;exact absurd (Yaw (Yar (I2.pin p hp).1) (by rw[z];exact hCs)) (Ybl _)
theorem Zca {i:Nat}{y:Str}{py spos:Pos} (hN:X.N.Nodup) (hy:X.N[i]?=some y) (hyl:X.env.scope.names.lookup y=some .local) (c:CompOk X scope own js) (hc:X.calm=true) (hi:PI X target iter wi) (hgk:Zh7 own g)
  (hg:∀ s H C fp pins,PG (X.blk scope own js s H C fp pins) target g) (ht:∀ s H C fp pins,PTs (X.blk scope own js s H C fp pins) ifs tt) (he:∀ s H C fp pins,PE (X.blk scope own js s H C fp pins) elt te)
  (hsw:swapsWith (.ListComp elt [⟨target,iter,ifs,0⟩] scope pos) (some (.Name y py)) spos.line X.env=pure true:=by rfl)
  (hs:∀ x,foldedSetIterable iter X.env x=pure x:=by intro _;rfl):PS X (.Assign [.Name y py] (.ListComp elt [⟨target,iter,ifs,0⟩] scope pos) spos) (tAsg (Zm5 own js wi g tt te) (ZbE i)):=by
 intro pins s σ H D I h;rw[exec_Assign_Name_used _ _ _ _ hsw];refine wpAny_bind (wpAny_standAt (wpAny_bind ?_));show wpAny _ X.A (do let _ <- comprehension (.ListComp elt [⟨target,iter,ifs,0⟩] scope pos) scope X.env _ (newList []) false (eval iter X.env) (some (assign (.Name y py) X.env))) _ _ s;refine wpAny_bind (wpAny_mono (wpAny_comprehension_free (use:=some (assign (.Name y py) X.env)) (Q:=fun _ s'=>SP X pins D .next s') rfl hs (Zb1 (c.cl I)) c.kind c.names
  (thn (hi pins s σ H _ I h) fun v s1 h1=>thn h1 fun itv s2 h2=>?_)) (fun _ s' hq=>wpAny_pure (wpAny_pure hq)) fun _ _ e=>e)
 obtain⟨it,fp,tn,J,H2,e,I2,T,st2,f2,hw⟩:=h2;subst e;refine Zj7 (Q:=fun x H1=>ZbE i x σ H1 D.nx) (RR:=fun acc C=>compPost (model X.prog X.w) X.A X.xe (some (assign (.Name y py) X.env)) (fun _ s'=>SP X pins D .next s') acc C) c hc hgk hg ht he I2 T st2 f2 hw ?_;intro acc C H' s' m hCs hCn I' hn q;have hL:C≠X.env.locals:=YbU (Yaw I2.lt hCs);have hcell:∀ x a,X.env.cells.lookup x=some a->a≠C:=by
  intro x a e z;obtain⟨v,q⟩:=I2.cell x a e;exact absurd (Yaw q.lt (by rw[z];exact hCs)) (Ybl _)
 refine wpAny_assign_Name (Zdp I' hN hy (.inl hyl) (v:=.ref acc) rfl (fun s2 I'' hch=>?_) (.inr hyl));obtain⟨a,sb,ha⟩:=hch;have hCa:C≠a:=by
  rcases ha with rfl | ha
  ·exact hL
  ·exact Ybn (hcell _ _ ha)
 refine⟨m,hn.sameBut sb hCa,fun h' hs'=>⟨_,H',I''.other hs' hCn hL (Ybm I2.sz hCs) hcell ?_,q⟩⟩;intro p hp z;exact absurd (Yaw (Yar (I2.pin p hp).1) (by rw[z];exact hCs)) (Ybl _)
end
section
variable {K:Yad}{own:List Str}{js:List Nat}{g:TG}{tt:TT}{te:TE}{σ:St}{H1:Hp}{Q:VK}
theorem ZfL {a:Addr}{xs:List V} (Pv:Addr->Nat->Hp->Prop) (h0:∀ acc,H1 acc=none->Pv acc 0 (upd H1 acc (.lst []))) (hl:∀ acc i H,H1 acc=none->i<=xs.length->Pv acc i H->SqL K H a xs)
  (hs:∀ acc i x H,H1 acc=none->xs[i]?=some x->Pv acc i H->g x (blkσ own js σ) H fun τ H4=>tt τ H4 fun c H5=>
   if c=true then te τ H5 fun y H6=>∃ ys,H6 acc=some (.lst ys)/\ys.length<sizeLine/\(i+1<=xs.length/\Pv acc (i+1) (upd H6 acc (.lst (ys++[y])))) else (i+1<=xs.length/\Pv acc (i+1) H5))
  (hd:∀ acc H,H1 acc=none->Pv acc xs.length H->Q (.ref acc) H):Zbg own js g tt te σ (Itl K a) H1 Q:=by
 intro acc hacc;refine⟨fun i H=>i<=xs.length/\Pv acc i H,xs.length,⟨Ya2 _,h0 acc hacc⟩,?_⟩;rintro i H ⟨hi,p⟩;have q:=hl acc i H hacc hi p;by_cases hlt:i<xs.length
 ·refine .inr ⟨hlt,⟨xs,xs[i],q,by simp[hlt]⟩,fun x H' y=>?_⟩;obtain⟨e,y⟩:=y;subst e;exact hs acc i x _ hacc (y xs q) p
 ·have e:i=xs.length:=by omega
  subst e;exact .inl ⟨⟨xs,q,Yap _⟩,hd acc H hacc p⟩
theorem ZcS {lo:Int}{n:Nat} (Pv:Addr->Nat->Hp->Prop) (h0:∀ acc,H1 acc=none->Pv acc 0 (upd H1 acc (.lst [])))
  (hs:∀ acc i H,H1 acc=none->i<n->Pv acc i H->g (.int (lo+i)) (blkσ own js σ) H fun τ H4=>tt τ H4 fun c H5=>
   if c=true then te τ H5 fun y H6=>∃ ys,H6 acc=some (.lst ys)/\ys.length<sizeLine/\(i+1<=n/\Pv acc (i+1) (upd H6 acc (.lst (ys++[y])))) else (i+1<=n/\Pv acc (i+1) H5))
  (hd:∀ acc H,H1 acc=none->Pv acc n H->Q (.ref acc) H):Zbg own js g tt te σ (Itr lo n) H1 Q:=by
 intro acc hacc;refine⟨fun i H=>i<=n/\Pv acc i H,n,⟨Ya2 _,h0 acc hacc⟩,?_⟩;rintro i H ⟨hi,p⟩;by_cases hlt:i<n
 ·refine .inr ⟨hlt,hlt,fun x H' y=>?_⟩;obtain⟨e,y⟩:=y;subst e y;exact hs acc i _ hacc hlt p
 ·have e:i=n:=by omega
  subst e;exact .inl ⟨Yap _,hd acc H hacc p⟩
end
def ZjY (scope sc:Scope) (js:List Nat) (N:List Str):Bool :=
 (scope.kind == .function) && (scope.names.all fun y=>(y.2 != .cell) && ((y.2 != .free) || (sc.names.lookup y.1 == some .cell) || (sc.names.lookup y.1 == some .free)) && ((y.2 != .local) || (scope.names.lookup y.1 == some .local))) &&
 (js.all fun j=>match N[j]? with | some x=>scope.names.lookup x == some .free | none=>false)
theorem CompOk.by {X:Cx}{scope sc:Scope}{own N:List Str}{js:List Nat} (hX:X.env.scope=sc) (hN:X.N=N) (h:ZjY scope sc js N=true):CompOk X scope own js:=by
 unfold ZjY at h;simp only[YcU,beq_iff_eq,Ycl,Bool.or_eq_true,bne_iff_ne,ne_eq] at h;obtain⟨⟨h1,h2⟩,h3⟩:=h;refine⟨h1,fun y hy=>(h2 y hy).1.1,fun y hy hf=>?_,fun y hy hl=>?_,fun j hj=>?_⟩
 ·show X.env.scope.names.lookup y.1=_∨X.env.scope.names.lookup y.1=_;rw[hX];rcases (h2 y hy).1.2 with (z | z) | z
  ·exact absurd hf z
  ·exact .inl z
  ·exact .inr z
 ·rcases (h2 y hy).2 with z | z
  ·exact absurd hl z
  ·exact z
 ·have:=h3 j hj;rw[hN]
  cases e:N[j]? with
  | none=>rw[e] at this;cases this
  | some x=>rw[e] at this;exact⟨x,rfl,by simpa using this⟩
end L2
namespace L2
open PySem PySem.Spec PyProof.Rows PySem.SeqAt
section
variable {X:Cx}
theorem Vals.bl_get {bs:List Bool}{us:List Value} (r:Vals (bs.map V.bl) us) {i:Nat}{v:Value} (e:us[i]?=some v):∃ b,bs[i]?=some b/\v=.bool b:=by
 cases q:(bs.map V.bl)[i]? with
 | none=>
  have:=r.none_of q;rw[e] at this;cases this
 | some x=>
  obtain⟨u,h1,h2⟩:=r.get q;rw[e] at h1;cases h1;rw[Yaf] at q
  cases z:bs[i]? with
  | none=>rw[z] at q;cases q
  | some b=>rw[z] at q;cases q;exact⟨b,rfl,h2⟩
theorem ZiE {bs:List Bool}:(YaE bs.length).all (fun i=>bs.getD i true)=bs.all id:=by
 rw[YcI,Ycl,Ycl];constructor
 ·intro h b hb;obtain⟨i,hi,e⟩:=Yfg hb;have:=h i (Ybu.mpr hi);simpa[Yak,hi,e] using this
 ·intro h i hi;have hi':=Ybu.mp hi;have:=h bs[i] (Yby hi');simpa[Yak,hi'] using this
theorem Zhm (hc:X.calm=true):Zbf X (.builtin "all") (fun xs H Q=>∃ (a:Addr) (bs:List Bool),xs=[.ref a]/\SqL X.K H a (bs.map V.bl)/\Q (.bl (bs.all id)) H):=by
 intro pins s σ H xs us Q I r h;obtain⟨a,bs,rfl,hq,q⟩:=h;obtain⟨u,rfl,r1⟩:=Zb6 r;cases r1;obtain⟨its,rv,p,hz⟩:=I.list hq;refine call_all_walk (wpAny_pyIter_list p.isList ?_);have hlt:=(let ⟨o,n,e,_⟩:=p;Yar e:a<s.heap.objs.size)
 have hne:a≠s.heap.objs.size:=YaP hlt;have hlen:its.toArray.size=bs.length:=by rw[Yal,<- rv.length,Yaa]
 refine⟨s.heap.objs.size,_,_,_,_,_,fun i=>bs.getD i true,rfl,YeB (A:=X.A.in1) (I.ok.hd hc) _ a hne its.toArray,⟨⟨_,YaC _ rfl,rfl,rfl⟩,?_⟩,?_,?_⟩
 ·obtain⟨o,n,e,c,_,d⟩:=p;exact⟨o,Yae _ e,c,n,d⟩
 ·intro i v s' Q' E' hP hQ;have hP':its[i]?=some v:=by simpa using hP
  obtain⟨b,hb,rfl⟩:=rv.bl_get hP';refine wpAny_truthy_bool ?_;dsimp only at hQ;rw[Yak,hb] at hQ;exact hQ
 ·intro h' tk k;rw[hlen,ZiE];refine⟨.bl (bs.all id),H,I.kept (h':=h') (t':=tk) fun b o e=>k b o ?_ (Yae _ e),rfl,q⟩;intro hm;have:b=s.heap.objs.size:=by simpa using hm
  rw[this] at e;exact absurd (Yar e) (Ybl _)
theorem ZfG:∀ {ns:List Int}{i:Int},i∈ns->∃ j,∃ h:j<ns.length,ns[j]=i/\(∀ m (hm:m<ns.length),m<j->ns[m]≠i)/\ns.erase i=ns.eraseIdx j
 | [],_,h=>by simp at h
 | n::r,i,h=>by
  by_cases e:n=i
  ·subst e;exact⟨0,by simp,rfl,fun m _ hm=>absurd hm (Ycv _),by simp⟩
  ·have h':i∈r:=by
    rcases YaD.mp h with z | z
    ·exact absurd z.symm e
    ·exact z
   obtain⟨j,hj,e1,e2,e3⟩:=ZfG h';refine⟨j+1,by simpa using hj,by simpa using e1,?_,?_⟩
   ·intro m hm hmj
    cases m with
    | zero=>simpa using e
    | succ m=>simpa using e2 m (by simpa using hm) (by omega)
   ·rw[List.erase_cons,if_neg (by simpa using e),Ydm,e3]
def Zmp:V->List V->Hp->VK->Prop:=fun x vs H Q=>∃ (l:Addr) (ns:List Int) (i:Int),x=.ref l/\vs=[.int i]/\H l=some (.lst (ns.map V.int))/\i∈ns/\Q .non (upd H l (.lst ((ns.erase i).map V.int)))
theorem Vals.int_at {ns:List Int}{us:List Value} (r:Vals (ns.map V.int) us) {i:Nat} (h:i<ns.length):∃ t,us[i]?=some (.int ns[i] t):=by
 have q:(ns.map V.int)[i]?=some (V.int ns[i]):=by rw[Yaf,Yac h];rfl
 obtain⟨u,h1,t,rfl⟩:=r.get q;exact⟨t,h1⟩
theorem Zcu {α β:Type} (f:α->β):∀ (l:List α) (i:Nat),(l.eraseIdx i).map f=(l.map f).eraseIdx i
 | [],_=>rfl
 | _::_,0=>rfl
 | a::r,i+1=>by rw[Ydm,YaJ,YaJ,Ydm,Zcu f r i]
theorem Zjg:MtM X "list.remove" Zmp:=by
 intro pins s σ H x vs v us Q I rx rv h;obtain⟨l,ns,i,rfl,rfl,hH,hi,q⟩:=h;cases rx;obtain⟨u,rfl,t,rfl⟩:=rv.one;obtain⟨z,its,n,r,hl,e⟩:=I.lstM hH;obtain⟨j,hj,e1,e2,e3⟩:=ZfG hi;have hlen:its.length=ns.length:=by rw[<- hl,Yaa]
 have at_:∀ m (hm:m<its.toArray.size),∃ (hm':m<ns.length) (t:Tok),its.toArray[m]=.int ns[m] t:=fun m hm=>by
  have hm':m<ns.length:=by rw[<- hlen];simpa using hm
  obtain⟨t,q⟩:=r.int_at hm';obtain⟨_,q'⟩:=Yab.mp q;exact⟨hm',t,by simpa using q'⟩
 refine call_meets F.slot_list_remove ⟨_,e,rfl⟩ F.entry_list_remove (F.args_list_remove_2 _ _)
  (MeetsSeq.list_remove l its.toArray n (.int i t) (fun y=>match y with | .int k _=>k == i | _=>false) ?_ j (by rw[Yal,hlen];exact hj) ?_ ?_ (by rw[Yal,<- hl];exact z)) ⟨e,?_⟩
 ·intro y hy;obtain⟨m,hm,rfl⟩:=Array.getElem_of_mem hy;obtain⟨_,t',q'⟩:=at_ m hm;rw[q'];exact MeetsSeq.EqGives.int _ _ _ _
 ·obtain⟨_,t',q'⟩:=at_ j (by rw[Yal,hlen];exact hj);rw[q'];simp[e1]
 ·intro m hm hmj;obtain⟨hm',t',q'⟩:=at_ m hm;rw[q'];simpa using e2 m hm' hmj
 ·refine⟨.non,_,I.lset (its':=its.eraseIdx j) hH e (by rw[Yd5]) ?_ ?_,rfl,q⟩
  ·have:=r.eraseIdx j;rw[e3,Zcu];exact this
  ·rw[Yaa,YeJ hi];rw[Yaa] at z;omega
theorem ZkA:∀ {ns ms:List Int},ns.length=ms.length->((YaE ns.length).all fun i=>ns.getD i 0 == ms.getD i 0)=decide (ns=ms):=fun {ns ms} h=>by
 rw[YcI,Ycl,decide_eq_true_iff];constructor
 ·intro q;refine YbE h fun i h1 h2=>?_;have:=q i (Ybu.mpr h1);simpa[Yak,h1,h2] using this
 ·rintro rfl i hi;simp
theorem ZdI {ns:List Int}{its:List Value} (r:Vals (ns.map V.int) its) {j:Nat} (h:j<its.toArray.size):∃ t,its.toArray[j]=.int (ns.getD j 0) t:=by
 have hj:j<ns.length:=by rw[Yal,<- r.length,Yaa] at h;exact h
 obtain⟨t,q⟩:=r.int_at hj;obtain⟨_,q'⟩:=Yab.mp q;exact⟨t,by simpa[Yak,hj] using q'⟩
def rNeL (K:Yad):R2:=fun x y H Q=>∃ (a b:Addr) (ns ms:List Int),x=.ref a/\y=.ref b/\SqL K H a (ns.map V.int)/\SqL K H b (ms.map V.int)/\Q (.bl (!decide (ns=ms))) H
theorem ZlN (hu:X.A.units<cLine):OpR X (compareOp .NotEq) (rNeL X.K):=by
 intro pins s σ H x y v u Q I rx ry h;obtain⟨a,b,ns,ms,rfl,rfl,ha,hb,q⟩:=h;cases rx;cases ry;obtain⟨its,r1,p1,_⟩:=I.list ha;obtain⟨its2,r2,p2,_⟩:=I.list hb;have l1:its.toArray.size=ns.length:=by rw[Yal,<- r1.length,Yaa]
 have l2:its2.toArray.size=ms.length:=by rw[Yal,<- r2.length,Yaa]
 by_cases hsz:its.toArray.size=its2.toArray.size
 ·refine RcNeAt.lists (e:=fun i=>ns.getD i 0 == ms.getD i 0) p1.isList p2.isList hsz hu (fun j h1 h2=>?_) _ _ _ _ ?_
  ·obtain⟨t1,e1⟩:=ZdI r1 h1;obtain⟨t2,e2⟩:=ZdI r2 h2;rw[e1,e2];exact EqAt.int_int _ _ _ _
  ·rw[l1,ZkA (by rw[<- l1,<- l2];exact hsz)];exact⟨.bl _,H,I,rfl,q⟩
 ·refine RcNeAt.lists_lengths p1.isList p2.isList (by simpa using hsz) hu _ _ _ _ ?_;have ne:¬ ns=ms:=fun z=>hsz (by rw[l1,l2,z]);rw[decide_eq_false ne] at q;exact⟨.bl _,H,I,rfl,q⟩
end
end L2
namespace L2
open PySem PySem.Spec PyProof.Rows PySem.SeqAt
section
variable {prog:Program}{w:World}{A:Around}{R:Result->Shared->Prop}{I:Addr}{fp wr:List Addr}{n:Nat}{P:Nat->Value->Prop}{St:Nat->Heap->Prop}
def Zn3 (prog:Program) (w:World) (A:Around) (P:Nat->Value->Prop) (bt:Nat->Nat->Bool) (g:Heap) (out:List Addr):Prop :=
 ∀ i j vi vj (s:Shared) (Q:Value->Shared->Prop) (E:Value->Shared->Prop),(∀ b o,b ∉ out->g.get? b=some o->s.heap.get? b=some o)->P i vi->P j vj->Q (.bool (bt i j)) s->wpAny (model prog w) A (richCompare .Lt vi vj) Q E s
theorem Zjl (W:Walks prog w A.in1 I fp wr n P St) {g:Heap} (bt:Nat->Nat->Bool) (S:Addr) (hcmp:Zn3 prog w A.in1 P bt g (S::wr)) (hSf:S ∉ fp) :
  ∀ (k j:Nat) (s:Shared) (vb:Value) (c:Nat),n - (j+1)=k->j+1<=n->(∀ b o,b ∉ S::wr->g.get? b=some o->s.heap.get? b=some o)->St (j+1) s.heap->P (argBest bt j) vb ->
  s.heap.get? S=some { cls:=.type "list",dict:=none,data:=.seq #[vb,vb] c,slots:=#[] } ->
  (∀ v h' tk,P (argBest bt (n - 1)) v->(∀ b o,b ∉ S::wr->g.get? b=some o->h'.get? b=some o)->R (.ok (.ret v)) { s with heap:=h',toks:=tk }) ->
  codeAny (model prog w) A (.builtin "min.loop" ⟨[.ref I,.none,.ref S],[]⟩) R s:=by
 have hSw:S ∉ wr:=fun h=>hSf (W.sub _ h);have nm:(toString "min"++toString ".loop":String)="min.loop":=by decide
 intro k
 induction k with
 | zero=>
  intro j s vb c hk hj hg hst hPb hS hR;have hin:j+1=n:=by omega
  refine codeAny_builtin F.entry_min_loop ?_;rw[YdF F.plain_min_loop _];show wpAny _ A.in1 (seqItems? (.ref S) >>= _) _ _ s;refine wpAny_bind (wpAny_seqItems hS rfl ?_);show wpAny _ A.in1 (tryCatch (pyNext (.ref I)) _ >>= _) _ _ s;refine wpAny_bind (wpAny_tryCatch (W.done s _ _ (hin ▸ hst) fun h' tk hk'=>?_));have hS':=hk' S _ hSw hS;show wpAny _ A.in1 (updateSeq S (fun _=>#[]) >>= _) _ _ _;refine wpAny_bind ?_;refine wpAny_updateSeq hS' rfl (wpAny_bind (wpAny_letGo (wpAny_pure ?_)));refine hR vb _ tk (by rw[<- hin];exact hPb) fun b o hb e=>?_;have hb':b≠S/\b ∉ wr:=by simpa using hb
  exact (YbV _ _ (Ybn hb'.1)).trans (hk' b o hb'.2 (hg b o hb e))
 | succ k ih=>
  intro j s vb c hk hj hg hst hPb hS hR;have hlt:j+1<n:=by omega
  refine codeAny_builtin F.entry_min_loop ?_;rw[YdF F.plain_min_loop _];show wpAny _ A.in1 (seqItems? (.ref S) >>= _) _ _ s;refine wpAny_bind (wpAny_seqItems hS rfl ?_);show wpAny _ A.in1 (tryCatch (pyNext (.ref I)) _ >>= _) _ _ s;refine wpAny_bind (wpAny_tryCatch (W.item (j+1) s _ _ hlt hst fun v h' tk hP hst' hk'=>?_));have hS':=hk' S _ hSw hS;have hg':∀ b o,b ∉ S::wr->g.get? b=some o->h'.get? b=some o:=fun b o hb e=>hk' b o (fun z=>hb (Yas _ z)) (hg b o hb e);show wpAny _ A.in1 (tryCatch (holding [v,v] (richCompare .Lt v vb >>= _)) _ >>= _) _ _ _;refine wpAny_bind (wpAny_tryCatch (wpAny_holding (wpAny_bind (hcmp (j+1) (argBest bt j) v vb _ _ _ hg' hP hPb ?_))));refine wpAny_bind (wpAny_holding (wpAny_truthy_bool ?_));refine wpAny_bind (wpAny_letGo (wpAny_pure ?_))
  cases hb:bt (j+1) (argBest bt j) with
  | true=>
   simp only[if_true];refine wpAny_bind ?_;refine wpAny_updateSeq hS' rfl (wpAny_bind (wpAny_letGo ?_));rw[nm];refine wpAny_pure ⟨plainId_quiet F.plain_min_loop _,ih (j+1) _ v _ (by omega) hlt (fun b o hbo e=>?_) (W.frame _ _ _ hst' fun b hbf o e=>?_) (by simp only[argBest,hb,if_true];exact hP) (YcR _ hS' rfl)
    fun v' h'' tk'' hP' hk''=>hR v' h'' tk'' hP' hk''⟩
   ·have hb':b≠S/\b ∉ wr:=by simpa using hbo
    exact (YbV _ _ (Ybn hb'.1)).trans (hg' b o hbo e)
   ·exact (YbV _ _ (fun h:S=b=>hSf (by rw[h];exact hbf))).trans e
  | false=>
   simp only[YaT,if_false];refine wpAny_bind (wpAny_letGo ?_);rw[nm];exact wpAny_pure ⟨plainId_quiet F.plain_min_loop _,ih (j+1) _ vb c (by omega) hlt hg' hst' (by simp only[argBest,hb,YaT,if_false];exact hPb) hS' fun v' h'' tk'' hP' hk''=>hR v' h'' tk'' hP' hk''⟩
theorem Zjm (W:Walks prog w A.in1 I fp wr n P St) {g:Heap} (bt:Nat->Nat->Bool) (S:Addr) (hcmp:Zn3 prog w A.in1 P bt g (S::wr)) (hSf:S ∉ fp) (hn:0<n) {s:Shared}{c:Nat} (hg:∀ b o,b ∉ S::wr->g.get? b=some o->s.heap.get? b=some o) (hst:St 0 s.heap)
  (hS:s.heap.get? S=some { cls:=.type "list",dict:=none,data:=.seq #[] c,slots:=#[] })
  (hR:∀ v h' tk,P (argBest bt (n - 1)) v->(∀ b o,b ∉ S::wr->g.get? b=some o->h'.get? b=some o)->R (.ok (.ret v)) { s with heap:=h',toks:=tk }) :
  codeAny (model prog w) A (.builtin "min.loop" ⟨[.ref I,.none,.ref S],[]⟩) R s:=by
 have hSw:S ∉ wr:=fun h=>hSf (W.sub _ h);have nm:(toString "min"++toString ".loop":String)="min.loop":=by decide
 refine codeAny_builtin F.entry_min_loop ?_;rw[YdF F.plain_min_loop _];show wpAny _ A.in1 (seqItems? (.ref S) >>= _) _ _ s;refine wpAny_bind (wpAny_seqItems hS rfl ?_);show wpAny _ A.in1 (tryCatch (pyNext (.ref I)) _ >>= _) _ _ s;refine wpAny_bind (wpAny_tryCatch (W.item 0 s _ _ hn hst fun v h' tk hP hst' hk'=>?_));have hS':=hk' S _ hSw hS;show wpAny _ A.in1 (updateSeq S (fun _=>#[v,v]) >>= _) _ _ _;refine wpAny_bind ?_;refine wpAny_updateSeq hS' rfl ?_;rw[nm];refine wpAny_pure ⟨plainId_quiet F.plain_min_loop _,Zjl W bt S hcmp hSf _ 0 _ v _ rfl hn (fun b o hb e=>?_) (W.frame _ _ _ hst' fun b hbf o e=>?_) hP (YcR _ hS' rfl) hR⟩
 ·have hb':b≠S/\b ∉ wr:=by simpa using hb
  exact (YbV _ _ (Ybn hb'.1)).trans (hk' b o hb'.2 (hg b o hb e))
 ·exact (YbV _ _ (fun h:S=b=>hSf (by rw[h];exact hbf))).trans e
end
def ZeX (rs:List (List Int)):Nat:=argBest (fun i j=>HT.lexLt (rs.getD i []) (rs.getD j [])) (rs.length - 1)
section
variable {X:Cx}
theorem Zj3 (hc:X.calm=true) (hu:X.A.units+1<cLine):Zbf X (.builtin "min") (fun xs H Q=>∃ (a:Addr) (ts:List Addr) (rs:List (List Int)),xs=[.ref a]/\SqL X.K H a (ts.map V.ref)/\ts.length=rs.length/\0<rs.length /\
  (∀ (i:Nat) t r,ts[i]?=some t->rs[i]?=some r->SqT X.K H t (r.map V.int))/\∀ t,ts[ZeX rs]?=some t->Q (.ref t) H):=by
 intro pins s σ H xs us Q I r h;obtain⟨a,ts,rs,rfl,hq,hl,hp,hT,q⟩:=h;obtain⟨u,rfl,r1⟩:=Zb6 r;cases r1;obtain⟨its,rv,p,hz⟩:=I.list hq;have hlt:=(let ⟨o,n,e,_⟩:=p;Yar e:a<s.heap.objs.size)
 have hlen:its.length=rs.length:=by rw[<- rv.length,Yaa,hl]
 refine call_function_tree F.kind_min F.plain_min F.entry_min (F.args_min1 _) ?_;show wpAny _ X.A.in1 (YdE "min" ["key","default"] 0 ⟨[],[]⟩ >>= _) _ _ s;refine wpAny_bind (wpAny_of_eq (show YdE "min" ["key","default"] 0 ⟨[],[]⟩=pure [none,none] from rfl) ?_);refine wpAny_bind (wpAny_pure ?_);refine wpAny_bind (wpAny_pyIter_list p.isList ?_);refine wpAny_bind (wpAny_newObj_type ?_);rw[show (toString "min"++toString ".loop":String)="min.loop" by decide];generalize hg1:s.heap.push { cls:=.type "list_iterator",data:=.fields #[.ref a,.int 0 0] }=g1;have e1:∀ b o,s.heap.get? b=some o->g1.get? b=some o:=fun b o e=>by rw[<- hg1];exact Yae _ e
 have z1:g1.objs.size=s.heap.objs.size+1:=by rw[<- hg1,YbA]
 have itv:∀ {i:Nat}{v:Value},its.toArray[i]?=some v->∃ t r,ts[i]?=some t/\rs[i]?=some r/\v=.ref t:=fun {i v} e=>by
  have e':its[i]?=some v:=by simpa using e
  have hi:i<its.length:=(Yab.mp e').1
  have q1:(ts.map V.ref)[i]?=some (V.ref ts[i]):=by rw[Yaf,Yac (by omega)];rfl
  obtain⟨u,h1,h2⟩:=rv.get q1;rw[e'] at h1;cases h1;exact⟨ts[i],rs[i],Yac _,Yac _,h2⟩
 refine wpAny_pure ⟨plainId_quiet F.plain_min_loop _,Zjm (g:=s.heap) (fp:=_) (YeB (A:=X.A.in1) (I.ok.hd hc) s.heap.objs.size a (YaP hlt) its.toArray) (fun i j=>HT.lexLt (rs.getD i []) (rs.getD j [])) g1.objs.size ?_ ?_ (by rw[Yal,hlen];exact hp) (fun b o _ e=>Yae _ (e1 b o e)) ⟨⟨_,Yae _ (by rw[<- hg1];exact YaC _ rfl),rfl,rfl⟩,?_⟩ (YaC _ rfl) ?_⟩
 ·intro i j vi vj s' Q' E' hk hi hj hQ;obtain⟨t1,r1,a1,b1,rfl⟩:=itv hi;obtain⟨t2,r2,a2,b2,rfl⟩:=itv hj;obtain⟨i1,v1,p1,_⟩:=I.tuple (hT i t1 r1 a1 b1);obtain⟨i2,v2,p2,_⟩:=I.tuple (hT j t2 r2 a2 b2);have lift:∀ {t:Addr}{its:Array Value},IsTup s.heap t its->IsTup s'.heap t its:=fun {t its} ⟨o,e,c,n,d⟩=>by
   refine⟨o,hk t o (fun z=>?_) e,c,n,d⟩;have l:(t:Nat)<s.heap.objs.size:=Yar e;rcases YaD.mp z with z | z
   ·exact YaP (Yaw l (by rw[z1];exact Ycw _)) z
   ·exact YaP l (by simpa using z)
  have x1:rs.getD i []=r1:=by rw[Yak,b1];rfl
  have x2:rs.getD j []=r2:=by rw[Yak,b2];rfl
  dsimp only at hQ;rw[x1,x2] at hQ;exact HT.lt_tupInts (lift p1) (lift p2) (Za1 v1) (Za1 v2) hu hQ
 ·intro z;simp only[YaD,YbL,or_false] at z;rcases z with z | z
  ·exact YbU (by rw[z1];exact Yb5 _) z
  ·exact YbU (Yaw hlt (by rw[z1];exact Ycw _)) z
 ·obtain⟨o,n,e,c,_,d⟩:=p;exact⟨o,Yae _ (e1 _ _ e),c,n,d⟩
 ·intro v h' tk hP hk;rw[Yal,hlen] at hP;obtain⟨t,r,a1,b1,rfl⟩:=itv hP;refine⟨.ref t,H,I.kept (h':=h') (t':=tk) fun b o e=>hk b o ?_ e,rfl,q t a1⟩;have l:(b:Nat)<s.heap.objs.size:=Yar e;intro z;simp only[YaD,YbL,or_false] at z;rcases z with z | z
  ·exact YaP (Yaw l (by rw[z1];exact Ycw _)) z
  ·exact YaP l z
end
end L2
namespace L2
open PySem PySem.Spec PyProof.Rows PySem.SeqAt
def Ite (K:Yad) (a:Addr):It :=
 ⟨fun i H=>∃ xs x,SqL K H a xs/\xs[i]?=some x,fun i H y H'=>∃ p x,H p=none/\y=.ref p/\H'=upd H p (.tup [.int i,x])/\∀ xs,SqL K H a xs->xs[i]?=some x,fun i H=>∃ xs,SqL K H a xs/\xs.length<=i⟩
theorem Zif {P:Program}{w:World}{K:Yad}{es:List Expr}{x1}{pos:Pos} (a it e:Addr) (hne:e≠it):Turn P w K (.Tuple es x1 pos) (Ite K a) [e,it] e (fun i h=>(∃ old,IsEnum h e it (i:Nat) old)/\h.IsListIter it a i) where
 mem:=by simp
 obj:=fun i h st b hb=>by
  obtain⟨⟨old,s1⟩,s2⟩:=st;rcases YaD.mp hb with z | z
  ·subst z;exact⟨_,s1,fun v z=>nomatch z⟩
  ·have z:b=it:=by simpa using z
   subst z;obtain⟨o,e,c,d⟩:=s2;exact⟨o,e,fun v z=>by rw[d] at z;cases z⟩
 keep:=fun i h h' st k=>by
  obtain⟨⟨old,s1⟩,s2⟩:=st;exact⟨⟨old,k e (by simp) _ s1⟩,s2.at fun o q=>k it (by simp) o q⟩
 item:=by
  intro X hP hw hK hc i pins s σ H E I hf st hg;subst hP hw hK;obtain⟨xs,x,hq,hx⟩:=hg;obtain⟨its,rv,p,hz⟩:=I.list hq;obtain⟨u,hu,ru⟩:=rv.get hx;obtain⟨⟨old,s1⟩,s2⟩:=st;refine wpAny_pyNext_enum_item s1 s2 p.isList (x:=u) (by simpa using hu) hne fun h' ho hit ht hsz hk=>?_;refine⟨_,rfl,?_⟩;refine wpAny_letOwnedTupleGo_enum ho fun h'' he hs=>?_;have fresh:H s.heap.objs.size=none:=I.hok.fresh (Yap _);have k:∀ b o,b ∉ [e,it]->s.heap.get? b=some o->h''.get? b=some o:=fun b o hb q=>by
   have hb':b≠e/\b≠it:=by simpa using hb
   exact (hs.2 b hb'.1).trans (hk b o hb'.1 hb'.2 q)
  have nE:∀ b∈[e,it],H b=none:=fun b hb=>(hf b hb).1
  have nit:∀ b u,H b=some u->b ∉ [e,it]:=fun b u q z=>by rw[nE b z] at q;cases q
  have hpe:s.heap.objs.size≠e:=YbU (Yar s1);have htup:h''.get? s.heap.objs.size=some { cls:=.type "tuple",data:=.seq #[.int i s.toks,u] }:=(hs.2 _ hpe).trans ht;have newOk:ObjOk X.prog X.w (upd H s.heap.objs.size (.tup [.int i,x])) h'' s.heap.objs.size (.tup [.int i,x]):=by
   refine⟨?_,[.int i s.toks,u],.cons ⟨_,rfl⟩ (.cons ru .nil),⟨_,htup,rfl,rfl,0,rfl⟩⟩;show 2<=sizeLine
   decide
  have I1:Inv X pins σ (upd H s.heap.objs.size (.tup [.int i,x])) { s with heap:=h'',toks:=s.toks+1 }:=by
   refine I.step (g':=s.gens) (d':=s.drawn) (ch:=[e,it]) (fun b hb=>?_) (fun b o _ _ hc q _=>k b o hc q) (fun b o _ _ hc q _=>⟨o.slots,k b o hc q⟩) (fun b o _ q n=>?_) (fun b o hc q=>⟨o,k b o hc q⟩)
    (fun b xs q=>by rw[Zai (Zae q fresh)];exact q) (fun b o xs q=>by rw[Zai (Zae q fresh)];exact q) (fun b ps q=>⟨#[],by rw[Zai (Zae q fresh),q];simp⟩) (fun m hm=>?_) (fun b ob q=>?_) I.bare
   ·obtain⟨f0,f1,f2,f3,f4,f5⟩:=hf b hb;exact⟨f3,f1,f4,f5⟩
   ·rw[Zai (YaP (Yar q))];exact n
   ·obtain⟨o,es,ep,ho,r⟩:=hm;refine⟨o,es,ep,k _ o (fun z=>?_) ho,r⟩;exact (hf _ z).2.1 rfl
   ·by_cases hb:b=s.heap.objs.size
    ·subst hb;rw[Zab] at q;cases q;exact newOk
    ·rw[Zai hb] at q;refine (I.hok b ob q).stay (fun c v hc r=>k c v ?_ r) (fun c r=>by rw[Zai (Zae r fresh)];exact r) fun c xs r=>by rw[Zai (Zae r fresh)];exact r
     rcases hc with z | z
     ·rw[z];exact nit b ob q
     ·exact nit c _ z
  refine⟨.ref s.heap.objs.size,_,I1,rfl,⟨s.heap.objs.size,x,fresh,rfl,rfl,fun ys hy=>by rw[I.list_inj hy hq];exact hx⟩,⟨⟨u,?_⟩,?_⟩,fun b hb=>?_⟩
  ·have he:IsEnum h'' e it ((i:Int)+1) u:=he;show IsEnum h'' e it ((i+1:Nat):Int) u;rw[show ((i+1:Nat):Int)=(i:Int)+1 by omega];exact he
  ·exact hit.extBut hs.extBut (Ybn hne)
  ·have lt:b<s.heap.objs.size:=by
    rcases YaD.mp hb with z | z
    ·rw[z];exact Yar s1
    ·have z:b=it:=by simpa using z
     rw[z];obtain⟨o,q,_⟩:=s2;exact Yar q
   rw[Zai (YaP lt)];exact nE b hb
 done:=by
  intro X hP hw hK hc i pins s σ H E I hf st hg;subst hP hw hK;obtain⟨xs,hq,hx⟩:=hg;obtain⟨its,rv,p,hz⟩:=I.list hq;obtain⟨⟨old,s1⟩,s2⟩:=st;obtain⟨f0,f1,f2,f3,f4,f5⟩:=hf it (by simp);have hl:=rv.length;exact wpAny_pyNext_enum_end (I.ok.hd hc) s1 s2 p.isList (by simp;omega) fun h' eb=>⟨rfl,I.turned (t':=s.toks) (fun b o hb q=>eb b o hb q) f0 f1 f3 f4 f5⟩
 self:=fun _ _ _ _ _ st h=>by
  obtain⟨⟨old,s1⟩,_⟩:=st;exact wpAny_pyIter_enum s1 h
section
variable {X:Cx}
theorem Zcg:Zbf X (.builtin "isinstance") (fun xs H Q=>∃ x T t b,xs=[x,.ty T]/\TyOf X.K H x t/\Yc3 X.K t (.type T)=some b/\Q (.bl b) H):=by
 intro pins s σ H xs us Q I r h;obtain⟨x,T,t,b,rfl,ty,e,q⟩:=h;obtain⟨u,u2,rfl,r1,r2⟩:=Zib r;cases r2;exact ZjE I r1 ty e fun tk=>⟨.bl b,H,I.tok _,rfl,q⟩
def tOrT (K:Yad) (ta tb:TE):TE:=fun σ H Q=>ta σ H fun x H1=>∃ k,TruV K x H1 k/\if k=true then Q x H1 else tb σ H1 Q
theorem Znn {a b:Expr}{ta tb:TE}{pos:Pos} (ha:PE X a ta) (hb:PE X b tb):PE X (.BoolOp .Or [a,b] pos) (tOrT X.K ta tb):=by
 intro pins s σ H Q I h;refine BoolOp_or (thn (ha pins s σ H _ I h) fun v s1 ⟨x,H1,I1,r1,q1⟩=>?_);obtain⟨k,hk,q⟩:=q1;refine thn (Zly pins s1 σ H1 x v (fun k' H2=>k'=k/\H2=H1) I1 r1 ⟨k,hk,rfl,rfl⟩) fun c s2 ⟨H2,I2,e1,e2⟩=>?_;subst e1;subst e2
 cases c with
 | true=>exact⟨x,_,I2,r1,q⟩
 | false=>exact BoolOp_one (hb pins s2 σ _ Q I2 q)
theorem Zjj:MtR X "int.bit_length" (fun x vs H Q=>∃ i,x=.int i/\vs=[]/\Q (.int (YaR i)) H):=by
 intro pins s σ H x vs v us Q I rx rv h;obtain⟨i,rfl,rfl,q⟩:=h;obtain⟨t,rfl⟩:=rx;cases rv;exact PyProof.Rows.call_int_bit_length ⟨.int _,H,I.tok _,⟨_,rfl⟩,q⟩
end
end L2
namespace L2
open PySem PySem.Spec PyProof.Rows
section
variable {κ:Type} [DecidableEq κ]
end
section
variable {P:Program}{w:World}{H:Hp}{h:Heap}{a:Addr}
end
section
variable {X:Cx}{pins:List (Addr × Obj)}{σ:St}{H:Hp}{s:Shared}{a:Addr}{y v:V}{u r:Value}{o:Option V}{A:Around}{E:Value->Shared->Prop}
end
section
variable {X:Cx}{pins:List (Addr × Obj)}{σ:St}{H:Hp}{s:Shared}{a:Addr}{kvs:List (Key × V)}{k:Key}{u:Value}{A:Around}{E:Value->Shared->Prop}
end
section
variable {X:Cx}{o i e value:Expr}{pos pos' tpos:Pos}{td ty tv:TE}
end
section
variable {X:Cx}{pos:Pos}
end
structure M1 (X:Cx) (o:Expr) (m:Str) (apos:Pos) (e:Expr) (cpos:Pos):Prop where
 base:attributeBase o m X.env (eval o X.env)=eval o X.env
 few:((backTo cpos (starEach [e] X.env)).all (fun x=>!x.1) && (backToKw cpos (keywordEach [] X.env)).all (fun x=>x.1.isSome)
  && decide (([e]:List Expr).length+([]:List Keyword).length+(if ([]:List Keyword).isEmpty then 0 else 1)<30))=true
 line:(apos.endLine == cpos.line)=true
 trees:backTo cpos (starEach [e] X.env)=[(false,eval e X.env)]
structure M2 (X:Cx) (o:Expr) (m:Str) (apos:Pos) (e f:Expr) (cpos:Pos):Prop where
 base:attributeBase o m X.env (eval o X.env)=eval o X.env
 few:((backTo cpos (starEach [e,f] X.env)).all (fun x=>!x.1) && (backToKw cpos (keywordEach [] X.env)).all (fun x=>x.1.isSome)
  && decide (([e,f]:List Expr).length+([]:List Keyword).length+(if ([]:List Keyword).isEmpty then 0 else 1)<30))=true
 line:(apos.endLine == cpos.line)=true
 trees:backTo cpos (starEach [e,f] X.env)=[(false,eval e X.env),(false,eval f X.env)]
section
variable {X:Cx}{pins:List (Addr × Obj)}{σ:St}{H:Hp}{s:Shared}{a:Addr}{y d:V}{u r:Value}{o:Option V}{A:Around}{E:Value->Shared->Prop}
end
section
variable {X:Cx}{o e f:Expr}{apos cpos:Pos}{td ty tx:TE}
end
section
variable {X:Cx}{pins:List (Addr × Obj)}{σ:St}{H:Hp}{s:Shared}{a:Addr}{kvs:List (Key × V)}{A:Around}{E:Value->Shared->Prop}
end
section
variable {X:Cx}{pins:List (Addr × Obj)}{σ:St}{H:Hp}{s:Shared}{a:Addr}{y:V}{u:Value}{A:Around}{E:Value->Shared->Prop}
end
end L2
namespace L2
open PySem PySem.Spec PyProof.Rows
section
variable {κ:Type} [DecidableEq κ]
end
end L2
namespace L2
open PySem PySem.Spec PyProof.Rows PySem.SeqAt
section
variable {prog:Program}{w:World}{A:Around}{E:Value->Shared->Prop}{s:Shared}
theorem Zeg {it t:Addr}{i:Nat}{items:Array Value}{x:Value}{Q:Value->Shared->Prop} (hit:s.heap.IsTupleIter it t i) (ht:s.heap.IsTuple t items) (hx:items[i]?=some x)
  (hQ:∀ h',h'.IsTupleIter it t (i+1)->YdC it s.heap h'->Q x { s with heap:=h' }):wpAny (model prog w) A (Ybd (.ref it)) Q E s:=by
 obtain⟨o,ho,hc,hd⟩:=id hit;obtain⟨ol,hol,_,nl,hdl⟩:=ht;unfold Ybd;refine wpAny_bind (wpAny_callSpecial?_slot (name:=Ydb "__next__") hit.typeIs F.slot_tuple_iterator_next (wpAny_call_entry F.slot_tuple_iterator_next hit.typeIs F.entry_tuple_iterator_next ?_ (F.args_tuple_iterator_next_1 _)));show wpAny _ _ (field (.ref it) 0 >>= _) _ _ s;refine wpAny_bind (wpAny_field ho hd (x:=.ref t) rfl ?_);show wpAny _ _ (if (YbH t == Ycu)=true then _ else _) _ _ s;rw[if_neg (show ¬ ((YbH t == Ycu)=true) from YaZ)];show wpAny _ _ (field (.ref it) 1 >>= _) _ _ s;refine wpAny_bind (wpAny_field ho hd (x:=.int i 0) rfl ?_);show wpAny _ _ (seqItems? (.ref t) >>= _) _ _ s;refine wpAny_bind (wpAny_seqItems hol hdl ?_);simp only[YaK,hx];refine wpAny_bind (wpAny_setField ho hd (by simp) (wpAny_pure ⟨x,rfl,wpAny_pure (hQ _ ?_ (Yes ..))⟩));exact⟨_,YcR _ ho (Obj.isFreed_of_fields (Yfq hd _)),(Obj.cls_mapFields ..).trans hc,by rw[Yfq hd];simp[rawInt]⟩
theorem Zbk {it t:Addr}{i:Nat}{items:Array Value}{Q:Value->Shared->Prop} (hh:A.handled=none) (hit:s.heap.IsTupleIter it t i) (ht:s.heap.IsTuple t items) (hx:items[i]?=none)
  (hE:∀ h' e,YdN it s.heap h'->(∃ o,h'.get? e=some o/\o.cls=.type "StopIteration")->E (.ref e) { s with heap:=h' }):wpAny (model prog w) A (Ybd (.ref it)) Q E s:=by
 obtain⟨o,ho,hc,hd⟩:=id hit;obtain⟨ol,hol,_,nl,hdl⟩:=ht;unfold Ybd;refine wpAny_bind (wpAny_callSpecial?_slot (name:=Ydb "__next__") hit.typeIs F.slot_tuple_iterator_next (wpAny_call_entry F.slot_tuple_iterator_next hit.typeIs F.entry_tuple_iterator_next ?_ (F.args_tuple_iterator_next_1 _)));show wpAny _ _ (field (.ref it) 0 >>= _) _ _ s;refine wpAny_bind (wpAny_field ho hd (x:=.ref t) rfl ?_);show wpAny _ _ (if (YbH t == Ycu)=true then _ else _) _ _ s;rw[if_neg (show ¬ ((YbH t == Ycu)=true) from YaZ)];show wpAny _ _ (field (.ref it) 1 >>= _) _ _ s;refine wpAny_bind (wpAny_field ho hd (x:=.int i 0) rfl ?_);show wpAny _ _ (seqItems? (.ref t) >>= _) _ _ s;refine wpAny_bind (wpAny_seqItems hol hdl ?_);simp only[YaK,hx];refine wpAny_bind (wpAny_rule (wpAny_bind (wpAny_setField ho hd (by simp) ?_)));show wpAny _ _ (newExc (.type "StopIteration") [] >>= _) _ _ _;refine wpAny_bind ?_;simp only[newExc,newTuple];refine wpAny_bind (wpAny_newObj_type ?_ (by size_fits));refine wpAny_bind (m:=firstArgMember _ _) (wpAny_of_eq (a:=Ycu) (by first | rfl | (simp only[firstArgMember];rfl)) ?_);refine wpAny_newObj_type ?_ (by size_fits);simp only[raiseNew];refine wpAny_bind (wpAny_handled ?_)
 first | rw[show A.in1.handled=none from hh] | rw[hh]
 refine wpAny_bind (wpAny_pure (wpAny_throw ?_));exact hE _ _ (((Yes ..).extBut.push _).push _) ⟨_,YaC _ rfl,rfl⟩
theorem ZjN (hh:A.handled=none) (it l:Addr) (hne:l≠it) (items:Array Value):Draws prog w A it [it,l] items.size (fun i v=>items[i]?=some v) (fun i h=>h.IsTupleIter it l i/\h.IsTuple l items) where
 live:=fun _ _ st=>let ⟨o,ho,_⟩:=st.1;⟨o,ho⟩
 frame:=fun _ _ _ st hk=>⟨st.1.at fun o e=>hk it (by simp) o e,let ⟨o,e,c⟩:=st.2;⟨o,hk l (by simp) o e,c⟩⟩
 item:=fun i s Q E hi st hQ=>by
  refine Zeg st.1 st.2 (x:=items[i]) (by simp[hi]) fun h' hit' hs'=>?_;exact hQ _ h' s.toks (by simp[hi]) ⟨hit',let ⟨o,e,c⟩:=st.2;⟨o,(hs'.2 l hne).trans e,c⟩⟩ hs'
 done:=fun s Q E st hE=>Zbk hh st.1 st.2 (by simp) hE
end
theorem ZfI (l:Addr) (items:Array Value) (n:Nat) (dct:Option Addr) (sl:Array (Option Value)) :
  Meets (Builtin.«enumerate.__new__» ⟨[.type "enumerate",.ref l],[]⟩) (fun _ R s=>s.heap.get? l=some { cls:=.type "tuple",dict:=dct,data:=.seq items n,slots:=sl } /\
   R (.ok (.ret (.ref (s.heap.push { cls:=.type "tuple_iterator",data:=.fields #[.ref l,.int 0 0] }).objs.size)))
    { s with heap:=(s.heap.push { cls:=.type "tuple_iterator",data:=.fields #[.ref l,.int 0 0] }).push { cls:=.type "enumerate",data:=.fields #[.none,.bool false,.ref s.heap.objs.size,rawInt 0,.none,.none] } }) :=
 .of_wp fun prog w A R s h=>by
  obtain⟨hp,g,d,tk,os⟩:=s;obtain⟨hl,h⟩:=h;have hsub:=sub_enumerate;have hL:YdD (YcB ⟨hp,g,d,tk,os⟩) l items:=⟨_,hl,rfl,n,rfl⟩
  wp_walk using YcA hl
  refine wpAny_stack_any fun st=>wpAny_pure ?_;split
  ·rename_i c _ _ _ _ _;cases (c == Ydf "enumerate")
   ·wp_walk using YcA hl,wpAny_pyIter_tuple hL
    exact⟨_,rfl,h⟩
   ·wp_walk using YcA hl,wpAny_pyIter_tuple hL
    exact⟨_,rfl,h⟩
  ·wp_walk using YcA hl,wpAny_pyIter_tuple hL
   exact⟨_,rfl,h⟩
section
variable {prog:Program}{w:World}{A:Around}{E:Value->Shared->Prop}{s:Shared}
theorem ZfH {e it l:Addr}{i:Nat}{items:Array Value}{old:Value}{Q:Option Value->Shared->Prop} (hh:A.handled=none) (he:IsEnum s.heap e it i old) (hit:s.heap.IsTupleIter it l i) (hl:s.heap.IsTuple l items) (hx:items[i]?=none)
  (hQ:∀ h',YdN it s.heap h'->Q none { s with heap:=h' }):wpAny (model prog w) A (pyNext (.ref e)) Q E s:=by
 have hT:s.TypeIs (.ref e) "enumerate":=⟨_,he,rfl⟩
 unfold pyNext;refine wpAny_bind (wpAny_attempt (wpAny_callSpecial?_slot (name:=Ydb "__next__") hT F.slot_enumerate_next (wpAny_call_entry F.slot_enumerate_next hT F.entry_enumerate_next ?_ (F.args_enumerate_next_1 _))));show wpAny _ _ (field (.ref e) 2 >>= _) _ _ _;refine wpAny_bind (wpAny_field he rfl (x:=.ref it) rfl ?_);refine wpAny_bind (Zbk hh hit hl hx fun h' x he' hx'=>?_);obtain⟨o,ho,hc⟩:=hx';refine wpAny_bind (wpAny_isInstance (T:="StopIteration") (b:=true) ⟨o,ho,hc⟩ isSubtype_stop ?_);exact wpAny_pure (hQ _ he')
theorem Ze5 {l:Addr}{items:Array Value}{Q:Value->Shared->Prop} (hL:s.heap.IsTuple l items)
  (h:∀ h',IsEnum h' (s.heap.objs.size+1) s.heap.objs.size 0 .none->h'.IsTupleIter s.heap.objs.size l 0->(∀ b o,s.heap.get? b=some o->h'.get? b=some o)->Q (.ref (s.heap.objs.size+1)) { s with heap:=h' }) :
  wpAny (model prog w) A (call (.type "enumerate") [.ref l]) Q E s:=by
 obtain⟨⟨c,dct,dt,sl⟩,hl,hc,n,hd⟩:=hL
 replace hc:c=.type "tuple":=hc
 replace hd:dt=.seq items n:=hd
 subst hc hd;refine callType_new F.called_enumerate (by decide) (F.typeCall_enumerate_1 _) (F.newCall_enumerate_1 _) (fun obj=>F.args_object_init_2 obj _) F.entry_enumerate_new (ZfI l items n dct sl) ⟨hl,?_⟩;have hz:(s.heap.push { cls:=.type "tuple_iterator",data:=.fields #[.ref l,.int 0 0] }).objs.size=s.heap.objs.size+1:=YbA ..;show _/\_;rw[hz];have he:IsEnum ((s.heap.push { cls:=.type "tuple_iterator",data:=.fields #[.ref l,.int 0 0] }).push { cls:=.type "enumerate",data:=.fields #[.none,.bool false,.ref s.heap.objs.size,rawInt 0,.none,.none] }) (s.heap.objs.size+1) s.heap.objs.size 0 .none:=by
  have:=YaC (s.heap.push { cls:=.type "tuple_iterator",data:=.fields #[.ref l,.int 0 0] }) (o:={ cls:=.type "enumerate",data:=.fields #[.none,.bool false,.ref s.heap.objs.size,rawInt 0,.none,.none] }) rfl;rw[hz] at this;exact this
 exact⟨⟨_,he,rfl⟩,h _ he ⟨_,Yae _ (YaC _ rfl),rfl,rfl⟩ fun b o x=>Yae _ (Yae _ x)⟩
end
def IteT (K:Yad) (a:Addr):It :=
 ⟨fun i H=>∃ xs x,SqT K H a xs/\xs[i]?=some x,fun i H y H'=>∃ p x,H p=none/\y=.ref p/\H'=upd H p (.tup [.int i,x])/\∀ xs,SqT K H a xs->xs[i]?=some x,fun i H=>∃ xs,SqT K H a xs/\xs.length<=i⟩
theorem Zht {P:Program}{w:World}{K:Yad}{es:List Expr}{x1}{pos:Pos} (a it e:Addr) (hne:e≠it):Turn P w K (.Tuple es x1 pos) (IteT K a) [e,it] e (fun i h=>(∃ old,IsEnum h e it (i:Nat) old)/\h.IsTupleIter it a i) where
 mem:=by simp
 obj:=fun i h st b hb=>by
  obtain⟨⟨old,s1⟩,s2⟩:=st;rcases YaD.mp hb with z | z
  ·subst z;exact⟨_,s1,fun v z=>nomatch z⟩
  ·have z:b=it:=by simpa using z
   subst z;obtain⟨o,e,c,d⟩:=s2;exact⟨o,e,fun v z=>by rw[d] at z;cases z⟩
 keep:=fun i h h' st k=>by
  obtain⟨⟨old,s1⟩,s2⟩:=st;exact⟨⟨old,k e (by simp) _ s1⟩,s2.at fun o q=>k it (by simp) o q⟩
 item:=by
  intro X hP hw hK hc i pins s σ H E I hf st hg;subst hP hw hK;obtain⟨xs,x,hq,hx⟩:=hg;obtain⟨its,rv,p,hz⟩:=I.tuple hq;obtain⟨u,hu,ru⟩:=rv.get hx;obtain⟨⟨old,s1⟩,s2⟩:=st;have hlt:(i:Nat)<its.toArray.size:=by
   have:=(Yab.mp hu).1
   simpa using this
  have nea:a≠it:=by
   rintro rfl;obtain⟨o1,q1,c1,_⟩:=p;obtain⟨o2,q2,c2,_⟩:=id s2;rw[q1] at q2;cases q2;rw[c1] at c2;injection c2 with z;exact absurd z (by decide)
  have nee:a≠e:=by
   rintro rfl;obtain⟨o1,q1,c1,_⟩:=p;have s1':s.heap.get? a=some _:=s1;rw[q1] at s1';cases s1';injection c1 with z;exact absurd z (by decide)
  have it2:s.heap.IsTuple a its.toArray:=p;refine wpAny_pyNext_enum_itemD (ZjN (A:=X.A.in1) (I.ok.hd hc) it a nea its.toArray) s1 ⟨s2,it2⟩ hlt hne (by simp[hne,Ybn nee]) fun u' h' tk' hu' ho hst ht hsz hk=>?_;have eu:u'=u:=by
   have:its.toArray[i]?=some u:=by simpa using hu
   rw[this] at hu';exact (YaB hu').symm
  subst eu;have hit:=hst.1;refine⟨_,rfl,?_⟩;refine wpAny_letOwnedTupleGo_enum ho fun h'' he hs=>?_;have fresh:H s.heap.objs.size=none:=I.hok.fresh (Yap _);have k:∀ b o,b ∉ [e,it]->s.heap.get? b=some o->h''.get? b=some o:=fun b o hb q=>by
   have hb':b≠e/\b≠it:=by simpa using hb
   exact (hs.2 b hb'.1).trans (hk b o hb'.1 hb'.2 q)
  have nE:∀ b∈[e,it],H b=none:=fun b hb=>(hf b hb).1
  have nit:∀ b u,H b=some u->b ∉ [e,it]:=fun b u q z=>by rw[nE b z] at q;cases q
  have hpe:s.heap.objs.size≠e:=YbU (Yar s1);have htup:h''.get? s.heap.objs.size=some { cls:=.type "tuple",data:=.seq #[.int i tk',u'] }:=(hs.2 _ hpe).trans ht;have newOk:ObjOk X.prog X.w (upd H s.heap.objs.size (.tup [.int i,x])) h'' s.heap.objs.size (.tup [.int i,x]):=by
   refine⟨?_,[.int i tk',u'],.cons ⟨_,rfl⟩ (.cons ru .nil),⟨_,htup,rfl,rfl,0,rfl⟩⟩;show 2<=sizeLine
   decide
  have I1:Inv X pins σ (upd H s.heap.objs.size (.tup [.int i,x])) { s with heap:=h'',toks:=tk'+1 }:=by
   refine I.step (g':=s.gens) (d':=s.drawn) (ch:=[e,it]) (fun b hb=>?_) (fun b o _ _ hc q _=>k b o hc q) (fun b o _ _ hc q _=>⟨o.slots,k b o hc q⟩) (fun b o _ q n=>?_) (fun b o hc q=>⟨o,k b o hc q⟩)
    (fun b xs q=>by rw[Zai (Zae q fresh)];exact q) (fun b o xs q=>by rw[Zai (Zae q fresh)];exact q) (fun b ps q=>⟨#[],by rw[Zai (Zae q fresh),q];simp⟩) (fun m hm=>?_) (fun b ob q=>?_) I.bare
   ·obtain⟨f0,f1,f2,f3,f4,f5⟩:=hf b hb;exact⟨f3,f1,f4,f5⟩
   ·rw[Zai (YaP (Yar q))];exact n
   ·obtain⟨o,es,ep,ho,r⟩:=hm;refine⟨o,es,ep,k _ o (fun z=>?_) ho,r⟩;exact (hf _ z).2.1 rfl
   ·by_cases hb:b=s.heap.objs.size
    ·subst hb;rw[Zab] at q;cases q;exact newOk
    ·rw[Zai hb] at q;refine (I.hok b ob q).stay (fun c v hc r=>k c v ?_ r) (fun c r=>by rw[Zai (Zae r fresh)];exact r) fun c xs r=>by rw[Zai (Zae r fresh)];exact r
     rcases hc with z | z
     ·rw[z];exact nit b ob q
     ·exact nit c _ z
  refine⟨.ref s.heap.objs.size,_,I1,rfl,⟨s.heap.objs.size,x,fresh,rfl,rfl,fun ys hy=>by rw[I.tuple_inj hy hq];exact hx⟩,⟨⟨u',?_⟩,?_⟩,fun b hb=>?_⟩
  ·have he:IsEnum h'' e it ((i:Int)+1) u':=he;show IsEnum h'' e it ((i+1:Nat):Int) u';rw[show ((i+1:Nat):Int)=(i:Int)+1 by omega];exact he
  ·exact hit.extBut hs.extBut (Ybn hne)
  ·have lt:b<s.heap.objs.size:=by
    rcases YaD.mp hb with z | z
    ·rw[z];exact Yar s1
    ·have z:b=it:=by simpa using z
     rw[z];obtain⟨o,q,_⟩:=s2;exact Yar q
   rw[Zai (YaP lt)];exact nE b hb
 done:=by
  intro X hP hw hK hc i pins s σ H E I hf st hg;subst hP hw hK;obtain⟨xs,hq,hx⟩:=hg;obtain⟨its,rv,p,hz⟩:=I.tuple hq;obtain⟨⟨old,s1⟩,s2⟩:=st;obtain⟨f0,f1,f2,f3,f4,f5⟩:=hf it (by simp);have hl:=rv.length;exact ZfH (I.ok.hd hc) s1 s2 (show s.heap.IsTuple a its.toArray from p) (by simp;omega) fun h' eb=>⟨rfl,I.turned (t':=s.toks) (fun b o hb q=>eb b o hb q) f0 f1 f3 f4 f5⟩
 self:=fun _ _ _ _ _ st h=>by
  obtain⟨⟨old,s1⟩,_⟩:=st;exact wpAny_pyIter_enum s1 h
def SqB (b:Bool) (K:Yad) (H:Hp) (a:Addr) (xs:List V):Prop:=match b with | true=>SqL K H a xs | false=>SqT K H a xs
def IteB (b:Bool) (K:Yad) (a:Addr):It:=match b with | true=>Ite K a | false=>IteT K a
def ZlT (K:Yad) (ta:TA):TI:=fun σ H R=>ta σ H fun vs H1=>∃ a b,vs=[.ref a]/\(∃ xs,SqB b K H1 a xs)/\R (IteB b K a) H1
theorem Za9 {X:Cx}{es:List Expr}{x1}{tpos:Pos}{e:Expr}{ta:TA}{p pos:Pos} (hg:Gl X "enumerate") (hm:X.mg "enumerate"=none) (ha:PA X [e] ta) (hs:starEach [e] X.env=[(false,eval e X.env)]:=by rfl) :
  PI X (.Tuple es x1 tpos) (.Call (.Name "enumerate" p) [e] [] pos) (ZlT X.K ta):=by
 intro pins s σ H R I h;refine Call_ (Zei I hg hm (show bootBuiltins "enumerate"=some (.type "enumerate") by decide +kernel) (Yci (thn (ha pos pins s σ H _ I h) fun us s1 ⟨vs,H1,I1,r1,q1⟩=>?_) hs rfl));obtain⟨a,b,e1,⟨xs,hq⟩,q⟩:=q1;subst e1;obtain⟨u,rfl,r⟩:=Zb6 r1;cases r;have fp:∀ b∈[s1.heap.objs.size+1,s1.heap.objs.size],FpOk X pins H1 b:=fun b hb=>by
  have ge:s1.heap.objs.size<=b:=by
   rcases YaD.mp hb with z | z
   ·rw[z];exact Ycw _
   ·have z:b=s1.heap.objs.size:=by simpa using z
    rw[z];exact Yap _
  exact I1.fpOk ge (I1.hok.fresh ge)
 cases b with
 | true=>
  obtain⟨its,rv,pl,hz⟩:=I1.list hq;refine call_enumerate_list pl.isList fun h' he hi hsz k=>wpAny_pyIter_enum he ?_;exact⟨s1.heap.objs.size+1,[s1.heap.objs.size+1,s1.heap.objs.size],_,_,H1,rfl,I1.kept (t':=s1.toks) k,Zif a s1.heap.objs.size _ (YbU (Yb5 _)),⟨⟨.none,he⟩,hi⟩,fp,q⟩
 | false=>
  obtain⟨its,rv,pl,hz⟩:=I1.tuple hq;refine Ze5 (show s1.heap.IsTuple a its.toArray from pl) fun h' he hi k=>wpAny_pyIter_enum he ?_;exact⟨s1.heap.objs.size+1,[s1.heap.objs.size+1,s1.heap.objs.size],_,_,H1,rfl,I1.kept (t':=s1.toks) k,Zht a s1.heap.objs.size _ (YbU (Yb5 _)),⟨⟨.none,he⟩,hi⟩,fp,q⟩
theorem ZdK {b:Bool}{K:Yad}{a:Addr}{xs:List V}{g:TG}{tb:TS}{D:Ends}{σ:St}{H:Hp} (Pv:Nat->St->Hp->Prop) (h0:Pv 0 σ H) (hl:∀ i σ H,i<=xs.length->Pv i σ H->SqB b K H a xs)
  (hs:∀ i x p σ H,xs[i]?=some x->Pv i σ H->H p=none->g (.ref p) σ (upd H p (.tup [.int i,x])) fun σ2 H2=>tb { D with nx:=Pv (i+1),ct:=Pv (i+1),bk:=D.nx } σ2 H2) (hd:∀ σ H,Pv xs.length σ H->D.nx σ H) :
  ∃ W:Nat->Nat->St->Hp->Prop,(∃ m,W 0 m σ H)/\∀ i m σ H,W i m σ H ->
   ((IteB b K a).stop i H/\D.nx σ H)∨((IteB b K a).go i H/\∃ N:St->Hp->Prop,(∀ σ' H',N σ' H'->∃ m',m'<m/\W (i+1) m' σ' H')/\∀ x H',(IteB b K a).yld i H x H'->g x σ H' fun σ2 H2=>tb { D with nx:=N,ct:=N,bk:=D.nx } σ2 H2):=by
 refine⟨fun i m σ H=>m=xs.length - i/\i<=xs.length/\Pv i σ H,⟨xs.length,by simp,Ya2 _,h0⟩,?_⟩;rintro i m σ H ⟨rfl,hi,p⟩;have q:=hl i σ H hi p;by_cases hlt:i<xs.length
 ·have gx:xs[i]?=some xs[i]:=by simp[hlt]
  refine .inr ⟨by cases b <;> exact⟨xs,xs[i],q,gx⟩,Pv (i+1),fun σ' H' p'=>⟨xs.length - (i+1),by omega,rfl,hlt,p'⟩,fun x H' y=>?_⟩;have y:∃ pa z,H pa=none/\x=.ref pa/\H'=upd H pa (.tup [.int i,z])/\xs[i]?=some z:=by
   cases b with
   | true=>obtain⟨pa,z,hp,e1,e2,y⟩:=y;exact⟨pa,z,hp,e1,e2,y xs q⟩
   | false=>obtain⟨pa,z,hp,e1,e2,y⟩:=y;exact⟨pa,z,hp,e1,e2,y xs q⟩
  obtain⟨pa,z,hp,e1,e2,y'⟩:=y;subst e1 e2;exact hs i z pa σ H y' p hp
 ·have e:i=xs.length:=by omega
  subst e;exact .inl ⟨by cases b <;> exact⟨xs,q,Yap _⟩,hd σ H p⟩
def Zmq:V->List V->Hp->VK->Prop:=fun x vs H Q=>∃ (l:Addr) (xs:List V) (i:Int) (y:V),x=.ref l/\vs=[.int i,y]/\H l=some (.lst xs)/\-(2 ^ 63)<=i/\i<2 ^ 63/\xs.length<sizeLine /\
 Q .non (upd H l (.lst (xs.take (if i<0 then (i+(xs.length:Int)).toNat else min i.toNat xs.length)++y::xs.drop (if i<0 then (i+(xs.length:Int)).toNat else min i.toNat xs.length))))
theorem Zjh {X:Cx}:MtM X "list.insert" Zmq:=by
 intro pins s σ H x vs v us Q I rx rv h;obtain⟨l,xs,i,y,rfl,rfl,hH,i0,i1,hz,q⟩:=h;cases rx;obtain⟨u1,u2,rfl,⟨t,rfl⟩,r2⟩:=Zib rv;obtain⟨z,its,n,r,hl,e⟩:=I.lstM hH;have hfit:¬ (!Builtin.List.listFitsIndex i)=true:=by
  unfold Builtin.List.listFitsIndex;simp;omega
 refine call_meets F.slot_list_insert ⟨_,e,rfl⟩ F.entry_list_insert (F.args_list_insert_3 _ _ _) (AutoListH.list_insert_list_int_val_1 l its.toArray n i t u2 hfit (by rw[Yal];omega)) ⟨e,?_⟩;refine⟨.non,_,I.lset (its':=its.take (if i<0 then (i+(its.length:Int)).toNat else min i.toNat its.length)++u2::its.drop (if i<0 then (i+(its.length:Int)).toNat else min i.toNat its.length)) hH e ?_ ?_ ?_,rfl,q⟩
 ·dsimp only;rw[Yal,<- Yfx];simp;exact YaY (by rw[YaX];exact Yap _)
 ·rw[hl];exact (r.take _).append (.cons r2 (r.drop _))
 ·rw[Yag,YaH,Yav,YaX];omega
end L2
namespace L2
open PySem PySem.Spec PyProof.Rows PySem.SeqAt
section
variable {X:Cx}
theorem Zcb (ns:List Int):∀ k,k<=ns.length->preSum (fun i=>ns.getD i 0) k=(ns.take k).sum
 | 0,_=>by simp[preSum]
 | k+1,h=>by
  have hk:k<ns.length:=by omega
  rw[YcK hk,Ydx,<- Zcb ns k (by omega)];simp[preSum,Yak,hk]
theorem Zbr (hc:X.calm=true):Zbf X (.builtin "sum") (fun xs H Q=>∃ (a:Addr) (ns:List Int),xs=[.ref a]/\SqL X.K H a (ns.map V.int)/\Q (.int ns.sum) H):=by
 intro pins s σ H xs us Q I r h;obtain⟨a,ns,rfl,hq,q⟩:=h;obtain⟨u,rfl,r1⟩:=Zb6 r;cases r1;obtain⟨its,rv,p,hz⟩:=I.list hq;refine call_sum_walkG (wpAny_pyIter_list p.isList ?_);have hlt:=(let ⟨o,n,e,_⟩:=p;Yar e:a<s.heap.objs.size)
 have hne:a≠s.heap.objs.size:=YaP hlt;have hlen:its.toArray.size=ns.length:=by rw[Yal,<- rv.length,Yaa]
 refine⟨s.heap.objs.size,_,_,_,_,_,fun i=>ns.getD i 0,rfl,YeB (A:=X.A.in1) (I.ok.hd hc) _ a hne its.toArray,⟨⟨_,YaC _ rfl,rfl,rfl⟩,?_⟩,?_,?_,?_⟩
 ·obtain⟨o,n,e,c,_,d⟩:=p;exact⟨o,Yae _ e,c,n,d⟩
 ·intro b hb;rcases YaD.mp hb with z | z
  ·rw[z,YbA];exact Yb5 _
  ·have z:b=a:=by simpa using z
   rw[z,YbA];exact YcO hlt
 ·intro i v e;have hi:i<its.toArray.size:=(Yc7.mp e).1
  obtain⟨t,q⟩:=ZdI rv hi;rw[Ycd hi] at e;have e':=YaB e;rw[q] at e';exact⟨t,e'.symm⟩
 ·intro h' tk t' k;refine⟨.int ns.sum,H,I.kept (h':=h') (t':=tk) fun b o e=>k b o ?_ (Yae _ e),⟨t',?_⟩,q⟩
  ·intro hm;have:b=s.heap.objs.size:=by simpa using hm
   rw[this] at e;exact absurd (Yar e) (Ybl _)
  ·rw[hlen,Zcb ns _ (Yap _),YaM]
end
end L2
namespace L2
open PySem PySem.Spec PyProof.Rows PySem.SeqAt
section
variable {X:Cx}
theorem ZcU {ns:List Int}:∀ {us:List Value},IntsAre us ns->Vals (ns.map V.int) us:=by
 intro us h
 induction h with
 | nil=>exact .nil
 | cons=>rename_i ih;exact .cons ⟨_,rfl⟩ ih
theorem Zlr:Zbf X (.type "range") (fun xs H Q=>∃ j:Int,xs=[.int j]/\∀ p,H p=none->Q (.ref p) (upd H p (.rng 0 j))):=by
 intro pins s σ H xs us Q I r h;obtain⟨j,rfl,q⟩:=h;obtain⟨u,rfl,t,rfl⟩:=Zb6 r;refine call_range_1 ⟨.ref s.heap.objs.size,_,I.laid (a:=s.heap.objs.size) (o:=.rng 0 j) (fun b o q=>Yae _ q) (Yap _) ?_,rfl,q _ (I.hok.fresh (Yap _))⟩;exact⟨_,_,_,YaC _ rfl⟩
theorem Zck {f:Nat->Int}:∀ (n:Nat) (us:List Value),us.length=n->(∀ (j:Nat) v,us[j]?=some v->∃ t,v=.int (f j) t)->Vals (((YaE n).map f).map V.int) us
 | 0,us,hl,_=>by
  have:us=[]:=YbF.mp hl;subst this;exact .nil
 | n+1,us,hl,h=>by
  have hne:us≠[]:=by rintro rfl;cases hl
  have e:=YbP hne;rw[Yb2,Yai,Yai,<- e];have hd:us.dropLast.length=n:=by rw[List.length_dropLast,hl];rfl
  refine Vals.append (Zck n us.dropLast hd fun j v hj=>h j v ?_) (.cons ?_ .nil)
  ·rw[<- e,Yaz (Yab.mp hj).1];exact hj
  ·have hn:n<us.length:=by omega
   have hg:us[n]?=some (us.getLast hne):=by
    rw[Yac hn,List.getLast_eq_getElem];simp[hl]
   obtain⟨t,q⟩:=h n (us.getLast hne) hg;exact⟨t,q⟩
theorem Ze4 (hc:X.calm=true):Zbf X (.type "list") (fun xs H Q=>∃ (p:Addr) (j:Int),xs=[.ref p]/\H p=some (.rng 0 j)/\0<=j/\j<=1000/\∀ l,H l=none->Q (.ref l) (upd H l (.lst (((YaE j.toNat).map fun (i:Nat)=>(i:Int)).map V.int)))):=by
 intro pins s σ H xs us Q I r h;obtain⟨p,j,rfl,hp,j0,j1,q⟩:=h;obtain⟨u,rfl,r1⟩:=Zb6 r;cases r1;obtain⟨t,u,v,ho⟩:=I.hok p _ hp;have sz:Yd0 0 j 1=(j.toNat:Nat):=by rw[rangeSize_one];split <;> omega
 refine call_list_range (I.ok.hd hc) (show IsRange s.heap p 0 j 1 t u v from ho) (small_one (by omega) (by omega) (by omega) (by omega)) sz (by omega) fun h' tk acc' c' k hS hacc=>?_;have hlen:acc'.toList.length=j.toNat:=by simpa using hacc.1
 refine⟨.ref s.heap.objs.size,_,I.laid (a:=s.heap.objs.size) (o:=.lst (((YaE j.toNat).map fun (i:Nat)=>(i:Int)).map V.int)) (t':=tk) k (Yap _) ?_,rfl,q _ (I.hok.fresh (Yap _))⟩;refine⟨?_,acc'.toList,c',Zck j.toNat acc'.toList hlen (fun i v hv=>?_),by simpa using hS⟩
 ·rw[Yaa,Yaa,Ycf];exact Ybv (Zaz (by omega))
 ·obtain⟨t,q⟩:=hacc.2 i v (by simpa using hv);exact⟨t,by rw[q];congr 1;omega⟩
end
end L2
namespace L2
open PySem PySem.Spec PyProof.Rows PySem.SeqAt
theorem Inv.pairOut {X:Cx}{pins:List (Addr × Obj)}{σ:St}{H:Hp}{s:Shared}{h':Heap}{fp:List Addr}{x y:V}{u v:Value}{tk:Nat} (I:Inv X pins σ H s) (hf:∀ b∈fp,FpOk X pins H b)
  (k:∀ b o,b ∉ fp->s.heap.get? b=some o->h'.get? b=some o) (ht:IsPair h' s.heap.objs.size u v) (hlf:∀ b∈fp,b<s.heap.objs.size) (hth:∀ b∈fp,∃ o,h'.get? b=some o) (rx:RelV x u) (ry:RelV y v) :
  Inv X pins σ (upd H s.heap.objs.size (.tup [x,y])) { s with heap:=h',toks:=tk }:=by
 have fresh:H s.heap.objs.size=none:=I.hok.fresh (Yap _);have nit:∀ b o,H b=some o->b ∉ fp:=fun b o q z=>by rw[(hf b z).1] at q;cases q
 have newOk:ObjOk X.prog X.w (upd H s.heap.objs.size (.tup [x,y])) h' s.heap.objs.size (.tup [x,y]):=by
  refine⟨?_,[u,v],.cons rx (.cons ry .nil),⟨_,ht,rfl,rfl,0,rfl⟩⟩;show 2<=sizeLine
  decide
 refine I.step (g':=s.gens) (d':=s.drawn) (ch:=fp) (fun b hb=>?_) (fun b o _ _ hc q _=>k b o hc q) (fun b o _ _ hc q _=>⟨o.slots,k b o hc q⟩) (fun b o _ q n=>?_) (fun b o hc q=>⟨o,k b o hc q⟩)
  (fun b xs q=>by rw[Zai (Zae q fresh)];exact q) (fun b o xs q=>by rw[Zai (Zae q fresh)];exact q) (fun b ps q=>⟨#[],by rw[Zai (Zae q fresh),q];simp⟩) (fun m hm=>?_) (fun b ob q=>?_) I.bare
 ·obtain⟨f0,f1,f2,f3,f4,f5⟩:=hf b hb;exact⟨f3,f1,f4,f5⟩
 ·rw[Zai (YaP (Yar q))];exact n
 ·obtain⟨o,es,ep,ho,r⟩:=hm;exact⟨o,es,ep,k _ o (fun z=>(hf _ z).2.1 rfl) ho,r⟩
 ·by_cases hb:b=s.heap.objs.size
  ·subst hb;rw[Zab] at q;cases q;exact newOk
  ·rw[Zai hb] at q;refine (I.hok b ob q).stay (fun c v hc r=>k c v ?_ r) (fun c r=>by rw[Zai (Zae r fresh)];exact r) fun c xs r=>by rw[Zai (Zae r fresh)];exact r
   rcases hc with z | z
   ·rw[z];exact nit b ob q
   ·exact nit c _ z
theorem Inv.turnedAll {X:Cx}{pins:List (Addr × Obj)}{σ:St}{H:Hp}{s:Shared}{h':Heap}{fp:List Addr}{tk:Nat} (I:Inv X pins σ H s) (hf:∀ b∈fp,FpOk X pins H b) (k:∀ b o,b ∉ fp->s.heap.get? b=some o->h'.get? b=some o) :
  Inv X pins σ H { s with heap:=h',toks:=tk }:=by
 have nit:∀ b o,H b=some o->b ∉ fp:=fun b o q z=>by rw[(hf b z).1] at q;cases q
 refine I.step (g':=s.gens) (d':=s.drawn) (ch:=fp) (fun b hb=>?_) (fun b o _ _ hc q _=>k b o hc q) (fun b o _ _ hc q _=>⟨o.slots,k b o hc q⟩) (fun b o _ q n=>n) (fun b o hc q=>⟨o,k b o hc q⟩) (fun _ _ q=>q) (fun _ _ _ q=>q) (fun b ps q=>⟨#[],by rw[q];simp⟩) (fun m hm=>?_) (fun b ob q=>?_) I.bare
 ·obtain⟨f0,f1,f2,f3,f4,f5⟩:=hf b hb;exact⟨f3,f1,f4,f5⟩
 ·obtain⟨o,es,ep,ho,r⟩:=hm;exact⟨o,es,ep,k _ o (fun z=>(hf _ z).2.1 rfl) ho,r⟩
 ·refine (I.hok b ob q).stay (fun c v hc r=>k c v ?_ r) (fun _ q=>q) fun _ _ q=>q;rcases hc with z | z
  ·rw[z];exact nit b ob q
  ·exact nit c _ z
end L2
namespace L2
open PySem PySem.Spec PyProof.Rows PySem.SeqAt
section
variable {X:Cx}
theorem Zmy:OpR X (binaryOp .Mult) (rI (fun i j=>∃ m n,YaR i<=m/\YaR j<=n/\m+n<=134217728) fun i j=>.int (i*j)) :=
 opI fun _ _ _ _ _ _ _ hc q=>mul_int q (by obtain⟨m,n,h1,h2,h3⟩:=hc;exact IntMulOk.of_le h1 h2 h3)
theorem ZkJ:OpR X (binaryOp .FloorDiv) (rI (fun _ j=>0<j/\YaR j<=8000) fun i j=>.int (i / j)):=opI fun i j _ _ _ _ _ hc q=>by
 have h1:(0:Int)<j:=hc.1;have h2:j.natAbs<2 ^ 8000:=intBits_le_iff.mp hc.2;refine floordiv_int (by omega) (by rw[YeG i (by omega)];exact q) (.inl (PyProof.noPylong_of_log2 ?_));have h3:j.natAbs.log2<8000:=(Nat.log2_lt (by omega)).mpr h2;omega
theorem ZfN (hc:X.calm=true):Zbf X (.builtin "sum") (fun xs H Q=>∃ (a:Addr) (ns:List Int),xs=[.ref a]/\SqT X.K H a (ns.map V.int)/\Q (.int ns.sum) H):=by
 intro pins s σ H xs us Q I r h;obtain⟨a,ns,rfl,hq,q⟩:=h;obtain⟨u,rfl,r1⟩:=Zb6 r;cases r1;obtain⟨its,rv,p0,hz⟩:=I.tuple hq;have p:s.heap.IsTuple a its.toArray:=p0;refine call_sum_walkG (wpAny_pyIter_tuple p ?_);have hlt:a<s.heap.objs.size:=by obtain⟨o,e,_⟩:=p;exact Yar e
 have hne:a≠s.heap.objs.size:=YaP hlt;have hlen:its.toArray.size=ns.length:=by rw[Yal,<- rv.length,Yaa]
 refine⟨s.heap.objs.size,_,_,_,_,_,fun i=>ns.getD i 0,rfl,Walks.tuple (A:=X.A.in1) (I.ok.hd hc) _ a hne its.toArray,⟨⟨_,YaC _ rfl,rfl,rfl⟩,?_⟩,?_,?_,?_⟩
 ·obtain⟨o,e,c,d⟩:=p;exact⟨o,Yae _ e,c,d⟩
 ·intro b hb;rcases YaD.mp hb with z | z
  ·rw[z,YbA];exact Yb5 _
  ·have z:b=a:=by simpa using z
   rw[z,YbA];exact YcO hlt
 ·intro i v e;have hi:i<its.toArray.size:=(Yc7.mp e).1
  obtain⟨t,q⟩:=ZdI rv hi;rw[Ycd hi] at e;have e':=YaB e;rw[q] at e';exact⟨t,e'.symm⟩
 ·intro h' tk t' k;refine⟨.int ns.sum,H,I.kept (h':=h') (t':=tk) fun b o e=>k b o ?_ (Yae _ e),⟨t',?_⟩,q⟩
  ·intro hm;have:b=s.heap.objs.size:=by simpa using hm
   rw[this] at e;exact absurd (Yar e) (Ybl _)
  ·rw[hlen,Zcb ns _ (Yap _),YaM]
end
section
variable {prog:Program}{w:World}{A:Around}{E:Value->Shared->Prop}{s:Shared}
theorem Zh0 {l:Addr}{vs:List Value}{Q:List Value->Shared->Prop} (ht:s.heap.IsTuple l vs.toArray) (h:Q vs { s with heap:=(s.heap.push (seqObj "list" #[] 0)).update s.heap.objs.size (YbJ (·++vs.toArray)) }) (hz:vs.length<=sizeLine) :
  wpAny (model prog w) A (collect (.ref l)) Q E s:=by
 obtain⟨o,ho,hc,n,hd⟩:=id ht;have own:(s.heap.push (seqObj "list" #[] 0)).get? s.heap.objs.size=some (seqObj "list" #[] 0):=YaC _ rfl;have old:(s.heap.push (seqObj "list" #[] 0)).get? l=some o:=Yae _ ho;unfold collect;refine wpAny_bind (wpAny_runValue (codeAny_builtin entry_proto_collect' ?_));refine wpAny_bind (m:=newList []) (wpAny_newList (wpAny_pure ⟨Code.quiet_builtin _ (by decide +kernel),codeAny_builtin entry_list_iadd' ?_⟩));show wpAny _ _ (YdP (.ref s.heap.objs.size) (.ref l) (.ref s.heap.objs.size)) _ _ { s with heap:=s.heap.push (seqObj "list" #[] 0) };unfold YdP;refine wpAny_bind (wpAny_typeOf (T:="tuple") ⟨o,old,hc⟩ ?_);have tt:(Ydf "tuple" == Ydf "tuple")=true:=by rfl
 rw[if_pos (by rw[tt];simp)];refine wpAny_bind (listItems_at old hd (wpAny_bind (listItems_at (xs:=#[]) (n:=0) own rfl ?_)));rw[if_neg (by simp)];refine wpAny_bind (listUpdate_at (xs:=#[]) (n:=0) own rfl (wpAny_pure ?_) (Ya2 _) ?_)
 ·refine wpAny_bind (m:=load s.heap.objs.size) (wpAny_load (get?_update_seq own _) ?_);show wpAny _ _ (pure ((#[]:Array Value)++vs.toArray).toList) _ _ _;rw[show ((#[]:Array Value)++vs.toArray).toList=vs by simp];exact wpAny_pure h
 ·show (#[]++vs.toArray).size<=sizeLine+1;simp only[Array.size_append,Yal,YcF];omega
end
section
variable {X:Cx}
end
theorem Zdi {K:Yad}{own:List Str}{js:List Nat}{g:TG}{tt:TT}{te:TE}{σ:St}{H1:Hp}{Q:VK}{a:Addr}{xs:List V} (Pv:Addr->Nat->Hp->Prop) (h0:∀ acc,H1 acc=none->Pv acc 0 (upd H1 acc (.lst []))) (hl:∀ acc i H,H1 acc=none->i<=xs.length->Pv acc i H->SqT K H a xs)
  (hs:∀ acc i x H,H1 acc=none->xs[i]?=some x->Pv acc i H->g x (blkσ own js σ) H fun τ H4=>tt τ H4 fun c H5=>
   if c=true then te τ H5 fun y H6=>∃ ys,H6 acc=some (.lst ys)/\ys.length<sizeLine/\(i+1<=xs.length/\Pv acc (i+1) (upd H6 acc (.lst (ys++[y])))) else (i+1<=xs.length/\Pv acc (i+1) H5))
  (hd:∀ acc H,H1 acc=none->Pv acc xs.length H->Q (.ref acc) H):Zbg own js g tt te σ (Itt K a) H1 Q:=by
 intro acc hacc;refine⟨fun i H=>i<=xs.length/\Pv acc i H,xs.length,⟨Ya2 _,h0 acc hacc⟩,?_⟩;rintro i H ⟨hi,p⟩;have q:=hl acc i H hacc hi p;by_cases hlt:i<xs.length
 ·refine .inr ⟨hlt,⟨xs,xs[i],q,by simp[hlt]⟩,fun x H' y=>?_⟩;obtain⟨e,y⟩:=y;subst e;exact hs acc i x _ hacc (y xs q) p
 ·have e:i=xs.length:=by omega
  subst e;exact .inl ⟨⟨xs,q,Yap _⟩,hd acc H hacc p⟩
end L2
namespace L2
open PySem PySem.Spec PyProof.Rows PySem.SeqAt
def HIt (b:Bool) (h:Heap) (it l:Addr) (i:Nat):Prop:=match b with | true=>h.IsListIter it l i | false=>h.IsTupleIter it l i
def HSq (b:Bool) (h:Heap) (l:Addr) (xs:Array Value):Prop:=match b with | true=>h.IsList l xs | false=>h.IsTuple l xs
theorem HIt.at {b:Bool}{h h':Heap}{it l:Addr}{i:Nat} (x:HIt b h it l i) (e:∀ o,h.get? it=some o->h'.get? it=some o):HIt b h' it l i:=by
 cases b
 ·exact Heap.IsTupleIter.at x e
 ·exact Heap.IsListIter.at x e
theorem HIt.ext {b:Bool}{h h':Heap}{it l c:Addr}{i:Nat} (x:HIt b h it l i) (hs:YdN c h h') (n:it≠c):HIt b h' it l i:=x.at fun o e=>hs _ _ n e
theorem HIt.obj {b:Bool}{h:Heap}{it l:Addr}{i:Nat} (x:HIt b h it l i):∃ o,h.get? it=some o/\∀ v:Option Value,o.data≠.cell v:=by
 cases b
 ·obtain⟨o,e,_,d⟩:=x;exact⟨o,e,fun v q=>by rw[d] at q;cases q⟩
 ·obtain⟨o,e,_,d⟩:=x;exact⟨o,e,fun v q=>by rw[d] at q;cases q⟩
theorem HSq.ext {b:Bool}{h h':Heap}{l c:Addr}{xs:Array Value} (x:HSq b h l xs) (hs:YdN c h h') (n:l≠c):HSq b h' l xs:=by
 cases b
 ·exact Heap.IsTuple.extBut x hs n
 ·exact Heap.IsList.extBut x hs n
section
variable {prog:Program}{w:World}{A:Around}{E:Value->Shared->Prop}{s:Shared}
theorem ZmG {b:Bool}{it l:Addr}{i:Nat}{items:Array Value}{x:Value}{Q:Value->Shared->Prop} (hit:HIt b s.heap it l i) (hl:HSq b s.heap l items) (hx:items[i]?=some x) (hQ:∀ h',HIt b h' it l (i+1)->YdC it s.heap h'->Q x { s with heap:=h' }) :
  wpAny (model prog w) A (Ybd (.ref it)) Q E s:=by
 cases b
 ·exact Zeg hit hl hx hQ
 ·exact wpAny_nextOf_list_item hit hl hx hQ
theorem Zfu {b:Bool}{it l:Addr}{i:Nat}{items:Array Value}{Q:Value->Shared->Prop} (hh:A.handled=none) (hit:HIt b s.heap it l i) (hl:HSq b s.heap l items) (hx:items[i]?=none)
  (hE:∀ h' e,YdN it s.heap h'->(∃ o,h'.get? e=some o/\o.cls=.type "StopIteration")->E (.ref e) { s with heap:=h' }):wpAny (model prog w) A (Ybd (.ref it)) Q E s:=by
 cases b
 ·exact Zbk hh hit hl hx hE
 ·exact wpAny_nextOf_list_end hh hit hl hx hE
theorem Zh8 {b1 b2:Bool}{z TI TO i1 i2 l1 l2:Addr}{k1 k2:Nat}{xs ys:Array Value}{x y a b:Value}{Q:Value->Shared->Prop} (D:ZipApart z TI TO i1 i2 l1 l2) (hz:IsZip s.heap z TI TO .none) (hTI:IsPair s.heap TI (.ref i1) (.ref i2)) (hTO:IsPair s.heap TO a b)
  (h1:HIt b1 s.heap i1 l1 k1) (h2:HIt b2 s.heap i2 l2 k2) (hl1:HSq b1 s.heap l1 xs) (hl2:HSq b2 s.heap l2 ys) (hx:xs[k1]?=some x) (hy:ys[k2]?=some y)
  (hQ:∀ h',IsZip h' z TI TO (rawInt s.heap.objs.size)->IsPair h' TO x y->HIt b1 h' i1 l1 (k1+1)->HIt b2 h' i2 l2 (k2+1)->IsPair h' s.heap.objs.size x y->h'.objs.size=s.heap.objs.size+1 ->
   (∀ c o,c≠z->c≠TO->c≠i1->c≠i2->s.heap.get? c=some o->h'.get? c=some o)->Q (.ref s.heap.objs.size) { s with heap:=h' }) :
  wpAny (model prog w) A (Builtin.«zip.__next__» ⟨[.ref z],[]⟩) (fun fin s'=>∃ v,fin=.done (.ret v)/\Q v s') E s:=by
 refine wpAny_bind (m:=field (.ref z) 2) (wpAny_field hz rfl (x:=.bool false) rfl ?_);refine wpAny_bind (m:=field (.ref z) 3) (wpAny_field hz rfl (x:=.ref TI) rfl (wpAny_bind (wpAny_seqItems hTI rfl ?_)));refine wpAny_bind (m:=YbX (.ref z)) ?_;unfold YbX;refine wpAny_bind (wpAny_field hz rfl (x:=.none) rfl (wpAny_pure ?_));simp only[if_true];refine wpAny_bind (wpAny_rule (wpAny_bind (wpAny_field hz rfl (x:=.ref TO) rfl ?_)));refine wpAny_bind (wpAny_setField_rec hz (by simp) fun h₁ hz₁ hs₁=>?_)
 replace hz₁:IsZip h₁ z TI TO .ellipsis:=hz₁
 refine wpAny_bind ?_;simp only[Yd9,List.zipIdx_nil,Yer,List.forIn_nil];refine wpAny_bind (wpAny_bind (wpAny_onRaise (wpAny_bind (m:=Ybd (.ref i1)) ?_)));refine ZmG (h1.ext hs₁.extBut D.i1z) (hl1.ext hs₁.extBut D.l1z) hx fun h₂ h1₂ hs₂=>wpAny_pure ?_;have t2:IsPair h₂ TO a b:=hs₂.extBut _ _ D.TOi1 (hs₁.extBut _ _ D.TOz hTO);refine wpAny_bind (wpAny_seqItems t2 rfl (wpAny_bind (wpAny_updateSeq_pair t2 fun h₃ hTO₃ hs₃=>?_)))
 replace hTO₃:IsPair h₃ TO x b:=hTO₃
 refine wpAny_bind (wpAny_letGo (wpAny_pure (wpAny_bind (wpAny_bind (wpAny_onRaise (wpAny_bind (m:=Ybd (.ref i2)) ?_))))));refine ZmG (((h2.ext hs₁.extBut D.i2z).ext hs₂.extBut D.i12.symm).ext hs₃.extBut D.TOi2.symm) (((hl2.ext hs₁.extBut D.l2z).ext hs₂.extBut D.l2i1).ext hs₃.extBut D.l2TO) hy fun h₄ h2₄ hs₄=>wpAny_pure ?_;have t4:IsPair h₄ TO x b:=hs₄.extBut _ _ D.TOi2 hTO₃;refine wpAny_bind (wpAny_seqItems t4 rfl (wpAny_bind (wpAny_updateSeq_pair t4 fun h₅ hTO₅ hs₅=>?_)))
 replace hTO₅:IsPair h₅ TO x y:=hTO₅
 refine wpAny_bind (wpAny_letGo (wpAny_pure (wpAny_pure (wpAny_bind (wpAny_seqItems hTO₅ rfl (wpAny_bind (wpAny_newTuple ?_)))))));have hsz:h₅.objs.size=s.heap.objs.size:=by rw[hs₅.1,hs₄.1,hs₃.1,hs₂.1,hs₁.1]
 have hz₅:IsZip h₅ z TI TO .ellipsis:=hs₅.extBut _ _ D.TOz.symm (hs₄.extBut _ _ D.i2z.symm (hs₃.extBut _ _ D.TOz.symm (hs₂.extBut _ _ D.i1z.symm hz₁)));have k5:∀ c o,c≠z->c≠TO->c≠i1->c≠i2->s.heap.get? c=some o->h₅.get? c=some o:=fun c o c1 c2 c3 c4 e=>hs₅.extBut _ _ c2 (hs₄.extBut _ _ c4 (hs₃.extBut _ _ c2 (hs₂.extBut _ _ c3 (hs₁.extBut _ _ c1 e))));have j1:HIt b1 h₅ i1 l1 (k1+1):=((h1₂.ext hs₃.extBut D.TOi1.symm).ext hs₄.extBut D.i12).ext hs₅.extBut D.TOi1.symm;have j2:HIt b2 h₅ i2 l2 (k2+1):=h2₄.ext hs₅.extBut D.TOi2.symm;have zlt:z<h₅.objs.size:=Yar hz₅;refine wpAny_bind (m:=Yc6 (.ref z) (.ref h₅.objs.size)) ?_;unfold Yc6;have hz₆:IsZip (h₅.push { cls:=.type "tuple",data:=.seq #[x,y] }) z TI TO .ellipsis:=Yae _ hz₅;refine wpAny_bind (wpAny_setField_rec hz₆ (by simp) fun h₇ hz₇ hs₇=>?_)
 replace hz₇:IsZip h₇ z TI TO (rawInt h₅.objs.size):=hz₇
 refine wpAny_setField_rec hz₇ (by simp) fun h₈ hz₈ hs₈=>?_
 replace hz₈:IsZip h₈ z TI TO (rawInt h₅.objs.size):=hz₈
 have up:∀ c o,c≠z->h₅.get? c=some o->h₈.get? c=some o:=fun c o c1 e=>hs₈.extBut _ _ c1 (hs₇.extBut _ _ c1 (Yae _ e));have t8:IsPair h₈ h₅.objs.size x y:=hs₈.extBut _ _ (YbU zlt) (hs₇.extBut _ _ (YbU zlt) (YaC _ rfl));have z8:h₈.objs.size=h₅.objs.size+1:=by rw[hs₈.1,hs₇.1,YbA]
 rw[hsz] at hz₈ t8 z8;refine wpAny_pure ⟨_,rfl,?_⟩;show Q (.ref h₅.objs.size) _;rw[hsz];exact hQ h₈ hz₈ (up _ _ D.TOz hTO₅) (j1.at fun o e=>up _ o D.i1z e) (j2.at fun o e=>up _ o D.i2z e) t8 z8 fun c o c1 c2 c3 c4 e=>up c o c1 (k5 c o c1 c2 c3 c4 e)
theorem Zkf {b1 b2:Bool}{z TI TO i1 i2 l1 l2:Addr}{k1 k2:Nat}{xs ys:Array Value}{a b:Value}{Q:Fin->Shared->Prop} (hh:A.handled=none) (D:ZipApart z TI TO i1 i2 l1 l2) (hz:IsZip s.heap z TI TO .none) (hTI:IsPair s.heap TI (.ref i1) (.ref i2)) (hTO:IsPair s.heap TO a b)
  (h1:HIt b1 s.heap i1 l1 k1) (h2:HIt b2 s.heap i2 l2 k2) (hl1:HSq b1 s.heap l1 xs) (hl2:HSq b2 s.heap l2 ys) (hend:xs[k1]?=none∨ys[k2]?=none)
  (hE:∀ h' e,(∀ c o,c≠z->c≠TO->c≠i1->c≠i2->s.heap.get? c=some o->h'.get? c=some o)->(∃ o,h'.get? e=some o/\o.cls=.type "StopIteration")->E (.ref e) { s with heap:=h' }):wpAny (model prog w) A (Builtin.«zip.__next__» ⟨[.ref z],[]⟩) Q E s:=by
 refine wpAny_bind (m:=field (.ref z) 2) (wpAny_field hz rfl (x:=.bool false) rfl ?_);refine wpAny_bind (m:=field (.ref z) 3) (wpAny_field hz rfl (x:=.ref TI) rfl (wpAny_bind (wpAny_seqItems hTI rfl ?_)));refine wpAny_bind (m:=YbX (.ref z)) ?_;unfold YbX;refine wpAny_bind (wpAny_field hz rfl (x:=.none) rfl (wpAny_pure ?_));simp only[if_true];refine wpAny_bind (wpAny_rule (wpAny_bind (wpAny_field hz rfl (x:=.ref TO) rfl ?_)));refine wpAny_bind (wpAny_setField_rec hz (by simp) fun h₁ hz₁ hs₁=>?_)
 replace hz₁:IsZip h₁ z TI TO .ellipsis:=hz₁
 refine wpAny_bind ?_;simp only[Yd9,List.zipIdx_nil,Yer,List.forIn_nil];refine wpAny_bind (wpAny_bind (wpAny_onRaise (wpAny_bind (m:=Ybd (.ref i1)) ?_)))
 cases hx:xs[k1]? with
 | none=>
  refine Zfu hh (h1.ext hs₁.extBut D.i1z) (hl1.ext hs₁.extBut D.l1z) hx fun h₂ e hs₂ ⟨oe,hoe,hce⟩=>?_;have hz₂:IsZip h₂ z TI TO .ellipsis:=hs₂ _ _ D.i1z.symm hz₁;have ez:e≠z:=fun x=>by subst x;rw[hz₂] at hoe;cases hoe;simp at hce
  exact wpAny_setField_rec hz₂ (by simp) fun h₃ _ hs₃=>hE h₃ e (fun c o c1 _ c3 _ x=>hs₃.extBut _ _ c1 (hs₂ _ _ c3 (hs₁.extBut _ _ c1 x))) ⟨oe,hs₃.extBut _ _ ez hoe,hce⟩
 | some x=>
  have hy:ys[k2]?=none:=hend.resolve_left (by rw[hx];simp);refine ZmG (h1.ext hs₁.extBut D.i1z) (hl1.ext hs₁.extBut D.l1z) hx fun h₂ h1₂ hs₂=>wpAny_pure ?_;have t2:IsPair h₂ TO a b:=hs₂.extBut _ _ D.TOi1 (hs₁.extBut _ _ D.TOz hTO);refine wpAny_bind (wpAny_seqItems t2 rfl (wpAny_bind (wpAny_updateSeq_pair t2 fun h₃ hTO₃ hs₃=>?_)));refine wpAny_bind (wpAny_letGo (wpAny_pure (wpAny_bind (wpAny_bind (wpAny_onRaise (wpAny_bind (m:=Ybd (.ref i2)) ?_))))));refine Zfu hh (((h2.ext hs₁.extBut D.i2z).ext hs₂.extBut D.i12.symm).ext hs₃.extBut D.TOi2.symm) (((hl2.ext hs₁.extBut D.l2z).ext hs₂.extBut D.l2i1).ext hs₃.extBut D.l2TO) hy fun h₄ e hs₄ ⟨oe,hoe,hce⟩=>?_;have hz₄:IsZip h₄ z TI TO .ellipsis:=hs₄ _ _ D.i2z.symm (hs₃.extBut _ _ D.TOz.symm (hs₂.extBut _ _ D.i1z.symm hz₁));have ez:e≠z:=fun x=>by subst x;rw[hz₄] at hoe;cases hoe;simp at hce
  exact wpAny_setField_rec hz₄ (by simp) fun h₅ _ hs₅=>hE h₅ e (fun c o c1 c2 c3 c4 x=>hs₅.extBut _ _ c1 (hs₄ _ _ c4 (hs₃.extBut _ _ c2 (hs₂.extBut _ _ c3 (hs₁.extBut _ _ c1 x))))) ⟨oe,hs₅.extBut _ _ ez hoe,hce⟩
theorem Zfo {b1 b2:Bool}{z TI TO i1 i2 l1 l2:Addr}{k1 k2:Nat}{xs ys:Array Value}{x y a b:Value}{Q:Option Value->Shared->Prop} (D:ZipApart z TI TO i1 i2 l1 l2) (hz:IsZip s.heap z TI TO .none) (hTI:IsPair s.heap TI (.ref i1) (.ref i2)) (hTO:IsPair s.heap TO a b)
  (h1:HIt b1 s.heap i1 l1 k1) (h2:HIt b2 s.heap i2 l2 k2) (hl1:HSq b1 s.heap l1 xs) (hl2:HSq b2 s.heap l2 ys) (hx:xs[k1]?=some x) (hy:ys[k2]?=some y)
  (hQ:∀ h',IsZip h' z TI TO (rawInt s.heap.objs.size)->IsPair h' TO x y->HIt b1 h' i1 l1 (k1+1)->HIt b2 h' i2 l2 (k2+1)->IsPair h' s.heap.objs.size x y->h'.objs.size=s.heap.objs.size+1 ->
   (∀ c o,c≠z->c≠TO->c≠i1->c≠i2->s.heap.get? c=some o->h'.get? c=some o)->Q (some (.ref s.heap.objs.size)) { s with heap:=h' }):wpAny (model prog w) A (pyNext (.ref z)) Q E s:=by
 have hT:s.TypeIs (.ref z) "zip":=⟨_,hz,rfl⟩
 unfold pyNext;exact wpAny_bind (wpAny_attempt (wpAny_callSpecial?_slot (name:=Ydb "__next__") hT F.slot_zip_next (wpAny_call_entry F.slot_zip_next hT F.entry_zip_next (Zh8 D hz hTI hTO h1 h2 hl1 hl2 hx hy fun h' a1 a2 a3 a4 a5 a6 a7=>wpAny_pure (hQ h' a1 a2 a3 a4 a5 a6 a7)) (F.args_zip_next_1 _))))
theorem Zgq {b1 b2:Bool}{z TI TO i1 i2 l1 l2:Addr}{k1 k2:Nat}{xs ys:Array Value}{a b:Value}{Q:Option Value->Shared->Prop} (hh:A.handled=none) (D:ZipApart z TI TO i1 i2 l1 l2) (hz:IsZip s.heap z TI TO .none) (hTI:IsPair s.heap TI (.ref i1) (.ref i2)) (hTO:IsPair s.heap TO a b)
  (h1:HIt b1 s.heap i1 l1 k1) (h2:HIt b2 s.heap i2 l2 k2) (hl1:HSq b1 s.heap l1 xs) (hl2:HSq b2 s.heap l2 ys) (hend:xs[k1]?=none∨ys[k2]?=none)
  (hQ:∀ h',(∀ c o,c≠z->c≠TO->c≠i1->c≠i2->s.heap.get? c=some o->h'.get? c=some o)->Q none { s with heap:=h' }):wpAny (model prog w) A (pyNext (.ref z)) Q E s:=by
 have hT:s.TypeIs (.ref z) "zip":=⟨_,hz,rfl⟩
 unfold pyNext;refine wpAny_bind (wpAny_attempt (wpAny_callSpecial?_slot (name:=Ydb "__next__") hT F.slot_zip_next (wpAny_call_entry F.slot_zip_next hT F.entry_zip_next (Zkf hh D hz hTI hTO h1 h2 hl1 hl2 hend fun h' e hk ⟨o,ho,hc⟩=>?_) (F.args_zip_next_1 _))));exact wpAny_bind (wpAny_isInstance (T:="StopIteration") (b:=true) ⟨o,ho,hc⟩ isSubtype_stop (wpAny_pure (hQ _ hk)))
def ZmM (b:Bool):String:=match b with | true=>"list_iterator" | false=>"tuple_iterator"
def zB1 (b1:Bool) (h:Heap) (l1:Addr):Heap:=h.push { cls:=.type (ZmM b1),data:=.fields #[.ref l1,.int 0 0] }
def zB2 (b1 b2:Bool) (h:Heap) (l1 l2:Addr):Heap:=(zB1 b1 h l1).push { cls:=.type (ZmM b2),data:=.fields #[.ref l2,.int 0 0] }
def zB3 (b1 b2:Bool) (h:Heap) (l1 l2:Addr):Heap:=(zB2 b1 b2 h l1 l2).push { cls:=.type "tuple",data:=.seq #[.ref h.objs.size,.ref (zB1 b1 h l1).objs.size] }
def zB4 (b1 b2:Bool) (h:Heap) (l1 l2:Addr):Heap:=(zB3 b1 b2 h l1 l2).push { cls:=.type "tuple",data:=.seq #[.none,.none] }
def zB5 (b1 b2:Bool) (h:Heap) (l1 l2:Addr):Heap:=(zB4 b1 b2 h l1 l2).push { cls:=.type "zip",data:=.fields #[.none,.bool false,.bool false,.ref (zB2 b1 b2 h l1 l2).objs.size,.ref (zB3 b1 b2 h l1 l2).objs.size] }
theorem Zke (b1 b2:Bool) (l1 l2:Addr) (xs ys:Array Value) :
  Meets (Builtin.«zip.__new__» ⟨[.type "zip",.ref l1,.ref l2],[]⟩) (fun _ R s=>HSq b1 s.heap l1 xs/\HSq b2 s.heap l2 ys/\R (.ok (.ret (.ref (zB4 b1 b2 s.heap l1 l2).objs.size))) { s with heap:=zB5 b1 b2 s.heap l1 l2 }) :=
 .of_wp fun prog w A R s h=>by
  obtain⟨hp,g,d,tk,os⟩:=s;obtain⟨hl1,hl2,h⟩:=h;have hsub:=sub_zip;cases b1 <;> cases b2
  ·have p1:YdD (YcB ⟨hp,g,d,tk,os⟩) l1 xs:=hl1;have p2:YdD (YcB ⟨hp.push { cls:=.type "tuple_iterator",data:=.fields #[.ref l1,.int 0 0] },g,d,tk,os⟩) l2 ys:=YeI hl2 _
   wp_walk using wpAny_pyIter_tuple p1,wpAny_pyIter_tuple p2
   exact⟨_,rfl,h⟩
  ·have p1:YdD (YcB ⟨hp,g,d,tk,os⟩) l1 xs:=hl1;have p2:Yet (YcB ⟨hp.push { cls:=.type "tuple_iterator",data:=.fields #[.ref l1,.int 0 0] },g,d,tk,os⟩) l2 ys:=YeN hl2 _
   wp_walk using wpAny_pyIter_tuple p1,wpAny_pyIter_list p2
   exact⟨_,rfl,h⟩
  ·have p1:Yet (YcB ⟨hp,g,d,tk,os⟩) l1 xs:=hl1;have p2:YdD (YcB ⟨hp.push { cls:=.type "list_iterator",data:=.fields #[.ref l1,.int 0 0] },g,d,tk,os⟩) l2 ys:=YeI hl2 _
   wp_walk using wpAny_pyIter_list p1,wpAny_pyIter_tuple p2
   exact⟨_,rfl,h⟩
  ·have p1:Yet (YcB ⟨hp,g,d,tk,os⟩) l1 xs:=hl1;have p2:Yet (YcB ⟨hp.push { cls:=.type "list_iterator",data:=.fields #[.ref l1,.int 0 0] },g,d,tk,os⟩) l2 ys:=YeN hl2 _
   wp_walk using wpAny_pyIter_list p1,wpAny_pyIter_list p2
   exact⟨_,rfl,h⟩
theorem HIt.made {b:Bool}{h:Heap}{it l:Addr} (e:h.get? it=some { cls:=.type (ZmM b),data:=.fields #[.ref l,.int 0 0] }):HIt b h it l 0:=by
 cases b
 ·exact⟨_,e,rfl,rfl⟩
 ·exact⟨_,e,rfl,rfl⟩
theorem Zj2 {b1 b2:Bool}{l1 l2:Addr}{xs ys:Array Value}{Q:Value->Shared->Prop} (hl1:HSq b1 s.heap l1 xs) (hl2:HSq b2 s.heap l2 ys)
  (h:∀ h',IsZip h' (s.heap.objs.size+4) (s.heap.objs.size+2) (s.heap.objs.size+3) .none->IsPair h' (s.heap.objs.size+2) (.ref s.heap.objs.size) (.ref (s.heap.objs.size+1))->IsPair h' (s.heap.objs.size+3) .none .none ->
   HIt b1 h' s.heap.objs.size l1 0->HIt b2 h' (s.heap.objs.size+1) l2 0->(∀ c o,s.heap.get? c=some o->h'.get? c=some o)->Q (.ref (s.heap.objs.size+4)) { s with heap:=h' }):wpAny (model prog w) A (call (.type "zip") [.ref l1,.ref l2]) Q E s:=by
 refine callType_new F.called_zip (by decide) (F.typeCall_zip_2 _ _) (F.newCall_zip_2 _ _) (fun obj=>F.args_object_init_3 obj _ _) F.entry_zip_new (Zke b1 b2 l1 l2 xs ys) ⟨hl1,hl2,?_⟩;have z1:(zB1 b1 s.heap l1).objs.size=s.heap.objs.size+1:=YbA ..;have z2:(zB2 b1 b2 s.heap l1 l2).objs.size=s.heap.objs.size+2:=by unfold zB2;rw[YbA,z1]
 have z3:(zB3 b1 b2 s.heap l1 l2).objs.size=s.heap.objs.size+3:=by unfold zB3;rw[YbA,z2]
 have z4:(zB4 b1 b2 s.heap l1 l2).objs.size=s.heap.objs.size+4:=by unfold zB4;rw[YbA,z3]
 have g5:(zB5 b1 b2 s.heap l1 l2).get? (zB4 b1 b2 s.heap l1 l2).objs.size=some _:=YaC _ rfl;have g4:(zB5 b1 b2 s.heap l1 l2).get? (zB3 b1 b2 s.heap l1 l2).objs.size=some _:=Yae _ (YaC _ rfl);have g3:(zB5 b1 b2 s.heap l1 l2).get? (zB2 b1 b2 s.heap l1 l2).objs.size=some _:=Yae _ (Yae _ (YaC _ rfl));have g2:(zB5 b1 b2 s.heap l1 l2).get? (zB1 b1 s.heap l1).objs.size=some _:=Yae _ (Yae _ (Yae _ (YaC _ rfl)));have g1:(zB5 b1 b2 s.heap l1 l2).get? s.heap.objs.size=some _:=Yae _ (Yae _ (Yae _ (Yae _ (YaC _ rfl))));show _/\_;rw[z2,z3,z4] at g5;rw[z1,z2] at g3;rw[z3] at g4;rw[z1] at g2;rw[z4];exact⟨⟨_,g5,rfl⟩,h _ g5 g3 g4 (HIt.made g1) (HIt.made g2) fun c o x=>Yae _ (Yae _ (Yae _ (Yae _ (Yae _ x))))⟩
end
theorem SqB.heap {X:Cx}{b:Bool}{pins:List (Addr × Obj)}{σ:St}{H:Hp}{s:Shared}{a:Addr}{xs:List V} (I:Inv X pins σ H s) (h:SqB b X.K H a xs):∃ its:List Value,Vals xs its/\HSq b s.heap a its.toArray:=by
 cases b
 ·obtain⟨its,r,p,_⟩:=I.tuple h;exact⟨its,r,p⟩
 ·obtain⟨its,r,p,_⟩:=I.list h;exact⟨its,r,p.isList⟩
theorem HSq.lt {b:Bool}{h:Heap}{l:Addr}{xs:Array Value} (x:HSq b h l xs):l<h.objs.size:=by
 cases b
 ·obtain⟨o,e,_⟩:=x;exact Yar e
 ·obtain⟨o,e,_⟩:=x;exact Yar e
theorem SqB.inj {X:Cx}{b:Bool}{pins:List (Addr × Obj)}{σ:St}{H:Hp}{s:Shared}{a:Addr}{xs ys:List V} (I:Inv X pins σ H s) (h:SqB b X.K H a xs) (g:SqB b X.K H a ys):xs=ys:=by
 cases b
 ·exact I.tuple_inj h g
 ·exact I.list_inj h g
def ItzB (b1 b2:Bool) (K:Yad) (a b:Addr):It :=
  ⟨fun i H=>∃ xs ys x y,SqB b1 K H a xs/\SqB b2 K H b ys/\xs[i]?=some x/\ys[i]?=some y,
   fun i H z H'=>∃ p x y,H p=none/\z=.ref p/\H'=upd H p (.tup [x,y])/\(∀ xs,SqB b1 K H a xs->xs[i]?=some x)/\∀ ys,SqB b2 K H b ys->ys[i]?=some y,
   fun i H=>∃ xs ys,SqB b1 K H a xs/\SqB b2 K H b ys/\(xs.length<=i∨ys.length<=i)⟩
end L2
namespace L2
open PySem PySem.Spec PyProof.Rows PySem.SeqAt
def Zlv (b1 b2:Bool) (z TI TO i1 i2 l1 l2:Addr) (i:Nat) (h:Heap):Prop:=IsZip h z TI TO .none/\IsPair h TI (.ref i1) (.ref i2)/\(∃ a b,IsPair h TO a b)/\HIt b1 h i1 l1 i/\HIt b2 h i2 l2 i
theorem Zic {P:Program}{w:World}{K:Yad}{es:List Expr}{x1}{pos:Pos}{b1 b2:Bool}{z TI TO i1 i2 l1 l2:Addr} (D:ZipApart z TI TO i1 i2 l1 l2):Turn P w K (.Tuple es x1 pos) (ItzB b1 b2 K l1 l2) [z,TI,TO,i1,i2] z (Zlv b1 b2 z TI TO i1 i2 l1 l2) where
 mem:=by simp
 obj:=fun i h st b hb=>by
  obtain⟨h1,h2,⟨a,c,h3⟩,h4,h5⟩:=st;simp only[YaD,YbL,or_false] at hb;rcases hb with rfl | rfl | rfl | rfl | rfl
  ·exact⟨_,h1,fun v q=>nomatch q⟩
  ·exact⟨_,h2,fun v q=>nomatch q⟩
  ·exact⟨_,h3,fun v q=>nomatch q⟩
  ·exact h4.obj
  ·exact h5.obj
 keep:=fun i h h' st k=>by
  obtain⟨h1,h2,⟨a,c,h3⟩,h4,h5⟩:=st;exact⟨k z (by simp) _ h1,k TI (by simp) _ h2,⟨a,c,k TO (by simp) _ h3⟩,h4.at fun o q=>k i1 (by simp) o q,h5.at fun o q=>k i2 (by simp) o q⟩
 item:=by
  intro X hP hw hK hc i pins s σ H E I hf st hg;subst hP hw hK;obtain⟨xs,ys,x,y,hq1,hq2,hx,hy⟩:=hg;obtain⟨its,rv,p⟩:=hq1.heap I;obtain⟨its2,rv2,p2⟩:=hq2.heap I;obtain⟨u,hu,ru⟩:=rv.get hx;obtain⟨u2,hu2,ru2⟩:=rv2.get hy;obtain⟨s1,s2,⟨a,c,s3⟩,s4,s5⟩:=id st;refine Zfo D s1 s2 s3 s4 s5 p p2 (x:=u) (y:=u2) (by simpa using hu) (by simpa using hu2) fun h' g1 g2 g3 g4 g5 g6 hk=>?_;refine⟨_,rfl,?_⟩;refine wpAny_letOwnedTupleGo_zip g1 fun h'' he hs=>?_;have live:∀ b∈[z,TI,TO,i1,i2],b<s.heap.objs.size:=fun b hb=>by
   obtain⟨h1,h2,⟨a,c,h3⟩,h4,h5⟩:=st;obtain⟨o4,e4,_⟩:=h4.obj;obtain⟨o5,e5,_⟩:=h5.obj;simp only[YaD,YbL,or_false] at hb;rcases hb with rfl | rfl | rfl | rfl | rfl
   ·exact Yar h1
   ·exact Yar h2
   ·exact Yar h3
   ·exact Yar e4
   ·exact Yar e5
  have hsz:s.heap.objs.size≠z:=YbU (live z (by simp));have k:∀ b o,b ∉ [z,TI,TO,i1,i2]->s.heap.get? b=some o->h''.get? b=some o:=fun b o hb q=>by
   simp only[YaD,YbL,or_false,not_or] at hb;exact (hs.2 b hb.1).trans (hk b o hb.1 hb.2.2.1 hb.2.2.2.1 hb.2.2.2.2 q)
  have st':Zlv b1 b2 z TI TO i1 i2 l1 l2 (i+1) h'':=by
   refine⟨he,(hs.2 TI D.TIz).trans (hk TI _ D.TIz D.TITO D.TIi1 D.TIi2 s2),⟨u,u2,(hs.2 TO D.TOz).trans g2⟩,?_,?_⟩
   ·exact g3.ext hs.extBut D.i1z
   ·exact g4.ext hs.extBut D.i2z
  have th:∀ b∈[z,TI,TO,i1,i2],∃ o,h''.get? b=some o:=fun b hb=>by
   obtain⟨h1,h2,⟨a,c,h3⟩,h4,h5⟩:=st';obtain⟨o4,e4,_⟩:=h4.obj;obtain⟨o5,e5,_⟩:=h5.obj;simp only[YaD,YbL,or_false] at hb;rcases hb with rfl | rfl | rfl | rfl | rfl
   ·exact⟨_,h1⟩
   ·exact⟨_,h2⟩
   ·exact⟨_,h3⟩
   ·exact⟨_,e4⟩
   ·exact⟨_,e5⟩
  have fresh:H s.heap.objs.size=none:=I.hok.fresh (Yap _);refine⟨.ref s.heap.objs.size,_,I.pairOut (fp:=[z,TI,TO,i1,i2]) (tk:=s.toks) hf k ((hs.2 _ hsz).trans g5) live th ru ru2,rfl,⟨s.heap.objs.size,x,y,fresh,rfl,rfl,fun ys hy=>by rw[hy.inj I hq1];exact hx,fun zs hz=>by rw[hz.inj I hq2];exact hy⟩,st',fun b hb=>?_⟩;rw[Zai (YaP (live b hb))];exact (hf b hb).1
 done:=by
  intro X hP hw hK hc i pins s σ H E I hf st hg;subst hP hw hK;obtain⟨xs,ys,hq1,hq2,hx⟩:=hg;obtain⟨its,rv,p⟩:=hq1.heap I;obtain⟨its2,rv2,p2⟩:=hq2.heap I;obtain⟨s1,s2,⟨a,c,s3⟩,s4,s5⟩:=st;have e1:=rv.length;have e2:=rv2.length;refine Zgq (I.ok.hd hc) D s1 s2 s3 s4 s5 p p2 (by rcases hx with q | q;exact .inl (by simp;omega);exact .inr (by simp;omega)) fun h' hk=>⟨rfl,I.turnedAll (fp:=[z,TI,TO,i1,i2]) (tk:=s.toks) hf fun b o hb q=>?_⟩
  simp only[YaD,YbL,or_false,not_or] at hb;exact hk b o hb.1 hb.2.2.1 hb.2.2.2.1 hb.2.2.2.2 q
 self:=fun _ _ _ _ _ st h=>wpAny_pyIter_zip st.1 h
def Zor (K:Yad) (ta:TA):TI:=fun σ H R=>ta σ H fun vs H1=>∃ b1 b2 a b,vs=[.ref a,.ref b]/\(∃ xs,SqB b1 K H1 a xs)/\(∃ ys,SqB b2 K H1 b ys)/\R (ItzB b1 b2 K a b) H1
theorem Zgs {X:Cx}{es:List Expr}{x1}{tpos:Pos}{e f:Expr}{ta:TA}{p pos:Pos} (hg:Gl X "zip") (hm:X.mg "zip"=none) (ha:PA X [e,f] ta) (hs:starEach [e,f] X.env=[(false,eval e X.env),(false,eval f X.env)]:=by rfl) (hs2:starEach [f] X.env=[(false,eval f X.env)]:=by rfl) :
  PI X (.Tuple es x1 tpos) (.Call (.Name "zip" p) [e,f] [] pos) (Zor X.K ta):=by
 intro pins s σ H R I h;refine Call_ (Zei I hg hm (show bootBuiltins "zip"=some (.type "zip") by decide +kernel) (Yci (thn (ha pos pins s σ H _ I h) fun us s1 ⟨vs,H1,I1,r1,q1⟩=>?_) (by rw[hs,hs2]) (by rw[hs2];rfl)));obtain⟨b1,b2,a,b,e1,⟨xs,hq⟩,⟨ys,hq2⟩,q⟩:=q1;subst e1;obtain⟨u,u2,rfl,r,r2⟩:=Zib r1;cases r;cases r2;obtain⟨its,rv,pl⟩:=hq.heap I1;obtain⟨its2,rv2,pl2⟩:=hq2.heap I1;have la:=pl.lt;have lb:=pl2.lt;have ne:∀ {i j:Nat},i≠j->s1.heap.objs.size+i≠s1.heap.objs.size+j:=fun h z=>h (Nat.add_left_cancel z);have nl:∀ {c:Addr} (i:Nat),c<s1.heap.objs.size->c≠s1.heap.objs.size+i:=fun i h=>YaP (Yaw h (Nat.le_add_right _ _));refine Zj2 pl pl2 fun h' g1 g2 g3 g4 g5 k=>wpAny_pyIter_zip g1 ?_;have D:ZipApart (s1.heap.objs.size+4) (s1.heap.objs.size+2) (s1.heap.objs.size+3) (s1.heap.objs.size+0) (s1.heap.objs.size+1) a b :=
  ⟨ne (by decide),ne (by decide),ne (by decide),ne (by decide),ne (by decide),ne (by decide),ne (by decide),ne (by decide),ne (by decide),ne (by decide),nl 4 la,nl 3 la,nl 0 la,nl 1 la,nl 4 lb,nl 3 lb,nl 0 lb,nl 1 lb⟩
 refine⟨s1.heap.objs.size+4,[s1.heap.objs.size+4,s1.heap.objs.size+2,s1.heap.objs.size+3,s1.heap.objs.size+0,s1.heap.objs.size+1],_,_,H1,rfl,I1.kept (t':=s1.toks) k,Zic D,⟨g1,g2,⟨_,_,g3⟩,g4,g5⟩,fun c hc=>?_,q⟩;have ge:s1.heap.objs.size<=c:=by
  simp only[YaD,YbL,or_false] at hc;rcases hc with rfl | rfl | rfl | rfl | rfl <;> exact Nat.le_add_right _ _
 exact I1.fpOk ge (I1.hok.fresh ge)
theorem Zlq {b1 b2:Bool}{K:Yad}{own:List Str}{js:List Nat}{g:TG}{tt:TT}{te:TE}{σ:St}{H1:Hp}{Q:VK}{a b:Addr}{xs ys:List V} (hlen:xs.length<=ys.length) (Pv:Addr->Nat->Hp->Prop) (h0:∀ acc,H1 acc=none->Pv acc 0 (upd H1 acc (.lst [])))
  (hl:∀ acc i H,H1 acc=none->i<=xs.length->Pv acc i H->SqB b1 K H a xs/\SqB b2 K H b ys)
  (hs:∀ acc i x y p H,H1 acc=none->xs[i]?=some x->ys[i]?=some y->Pv acc i H->H p=none->g (.ref p) (blkσ own js σ) (upd H p (.tup [x,y])) fun τ H4=>tt τ H4 fun c H5=>
   if c=true then te τ H5 fun y H6=>∃ ys,H6 acc=some (.lst ys)/\ys.length<sizeLine/\(i+1<=xs.length/\Pv acc (i+1) (upd H6 acc (.lst (ys++[y])))) else (i+1<=xs.length/\Pv acc (i+1) H5))
  (hd:∀ acc H,H1 acc=none->Pv acc xs.length H->Q (.ref acc) H):Zbg own js g tt te σ (ItzB b1 b2 K a b) H1 Q:=by
 intro acc hacc;refine⟨fun i H=>i<=xs.length/\Pv acc i H,xs.length,⟨Ya2 _,h0 acc hacc⟩,?_⟩;rintro i H ⟨hi,p⟩;obtain⟨q1,q2⟩:=hl acc i H hacc hi p;by_cases hlt:i<xs.length
 ·have hl2:i<ys.length:=by omega
  refine .inr ⟨hlt,⟨xs,ys,xs[i],ys[i],q1,q2,by simp[hlt],by simp[hl2]⟩,fun x H' y=>?_⟩;obtain⟨pa,z1,z2,hp,e1,e2,y1,y2⟩:=y;subst e1 e2;exact hs acc i z1 z2 pa H hacc (y1 xs q1) (y2 ys q2) p hp
 ·have e:i=xs.length:=by omega
  subst e;exact .inl ⟨⟨xs,ys,q1,q2,.inl (Yap _)⟩,hd acc H hacc p⟩
end L2
namespace L2
open PySem PySem.Spec PyProof.Rows PySem.SeqAt
theorem ZkL (K:Yad) {X:Cx} (hK:X.K=K:=by rfl):OpR X (binaryOp .Add) (Znj K):=by subst hK;exact ZmA
theorem Zbe (K:Yad) {X:Cx} (hK:X.K=K:=by rfl):Zbf X (.builtin "len") (fun xs H Q=>∃ p ys,xs=[.ref p]/\(SqL K H p ys∨SqT K H p ys)/\Q (.int ys.length) H):=by subst hK;exact Zap
theorem CompOk.bare {X:Cx}{scope:Scope}{own:List Str} (h:((scope.kind == .function) && scope.names.all fun y=>(y.2 != .cell) && (y.2 != .free) && ((y.2 != .local) || (scope.names.lookup y.1 == some .local)))=true):CompOk X scope own []:=by
 simp only[YcU,beq_iff_eq,Ycl,Bool.or_eq_true,bne_iff_ne,ne_eq] at h;obtain⟨h1,h2⟩:=h;refine⟨h1,fun y hy=>(h2 y hy).1.1,fun y hy hf=>absurd hf (h2 y hy).1.2,fun y hy hl=>?_,fun j hj=>by cases hj⟩;rcases (h2 y hy).2 with z | z
 ·exact absurd hl z
 ·exact z
section
variable {X:Cx}
def LLs (H:Hp) (rs:List Addr) (N:List (List Int)):Prop:=rs.length=N.length/\∀ (j:Nat) r xs,rs[j]?=some r->N[j]?=some xs->H r=some (.lst (xs.map V.int))
def TTs (H:Hp) (rs:List Addr) (N:List (List Int)):Prop:=rs.length=N.length/\∀ (j:Nat) r xs,rs[j]?=some r->N[j]?=some xs->H r=some (.tup (xs.map V.int))
theorem LLs.same {H H':Hp}{rs:List Addr}{N:List (List Int)} (h:LLs H rs N) (s:Same H H'):LLs H' rs N:=⟨h.1,fun j r xs a b=>s _ _ (h.2 j r xs a b)⟩
theorem TTs.same {H H':Hp}{rs:List Addr}{N:List (List Int)} (h:TTs H rs N) (s:Same H H'):TTs H' rs N:=⟨h.1,fun j r xs a b=>s _ _ (h.2 j r xs a b)⟩
theorem TTs.lst {H:Hp}{rs:List Addr}{N:List (List Int)}{acc:Addr}{ys zs:List V} (h:TTs H rs N) (e:H acc=some (.lst zs)):TTs (upd H acc (.lst ys)) rs N:=⟨h.1,fun j r xs a b=>by
 have:=h.2 j r xs a b;rw[Zai (by intro z;subst z;rw[e] at this;cases this)];exact this⟩
theorem LLs.lst {H:Hp}{rs:List Addr}{N:List (List Int)}{acc:Addr}{ys:List V} (h:LLs H rs N) (e:acc ∉ rs):LLs (upd H acc (.lst ys)) rs N:=⟨h.1,fun j r xs a b=>by
 rw[Zai (by intro z;subst z;exact e (Yam a))];exact h.2 j r xs a b⟩
theorem ZbU {α:Type}{xs:List α}{x y:α}{j:Nat} (h:(xs++[x])[j]?=some y):xs[j]?=some y∨(j=xs.length/\y=x):=by
 by_cases hj:j<xs.length
 ·rw[Yaz hj] at h;exact .inl h
 ·rw[YaG (by omega)] at h;have:j - xs.length=0:=by
   cases e:j - xs.length with
   | zero=>rfl
   | succ m=>rw[e] at h;simp at h
  rw[this] at h;exact .inr ⟨by omega,by simpa using h.symm⟩
theorem TTs.snoc {H:Hp}{rs:List Addr}{N:List (List Int)}{r:Addr}{x:List Int} (h:TTs H rs N) (e:H r=some (.tup (x.map V.int))):TTs H (rs++[r]) (N++[x]):=⟨by simp[h.1],fun j r' xs a b=>by
 rcases ZbU a with a | ⟨a,rfl⟩
 ·rcases ZbU b with b | ⟨b,_⟩
  ·exact h.2 j r' xs a b
  ·have:=(Yab.mp a).1;have:=h.1;omega
 ·rcases ZbU b with b | ⟨_,rfl⟩
  ·have:=(Yab.mp b).1;have:=h.1;omega
  ·exact e⟩
theorem LLs.snoc {H:Hp}{rs:List Addr}{N:List (List Int)}{r:Addr}{x:List Int} (h:LLs H rs N) (e:H r=some (.lst (x.map V.int))):LLs H (rs++[r]) (N++[x]):=⟨by simp[h.1],fun j r' xs a b=>by
 rcases ZbU a with a | ⟨a,rfl⟩
 ·rcases ZbU b with b | ⟨b,_⟩
  ·exact h.2 j r' xs a b
  ·have:=(Yab.mp a).1;have:=h.1;omega
 ·rcases ZbU b with b | ⟨_,rfl⟩
  ·have:=(Yab.mp b).1;have:=h.1;omega
  ·exact e⟩
theorem Zcy (n:Nat):((YaE n).all fun _=>true)=true:=by simp
end
end L2
namespace L2
open PySem PySem.Spec PyProof.Rows
mutual
inductive RdN (H:Hp):V->PyData->Prop
 | non:RdN H .non .none
 | bl (b:Bool):RdN H (.bl b) (.bool b)
 | int (i:Int):RdN H (.int i) (.int i)
 | str (x:Str):RdN H (.str x) (.str x)
 | lst {a:Addr}{xs:List V}{ds:List PyData}:H a=some (.lst xs)->RdL H xs ds->RdN H (.ref a) (.list ds)
 | tup {a:Addr}{xs:List V}{ds:List PyData}:H a=some (.tup xs)->RdL H xs ds->RdN H (.ref a) (.tuple ds)
inductive RdL (H:Hp):List V->List PyData->Prop
 | nil:RdL H [] []
 | cons {x:V}{xs:List V}{d:PyData}{ds:List PyData}:RdN H x d->RdL H xs ds->RdL H (x::xs) (d::ds)
end
section
variable {P:Program}{w:World}{H:Hp}{h:Heap}
end
section
variable {X:Cx}
theorem ZiZ:OpR X (compareOp .IsNot) (fun x y H Q=>∃ b c:Bool,x=.bl b/\y=.bl c/\Q (.bl (b != c)) H):=by
 intro pins s σ H x y v u Q I rx ry h;obtain⟨b,c,rfl,rfl,q⟩:=h;cases rx;cases ry;exact isnot_bool ⟨.bl _,H,I,rfl,q⟩
end
end L2
namespace L2
open PySem PySem.Spec PyProof.Rows PySem.SeqAt
inductive TyS (H:Hp):V->Value->Prop
 | int (i:Int):TyS H (.int i) (.type "int")
 | bl (b:Bool):TyS H (.bl b) (.type "bool")
 | lst {a:Addr}{xs:List V} (e:H a=some (.lst xs)):TyS H (.ref a) (.type "list")
 | tup {a:Addr}{xs:List V} (e:H a=some (.tup xs)):TyS H (.ref a) (.type "tuple")
section
variable {X:Cx}
end
end L2
namespace L2
open PySem PySem.Spec PyProof.Rows PySem.SeqAt
section
variable {X:Cx}
theorem Zci (f:Nat->Int):∀ k i,i<=k->f i<=f (argBest (fun i j=>decide (f j<f i)) k)
 | 0,i,h=>by
  have:i=0:=by omega
  subst this;exact YbO _
 | k+1,i,h=>by
  unfold argBest;by_cases e:f (argBest (fun i j=>decide (f j<f i)) k)<f (k+1)
  ·rw[if_pos (decide_eq_true e)];by_cases hi:i=k+1
   ·subst hi;exact YbO _
   ·have:=Zci f k i (by omega);omega
  ·rw[if_neg (by simpa using e)];by_cases hi:i=k+1
   ·subst hi;omega
   ·exact Zci f k i (by omega)
theorem Zn4 {b:Bool}{pins:List (Addr × Obj)}{σ:St}{H:Hp}{s:Shared}{a:Addr}{ns:List Int}{Q:Value->Shared->Prop}{A:Around}{E:Value->Shared->Prop} (I:Inv X pins σ H s) (hh:A.handled=none) (h:SqB b X.K H a (ns.map V.int))
  (k:∀ (I0:Addr) (fp wr:List Addr) (P:Nat->Value->Prop) (St:Nat->Heap->Prop) (s2:Shared),Walks X.prog X.w A I0 fp wr ns.length P St->St 0 s2.heap->(∀ c∈fp,c<s2.heap.objs.size)->(∀ i v,P i v->i<ns.length/\∃ t,v=.int (ns.getD i 0) t) ->
   (∀ h' tk,(∀ c o,c ∉ wr->s2.heap.get? c=some o->h'.get? c=some o)->Inv X pins σ H { s2 with heap:=h',toks:=tk })->Q (.ref I0) s2):wpAny (model X.prog X.w) A (pyIter (.ref a)) Q E s:=by
 have fin:∀ (its:List Value) (rv:Vals (ns.map V.int) its) (ob:Obj),a<s.heap.objs.size->(∀ h' tk,(∀ c o,c ∉ [s.heap.objs.size]->(s.heap.push ob).get? c=some o->h'.get? c=some o)->Inv X pins σ H { s with heap:=h',toks:=tk })/\its.toArray.size=ns.length /\
   (∀ i v,its.toArray[i]?=some v->i<ns.length/\∃ t,v=.int (ns.getD i 0) t)/\∀ c∈[s.heap.objs.size,a],c<(s.heap.push ob).objs.size:=fun its rv ob hlt=>by
  have hlen:its.toArray.size=ns.length:=by rw[Yal,<- rv.length,Yaa]
  refine⟨fun h' tk hk=>I.kept (h':=h') (t':=tk) fun c o e=>hk c o ?_ (Yae _ e),hlen,fun i v e=>?_,fun c hc=>?_⟩
  ·intro hm;have:c=s.heap.objs.size:=by simpa using hm
   rw[this] at e;exact absurd (Yar e) (Ybl _)
  ·have hi:i<its.toArray.size:=(Yc7.mp e).1
   obtain⟨t,q⟩:=ZdI rv hi;rw[Ycd hi] at e;have e':=YaB e;rw[q] at e';exact⟨by rw[<- hlen];exact hi,t,e'.symm⟩
  ·rcases YaD.mp hc with z | z
   ·rw[z,YbA];exact Yb5 _
   ·have z:c=a:=by simpa using z
    rw[z,YbA];exact YcO hlt
 cases b with
 | true=>
  obtain⟨its,rv,p,hz⟩:=I.list h;have hlt:a<s.heap.objs.size:=by obtain⟨o,n,e,_⟩:=p;exact Yar e
  have hne:a≠s.heap.objs.size:=YaP hlt;refine wpAny_pyIter_list p.isList ?_;obtain⟨f1,f2,f3,f4⟩:=fin its rv _ hlt;have W:=YeB (prog:=X.prog) (w:=X.w) (A:=A) hh s.heap.objs.size a hne its.toArray;rw[f2] at W;refine k _ _ _ _ _ _ W ⟨⟨_,YaC _ rfl,rfl,rfl⟩,?_⟩ f4 f3 f1;obtain⟨o,n,e,c,_,d⟩:=p;exact⟨o,Yae _ e,c,n,d⟩
 | false=>
  obtain⟨its,rv,p0,hz⟩:=I.tuple h;have p:s.heap.IsTuple a its.toArray:=p0;have hlt:a<s.heap.objs.size:=by obtain⟨o,e,_⟩:=p;exact Yar e
  have hne:a≠s.heap.objs.size:=YaP hlt;refine wpAny_pyIter_tuple p ?_;obtain⟨f1,f2,f3,f4⟩:=fin its rv _ hlt;have W:=Walks.tuple (prog:=X.prog) (w:=X.w) (A:=A) hh s.heap.objs.size a hne its.toArray;rw[f2] at W;refine k _ _ _ _ _ _ W ⟨⟨_,YaC _ rfl,rfl,rfl⟩,?_⟩ f4 f3 f1;obtain⟨o,e,c,d⟩:=p;exact⟨o,Yae _ e,c,d⟩
theorem Zlk {ns:List Int}{i:Nat} (h:i<ns.length):ns.getD i 0∈ns:=by
 rw[Yak,Yac h];exact Yby h
theorem Zj5 (hc:X.calm=true):Zbf X (.builtin "max") (fun xs H Q=>∃ (b:Bool) (a:Addr) (ns:List Int),xs=[.ref a]/\SqB b X.K H a (ns.map V.int)/\ns≠[]/\∀ m,m∈ns->(∀ x∈ns,x<=m)->Q (.int m) H):=by
 intro pins s σ H xs us Q I r h;obtain⟨b,a,ns,rfl,hq,hn,q⟩:=h;obtain⟨u,rfl,r1⟩:=Zb6 r;cases r1;have hpos:0<ns.length:=Yc0.mpr hn;refine call_max_walk (Zn4 I (I.ok.hd hc) hq fun I0 fp wr P St s2 W st hfp hP hk=>?_);refine⟨I0,fp,wr,ns.length,P,St,fun i j=>decide (ns.getD j 0<ns.getD i 0),rfl,W,st,hfp,hpos,?_,?_⟩
 ·intro i j vi vj s' Q' E' hi hj hQ;obtain⟨_,t,rfl⟩:=hP i vi hi;obtain⟨_,t',rfl⟩:=hP j vj hj;exact gt_int hQ
 ·intro v h' tk hPv hkk;obtain⟨hi,t,rfl⟩:=hP _ v hPv;refine⟨.int _,H,hk h' tk hkk,⟨t,rfl⟩,q _ (Zlk hi) fun x hx=>?_⟩;obtain⟨i,hi',e⟩:=Yfg hx;have:=Zci (fun i=>ns.getD i 0) (ns.length - 1) i (by omega);have e2:ns.getD i 0=ns[i]:=by rw[Yak,Yac hi'];rfl
  rw[<- e,<- e2];exact this
end
end L2
namespace L2
open PySem PySem.Spec PyProof.Rows PySem.SeqAt
section
variable {prog:Program}{w:World}{A:Around}{E:Value->Shared->Prop}{s:Shared}
end
section
variable {X:Cx}
end
theorem Zb0 {b:Bool}{K:Yad}{own:List Str}{js:List Nat}{g:TG}{tt:TT}{te:TE}{σ:St}{H1:Hp}{Q:VK}{a:Addr}{xs:List V} (Pv:Addr->Nat->Hp->Prop) (h0:∀ acc,H1 acc=none->Pv acc 0 (upd H1 acc (.lst []))) (hl:∀ acc i H,H1 acc=none->i<=xs.length->Pv acc i H->SqB b K H a xs)
  (hs:∀ acc i x p H,H1 acc=none->xs[i]?=some x->Pv acc i H->H p=none->g (.ref p) (blkσ own js σ) (upd H p (.tup [.int i,x])) fun τ H4=>tt τ H4 fun c H5=>
   if c=true then te τ H5 fun y H6=>∃ ys,H6 acc=some (.lst ys)/\ys.length<sizeLine/\(i+1<=xs.length/\Pv acc (i+1) (upd H6 acc (.lst (ys++[y])))) else (i+1<=xs.length/\Pv acc (i+1) H5))
  (hd:∀ acc H,H1 acc=none->Pv acc xs.length H->Q (.ref acc) H):Zbg own js g tt te σ (IteB b K a) H1 Q:=by
 intro acc hacc;refine⟨fun i H=>i<=xs.length/\Pv acc i H,xs.length,⟨Ya2 _,h0 acc hacc⟩,?_⟩;rintro i H ⟨hi,p⟩;have q:=hl acc i H hacc hi p;by_cases hlt:i<xs.length
 ·refine .inr ⟨hlt,by cases b <;> exact⟨xs,xs[i],q,by simp[hlt]⟩,fun x H' y=>?_⟩;have y:∃ pa z,H pa=none/\x=.ref pa/\H'=upd H pa (.tup [.int i,z])/\xs[i]?=some z:=by
   cases b with
   | true=>obtain⟨pa,z,hp,e1,e2,y⟩:=y;exact⟨pa,z,hp,e1,e2,y xs q⟩
   | false=>obtain⟨pa,z,hp,e1,e2,y⟩:=y;exact⟨pa,z,hp,e1,e2,y xs q⟩
  obtain⟨pa,z,hp,e1,e2,y'⟩:=y;subst e1 e2;exact hs acc i z pa H hacc y' p hp
 ·have e:i=xs.length:=by omega
  subst e;exact .inl ⟨by cases b <;> exact⟨xs,q,Yap _⟩,hd acc H hacc p⟩
end L2
namespace Lv
open PySem L2
theorem Zmu {X:Cx}{x:Str}{T:String}{pos:Pos} (hg:Gl X x) (hm:X.mg x=none) (hv:bootBuiltins x=some (.type T)) (hn:x≠"__name__":=by decide) (hd:(x == ("__debug__":Str))=false:=by decide):PE X (.Name x pos) (tC (.ty T)) :=
 Zmv hg hm hv rfl hn hd
theorem ZcM {X:Cx}{x:Str}{i:Int}{t:Tok}{pos:Pos} (hg:Gl X x) (hm:X.mg x=some (.int i t)) (hd:(x == ("__debug__":Str))=false:=by decide):PE X (.Name x pos) (tC (.int i)) :=
 ZiS hg hm ⟨t,rfl⟩ hd
structure Txt (mg:Str->Option Value):Prop where
 isinstance:mg "isinstance"=none
 int:mg "int"=none
 bool:mg "bool"=none
 list:mg "list"=none
 tuple:mg "tuple"=none
 min:mg "min"=none
 max:mg "max"=none
 len:mg "len"=none
 range:mg "range"=none
 all:mg "all"=none
 sum:mg "sum"=none
 sorted:mg "sorted"=none
 zip:mg "zip"=none
theorem ZbR:bootBuiltins "isinstance"=some (.builtin "isinstance"):=by decide +kernel
theorem Zox:bootBuiltins "int"=some (.type "int"):=by decide +kernel
theorem Zn0:bootBuiltins "bool"=some (.type "bool"):=by decide +kernel
theorem ZlY:bootBuiltins "list"=some (.type "list"):=by decide +kernel
theorem Zch:bootBuiltins "tuple"=some (.type "tuple"):=by decide +kernel
theorem ZnY:bootBuiltins "min"=some (.builtin "min"):=by decide +kernel
theorem ZnZ:bootBuiltins "max"=some (.builtin "max"):=by decide +kernel
theorem Zn1:bootBuiltins "all"=some (.builtin "all"):=by decide +kernel
theorem ZfU:bootBuiltins "sum"=some (.builtin "sum"):=by decide +kernel
theorem Za2:bootBuiltins "sorted"=some (.builtin "sorted"):=by decide +kernel
theorem Zgz {K:Yad}:Yc3 K (.type "int") (.type "int")=some true:=by rfl
theorem Zfy {K:Yad}:Yc3 K (.type "int") (.type "bool")=some false:=by with_unfolding_all rfl
theorem ZdG {K:Yad}:Yc3 K (.type "tuple") (.type "tuple")=some true:=by rfl
structure Cal (P:Program) (w:World) (K:Yad) (mg:Str->Option Value) (base:Heap) (k:Nat) (x:Str) (ps:List Str) (sp:Sp) (f:Addr) (fd:FuncData):Prop where
 ok:FnOk P w K mg base CX0 k f fd ps sp
 mg:mg x=some (.ref f)
 kp:Yao K (.ref f)=true
 bd:Binds K fd ps []
theorem Zam {X:Cx}{k:Nat}{x:Str}{ps:List Str}{sp:Sp}{f:Addr}{fd:FuncData}{e:Expr}{es:List Expr}{t:TA}{p pos:Pos} (C:Cal X.prog X.w X.K X.mg X.base k x ps sp f fd) (hr:Room k X.A) (hg:Gl X x) (ha:PA X (e::es) t)
  (hdb:(x == ("__debug__":Str))=false:=by decide) (he:starEach (e::es) X.env=(false,eval e X.env)::starEach es X.env:=by rfl) (hpl:(backTo pos (starEach es X.env)).any (·.1)=false:=by rfl) :
  PE X (.Call (.Name x p) (e::es) [] pos) (Zil sp [] E0 t):=ZiU C.ok hr hg C.mg C.kp C.bd .nil Zmw ha hdb he hpl
theorem Zhe (K:Yad) {X:Cx} (hK:X.K=K:=by rfl):IxR X (rIxL K):=by subst hK;exact ix_list
theorem ZaR {xs:List Int}{i:Nat}{x:V} (h:(xs.map V.int)[i]?=some x):∃ p,xs[i]?=some p/\x=.int p:=by
 rw[Yaf] at h
 cases e:xs[i]? with
 | none=>rw[e] at h;cases h
 | some p=>rw[e] at h;exact⟨p,rfl,(YaB h).symm⟩
theorem _root_.L2.Same.new {q:Addr}{H:Hp}{o:HO} (h:H q=none):Same H (upd H q o):=fun b u e=>by rw[Zai (Zae e h)];exact e
theorem _root_.L2.Same.put {q:Addr}{H H':Hp}{o:HO} (s:Same H H') (h:H q=none):Same H (upd H' q o):=fun b u e=>by rw[Zai (Zae e h)];exact s b u e
theorem _root_.L2.Same.tup {K:Yad}{H H':Hp}{a:Addr}{xs:List V} (e:Same H H') (h:SqT K H a xs):SqT K H' a xs:=by
 rcases h with (h | ⟨o,h⟩) | h
 ·exact .inl (.inl (e _ _ h))
 ·exact .inl (.inr ⟨o,e _ _ h⟩)
 ·exact .inr h
theorem Zhc {n:Nat}{x:Int} (h0:0<=x) (h1:x<n):ixN n x=some x.toNat:=by
 unfold ixN;rw[if_pos h0,if_pos h1]
theorem Zka {fs:List Int}{x:Int} (h0:0<=x) (h1:x<fs.length):atI (fs.map V.int) x=some (.int (fs.getD x.toNat 0)):=by
 unfold atI;have hx:x.toNat<fs.length:=by omega
 rw[Yaa,Zhc h0 h1];show (fs.map V.int)[x.toNat]?=_;rw[Yaf,Yac hx,Yak,Yac hx];rfl
theorem Zlu {c0:Int}{cr:List Int}:atI ((c0::cr).map V.int) 0=some (.int c0):=ZbS (j:=0) rfl
theorem cut2 {a b R:TS}{D:Ends}{σ:St}{H:Hp} (M:St->Hp->Prop) (h1:∀ R':TS,(∀ σ' H',M σ' H'->R' D σ' H')->tSeq a (tSeq b R') D σ H) (h2:∀ σ' H',M σ' H'->R D σ' H'):tSeq a (tSeq b R) D σ H:=h1 R h2
theorem cut1 {a R:TS}{D:Ends}{σ:St}{H:Hp} (M:St->Hp->Prop) (h1:∀ R':TS,(∀ σ' H',M σ' H'->R' D σ' H')->tSeq a R' D σ H) (h2:∀ σ' H',M σ' H'->R D σ' H'):tSeq a R D σ H:=h1 R h2
def Sm (p:Addr) (H H':Hp):Prop:=∀ b o,H b=some o->b≠p->H' b=some o
theorem Sm.trans {p:Addr}{H H1 H2:Hp} (a:Sm p H H1) (b:Sm p H1 H2):Sm p H H2:=fun c o h n=>b c o (a c o h n) n
theorem Sm.refl (p:Addr) (H:Hp):Sm p H H:=fun _ _ h _=>h
theorem Sm.new {p q:Addr}{H:Hp}{o:HO} (h:H q=none):Sm p H (upd H q o):=fun b u e _=>by rw[Zai (Zae e h)];exact e
theorem Sm.put {p:Addr}{H:Hp}{o:HO}:Sm p H (upd H p o):=fun b u e n=>by rw[Zai n];exact e
theorem Sm.free {p q:Addr}{H H':Hp} (s:Sm p H H') (hn:q≠p) (h:H' q=none):H q=none:=by
 cases e:H q with
 | none=>rfl
 | some o=>rw[s q o e hn] at h;cases h
def ZbJ:Sp:=fun vs H Q _=>∃ i,vs=[.int i]/\Q (.bl true) H
theorem Zbs {m:Int} (h0:0<=m) (h1:m<2 ^ 64):YaR m<=8000:=Ybm (intBits_le_64 (by omega) h1) (by decide)
def ZbN (c:List Int):List Int:=(c.tail.map (c.getD 0 0+·))++[c.getD 0 0]
def Zen (p:Nat):List Int:=1::Yan (p - 1) 0
def cnt (p:Nat):Nat->List Int
 | 0=>Zen p
 | n+1=>ZbN (cnt p n)
theorem Zje {c:List Int} (h:c≠[]):(ZbN c).length=c.length:=by
 cases c with
 | nil=>exact absurd rfl h
 | cons x r=>simp[ZbN]
theorem ZcT {p:Nat} (hp:1<=p):∀ n,(cnt p n).length=p
 | 0=>by simp[cnt,Zen];omega
 | n+1=>by
  have:=ZcT hp n;show (ZbN (cnt p n)).length=p;rw[Zje (by intro z;rw[z] at this;simp at this;omega),this]
def Down (c:List Int):Prop:=c.Pairwise (· ≥ ·)/\∀ x∈c,0<=x
theorem ZjO {c:List Int} (h:Down c):Down (ZbN c):=by
 cases c with
 | nil=>exact⟨by simp[ZbN],by intro x hx;simp[ZbN] at hx;omega⟩
 | cons a r=>
  obtain⟨h1,h2⟩:=h;have h3:=Ybf.mp h1;have h0:0<=a:=h2 a (by simp);refine⟨?_,?_⟩
  ·show ((r.map (a+·))++[a]).Pairwise (· ≥ ·);rw[Ya0];refine⟨?_,by simp,?_⟩
   ·rw[Ybz];exact h3.2.imp fun h=>by omega
   ·intro x hx y hy;obtain⟨z,hz,rfl⟩:=YaS.mp hx;have:=h2 z (by simp[hz]);have:y=a:=by simpa using hy
    omega
  ·show ∀ x∈(r.map (a+·))++[a],0<=x;intro x hx;rcases Yah.mp hx with hx | hx
   ·obtain⟨z,hz,rfl⟩:=YaS.mp hx;have:=h2 z (by simp[hz]);omega
   ·have:x=a:=by simpa using hx
    omega
theorem Zdh (p:Nat):∀ n,Down (cnt p n)
 | 0=>by
  refine⟨?_,?_⟩
  ·show (1::Yan (p - 1) (0:Int)).Pairwise (· ≥ ·);rw[Ybf];refine⟨fun y hy=>?_,?_⟩
   ·have:=(YdU.mp hy).2
    omega
   ·rw[List.pairwise_replicate];exact .inr (YbO _)
  ·intro x hx;rcases YaD.mp hx with rfl | hx
   ·decide
   ·have:=(YdU.mp hx).2
    omega
 | n+1=>ZjO (Zdh p n)
def Zds:Sp:=fun vs H Q _=>∃ i,vs=[.int i]/\2<=i/\i<=7/\Q .non H
def Zdu:Sp:=fun vs H Q _=>∃ p:Nat,vs=[.int p]/\2<=p/\p<=7/\∀ l H',H l=none->H' l=some (.tup ((Zen p).map V.int))->Same H H'->Q (.ref l) H'
def Zfh (K:Yad):Sp:=fun vs H Q _=>∃ (a:Addr) (c:List Int),vs=[.ref a]/\SqT K H a (c.map V.int)/\2<=c.length/\c.length<=7/\∀ l H',H l=none->H' l=some (.tup ((ZbN c).map V.int))->Same H H'->Q (.ref l) H'
def ZeH:Sp:=fun vs H Q _=>∃ p n:Nat,vs=[.int p,.int n]/\2<=p/\p<=7/\n<=300/\∀ l H',H l=none->H' l=some (.tup ((cnt p n).map V.int))->Same H H'->Q (.ref l) H'
def Zf4:Sp:=fun vs H Q _=>∃ p n:Nat,vs=[.int p,.int n]/\2<=p/\p<=7/\n<=300/\∀ H',Same H H'->Q (.int (cnt p n).sum) H'
def Zip (K:Yad):Sp:=fun vs H Q _=>∃ (a:Addr) (ns:List Int),vs=[.ref a]/\SqL K H a (ns.map V.int)/\ns.length<=63/\∀ H',Q (.bl true) H'
end Lv
namespace Lv
open PySem L2 PySem.Spec PyProof.Rows
structure FunD (K:Yad) (x qual:Str) (st:Stmt) (f da:Addr) (fd:FuncData):Prop where
 ex:∃ (oc:Value) (od:Option Addr) (kV doc pm:Value) (an:Option Addr) (cdv ct:Value) (osl:Array (Option Value)),
  fd=YaA x qual (Zao st) (Zal st) (Zac st) (.ref da) kV doc pm an cdv ct/\K.lookup f=some ⟨oc,od,.func fd,osl⟩/\Yat K cdv qual=true
 kp:Yao K (.ref f)=true
section
variable {P:Program}{w:World}{K:Yad}{mg:Str->Option Value}{base:Heap}
theorem FunD.ok {x qual:Str}{st:Stmt}{f da:Addr}{fd:FuncData}{N ps:List Str}{k:Nat}{sp:Sp} (F:FunD K x qual st f da fd) (S:FnScope N ps (Zac st)) (len:∀ vs H Q E,sp vs H Q E->vs.length=ps.length)
  (hbody:∀ (cdv:Value) (A:Around) (outer:List Env) (s:Shared) (H:Hp) (vs:List V) (Q:VK) (E:XK),Room k (A.deeper (envOfC qual (Zac st) s.heap.objs.size f cdv))->sp vs H Q E ->
   ∃ t,PSs (cxOf CX0 P w K mg base N qual (Zac st) f cdv A outer s H E).nox (Zal st) t/\t { nx:=fun _ H'=>Q .non H',rt:=Q } (start N vs) H):FnOk P w K mg base CX0 (k+1) f fd ps sp:=by
 obtain⟨oc,od,kV,doc,pm,an,cdv,ct,osl,rfl,lk,hcd⟩:=F.ex;refine ZnQ lk hcd S len fun A outer s H vs Q E hr hsp=>?_;obtain⟨t,h,q⟩:=hbody cdv A outer s H vs Q E hr hsp;exact⟨t,h.nox,q⟩
theorem FunD.binds {x qual:Str}{st:Stmt}{f da:Addr}{fd:FuncData}{ps:List Str}{o:Obj}{items:Array Value}{n:Nat} (F:FunD K x qual st f da fd) (ho:K.lookup da=some o) (hs:o.data=.seq items n) (ds:List Value) (qs:List Str) (hq:qs.length+ds.length=ps.length)
  (h:∀ (kV doc pm:Value) (an:Option Addr) (cdv ct:Value) (us:List Value),us.length=qs.length ->
   ∃ k:Option (Array Value)->Sem (List (Str × Value)),bindArgs (YaA x qual (Zao st) (Zal st) (Zac st) (.ref da) kV doc pm an cdv ct) ⟨us,[]⟩=seqItems? (.ref da) >>= k/\k (some items)=pure (ps.zip (us++ds))):Binds K fd ps ds:=by
 obtain⟨oc,od,kV,doc,pm,an,cdv,ct,osl,rfl,lk,hcd⟩:=F.ex;intro s us X hl;obtain⟨k,h1,h2⟩:=h kV doc pm an cdv ct us (by rw[Yag] at hl;omega);exact PySem.W.binds_K X rfl ho hs h1 h2
theorem ZmR {x qual:Str}{st:Stmt}{f da:Addr}{oc:Value}{od an:Option Addr}{osl:Array (Option Value)}{kV doc pm cdv ct:Value} (l:K.lookup f=some ⟨oc,od,.func (YaA x qual (Zao st) (Zal st) (Zac st) (.ref da) kV doc pm an cdv ct),osl⟩)
  (c:Yat K cdv qual=true) (k:Yao K (.ref f)=true):FunD K x qual st f da (YaA x qual (Zao st) (Zal st) (Zac st) (.ref da) kV doc pm an cdv ct):=⟨⟨oc,od,kV,doc,pm,an,cdv,ct,osl,rfl,l,c⟩,k⟩
end
structure CalD (P:Program) (w:World) (K:Yad) (mg:Str->Option Value) (base:Heap) (k:Nat) (x:Str) (ps:List Str) (dvs:List V) (sp:Sp) (f:Addr) (fd:FuncData):Prop where
 ok:FnOk P w K mg base CX0 k f fd ps sp
 mg:mg x=some (.ref f)
 kp:Yao K (.ref f)=true
 bd:∃ ds,Binds K fd ps ds/\Vals dvs ds
theorem ZiW {X:Cx}{k:Nat}{x:Str}{ps:List Str}{dvs:List V}{sp:Sp}{f:Addr}{fd:FuncData}{e:Expr}{es:List Expr}{t:TA}{p pos:Pos} (C:CalD X.prog X.w X.K X.mg X.base k x ps dvs sp f fd) (hr:Room k X.A) (hg:Gl X x) (ha:PA X (e::es) t)
  (hdb:(x == ("__debug__":Str))=false:=by decide) (he:starEach (e::es) X.env=(false,eval e X.env)::starEach es X.env:=by rfl) (hpl:(backTo pos (starEach es X.env)).any (·.1)=false:=by rfl) :
  PE X (.Call (.Name x p) (e::es) [] pos) (Zil sp dvs E0 t):=by
 obtain⟨ds,h1,h2⟩:=C.bd;exact ZiU C.ok hr hg C.mg C.kp h1 h2 Zmw ha hdb he hpl
def Zm6 (j:Nat) (f:Addr) (t:TE):TE:=fun σ H Q=>σ[j]?=some (some (.ref f))/\t σ H Q
theorem ZiV {X:Cx}{k:Nat}{x y:Str}{ps:List Str}{sp:Sp}{f:Addr}{fd:FuncData}{e:Expr}{es:List Expr}{t:TA}{p pos:Pos} (j:Nat) (C:Cal X.prog X.w X.K X.mg X.base k y ps sp f fd) (hr:Room k X.A) (ha:PA X (e::es) t) (hN:X.N[j]?=some x:=by rfl) (hv:Vis X.env.scope x:=by first | exact YaN rfl | exact Yd2 (YaN rfl) | exact Yd2 (Yd2 rfl))
  (hdb:(x == ("__debug__":Str))=false:=by decide) (hcd:(x == ("__classdict__":Str))=false:=by decide) (he:starEach (e::es) X.env=(false,eval e X.env)::starEach es X.env:=by rfl) (hpl:(backTo pos (starEach es X.env)).any (·.1)=false:=by rfl) :
  PE X (.Call (.Name x p) (e::es) [] pos) (Zm6 j f (Zil sp [] E0 t)):=by
 intro pins s σ H Q I h;obtain⟨h0,h⟩:=h;refine wpAny_Call_Name_kw ?_;refine thn (ZlK hN hv hdb hcd pins s σ H (fun v H1=>v=.ref f/\t σ H1 fun vs H2=>sp (vs++[]) H2 Q E0) I ⟨_,h0,rfl,h⟩) fun u s1 ⟨v,H1,I1,r,ev,q⟩=>?_;subst ev;obtain rfl:u=YbH f:=r;refine YeS (h₀:=X.base) I.ok.mod.kin C.kp (thn (ha pos pins s1 σ H1 _ I1 q) fun us s2 ⟨vs,H2,I2,r2,q2⟩=>⟨I2.kIn,?_⟩) he hpl;exact ZlE C.ok hr C.bd .nil Zmw I2 r2 q2
theorem ZlL {X:Cx}{k:Nat}{x:Str}{ps:List Str}{sp:Sp}{f:Addr}{fd:FuncData}{pos:Pos} (C:Cal X.prog X.w X.K X.mg X.base k x ps sp f fd) (hg:Gl X x) (hd:(x == ("__debug__":Str))=false:=by decide):PE X (.Name x pos) (tC (.ref f)) :=
 ZiS hg C.mg rfl hd
def Zdc:Sp:=fun vs H Q _=>∃ i m,vs=[.int i,.int m]/\0<=i/\i<=m/\Q .non H
end Lv
namespace Lv
open PySem L2 PySem.Spec PyProof.Rows
end Lv
namespace Lv
open PySem L2
def hd (p n:Nat):Int:=(cnt p n).getD 0 0
def tot (p n:Nat):Int:=(cnt p n).sum
theorem Zdj {p:Nat} (hp:2<=p) (n:Nat):∃ a b r,cnt p n=a::b::r/\r.length=p - 2:=by
 have h:=ZcT (p:=p) (by omega) n
 match hc:cnt p n with
 | []=>rw[hc] at h;simp at h;omega
 | [x]=>rw[hc] at h;simp at h;omega
 | a::b::r=>rw[hc] at h;exact⟨a,b,r,rfl,by simp at h;omega⟩
theorem Zhh {p:Nat} (hp:2<=p):∀ n,1<=hd p n
 | 0=>by simp[hd,cnt,Zen]
 | n+1=>by
  obtain⟨a,b,r,e,_⟩:=Zdj hp n;have ih:=Zhh hp n;have nn:=(Zdh p n).2 b (by rw[e];simp);unfold hd at ih ⊢;show 1<=(ZbN (cnt p n)).getD 0 0;rw[e] at ih ⊢;simp[ZbN] at ih ⊢;omega
theorem Zin (c:Int):∀ r:List Int,(r.map (c+·)).sum=r.length*c+r.sum
 | []=>by simp
 | x::r=>by
  rw[YaJ,Ybe,Zin c r,Ybe,YaH,Int.natCast_succ,Ydr];omega
theorem Zkk (a:Int) (r:List Int):(ZbN (a::r)).sum=(a::r).sum+r.length*a:=by
 show ((r.map (a+·))++[a]).sum=_;rw[Ydx,Zin,Ybe,Ybe,List.sum_nil];omega
theorem ZgR {p:Nat} (hp:2<=p) (n:Nat):tot p (n+1)=tot p n+(p - 1:Nat)*hd p n:=by
 obtain⟨a,b,r,e,hr⟩:=Zdj hp n;unfold tot hd;show (ZbN (cnt p n)).sum=_;rw[e,Zkk];have:(b::r).length=p - 1:=by simp;omega
 rw[this];rfl
theorem Zii {p:Nat} (hp:2<=p) (n:Nat):tot p n+1<=tot p (n+1):=by
 rw[ZgR hp];have h1:=Zhh hp n;have h2:((1:Nat):Int)*1<=((p - 1:Nat):Int)*hd p n:=Int.mul_le_mul (by omega) h1 (by decide) (by omega);omega
theorem Zev {p:Nat} (hp:2<=p) {m n:Nat} (h:m<=n):tot p m<=tot p n:=by
  induction n with
  | zero => have : m = 0 := by omega
            subst this;exact YbO _
  | succ n ih=>
    by_cases e:m=n+1
    · subst e;exact YbO _
    · have:=ih (by omega);have:=Zii hp n;omega
def LevOf (p:Nat) (rows:Int) (n:Nat):Prop:=rows<=tot p n/\∀ k,k<n->tot p k<rows
theorem LevOf.step {p:Nat} (hp:2<=p) {rows:Int}{n:Nat} (h:∀ k,k<n->tot p k<rows) (g:tot p n<rows):∀ k,k<n+1->tot p k<rows:=by
 intro k hk;by_cases e:k=n
 ·subst e;exact g
 ·exact h k (by omega)
def spOf (m:Int):Sp:=fun vs H Q _=>∃ (p:Nat) (rows:Int),vs=[.int p,.int rows]/\2<=p/\p<=7/\1<=rows/\rows<=m/\∀ (n:Nat) H',LevOf p rows n->Same H H'->Q (.int n) H'
end Lv
namespace Lv
open PySem L2
theorem Zbj (K:Yad) {X:Cx}{es:List Expr}{k:Nat}{t:TGs}{n:Nat}{pos:Pos} (hc:X.calm=true) (h:PGs X es t) (hK:X.K=K:=by rfl) (hn:(assignEach es X.env).length=n:=by rfl) (hst:(assignEach es X.env).findIdx? (·.1)=none:=by rfl):PG X (.Tuple es k pos) (gTup K n t):=by
 subst hK;exact Zbh hc h hn hst
end Lv
namespace HT
open PySem PySem.Spec PyProof.Rows
section
variable {prog:Program}{w:World}{A:Around}{E:Value->Shared->Prop}{s:Shared}
end
end HT
namespace L2
open PySem PySem.Spec PyProof.Rows PySem.SeqAt
inductive TyA (H:Hp):V->String->Prop
 | non:TyA H .non "NoneType"
 | int (i:Int):TyA H (.int i) "int"
 | bl (b:Bool):TyA H (.bl b) "bool"
 | str (x:Str):TyA H (.str x) "str"
 | lst {a:Addr}{xs:List V} (e:H a=some (.lst xs)):TyA H (.ref a) "list"
 | tup {a:Addr}{xs:List V} (e:H a=some (.tup xs)):TyA H (.ref a) "tuple"
 | dK {a:Addr}{kvs:List (Key × V)} (e:H a=some (.dK kvs)):TyA H (.ref a) "dict"
section
variable {X:Cx}
end
end L2
namespace Lv
open PySem L2
def PotC (H:Hp) (p:Addr) (c:Int):Prop:=∃ a b m:Int,H p=some (.lst [.int a,.int b,.int m])/\0<=b/\b<=c/\0<=m/\m<2147483647
theorem PotC.put {H:Hp}{p q:Addr}{o:HO}{c:Int} (h:PotC H p c) (hq:H q=none):PotC (upd H q o) p c:=by
 obtain⟨a,b,m,e,z⟩:=h;exact⟨a,b,m,by rw[Zai (Zae e hq)];exact e,z⟩
theorem PotC.ne {H:Hp}{p q:Addr}{c:Int} (h:PotC H p c) (hq:H q=none):q≠p:=by
 obtain⟨a,b,m,e,_⟩:=h;exact Ybn (Zae e hq)
theorem PotC.up {H:Hp}{p:Addr}{c d:Int} (h:PotC H p c) (hd:c<=d):PotC H p d:=by
 obtain⟨a,b,m,e,z1,z2,z⟩:=h;exact⟨a,b,m,e,z1,by omega,z⟩
theorem PotC.off {H:Hp}{p q:Addr}{o:HO}{c:Int} (h:PotC H p c) (hq:q≠p):PotC (upd H q o) p c:=by
 obtain⟨a,b,m,e,z⟩:=h;exact⟨a,b,m,by rw[Zai (Ybn hq)];exact e,z⟩
theorem Sm.putC {p q:Addr}{H H2:Hp}{o:HO} (s:Sm p H H2) (h:H q=none):Sm p H (upd H2 q o):=fun b u e n=>by
 rw[Zai (Zae e h)];exact s b u e n
def Zgh:Sp:=fun vs H Q _=>∃ z:Int,vs=[.int z]/\∀ p H',H p=none->PotC H' p 0->Same H H'->Q (.ref p) H'
def Zb8:Sp:=fun vs H Q _=>∃ (p:Addr) (m c:Int),vs=[.ref p,.int m]/\PotC H p c/\c<=1000000000/\0<m/\YaR m<=8000/\∀ d H',0<=d->d<m->PotC H' p (c+1)->Sm p H H'->Q (.int d) H'
def Zir (K:Yad):Sp:=fun vs H Q _=>∃ (a:Addr) (ns:List Int) (m:Nat),vs=[.ref a,.int m]/\SqL K H a (ns.map V.int)/\ns.length<=63/\1<=m/\m<=50/\∀ l (fs:List Int) H',H l=none->H' l=some (.lst (fs.map V.int))->fs.length<=50->Same H H'->Q (.ref l) H'
def Zf2:Sp:=fun vs H Q _=>∃ (p:Addr) (m c:Int),vs=[.ref p,.int m]/\PotC H p c/\c<=900000000/\0<m/\YaR m<=8000/\∀ d H',0<=d->d<m->PotC H' p (c+500)->Sm p H H'->Q (.int d) H'
def Zba:Int:=10000000000000000000000000000000000000000000000000000000000000
def ZeA:Sp:=fun vs H Q _=>∃ (p:Addr) (kd c:Int),vs=[.ref p,.int kd]/\PotC H p c/\c<=800000000/\0<=kd/\kd<4/\∀ d H',-Zba<d->d<Zba->PotC H' p (c+510)->Sm p H H'->Q (.int d) H'
def upI:List Int->Bool
 | []=>true
 | [_]=>true
 | a::b::r=>decide (a<=b) && upI (b::r)
inductive El (H:Hp):V->Prop
 | int {z:Int} (h1:-Zba - 2<z) (h2:z<Zba+2):El H (.int z)
 | bl (b:Bool):El H (.bl b)
 | non:El H .non
 | str {x:Str} (h:x.length<=400) (hc:∀ c∈x.cps.toList,c<16 ^ 8):El H (.str x)
 | lst {a:Addr}{zs:List Int} (e:H a=some (.lst (zs.map V.int))) (hl:zs.length<=3) (hb:∀ z∈zs,-Zba - 2<z/\z<Zba+2):El H (.ref a)
 | tup {a:Addr}{zs:List Int} (e:H a=some (.tup (zs.map V.int))) (hl:zs.length<=3) (hb:∀ z∈zs,-Zba - 2<z/\z<Zba+2):El H (.ref a)
inductive Lf (H:Hp):V->Prop
 | non:Lf H .non
 | int (i:Int) (h:i=7):Lf H (.int i)
 | bl (b:Bool):Lf H (.bl b)
 | str (x:Str):Lf H (.str x)
 | d0 {a:Addr} (e:H a=some (.dK [])):Lf H (.ref a)
 | d1 {a:Addr} (e:H a=some (.dK [(.inl 1,.int 2)])):Lf H (.ref a)
structure Sh (d:PyData) (n:Nat):Prop where
 ok:d.showable=true
 nd:d.hasDict=false
 dp:d.depth<=1
 sz:d.shown.length<=n
end Lv
namespace L2
open PySem PySem.Spec PyProof.Rows PySem.SeqAt
section
variable {X:Cx}
end
end L2
namespace Lv
open PySem L2
def Free (N:List (List Int)) (m:List Nat) (o:Int):Prop:=0<=o/\o<N.length/\m.getD o.toNat 0≠(N.getD o.toNat []).length
instance (N:List (List Int)) (m:List Nat) (o:Int):Decidable (Free N m o):=by unfold Free;infer_instance
def Zol (m:List Nat) (o:Int):List Nat:=m.set o.toNat (m.getD o.toNat 0+1)
def atO (N:List (List Int)) (m:List Nat) (o:Int):Int:=(N.getD o.toNat []).getD (m.getD o.toNat 0) 0
noncomputable def hold (N:List (List Int)):List Nat->List Int->List Int->Option (List Nat × List Int)
 | m,t,[]=>some (m,t)
 | m,t,o::os=>if Free N m o then hold N (Zol m o) (t++[atO N m o]) os else none
def InM (N:List (List Int)) (m:List Nat):Prop:=m.length=N.length/\∀ j,j<N.length->m.getD j 0<=(N.getD j []).length
end Lv
namespace Lv
open PySem L2
def lenN (N:List (List Int)):List Nat:=N.map Ya8
def opn (N:List (List Int)) (m:List Nat) (j:Nat):Bool:=decide (m.getD j 0<(N.getD j []).length)
def opnL (N:List (List Int)) (m:List Nat):List Nat:=(YaE N.length).filter (opn N m)
structure OrS (N:List (List Int)) (m:List Nat) (t os:List Int):Prop where
 hd:hold N (N.map fun _=>0) [] os=some (m,t)
 up:upI t=true
 lst:∀ l,t.getLast?=some l->∀ j∈opnL N m,l<=atO N m j
 inm:InM N m
 sm:m.sum=os.length
end Lv
namespace L2
open PySem PySem.Spec PyProof.Rows
abbrev two (elt t1 i1:Expr) (f1:List Expr) (t2 i2:Expr) (f2:List Expr) (scope:Scope) (pos:Pos):Expr:=.ListComp elt [⟨t1,i1,f1,0⟩,⟨t2,i2,f2,0⟩] scope pos
theorem Zie (elt t1 i1:Expr) (f1:List Expr) (t2 i2:Expr) (f2:List Expr) (scope:Scope) (pos:Pos) (it acc:Value) (env:Env) :
  compTurn (two elt t1 i1 f1 t2 i2 f2 scope pos) 0 it acc env=(do
   standAt i1.pos
   match <- pyNext it with
   | none=>pure (.done .next)
   | some v=>
    letOwnedTupleGo t1 it v
    assign t1 env v
    let mut ok:=true
    for c in f1 do
     if ok then ok <- isTrue c env (eval c env)
    if ok then
     let x <- eval i2 env
     standAt i2.pos
     let x <- foldedSetIterable i2 env x
     let _ <- runOwn (.compStart (two elt t1 i1 f1 t2 i2 f2 scope pos) 1 (<- holding [x] (pyIter x)) acc env) env
    again (.compLoop (two elt t1 i1 f1 t2 i2 f2 scope pos) 0 it acc env)):=by rfl
theorem Zid (elt t1 i1:Expr) (f1:List Expr) (t2 i2:Expr) (f2:List Expr) (scope:Scope) (pos:Pos) (it acc:Value) (env:Env) :
  compTurn (two elt t1 i1 f1 t2 i2 f2 scope pos) 1 it acc env=(do
   standAt i2.pos
   match <- pyNext it with
   | none=>pure (.done .next)
   | some v=>
    letOwnedTupleGo t2 it v
    assign t2 env v
    let mut ok:=true
    for c in f2 do
     if ok then ok <- isTrue c env (eval c env)
    if ok then
     (do let _ <- call (.builtin "list.append") [acc,<- eval elt env])
    again (.compLoop (two elt t1 i1 f1 t2 i2 f2 scope pos) 1 it acc env)):=by rfl
section
variable {prog:Program}{w:World}{A:Around}{R:Result->Shared->Prop}{s:Shared}{elt t1 i1:Expr}{f1:List Expr}{t2 i2:Expr}{f2:List Expr}{scope:Scope}{pos:Pos}{it acc:Value}{env:Env}
theorem Zjp (I:Nat->Shared->Prop)
  (turn:∀ n s,I n s->wpAny (model prog w) A (pyNext it) (fun r s₁=>match r with
   | none=>R (.ok .next) s₁
   | some v=>wpAny (model prog w) A (letOwnedTupleGo t2 it v) (fun _ s₁'=>wpAny (model prog w) A (assign t2 env v) (fun _ s₂=>
     wpAny (model prog w) A (forIn f2 true fun c r=>if r=true then do let ok <- isTrue c env (eval c env);pure (Ybo ok) else pure (Ybo r)) (fun ok s₃=>
      if ok=true then wpAny (model prog w) A (eval elt env) (fun x s₄=>
       wpAny (model prog w) A (call (.builtin "list.append") [acc,x]) (fun _ s₅=>∃ m,m<n/\I m s₅) (fun _ _=>False) s₄) (fun _ _=>False) s₃
      else ∃ m,m<n/\I m s₃) (fun _ _=>False) s₂) (fun _ _=>False) s₁') (fun _ _=>False) s₁) (fun _ _=>False) s)
  (n:Nat) (h:I n s):codeAny (model prog w) A (.compLoop (two elt t1 i1 f1 t2 i2 f2 scope pos) 1 it acc env) R s:=by
 refine codeAny_loop rfl I (fun n s hI=>?_) n h;show wpAny _ A ((compTurn (two elt t1 i1 f1 t2 i2 f2 scope pos) 1 it acc env).onRaise (fun x=>do noteFrame x env;theTreesLotGoes x)) _ _ s;refine wpAny_noted ?_;rw[Zid];refine wpAny_bind (wpAny_standAt (wpAny_bind (wpAny_mono (turn n s hI) (fun r s₁ h₁=>?_) fun _ _ h'=>h'.elim)))
 cases r with
 | none=>exact wpAny_pure h₁
 | some v=>
  refine wpAny_bind (wpAny_mono h₁ (fun _ s₁' h₁=>?_) fun _ _ h'=>h'.elim);refine wpAny_bind (wpAny_mono h₁ (fun _ s₂ h₂=>wpAny_bind (wpAny_mono h₂ (fun ok s₃ h₃=>?_) fun _ _ h'=>h'.elim)) fun _ _ h'=>h'.elim)
  cases ok with
  | false=>exact wpAny_pure ⟨rfl,h₃⟩
  | true=>
   exact wpAny_bind (wpAny_bind (wpAny_mono h₃ (fun x s₄ h₄=>wpAny_bind (wpAny_mono h₄ (fun _ s₅ h₅=>wpAny_pure (wpAny_pure ⟨rfl,h₅⟩)) fun _ _ h'=>h'.elim)) fun _ _ h'=>h'.elim))
theorem Zhy
  (h0:codeAny (model prog w) A (.compLoop (two elt t1 i1 f1 t2 i2 f2 scope pos) 1 it acc env) R s)
  (h:wpAny (model prog w) A (pyIter it) (fun it' s'=>codeAny (model prog w) A (.compLoop (two elt t1 i1 f1 t2 i2 f2 scope pos) 1 it' acc env) R s')
   (notedBy (model prog w) A env fun x s'=>R (.error x) s') s) :
  codeAny (model prog w) A (.compStart (two elt t1 i1 f1 t2 i2 f2 scope pos) 1 it acc env) R s:=by
 refine codeAny_of_tree ?_;show wpAny _ _ ((compStart (two elt t1 i1 f1 t2 i2 f2 scope pos) 1 it acc env).onRaise (fun x=>do noteFrame x env;standAt theWindowsPlace)) _ _ s;refine wpAny_notedAt ?_;unfold compStart;show wpAny _ _ (ask >>= _) _ _ s;refine wpAny_bind (wpAny_askSetting (wpAny_ite ?_));split
 ·first
   | exact wpAny_bind (wpAny_pure (wpAny_pure (And.intro rfl h0)))
   | exact wpAny_pure (And.intro rfl h0)
 ·refine wpAny_bind (wpAny_rule ?_);show wpAny _ _ (standAt i2.pos >>= _) _ _ s;exact wpAny_bind (wpAny_standAt (wpAny_bind (wpAny_mono h (fun it' s' h'=>wpAny_pure (And.intro rfl h')) fun _ _ x=>x)))
theorem Zjq (I:Nat->Shared->Prop) (hs:∀ x,foldedSetIterable i2 env x=pure x)
  (turn:∀ n s,I n s->wpAny (model prog w) A (pyNext it) (fun r s₁=>match r with
   | none=>R (.ok .next) s₁
   | some v=>wpAny (model prog w) A (letOwnedTupleGo t1 it v) (fun _ s₁'=>wpAny (model prog w) A (assign t1 env v) (fun _ s₂=>
     wpAny (model prog w) A (forIn f1 true fun c r=>if r=true then do let ok <- isTrue c env (eval c env);pure (Ybo ok) else pure (Ybo r)) (fun ok s₃=>
      if ok=true then wpAny (model prog w) A (eval i2 env) (fun x s₄=>wpAny (model prog w) A (pyIter x) (fun itv s₅=>
       codeAny (model prog w) A (.compStart (two elt t1 i1 f1 t2 i2 f2 scope pos) 1 itv acc env) (fun r s₆=>∃ fl,r=.ok fl/\∃ m,m<n/\I m s₆) s₅) (fun _ _=>False) s₄) (fun _ _=>False) s₃
      else ∃ m,m<n/\I m s₃) (fun _ _=>False) s₂) (fun _ _=>False) s₁') (fun _ _=>False) s₁) (fun _ _=>False) s)
  (n:Nat) (h:I n s):codeAny (model prog w) A (.compLoop (two elt t1 i1 f1 t2 i2 f2 scope pos) 0 it acc env) R s:=by
 refine codeAny_loop rfl I (fun n s hI=>?_) n h;show wpAny _ A ((compTurn (two elt t1 i1 f1 t2 i2 f2 scope pos) 0 it acc env).onRaise (fun x=>do noteFrame x env;theTreesLotGoes x)) _ _ s;refine wpAny_noted ?_;rw[Zie];refine wpAny_bind (wpAny_standAt (wpAny_bind (wpAny_mono (turn n s hI) (fun r s₁ h₁=>?_) fun _ _ h'=>h'.elim)))
 cases r with
 | none=>exact wpAny_pure h₁
 | some v=>
  refine wpAny_bind (wpAny_mono h₁ (fun _ s₁' h₁=>?_) fun _ _ h'=>h'.elim);refine wpAny_bind (wpAny_mono h₁ (fun _ s₂ h₂=>wpAny_bind (wpAny_mono h₂ (fun ok s₃ h₃=>?_) fun _ _ h'=>h'.elim)) fun _ _ h'=>h'.elim)
  cases ok with
  | false=>exact wpAny_pure ⟨rfl,h₃⟩
  | true=>
   refine wpAny_bind (wpAny_mono h₃ (fun x s₄ h₄=>wpAny_bind (wpAny_standAt ?_)) fun _ _ h'=>h'.elim);rw[hs];refine wpAny_bind (wpAny_pure (wpAny_bind (wpAny_holding (wpAny_mono h₄ (fun itv s₅ h₅=>?_) fun _ _ h'=>h'.elim))));refine wpAny_bind (wpAny_runOwn (h:=none) (codeAny_mono h₅ fun r s₆ ⟨fl,er,h₆⟩=>?_));subst er;exact wpAny_pure ⟨rfl,h₆⟩
end
end L2
namespace L2
open PySem PySem.Spec PyProof.Rows
def tInW (g2:TG) (tt2:TT) (te:TE) (τ:St) (acc:Addr) (J2:It) (H6:Hp) (Z:Hp->Prop):Prop :=
 ∃ (W2:Nat->Hp->Prop) (n2:Nat),W2 0 H6/\∀ k H7,W2 k H7->(J2.stop k H7/\Z H7)∨(k<n2/\J2.go k H7/\∀ y H8,J2.yld k H7 y H8->g2 y τ H8 fun τ2 H9=>tt2 τ2 H9 fun c H10=>
  if c=true then te τ2 H10 fun z H11=>∃ ys,H11 acc=some (.lst ys)/\ys.length<sizeLine/\W2 (k+1) (upd H11 acc (.lst (ys++[z]))) else W2 (k+1) H10)
def Zex (own:List Str) (js:List Nat) (g1:TG) (tt1:TT) (wi2:TI) (g2:TG) (tt2:TT) (te:TE) (σ:St) (J:It) (H1:Hp) (Q:VK):Prop :=
 ∀ acc,H1 acc=none->∃ (W:Nat->Hp->Prop) (n:Nat),W 0 (upd H1 acc (.lst []))/\∀ i H2,W i H2 ->
  (J.stop i H2/\Q (.ref acc) H2)∨(i<n/\J.go i H2/\∀ x H3,J.yld i H2 x H3->g1 x (blkσ own js σ) H3 fun τ H4=>tt1 τ H4 fun c H5=>
   if c=true then wi2 τ H5 fun J2 H6=>tInW g2 tt2 te τ acc J2 H6 (W (i+1)) else W (i+1) H5)
def Zlz (own:List Str) (js:List Nat) (wi:TI) (g1:TG) (tt1:TT) (wi2:TI) (g2:TG) (tt2:TT) (te:TE):TE:=fun σ H Q=>wi σ H fun J H1=>Zex own js g1 tt1 wi2 g2 tt2 te σ J H1 Q
def ZmW (fr:List Nat) (τ:St):Prop:=∀ i∈fr,∀ v,τ[i]?≠some (some v)
def ZfW (own:List Str) (fr:List Nat) (g:TG):Prop:=∀ (js:List Nat) (σ:St) (x:V) (H:Hp) (Q:St->Hp->Prop),g x (blkσ own js σ) H Q ->
 g x (blkσ own js σ) H fun τ H'=>((∀ (j:Nat) v,(blkσ own js σ)[j]?=some (some v)->τ[j]?=some (some v))/\ZmW fr τ)/\Q τ H'
def Zes (fr:List Nat) (g:TG):Prop:=∀ (τ:St),ZmW fr τ->∀ (x:V) (H:Hp) (Q:St->Hp->Prop),g x τ H Q->g x τ H fun τ' H'=>(∀ (j:Nat) v,τ[j]?=some (some v)->τ'[j]?=some (some v))/\Q τ' H'
theorem ZhZ {K:Yad}{own:List Str}{i k:Nat}{fr:List Nat} (hi:i<own.length:=by decide) (hk:k<own.length:=by decide) (hf:∀ j∈fr,j<own.length/\j≠i/\j≠k:=by decide):ZfW own fr (gTup K 2 (ZdJ (ZbE i) (ZdJ (ZbE k) gNil))):=fun js σ x H Q h=>by
 obtain⟨a,xs,rfl,hq,hl,v,r,rfl,w,r',rfl,e,h⟩:=h;refine⟨a,_,rfl,hq,hl,v,_,rfl,w,r',rfl,e,⟨fun j z e=>?_,fun j hj z e=>?_⟩,h⟩
 ·have hj:j≠i:=by rintro rfl;exact ZaN hi e
  have hj':j≠k:=by rintro rfl;exact ZaN hk e
  rw[YaO (Ybn hj'),YaO (Ybn hj)];exact e
 ·obtain⟨h1,h2,h3⟩:=hf j hj;rw[YaO (Ybn h3),YaO (Ybn h2)] at e;exact ZaN h1 e
theorem ZgC {own:List Str}{i:Nat}{fr:List Nat} (hi:i<own.length:=by decide) (hf:∀ j∈fr,j<own.length/\j≠i:=by decide):ZfW own fr (ZbE i):=fun js σ x H Q h=>⟨⟨fun j v e=>by
  have hj:j≠i:=by rintro rfl;exact ZaN hi e
  rw[YaO (Ybn hj)];exact e,fun j hj z e=>by
  obtain⟨h1,h2⟩:=hf j hj;rw[YaO (Ybn h2)] at e;exact ZaN h1 e⟩,h⟩
theorem ZhY {K:Yad}{i k:Nat}:Zes [i,k] (gTup K 2 (ZdJ (ZbE i) (ZdJ (ZbE k) gNil))):=fun τ u x H Q h=>by
 obtain⟨a,xs,rfl,hq,hl,v,r,rfl,w,r',rfl,e,h⟩:=h;refine⟨a,_,rfl,hq,hl,v,_,rfl,w,r',rfl,e,fun j z e=>?_,h⟩;have hj:j≠i:=by rintro rfl;exact u j (by simp) _ e
 have hj':j≠k:=by rintro rfl;exact u j (by simp) _ e
 rw[YaO (Ybn hj'),YaO (Ybn hj)];exact e
theorem ZgB {i:Nat}:Zes [i] (ZbE i):=fun τ u x H Q h=>⟨fun j v e=>by
 have hj:j≠i:=by rintro rfl;exact u j (by simp) _ e
 rw[YaO (Ybn hj)];exact e,h⟩
section
variable {X:Cx}{scope:Scope}{own:List Str}{js fr:List Nat}{elt t1 i1:Expr}{f1:List Expr}{t2 i2:Expr}{f2:List Expr}{wi wi2:TI}{g1 g2:TG}{tt1 tt2:TT}{te:TE}{pos:Pos}
theorem ZjG {pins:List (Addr × Obj)}{s₂:Shared}{H2:Hp}{C:Addr}{fp:List Addr}{τ:St}{H6:Hp}{s6:Shared}{it2 acc:Addr}{fp2:List Addr}{tn2:Nat->Heap->Prop}{J2:It}{Z:Hp->Prop}{P:List (Addr × Obj)}
  (hc:X.calm=true) (hgk:Zes fr g2) (hu:ZmW fr τ)
  (hg:PG (X.blk scope own js s₂ H2 C fp pins) t2 g2) (ht:PTs (X.blk scope own js s₂ H2 C fp pins) f2 tt2) (he:PE (X.blk scope own js s₂ H2 C fp pins) elt te)
  (I6:Inv (X.blk scope own js s₂ H2 C fp pins) P τ H6 s6) (T:Turn X.prog X.w X.K t2 J2 fp2 it2 tn2) (st:tn2 0 s6.heap) (hf:∀ b∈fp2,FpOk (X.blk scope own js s₂ H2 C fp pins) P H6 b) (h:tInW g2 tt2 te τ acc J2 H6 Z) :
  codeAny (model X.prog X.w) X.A (.compStart (two elt t1 i1 f1 t2 i2 f2 scope pos) 1 (.ref it2) (.ref acc) (compEnvC scope (clOf scope X.env) C X.env)) (fun r s'=>r=.ok .next/\∃ H',Inv (X.blk scope own js s₂ H2 C fp pins) P τ H' s'/\Z H') s6:=by
 obtain⟨W,nn,w0,turn⟩:=h;have fOk:∀ {H':Hp},(∀ b∈fp2,H' b=none)->∀ b∈fp2,FpOk (X.blk scope own js s₂ H2 C fp pins) P H' b:=fun hn b hb=>⟨hn b hb,(hf b hb).2⟩
 have loop:codeAny (model X.prog X.w) X.A (.compLoop (two elt t1 i1 f1 t2 i2 f2 scope pos) 1 (.ref it2) (.ref acc) (compEnvC scope (clOf scope X.env) C X.env)) (fun r s'=>r=.ok .next/\∃ H',Inv (X.blk scope own js s₂ H2 C fp pins) P τ H' s'/\Z H') s6:=by
  refine Zjp (fun n s'=>∃ i H',n=nn - i/\Inv (X.blk scope own js s₂ H2 C fp pins) P τ H' s'/\tn2 i s'.heap/\(∀ b∈fp2,H' b=none)/\W i H') ?_ nn ⟨0,_,rfl,I6,st,fun b hb=>(hf b hb).1,w0⟩;rintro n s3 ⟨i,H3,en,I3,st3,fr3,w3⟩;rcases turn i H3 w3 with ⟨stop,qn⟩ | ⟨hin,go,step⟩
  ·refine thn (T.done (X.blk scope own js s₂ H2 C fp pins) rfl rfl rfl hc i P s3 _ H3 (fun _ _=>False) I3 (fOk fr3) st3 stop) fun r s4 ⟨hr,I4⟩=>?_;subst hr;exact⟨rfl,H3,I4,qn⟩
  ·refine thn (T.item (X.blk scope own js s₂ H2 C fp pins) rfl rfl rfl hc i P s3 _ H3 (fun _ _=>False) I3 (fOk fr3) st3 go) fun r s4 ⟨u,hr,h4⟩=>?_;subst hr;refine thn h4 fun _ s5 ⟨x,H5,I5,r5,y5,st5,fr5⟩=>?_;have I5':=I5.pinned (fOk fr5) (T.obj _ _ st5);have again:∀ {σ7:St}{H7:Hp}{s7:Shared},Inv (X.blk scope own js s₂ H2 C fp pins) (P++ZdB fp2 s5.heap) σ7 H7 s7->(∀ (j:Nat) v,τ[j]?=some (some v)->σ7[j]?=some (some v))->W (i+1) H7 ->
     ∃ m,m<n/\∃ i H',m=nn - i/\Inv (X.blk scope own js s₂ H2 C fp pins) P τ H' s7/\tn2 i s7.heap/\(∀ b∈fp2,H' b=none)/\W i H':=fun {σ7 H7 s7} I7 hw w7=>by
    refine⟨nn - (i+1),by omega,i+1,H7,rfl,(I7.unpinned).weak (I3.len.trans I7.len.symm) hw,T.keep _ _ _ st5 fun b hb o e=>(I7.pin (b,o) (YaI _ (YaI _ (ZaY hb e)))).1,fun b hb=>?_,w7⟩;obtain⟨o,e,d⟩:=T.obj _ _ st5 b hb;exact (I7.pin (b,o) (YaI _ (YaI _ (ZaY hb e)))).2.1
   refine thn (hg _ s5 _ H5 x u _ I5' r5 (hgk τ hu _ _ _ (step x H5 y5))) fun _ s6 ⟨σ6,H6,I6,kp,q6⟩=>?_;refine thn (ht _ s6 σ6 H6 _ I6 q6) fun ok s7 ⟨H7,I7,q7⟩=>?_
   cases ok with
   | false=>exact again I7 kp q7
   | true=>
    refine thn (he _ s7 σ6 H7 _ I7 q7) fun y s8 ⟨v,H8,I8,r8,ys,hl,hz,w8⟩=>?_;refine thn (ZaT (X:=X.blk scope own js s₂ H2 C fp pins) _ s8 σ6 H8 (.ref acc) [v] (.ref acc) [y] (fun _ H9=>W (i+1) H9) I8 rfl (.cons r8 .nil) ⟨acc,ys,v,rfl,rfl,hl,hz,w8⟩) fun _ s9 ⟨_,H9,I9,_,w9⟩=>?_;exact again I9 kp w9
 exact Zhy loop (T.self _ 0 _ _ _ st loop)
theorem Zho {pins:List (Addr × Obj)}{σ:St}{H2:Hp}{s₂:Shared}{it:Addr}{fp:List Addr}{tn:Nat->Heap->Prop}{J:It}{Q:VK}{E:Value->Shared->Prop}{RR:Value->Addr->Result->Shared->Prop}
  (c:CompOk X scope own js) (hc:X.calm=true) (hgk:ZfW own fr g1) (hgt:Zes fr g2)
  (hg:∀ s H C fp pins,PG (X.blk scope own js s H C fp pins) t1 g1) (ht:∀ s H C fp pins,PTs (X.blk scope own js s H C fp pins) f1 tt1) (hi2:∀ s H C fp pins,PI (X.blk scope own js s H C fp pins) t2 i2 wi2)
  (hg2:∀ s H C fp pins,PG (X.blk scope own js s H C fp pins) t2 g2) (ht2:∀ s H C fp pins,PTs (X.blk scope own js s H C fp pins) f2 tt2) (he:∀ s H C fp pins,PE (X.blk scope own js s H C fp pins) elt te)
  (hs2:∀ env x,foldedSetIterable i2 env x=pure x)
  (I:Inv X pins σ H2 s₂) (T:Turn X.prog X.w X.K t1 J fp it tn) (st:tn 0 s₂.heap) (hf:∀ b∈fp,FpOk X pins H2 b) (h:Zex own js g1 tt1 wi2 g2 tt2 te σ J H2 Q)
  (hRR:∀ acc C H' s' m,s₂.heap.objs.size<=C->H' C=none->Inv X pins σ H' s'->s'.heap.Ns C m->Q (.ref acc) H'->RR (.ref acc) C (.ok .next) s') :
  wpAny (model X.prog X.w) X.A (newList []) (fun acc s₃=>wpAny (model X.prog X.w) X.A (newFunctionEnv scope X.env.globals (clOf scope X.env) [] X.env.qual none .none (some X.env)) (fun cenv s₄=>
   codeAny (model X.prog X.w) X.A (.compStart (two elt t1 i1 f1 t2 i2 f2 scope pos) 0 (.ref it) acc { cenv with scope:=relabel scope X.env }) (RR acc cenv.locals) s₄) E s₃) E s₂:=by
 refine wpAny_newObj_type (wpAny_newFunctionEnv c.cell (by intro y hy;simp at hy) (fun h₁ hns₁ hsb₁=>?_) c.kind);dsimp only at hns₁ hsb₁ ⊢;generalize hH2:s₂.heap.push { cls:=.type "list",dict:=none,data:=.seq ([]:List Value).toArray }=G2 at hns₁ hsb₁ ⊢;have hC:G2.objs.size=s₂.heap.objs.size+1:=by rw[<- hH2,YbA]
 have hDC:s₂.heap.objs.size≠G2.objs.size:=by rw[hC];exact YaP (Yb5 _)
 have hCle:s₂.heap.objs.size<=G2.objs.size:=by rw[hC];exact Ycw _
 have old:∀ b o,s₂.heap.get? b=some o->h₁.get? b=some o:=fun b o e=>hsb₁.extBut b o (YaP (Yaw (Yar e) hCle)) (Yae _ (hH2 ▸ Yae _ e));have hacc:h₁.get? s₂.heap.objs.size=some { cls:=.type "list",data:=.seq ([]:List Value).toArray 0 }:=hsb₁.extBut _ _ hDC (Yae _ (hH2 ▸ YaC _ rfl));have ho2:∀ b∈fp,∃ o,s₂.heap.get? b=some o:=fun b hb=>let ⟨o,e,_⟩:=T.obj 0 _ st b hb;⟨o,e⟩
 have I0:∀ tk,Inv (X.blk scope own js s₂ H2 G2.objs.size fp pins) [] (blkσ own js σ) (upd H2 s₂.heap.objs.size (.lst [])) { s₂ with heap:=h₁,toks:=tk }:=fun tk=>
  ZfP c I hCle hf ho2 hns₁ old (Yap _) hDC hacc
 obtain⟨W,nn,w0,turn⟩:=h s₂.heap.objs.size (I.hok.fresh (Yap _));generalize hacc':s₂.heap.objs.size=acc at *;generalize hGC:G2.objs.size=C at *;have st1:tn 0 h₁:=T.keep 0 _ _ st fun b _ o e=>old b o e;have fOk:∀ {H':Hp},(∀ b∈fp,H' b=none)->∀ b∈fp,FpOk (X.blk scope own js s₂ H2 C fp pins) [] H' b:=fun hn b hb=>by
  obtain⟨f0,f1,f2,f3,f4,f5⟩:=hf b hb;obtain⟨o,e⟩:=ho2 b hb;refine⟨hn b hb,YaP (Yaw (Yar e) (by rw[<- hacc'] at hCle;exact hCle)),fun z=>?_,.inl hb,fun x a h=>f4 x a (c.look I h),fun p hp=>f5 p (by simpa[Cx.blk] using hp)⟩;rcases YaD.mp (I.stkSub b z) with q | q
  ·exact f1 q
  ·exact f2 q
 have loop:∀ s₃:Shared,s₃={ s₂ with heap:=h₁,toks:=s₂.toks+([]:List (Str × Value)).length } ->
   codeAny (model X.prog X.w) X.A (.compLoop (two elt t1 i1 f1 t2 i2 f2 scope pos) 0 (.ref it) (.ref acc) (compEnvC scope (clOf scope X.env) C X.env)) (RR (.ref acc) C) s₃:=by
  rintro s₃ rfl;refine Zjq (fun n s'=>∃ i H',n=nn - i/\Inv (X.blk scope own js s₂ H2 C fp pins) [] (blkσ own js σ) H' s'/\tn i s'.heap/\(∀ b∈fp,H' b=none)/\W i H') (hs2 _) ?_ nn ⟨0,_,rfl,I0 _,st1,fun b hb=>?_,w0⟩
  ·rintro n s3 ⟨i,H3,en,I3,st3,fr3,w3⟩;rcases turn i H3 w3 with ⟨stop,qn⟩ | ⟨hin,go,step⟩
   ·refine thn (T.done (X.blk scope own js s₂ H2 C fp pins) rfl rfl rfl hc i [] s3 _ H3 (fun _ _=>False) I3 (fOk fr3) st3 stop) fun r s4 ⟨hr,I4⟩=>?_;subst hr;obtain⟨m,hn,_⟩:=I4.loc;exact hRR acc C H3 s4 m hCle I4.free (Zj8 I hf I4) hn qn
   ·refine thn (T.item (X.blk scope own js s₂ H2 C fp pins) rfl rfl rfl hc i [] s3 _ H3 (fun _ _=>False) I3 (fOk fr3) st3 go) fun r s4 ⟨u,hr,h4⟩=>?_;subst hr;refine thn h4 fun _ s5 ⟨x,H5,I5,r5,y5,st5,fr5⟩=>?_;have I5':=I5.pinned (fOk fr5) (T.obj _ _ st5);have again:∀ {σ7:St}{H7:Hp}{s7:Shared},Inv (X.blk scope own js s₂ H2 C fp pins) ([]++ZdB fp s5.heap) σ7 H7 s7->(∀ (j:Nat) v,(blkσ own js σ)[j]?=some (some v)->σ7[j]?=some (some v))->W (i+1) H7 ->
      ∃ m,m<n/\∃ i H',m=nn - i/\Inv (X.blk scope own js s₂ H2 C fp pins) [] (blkσ own js σ) H' s7/\tn i s7.heap/\(∀ b∈fp,H' b=none)/\W i H':=fun {σ7 H7 s7} I7 hw w7=>by
     refine⟨nn - (i+1),by omega,i+1,H7,rfl,(I7.unpinned).weak ((ZgM own js σ X).trans I7.len.symm) hw,T.keep _ _ _ st5 fun b hb o e=>(I7.pin (b,o) (YaI _ (YaI _ (ZaY hb e)))).1,fun b hb=>?_,w7⟩;obtain⟨o,e,d⟩:=T.obj _ _ st5 b hb;exact (I7.pin (b,o) (YaI _ (YaI _ (ZaY hb e)))).2.1
    refine thn (hg s₂ H2 C fp pins _ s5 _ H5 x u _ I5' r5 (hgk _ _ _ _ _ (step x H5 y5))) fun _ s6 ⟨σ6,H6,I6,⟨kp,un⟩,q6⟩=>?_;refine thn (ht s₂ H2 C fp pins _ s6 σ6 H6 _ I6 q6) fun ok s7 ⟨H7,I7,q7⟩=>?_
    cases ok with
    | false=>exact again I7 kp q7
    | true=>
     refine thn (hi2 s₂ H2 C fp pins _ s7 σ6 H7 _ I7 q7) fun v s8 h8=>thn h8 fun itv s9 h9=>?_;obtain⟨it2,fp2,tn2,J2,H9,e9,I9,T2,st9,f9,hw9⟩:=h9;subst e9;refine codeAny_mono (ZjG (t1:=t1) (i1:=i1) (f1:=f1) (i2:=i2) (pos:=pos) hc hgt un (hg2 s₂ H2 C fp pins) (ht2 s₂ H2 C fp pins) (he s₂ H2 C fp pins) I9 T2 st9 f9 hw9) fun r s10 ⟨er,H10,I10,w10⟩=>?_;exact⟨_,er,again I10 kp w10⟩
  ·rw[Zai ?_]
   ·exact (hf b hb).1
   ·obtain⟨o,e⟩:=ho2 b hb;rw[<- hacc'];exact YaP (Yar e)
 exact codeAny_compStart_list (loop _ rfl) (T.self _ 0 _ _ _ st1 (loop _ rfl))
theorem ZkH (c:CompOk X scope own js) (hc:X.calm=true) (hi:PI X t1 i1 wi) (hgk:ZfW own fr g1) (hgt:Zes fr g2)
  (hg:∀ s H C fp pins,PG (X.blk scope own js s H C fp pins) t1 g1) (ht:∀ s H C fp pins,PTs (X.blk scope own js s H C fp pins) f1 tt1) (hi2:∀ s H C fp pins,PI (X.blk scope own js s H C fp pins) t2 i2 wi2)
  (hg2:∀ s H C fp pins,PG (X.blk scope own js s H C fp pins) t2 g2) (ht2:∀ s H C fp pins,PTs (X.blk scope own js s H C fp pins) f2 tt2) (he:∀ s H C fp pins,PE (X.blk scope own js s H C fp pins) elt te)
  (hs:∀ x,foldedSetIterable i1 X.env x=pure x:=by intro _;rfl) (hs2:∀ env x,foldedSetIterable i2 env x=pure x:=by intro _ _;rfl):PE X (two elt t1 i1 f1 t2 i2 f2 scope pos) (Zlz own js wi g1 tt1 wi2 g2 tt2 te):=by
 intro pins s σ H Q I h;rw[eval_ListComp];refine wpAny_comprehension_free (use:=none) rfl hs (Zb1 (c.cl I)) c.kind c.names (thn (hi pins s σ H _ I h) fun v s1 h1=>thn h1 fun itv s2 h2=>?_);obtain⟨it,fp,tn,J,H2,e,I2,T,st2,f2,hw⟩:=h2;subst e;refine Zho (RR:=fun acc C=>compPost (model X.prog X.w) X.A X.xe none (EP X pins σ Q) acc C) c hc hgk hgt hg ht hi2 hg2 ht2 he hs2 I2 T st2 f2 hw ?_;intro acc C H' s' m hCs hCn I' hn q;refine⟨m,hn,fun h' hs'=>⟨.ref acc,H',I'.other hs' hCn ?_ ?_ ?_ ?_,rfl,q⟩⟩
 ·exact YbU (Yaw I2.lt hCs)
 ·exact Ybm I2.sz hCs
 ·intro x a e z;obtain⟨v,q⟩:=I2.cell x a e;exact absurd (Yaw q.lt (by rw[z];exact hCs)) (Ybl _)
 ·intro p hp z;exact absurd (Yaw (Yar (I2.pin p hp).1) (by rw[z];exact hCs)) (Ybl _)
end
end L2
namespace L2
open PySem PySem.Spec PyProof.Rows PySem.SeqAt
def ItlB (b:Bool) (K:Yad) (a:Addr):It:=match b with | true=>Itl K a | false=>Itt K a
def ZnM (K:Yad) (tl:TE):TI:=fun σ H R=>tl σ H fun x H1=>∃ a b,x=.ref a/\(∃ xs,SqB b K H1 a xs)/\R (ItlB b K a) H1
theorem ZeQ (K:Yad) {X:Cx}{tg l:Expr}{tl:TE} (hl:PE X l tl) (hK:X.K=K:=by rfl):PI X tg l (ZnM K tl):=by
 subst hK;intro pins s σ H R I h;refine thn (hl pins s σ H _ I h) fun v s1 ⟨x,H1,I1,r1,q1⟩=>?_;obtain⟨a,b,e,⟨xs,hq⟩,q⟩:=q1;subst e;cases r1;have fp:∀ b∈[s1.heap.objs.size],FpOk X pins H1 b:=fun b hb=>by
  have e:b=s1.heap.objs.size:=by simpa using hb
  subst e;exact I1.fpOk (Yap _) (I1.hok.fresh (Yap _))
 cases b with
 | true=>
  obtain⟨its,rv,p,hz⟩:=I1.list hq;exact wpAny_pyIter_list p.isList ⟨s1.heap.objs.size,[s1.heap.objs.size],_,_,H1,rfl,I1.kept (t':=s1.toks) fun b o e=>Yae _ e,Ze9 a _,⟨_,YaC _ rfl,rfl,rfl⟩,fp,q⟩
 | false=>
  obtain⟨its,rv,p,hz⟩:=I1.tuple hq;exact wpAny_pyIter_tuple (show s1.heap.IsTuple a its.toArray from p) ⟨s1.heap.objs.size,[s1.heap.objs.size],_,_,H1,rfl,I1.kept (t':=s1.toks) fun b o e=>Yae _ e,ZdV a _,⟨_,YaC _ rfl,rfl,rfl⟩,fp,q⟩
theorem ZaL {X:Cx}{tg l:Expr}{tl:TE} (hl:PE X l tl):PI X tg l (ZnM X.K tl):=ZeQ X.K hl
theorem ZeZ {b:Bool}{K:Yad}{H:Hp}{a:Addr}{xs:List V}{i:Nat} (q:SqB b K H a xs) (hi:i<xs.length):(ItlB b K a).go i H:=by
 cases b <;> exact⟨xs,xs[i],q,Yac hi⟩
theorem Zdg {b:Bool}{K:Yad}{H H':Hp}{a:Addr}{xs:List V}{i:Nat}{x:V} (q:SqB b K H a xs) (y:(ItlB b K a).yld i H x H'):H'=H/\xs[i]?=some x:=by
 cases b <;> exact⟨y.1,y.2 xs q⟩
theorem Zcw {b:Bool}{K:Yad}{H:Hp}{a:Addr}{xs:List V}{i:Nat} (q:SqB b K H a xs) (hi:xs.length<=i):(ItlB b K a).stop i H:=by
 cases b <;> exact⟨xs,q,hi⟩
theorem ZjD {b:Bool}{K:Yad}{H:Hp}{a:Addr}{xs:List V}{i:Nat} (q:SqB b K H a xs) (hi:i<xs.length):(IteB b K a).go i H:=by
 cases b <;> exact⟨xs,xs[i],q,Yac hi⟩
theorem Zhf {b:Bool}{K:Yad}{H H':Hp}{a:Addr}{xs:List V}{i:Nat}{x:V} (q:SqB b K H a xs) (y:(IteB b K a).yld i H x H'):∃ p z,H p=none/\x=.ref p/\H'=upd H p (.tup [.int i,z])/\xs[i]?=some z:=by
 cases b with
 | true=>obtain⟨p,z,hp,e1,e2,y⟩:=y;exact⟨p,z,hp,e1,e2,y xs q⟩
 | false=>obtain⟨p,z,hp,e1,e2,y⟩:=y;exact⟨p,z,hp,e1,e2,y xs q⟩
theorem ZfA {b:Bool}{K:Yad}{H:Hp}{a:Addr}{xs:List V}{i:Nat} (q:SqB b K H a xs) (hi:xs.length<=i):(IteB b K a).stop i H:=by
 cases b <;> exact⟨xs,q,hi⟩
section
variable {b:Bool}{K:Yad}{own:List Str}{js:List Nat}{g1 g2 g:TG}{tt1 tt2 tt:TT}{wi2:TI}{te:TE}{σ τ:St}{H1 H6:Hp}{Q:VK}{a acc:Addr}{xs:List V}
theorem Za0 (Pv:Addr->Nat->Hp->Prop) (h0:∀ acc,H1 acc=none->Pv acc 0 (upd H1 acc (.lst []))) (hl:∀ acc i H,H1 acc=none->i<=xs.length->Pv acc i H->SqB b K H a xs)
  (hs:∀ acc i x H,H1 acc=none->xs[i]?=some x->Pv acc i H->g x (blkσ own js σ) H fun τ H4=>tt τ H4 fun c H5=>
   if c=true then te τ H5 fun y H6=>∃ ys,H6 acc=some (.lst ys)/\ys.length<sizeLine/\(i+1<=xs.length/\Pv acc (i+1) (upd H6 acc (.lst (ys++[y])))) else (i+1<=xs.length/\Pv acc (i+1) H5))
  (hd:∀ acc H,H1 acc=none->Pv acc xs.length H->Q (.ref acc) H):Zbg own js g tt te σ (ItlB b K a) H1 Q:=by
 intro acc hacc;refine⟨fun i H=>i<=xs.length/\Pv acc i H,xs.length,⟨Ya2 _,h0 acc hacc⟩,?_⟩;rintro i H ⟨hi,p⟩;have q:=hl acc i H hacc hi p;rcases Ybt i xs.length with hlt | hge
 ·refine .inr ⟨hlt,ZeZ q hlt,fun x H' y=>?_⟩;obtain⟨rfl,hx⟩:=Zdg q y;exact hs acc i x _ hacc hx p
 ·obtain rfl:i=xs.length:=by omega
  exact .inl ⟨Zcw q (Yap _),hd acc H hacc p⟩
theorem Zh3 (Pv:Addr->Nat->Hp->Prop) (h0:∀ acc,H1 acc=none->Pv acc 0 (upd H1 acc (.lst []))) (hl:∀ acc i H,H1 acc=none->i<=xs.length->Pv acc i H->SqB b K H a xs)
  (hs:∀ acc i x H,H1 acc=none->xs[i]?=some x->Pv acc i H->g1 x (blkσ own js σ) H fun τ H4=>tt1 τ H4 fun c H5=>
   if c=true then wi2 τ H5 fun J2 H6=>tInW g2 tt2 te τ acc J2 H6 (fun H7=>i+1<=xs.length/\Pv acc (i+1) H7) else (i+1<=xs.length/\Pv acc (i+1) H5))
  (hd:∀ acc H,H1 acc=none->Pv acc xs.length H->Q (.ref acc) H):Zex own js g1 tt1 wi2 g2 tt2 te σ (ItlB b K a) H1 Q:=by
 intro acc hacc;refine⟨fun i H=>i<=xs.length/\Pv acc i H,xs.length,⟨Ya2 _,h0 acc hacc⟩,?_⟩;rintro i H ⟨hi,p⟩;have q:=hl acc i H hacc hi p;rcases Ybt i xs.length with hlt | hge
 ·refine .inr ⟨hlt,ZeZ q hlt,fun x H' y=>?_⟩;obtain⟨rfl,hx⟩:=Zdg q y;exact hs acc i x _ hacc hx p
 ·obtain rfl:i=xs.length:=by omega
  exact .inl ⟨Zcw q (Yap _),hd acc H hacc p⟩
theorem ZgI (Pv:Addr->Nat->Hp->Prop) (h0:∀ acc,H1 acc=none->Pv acc 0 (upd H1 acc (.lst []))) (hl:∀ acc i H,H1 acc=none->i<=xs.length->Pv acc i H->SqB b K H a xs)
  (hs:∀ acc i x p H,H1 acc=none->xs[i]?=some x->Pv acc i H->H p=none->g1 (.ref p) (blkσ own js σ) (upd H p (.tup [.int i,x])) fun τ H4=>tt1 τ H4 fun c H5=>
   if c=true then wi2 τ H5 fun J2 H6=>tInW g2 tt2 te τ acc J2 H6 (fun H7=>i+1<=xs.length/\Pv acc (i+1) H7) else (i+1<=xs.length/\Pv acc (i+1) H5))
  (hd:∀ acc H,H1 acc=none->Pv acc xs.length H->Q (.ref acc) H):Zex own js g1 tt1 wi2 g2 tt2 te σ (IteB b K a) H1 Q:=by
 intro acc hacc;refine⟨fun i H=>i<=xs.length/\Pv acc i H,xs.length,⟨Ya2 _,h0 acc hacc⟩,?_⟩;rintro i H ⟨hi,p⟩;have q:=hl acc i H hacc hi p;rcases Ybt i xs.length with hlt | hge
 ·refine .inr ⟨hlt,ZjD q hlt,fun x H' y=>?_⟩;obtain⟨pa,z,hp,rfl,rfl,hx⟩:=Zhf q y;exact hs acc i z pa H hacc hx p hp
 ·obtain rfl:i=xs.length:=by omega
  exact .inl ⟨ZfA q (Yap _),hd acc H hacc p⟩
theorem ZmO {Z:Hp->Prop} (W2:Nat->Hp->Prop) (h0:W2 0 H6) (hl:∀ i H,i<=xs.length->W2 i H->SqB b K H a xs)
  (hs:∀ i x H,xs[i]?=some x->W2 i H->g2 x τ H fun τ2 H9=>tt2 τ2 H9 fun c H10=>
   if c=true then te τ2 H10 fun z H11=>∃ zs,H11 acc=some (.lst zs)/\zs.length<sizeLine/\(i+1<=xs.length/\W2 (i+1) (upd H11 acc (.lst (zs++[z])))) else (i+1<=xs.length/\W2 (i+1) H10))
  (hd:∀ H,W2 xs.length H->Z H):tInW g2 tt2 te τ acc (ItlB b K a) H6 Z:=by
 refine⟨fun i H=>i<=xs.length/\W2 i H,xs.length,⟨Ya2 _,h0⟩,?_⟩;rintro i H ⟨hi,p⟩;have q:=hl i H hi p;rcases Ybt i xs.length with hlt | hge
 ·refine .inr ⟨hlt,ZeZ q hlt,fun x H' y=>?_⟩;obtain⟨rfl,hx⟩:=Zdg q y;exact hs i x _ hx p
 ·obtain rfl:i=xs.length:=by omega
  exact .inl ⟨Zcw q (Yap _),hd H p⟩
theorem Ze0 {tb:TS}{D:Ends}{H:Hp} (Pv:Nat->St->Hp->Prop) (h0:Pv 0 σ H) (hl:∀ i σ H,i<=xs.length->Pv i σ H->SqB b K H a xs)
  (hs:∀ i x σ H,xs[i]?=some x->Pv i σ H->g x σ H fun σ2 H2=>tb { D with nx:=Pv (i+1),ct:=Pv (i+1),bk:=D.nx } σ2 H2) (hd:∀ σ H,Pv xs.length σ H->D.nx σ H) :
  ∃ W:Nat->Nat->St->Hp->Prop,(∃ m,W 0 m σ H)/\∀ i m σ H,W i m σ H ->
   ((ItlB b K a).stop i H/\D.nx σ H)∨((ItlB b K a).go i H/\∃ N:St->Hp->Prop,(∀ σ' H',N σ' H'->∃ m',m'<m/\W (i+1) m' σ' H')/\∀ x H',(ItlB b K a).yld i H x H'->g x σ H' fun σ2 H2=>tb { D with nx:=N,ct:=N,bk:=D.nx } σ2 H2):=by
 refine⟨fun i m σ H=>m=xs.length - i/\i<=xs.length/\Pv i σ H,⟨xs.length,by simp,Ya2 _,h0⟩,?_⟩;rintro i m σ H ⟨rfl,hi,p⟩;have q:=hl i σ H hi p;rcases Ybt i xs.length with hlt | hge
 ·refine .inr ⟨ZeZ q hlt,Pv (i+1),fun σ' H' z=>⟨xs.length - (i+1),by omega,rfl,hlt,z⟩,fun x H' y=>?_⟩;obtain⟨rfl,hx⟩:=Zdg q y;exact hs i x σ _ hx p
 ·obtain rfl:i=xs.length:=by omega
  exact .inl ⟨Zcw q (Yap _),hd σ H p⟩
end
end L2
namespace L2
open PySem PyProof.Rows
structure KO extends KeyOrd where
 ky:Keyed->α
namespace KO
variable {O:KO}{x y z:Keyed}
def le (O:KO) (x y:Keyed):Prop:=O.blt (O.ky y) (O.ky x)=false
theorem le_refl:O.le x x:=O.irrefl _
theorem le_trans (h1:O.le x y) (h2:O.le y z):O.le x z:=YcQ (O:=O.toKeyOrd) h1 h2
theorem le_of_lt (h:O.blt (O.ky x) (O.ky y)=true):O.le x y:=KeyOrd.klt_asymm (O:=O.toKeyOrd) h
abbrev Srt (O:KO) (l:List Keyed):Prop:=l.Pairwise O.le
end KO
def ZgD:Bool->Keyed->Array Keyed->Nat->Nat->Nat->StateT SortSt Sem (Option Nat):=sortPriv% PySem.Builtin.gallop
def Zle:Array Keyed->Array Keyed->StateT SortSt Sem (Array Keyed):=sortPriv% PySem.Builtin.mergeLo
def Zlf:Array Keyed->Array Keyed->StateT SortSt Sem (Array Keyed):=sortPriv% PySem.Builtin.mergeHi
def Zhz:Nat->StateT SortSt Sem Unit:=sortPriv% PySem.Builtin.setMinGallop
section
variable {prog:Program}{w:World}{A:Around}{E:Value->Shared->Prop}{s:Shared}{O:KO}{knd:SortKind}{ok:Keyed->Prop}{st:SortSt}
def Asks (prog:Program) (w:World) (A:Around) (s:Shared) (O:KO) (knd:SortKind) (ok:Keyed->Prop):Prop :=
 ∀ x y,ok x->ok y->∀ (E:Value->Shared->Prop) (Q:Bool->Shared->Prop),Q (O.blt (O.ky x) (O.ky y)) s->wpAny (model prog w) A (keyLt' knd x.1 y.1) Q E s
theorem Ze6 {x y:Keyed}{Q:Option Bool->SortSt->Prop} (hA:Asks prog w A s O knd ok) (hk:kindOf st=knd) (hx:ok x) (hy:ok y) (h:Q (some (O.blt (O.ky x) (O.ky y))) st):wpS (model prog w) A E s (lt' x y) Q st:=by
 rw[lt'_eq];refine wpS_bind (wpS_get ?_);rw[hk];refine wpS_bind (wpS_lift (wpAny_attempt (hA x y hx hy _ _ ⟨rfl,?_⟩)));exact wpS_pure h
theorem Zar {arr:Array Keyed}{i:Nat}{x:Keyed}{Q:Keyed->SortSt->Prop} (e:arr[i]?=some x) (h:Q x st):wpS (model prog w) A E s (elem' arr i) Q st:=by
 rw[elem'_eq,e];exact wpS_pure h
def Zj9 (left:Bool) (key:Keyed) (arr:Array Keyed) (base i:Nat):StateT SortSt Sem (Option Bool) :=
 elem' arr (base+i) >>= fun x=>if left=true then lt' x key else lt' key x >>= fun r=>pure (r.map (! ·))
theorem ZdT {left:Bool}{key:Keyed}{arr:Array Keyed}{base n hint:Nat}{Q:Option Nat->SortSt->Prop} (hA:Asks prog w A s O knd ok) (hk:kindOf st=knd) (hkey:ok key) (B:Nat->Bool)
    (hB:∀ i,i<n->∃ x,arr[base+i]?=some x/\ok x/\B i=if left=true then O.blt (O.ky x) (O.ky key) else !(O.blt (O.ky key) (O.ky x)))
    (mono:∀ i j,i<=j->j<n->B j=true->B i=true) (hh:hint<n)
    (h:∀ k,k<=n->(∀ i,i<k->B i=true)->(∀ i,k<=i->i<n->B i=false)->Q (some k) st):wpS (model prog w) A E s (ZgD left key arr base n hint) Q st:=by
  have bey:∀ i,i<n->∀ {Q':Option Bool->SortSt->Prop},Q' (some (B i)) st->wpS (model prog w) A E s (Zj9 left key arr base i) Q' st:=by
    intro i hi Q' hq;obtain⟨x,e,hx,eb⟩:=hB i hi;refine wpS_bind (Zar e ?_);rw[eb] at hq
    cases left with
    | true=>simp only[if_true] at hq ⊢;exact Ze6 hA hk hx hkey hq
    | false=>
      simp only[YaT,if_false] at hq ⊢;exact wpS_bind (Ze6 hA hk hkey hx (wpS_pure hq))
  have monoF:∀ i j,i<=j->j<n->B i=false->B j=false:=by
    intro i j hij hj hf
    cases e:B j with
    | false=>rfl
    | true=>rw[mono i j hij hj e] at hf;cases hf
  have jp:∀ lo hi,lo<=hi->hi<=n->(∀ i,i<lo->B i=true)->(∀ i,hi<=i->i<n->B i=false) ->
      wpS (model prog w) A E s (forIn [:n] ((none : Option (Option Nat)), lo, hi) fun _ c => if c.2.1 ≥ c.2.2 then pure (Ycx (none, c.2.1, c.2.2)) else Zj9 left key arr base (c.2.1 + (c.2.2 - c.2.1) / 2) >>= fun x => match x with
          | some more=>if more=true then pure (Ybo (none,c.2.1+(c.2.2 - c.2.1) / 2+1,c.2.2)) else pure (Ybo (none,c.2.1,c.2.1+(c.2.2 - c.2.1) / 2))
          | _=>pure (Ycx (some none,c.2.1,c.2.2)))
        (fun c st'=>st'=st/\∃ l k,c=(none,l,k)/\Q (some k) st) st:=by
    intro lo hi hle hin hlo hhi;refine wpS_forRange (I:=fun x c st'=>st'=st/\∃ l k,c=(none,l,k)/\l<=k/\k<=n/\k - l<=n - x/\(∀ i,i<l->B i=true)/\(∀ i,k<=i->i<n->B i=false)) ?step ?fin ⟨rfl,lo,hi,rfl,hle,hin,by omega,hlo,hhi⟩
    case fin=>
      rintro c st' ⟨rfl,l,k,rfl,h1,h2,h3,h4,h5⟩;have e:l=k:=by omega
      subst e;exact⟨rfl,l,l,rfl,h l h2 h4 h5⟩
    case step=>
      rintro x c st' _ hx ⟨rfl,l,k,rfl,h1,h2,h3,h4,h5⟩;dsimp only;by_cases hge:l ≥ k
      · rw[if_pos hge];have e:l=k:=by omega
        subst e;exact wpS_pure ⟨rfl,l,l,rfl,h l h2 h4 h5⟩
      · rw[if_neg hge];have hm:l+(k - l) / 2<k:=by omega
        refine wpS_bind (bey _ (by omega) ?_)
        cases e:B (l+(k - l) / 2) with
        | true=>
          simp only[if_true];exact wpS_pure ⟨rfl,_,_,rfl,by omega,h2,by omega,fun i hi=>mono i _ (by (clear hm hge h3 h2 h1 hx hin hle hh;omega)) (by omega) e,h5⟩
        | false=>
          simp only[YaT,if_false];exact wpS_pure ⟨rfl,_,_,rfl,by (clear hm hge h3 h2 h1 hx hin hle hh;omega),by omega,by omega,h4,fun i h6 h7=>monoF _ i h6 h7 e⟩
  refine wpS_bind (bey hint hh ?_);dsimp only
  cases e0:B hint with
  | true=>
    simp only[if_true];refine wpS_bind (wpS_mono (wpS_forRange (I:=fun x c st'=>st'=st/\∃ l k,c=((none:Option (Option Nat)),l,k)/\l<k/\x+1<=k/\hint+l<n/\B (hint+l)=true)
      (Q:=fun c st'=>st'=st/\∃ l k,c=((none:Option (Option Nat)),l,k)/\l<k/\hint+l<n/\B (hint+l)=true/\(n - hint<=k∨(hint+k<n/\B (hint+k)=false))) ?step ?fin ⟨rfl,0,1,rfl,by omega,by omega,hh,e0⟩) ?post)
    case fin=>
      rintro c st' ⟨rfl,l,k,rfl,h1,h2,h3,h4⟩;exact⟨rfl,l,k,rfl,h1,h3,h4,.inl (by omega)⟩
    case step=>
      rintro x c st' _ hx ⟨rfl,l,k,rfl,h1,h2,h3,h4⟩;dsimp only;by_cases hge:k ≥ n - hint
      · rw[if_pos hge];exact wpS_pure ⟨rfl,l,k,rfl,h1,h3,h4,.inl hge⟩
      · rw[if_neg hge];refine wpS_bind (bey (hint+k) (by omega) ?_)
        cases e:B (hint+k) with
        | true=>
          simp only[Ydn,YaT,if_false];exact wpS_pure ⟨rfl,_,_,rfl,by omega,by omega,by omega,e⟩
        | false=>
          simp only[Bool.not_false,if_true];exact wpS_pure ⟨rfl,l,k,rfl,h1,h3,h4,.inr ⟨by omega,e⟩⟩
    case post=>
      rintro c st' ⟨rfl,l,k,rfl,h1,h3,h4,h5⟩;dsimp only;refine wpS_bind (wpS_mono (jp (hint+l+1) (hint+min k (n - hint)) (by omega) (by omega) (fun i hi=>mono i (hint+l) (by omega) h3 h4) (fun i h6 h7=>?_)) ?_)
      · rcases h5 with h5 | ⟨h5,h8⟩
        · omega
        · exact monoF (hint+k) i (by omega) h7 h8
      · rintro c st' ⟨rfl,l,k,rfl,q⟩;exact wpS_pure q
  | false=>
    simp only[YaT,if_false];refine wpS_bind (wpS_mono (wpS_forRange (I:=fun x c st'=>st'=st/\∃ l k,c=((none:Option (Option Nat)),l,k)/\l<k/\x+1<=k/\l<=hint/\B (hint - l)=false)
      (Q:=fun c st'=>st'=st/\∃ l k,c=((none:Option (Option Nat)),l,k)/\l<k/\l<=hint/\B (hint - l)=false/\(hint+1<=k∨(k<=hint/\B (hint - k)=true))) ?step ?fin ⟨rfl,0,1,rfl,by omega,by omega,by omega,e0⟩) ?post)
    case fin=>
      rintro c st' ⟨rfl,l,k,rfl,h1,h2,h3,h4⟩;exact⟨rfl,l,k,rfl,h1,h3,h4,.inl (by omega)⟩
    case step=>
      rintro x c st' _ hx ⟨rfl,l,k,rfl,h1,h2,h3,h4⟩;dsimp only;by_cases hge:k ≥ hint+1
      · rw[if_pos hge];exact wpS_pure ⟨rfl,l,k,rfl,h1,h3,h4,.inl hge⟩
      · rw[if_neg hge];refine wpS_bind (bey (hint - k) (by omega) ?_)
        cases e:B (hint - k) with
        | true=>
          simp only[if_true];exact wpS_pure ⟨rfl,l,k,rfl,h1,h3,h4,.inr ⟨by omega,e⟩⟩
        | false=>
          simp only[YaT,if_false];exact wpS_pure ⟨rfl,_,_,rfl,by omega,by omega,by omega,e⟩
    case post=>
      rintro c st' ⟨rfl,l,k,rfl,h1,h3,h4,h5⟩;dsimp only;refine wpS_bind (wpS_mono (jp (hint+1 - min k (hint+1)) (hint - l) (by omega) (by omega) (fun i hi=>?_) (fun i h6 h7=>monoF _ i h6 h7 h4)) ?_)
      · rcases h5 with h5 | ⟨h5,h8⟩
        · omega
        · exact mono i (hint - k) (by omega) (by omega) h8
      · rintro c st' ⟨rfl,l,k,rfl,q⟩;exact wpS_pure q
end
section
variable {O:KO}{a b out:List Keyed}{ia ib:Nat}{x:Keyed}
theorem ZgG {l:List Keyed}{i:Nat}{x:Keyed} (e:l[i]?=some x):l.drop i=x::l.drop (i+1):=by
 obtain⟨h,rfl⟩:=Yab.mp e;exact YeF h
theorem Zhj (a:Array Keyed) (i:Nat):(a.extract i a.size).toList=a.toList.drop i:=by
 rw[YcV];simp only[YeV];exact YaY (by simp)
theorem ZgE (a:Array Keyed) (i k:Nat):(a.extract i (i+k)).toList=(a.toList.drop i).take k:=by
 rw[YcV];simp[YeV]
structure MI (O:KO) (a b out:List Keyed) (ia ib:Nat):Prop where
 perm:(out++(a.drop ia++b.drop ib)).Perm (a++b)
 srt:O.Srt out
 le:∀ x∈out,∀ y∈a.drop ia++b.drop ib,O.le x y
theorem ZgS (h:O.Srt out) (hx:∀ y∈out,O.le y x):O.Srt (out++[x]) :=
 Ya0.mpr ⟨h,Ydl _ _,fun y hy z hz=>by rw[Yaj.mp hz];exact hx y hy⟩
theorem MI.takeA (h:MI O a b out ia ib) (sa:O.Srt a) (e:a[ia]?=some x) (hb:∀ y∈b.drop ib,O.le x y):MI O a b (out++[x]) (ia+1) ib:=by
 have ed:=ZgG e;have sd:O.Srt (x::a.drop (ia+1)):=ed ▸ sa.drop;refine⟨?_,ZgS h.srt fun y hy=>h.le y hy x (by rw[ed];simp),fun y hy z hz=>?_⟩
 ·have p:=h.perm;rw[ed] at p;simpa using p
 ·rcases Yah.mp hy with hy | hy
  ·refine h.le y hy z ?_;rw[ed];rcases Yah.mp hz with hz | hz
   ·exact Ya1 _ (Yas _ hz)
   ·exact YaI _ hz
  ·rw[Yaj.mp hy];rcases Yah.mp hz with hz | hz
   ·exact (Ybf.mp sd).1 z hz
   ·exact hb z hz
theorem MI.takeB (h:MI O a b out ia ib) (sb:O.Srt b) (e:b[ib]?=some x) (ha:∀ y∈a.drop ia,O.le x y):MI O a b (out++[x]) ia (ib+1):=by
 have ed:=ZgG e;have sd:O.Srt (x::b.drop (ib+1)):=ed ▸ sb.drop;refine⟨?_,ZgS h.srt fun y hy=>h.le y hy x (by rw[ed];simp),fun y hy z hz=>?_⟩
 ·have p:=h.perm;rw[ed] at p;refine Ydj ?_ p;rw[Yax];exact YbK _ (show List.Perm (x::(a.drop ia++b.drop (ib+1))) _ from YfB.symm)
 ·rcases Yah.mp hy with hy | hy
  ·refine h.le y hy z ?_;rw[ed];rcases Yah.mp hz with hz | hz
   ·exact Ya1 _ hz
   ·exact YaI _ (Yas _ hz)
  ·rw[Yaj.mp hy];rcases Yah.mp hz with hz | hz
   ·exact ha z hz
   ·exact (Ybf.mp sd).1 z hz
theorem Zdn {l:List Keyed}{i k:Nat}{x:Keyed} (e:l[i+k]?=some x):(l.drop i).take (k+1)=(l.drop i).take k++[x]:=by
 rw[List.take_succ,Yca,e];rfl
theorem MI.takeAs (h:MI O a b out ia ib) (sa:O.Srt a):∀ k,ia+k<=a.length->(∀ i z,i<k->a[ia+i]?=some z->∀ y∈b.drop ib,O.le z y)->MI O a b (out++(a.drop ia).take k) (ia+k) ib
 | 0,_,_=>by simpa using h
 | k+1,hl,hz=>by
  have q:=MI.takeAs h sa k (by omega) fun i z hi e=>hz i z (by omega) e;have e:a[ia+k]?=some a[ia+k]:=Yac (by omega);have r:=q.takeA sa e (hz k _ (by omega) e);rw[Yax,<- Zdn e] at r;exact r
theorem MI.takeBs (h:MI O a b out ia ib) (sb:O.Srt b):∀ k,ib+k<=b.length->(∀ i z,i<k->b[ib+i]?=some z->∀ y∈a.drop ia,O.le z y)->MI O a b (out++(b.drop ib).take k) ia (ib+k)
 | 0,_,_=>by simpa using h
 | k+1,hl,hz=>by
  have q:=MI.takeBs h sb k (by omega) fun i z hi e=>hz i z (by omega) e;have e:b[ib+k]?=some b[ib+k]:=Yac (by omega);have r:=q.takeB sb e (hz k _ (by omega) e);rw[Yax,<- Zdn e] at r;exact r
def Mg (O:KO) (a b r:List Keyed):Prop:=r.Perm (a++b)/\O.Srt r
theorem MI.doneA (h:MI O a b out ia ib) (sa:O.Srt a) (e:b.length<=ib):Mg O a b (out++a.drop ia++b.drop ib):=by
 have eb:b.drop ib=[]:=List.drop_eq_nil_of_le e;refine⟨by rw[Yax];exact h.perm,?_⟩;rw[eb,Ya4];exact Ya0.mpr ⟨h.srt,sa.drop,fun x hx y hy=>h.le x hx y (Ya1 _ hy)⟩
theorem MI.doneB (h:MI O a b out ia ib) (sa:O.Srt a) (sb:O.Srt b) (hl:∀ x∈b.drop ib,∀ y∈a.drop ia,O.le x y):Mg O a b (out++b.drop ib++a.drop ia):=by
 refine⟨by rw[Yax];exact (YbK _ YbD).trans h.perm,?_⟩;rw[Yax];refine Ya0.mpr ⟨h.srt,Ya0.mpr ⟨sb.drop,sa.drop,hl⟩,fun x hx y hy=>h.le x hx y ?_⟩;rcases Yah.mp hy with hy | hy
 ·exact YaI _ hy
 ·exact Ya1 _ hy
end
section
variable {prog:Program}{w:World}{A:Around}{E:Value->Shared->Prop}{s:Shared}{O:KO}{knd:SortKind}{ok:Keyed->Prop}{st:SortSt}
theorem ZaF {α:Type}{c:Prop} [Decidable c] {p q:StateT SortSt Sem α}{Q:α->SortSt->Prop} (h1:c->wpS (model prog w) A E s p Q st) (h2:¬ c->wpS (model prog w) A E s q Q st):wpS (model prog w) A E s (if c then p else q) Q st:=by
 by_cases h:c
 ·rw[if_pos h];exact h1 h
 ·rw[if_neg h];exact h2 h
def Gal (st st':SortSt):Prop:=kindOf st'=kindOf st/\arrOf st'=arrOf st/\pendingOf st'=pendingOf st/\failedOf st'=failedOf st
theorem Gal.refl:Gal st st:=⟨rfl,rfl,rfl,rfl⟩
theorem Za7 {g:Nat}{st1:SortSt}{Q:Unit->SortSt->Prop} (hG:Gal st st1) (h:∀ st',Gal st st'->Q () st'):wpS (model prog w) A E s (Zhz g) Q st1 :=
 wpS_modify (h _ ⟨hG.1,hG.2.1,hG.2.2.1,hG.2.2.2⟩)
theorem Zcq {l:List Keyed} (sl:O.Srt l) {i j:Nat}{x y:Keyed} (hij:i<=j) (hx:l[i]?=some x) (hy:l[j]?=some y):O.le x y:=by
 obtain⟨h1,rfl⟩:=Yab.mp hx;obtain⟨h2,rfl⟩:=Yab.mp hy;rcases Yfs hij with h | h
 ·exact Ydd.mp sl i j h1 h2 h
 ·subst h;exact KO.le_refl
theorem ZaX {l:List Keyed}{i:Nat}{y:Keyed} (h:y∈l.drop i):∃ j,i<=j/\l[j]?=some y:=by
 obtain⟨j,hj,e⟩:=Ye5.mp h;exact⟨i+j,by omega,by rw[<- Yca,Yac hj,e]⟩
theorem ZcO {l:List Keyed} (sl:O.Srt l) {i:Nat}{x:Keyed} (hx:l[i]?=some x):∀ y∈l.drop i,O.le x y:=fun y hy=>
 let ⟨_,hj,e⟩:=ZaX hy
 Zcq sl hj hx e
theorem ZaI {a:Array Keyed}{i:Nat} (h:i<a.size):∃ x,a[i]?=some x/\a.toList[i]?=some x/\x∈a.toList :=
 ⟨a[i],Ycd h,by rw[Yau];exact Ycd h,by simp⟩
theorem Zep {a:Array Keyed}{i:Nat}{x:Keyed} (h:a[i]?=some x):a.toList[i]?=some x:=by rw[Yau];exact h
theorem Zb5 {key:Keyed}{a:Array Keyed}{i n hint:Nat}{Q:Option Nat->SortSt->Prop} (hA:Asks prog w A s O knd ok) (hk:kindOf st=knd) (hkey:ok key) (oka:∀ x∈a.toList,ok x) (hi:i+n<=a.size)
  (sa:∀ p q x y,i<=p->p<=q->q<i+n->a[p]?=some x->a[q]?=some y->O.le x y) (hh:hint<n)
  (h:∀ k,k<=n->(∀ j z,j<k->a[i+j]?=some z->O.le z key)->(∀ j z,k<=j->j<n->a[i+j]?=some z->O.blt (O.ky key) (O.ky z)=true)->Q (some k) st):wpS (model prog w) A E s (ZgD false key a i n hint) Q st:=by
 refine ZdT hA hk hkey (fun j=>!(O.blt (O.ky key) (O.ky (a.getD (i+j) key)))) ?_ ?_ hh ?_
 ·intro j hj;obtain⟨x,e1,_,e3⟩:=ZaI (a:=a) (i:=i+j) (by omega);refine⟨x,e1,oka x e3,?_⟩;have e4:a.getD (i+j) key=x:=by rw[Ybc,e1];rfl
  simp[e4]
 ·intro p q hpq hq hb;obtain⟨x,e1,_,_⟩:=ZaI (a:=a) (i:=i+p) (by omega);obtain⟨y,f1,_,_⟩:=ZaI (a:=a) (i:=i+q) (by omega);have e4:a.getD (i+p) key=x:=by rw[Ybc,e1];rfl
  have f4:a.getD (i+q) key=y:=by rw[Ybc,f1];rfl
  rw[f4] at hb;rw[e4];have z:O.le x key:=KO.le_trans (sa _ _ x y (by omega) (by omega) (by omega) e1 f1) (show O.blt _ _=false by simpa using hb);have z:O.blt (O.ky key) (O.ky x)=false:=z;simpa using z
 ·intro k hk1 h1 h2;refine h k hk1 (fun j z hj e=>?_) (fun j z hj hj2 e=>?_)
  ·have e4:a.getD (i+j) key=z:=by rw[Ybc,e];rfl
   have:=h1 j hj;rw[e4] at this;exact (show O.blt _ _=false by simpa using this)
  ·have e4:a.getD (i+j) key=z:=by rw[Ybc,e];rfl
   have:=h2 j hj hj2;rw[e4] at this;simpa using this
theorem Zbc {key:Keyed}{a:Array Keyed}{i n hint:Nat}{Q:Option Nat->SortSt->Prop} (hA:Asks prog w A s O knd ok) (hk:kindOf st=knd) (hkey:ok key) (oka:∀ x∈a.toList,ok x) (hi:i+n<=a.size)
  (sa:∀ p q x y,i<=p->p<=q->q<i+n->a[p]?=some x->a[q]?=some y->O.le x y) (hh:hint<n)
  (h:∀ k,k<=n->(∀ j z,j<k->a[i+j]?=some z->O.blt (O.ky z) (O.ky key)=true)->(∀ j z,k<=j->j<n->a[i+j]?=some z->O.le key z)->Q (some k) st):wpS (model prog w) A E s (ZgD true key a i n hint) Q st:=by
 refine ZdT hA hk hkey (fun j=>O.blt (O.ky (a.getD (i+j) key)) (O.ky key)) ?_ ?_ hh ?_
 ·intro j hj;obtain⟨x,e1,_,e3⟩:=ZaI (a:=a) (i:=i+j) (by omega);refine⟨x,e1,oka x e3,?_⟩;have e4:a.getD (i+j) key=x:=by rw[Ybc,e1];rfl
  simp[e4]
 ·intro p q hpq hq hb;obtain⟨x,e1,_,_⟩:=ZaI (a:=a) (i:=i+p) (by omega);obtain⟨y,f1,_,_⟩:=ZaI (a:=a) (i:=i+q) (by omega);have e4:a.getD (i+p) key=x:=by rw[Ybc,e1];rfl
  have f4:a.getD (i+q) key=y:=by rw[Ybc,f1];rfl
  rw[f4] at hb;rw[e4];exact KeyOrd.klt_of_kle_of_klt (O:=O.toKeyOrd) (sa _ _ x y (by omega) (by omega) (by omega) e1 f1) hb
 ·intro k hk1 h1 h2;refine h k hk1 (fun j z hj e=>?_) (fun j z hj hj2 e=>?_)
  ·have e4:a.getD (i+j) key=z:=by rw[Ybc,e];rfl
   have:=h1 j hj;rw[e4] at this;exact this
  ·have e4:a.getD (i+j) key=z:=by rw[Ybc,e];rfl
   have:=h2 j hj hj2;rw[e4] at this;exact this
theorem srtA {a:Array Keyed} (sa:O.Srt a.toList) (i n:Nat):∀ p q x y,i<=p->p<=q->q<i+n->a[p]?=some x->a[q]?=some y->O.le x y:=fun p q x y _ h _ e1 e2=>Zcq sa h (Zep e1) (Zep e2)
theorem ZfY {a b:Array Keyed}{Q:Array Keyed->SortSt->Prop} (hA:Asks prog w A s O knd ok) (hk:kindOf st=knd) (oka:∀ x∈a.toList,ok x) (okb:∀ x∈b.toList,ok x) (sa:O.Srt a.toList) (sb:O.Srt b.toList) (ha:1<=a.size) (hb:1<=b.size)
  (hfirst:∀ y,b[0]?=some y->∀ x∈a.toList,O.le y x) (hlast:∀ z,a[a.size - 1]?=some z->∀ y∈b.toList,O.blt (O.ky y) (O.ky z)=true)
  (h:∀ r st',Gal st st'->Mg O a.toList b.toList r.toList->Q r st'):wpS (model prog w) A E s (Zle a b) Q st:=by
 obtain⟨b0,eb0,eb0',_⟩:=ZaI (a:=b) (i:=0) (by omega);have done:∀ {out:Array Keyed}{ia ib:Nat},MI O a.toList b.toList out.toList ia ib->b.size<=ib->Mg O a.toList b.toList (out++a.extract ia a.size++b.extract ib b.size).toList:=by
  intro out ia ib m hl;rw[Ybg,Ybg,Zhj,Zhj];exact m.doneA sa hl
 have last:∀ {out:Array Keyed}{ia ib:Nat},MI O a.toList b.toList out.toList ia ib->ia+1=a.size->Mg O a.toList b.toList (out++b.extract ib b.size++a.extract ia a.size).toList:=by
  intro out ia ib m hl;rw[Ybg,Ybg,Zhj,Zhj];refine m.doneB sa sb fun x hx y hy=>?_;obtain⟨j,hj,e⟩:=ZaX hy;have hj2:j<a.size:=(Yab.mp e).1
  have e2:j=a.size - 1:=by omega
  rw[e2] at e;rw[Yau] at e;exact KO.le_of_lt (hlast y e x (Ya3 hx))
 have pB:∀ {out:Array Keyed}{ia ib:Nat}{y:Keyed},MI O a.toList b.toList out.toList ia ib->b[ib]?=some y->(∀ z∈a.toList.drop ia,O.le y z)->MI O a.toList b.toList (out.push y).toList ia (ib+1):=by
  intro out ia ib y m e hz;rw[YcM];exact m.takeB sb (Zep e) hz
 have pA:∀ {out:Array Keyed}{ia ib:Nat}{y:Keyed},MI O a.toList b.toList out.toList ia ib->a[ia]?=some y->(∀ z∈b.toList.drop ib,O.le y z)->MI O a.toList b.toList (out.push y).toList (ia+1) ib:=by
  intro out ia ib y m e hz;rw[YcM];exact m.takeA sa (Zep e) hz
 refine wpS_bind (wpS_lift (wpAny_rule ⟨rfl,?_⟩));refine wpS_bind (Zar eb0 ?_);have m0:MI O a.toList b.toList #[b0].toList 0 1 :=
  MI.takeB (out:=[]) (ib:=0) ⟨by simp,Yb4,fun x hx=>by cases hx⟩ sb eb0' (by simpa using hfirst b0 eb0)
 dsimp only;by_cases c1:1=b.size
 ·rw[if_pos (by simpa using c1)];exact wpS_pure (h _ _ Gal.refl (done m0 (by omega)))
 rw[if_neg (by simpa using c1)];by_cases c2:0+1=a.size
 ·rw[if_pos (by simpa using c2)];exact wpS_pure (h _ _ Gal.refl (last m0 (by omega)))
 rw[if_neg (by simpa using c2)];refine wpS_bind (wpS_get ?_);refine wpS_bind (wpS_mono (wpS_forRange
  (I:=fun x c st'=>Gal st st'/\∃ (out:Array Keyed) (ia ib g:Nat),c=((none:Option (Array Keyed)),out,ia,ib,g)/\MI O a.toList b.toList out.toList ia ib/\ia+1<a.size/\ib<b.size/\x<=ia+ib)
  (Q:=fun c st'=>Gal st st'/\∃ (r out:Array Keyed) (ia ib g:Nat),c=(some r,out,ia,ib,g)/\Mg O a.toList b.toList r.toList) ?step ?fin ⟨Gal.refl,#[b0],0,1,gallopOf st,rfl,m0,by omega,by omega,by omega⟩) ?post)
 case fin=>
  rintro c st' ⟨_,out,ia,ib,g,rfl,_,h1,h2,h3⟩;omega
 case post=>
  rintro c st' ⟨hG,r,out,ia,ib,g,rfl,hm⟩;exact wpS_pure (h r st' hG hm)
 case step=>
  rintro x c st1 _ hx ⟨hG1,out,ia,ib,g,rfl,hm,h1,h2,h3⟩;dsimp only;have hk1:kindOf st1=knd:=hG1.1.trans hk;refine wpS_bind (wpS_mono (wpS_forRange
   (I:=fun y c st'=>st'=st1/\∃ (out:Array Keyed) (ia ib p q:Nat),c=((none:Option (Array Keyed)),out,ia,ib,p,q)/\MI O a.toList b.toList out.toList ia ib/\ia+1<a.size/\ib<b.size/\x+y<=ia+ib)
   (Q:=fun c st'=>st'=st1/\((∃ (r out:Array Keyed) (ia ib p q:Nat),c=(some r,out,ia,ib,p,q)/\Mg O a.toList b.toList r.toList) ∨
    (∃ (out:Array Keyed) (ia ib p q:Nat),c=(none,out,ia,ib,p,q)/\MI O a.toList b.toList out.toList ia ib/\ia+1<a.size/\ib<b.size/\x+1<=ia+ib))) ?step1 ?fin1 ⟨rfl,out,ia,ib,0,0,rfl,hm,h1,h2,by omega⟩) ?post1)
  case fin1=>
   rintro c st' ⟨rfl,out,ia,ib,p,q,rfl,hm,h1,h2,h3⟩;exact⟨rfl,.inr ⟨out,ia,ib,p,q,rfl,hm,h1,h2,by omega⟩⟩
  case step1=>
   rintro y c st' _ hy ⟨rfl,out,ia,ib,p,q,rfl,hm,h1,h2,h3⟩;dsimp only;obtain⟨u,eu,eu',mu⟩:=ZaI (a:=b) h2;obtain⟨v,ev,ev',mv⟩:=ZaI (a:=a) (i:=ia) (by omega);refine wpS_bind (Zar eu (wpS_bind (Zar ev ?_)));refine wpS_bind (Ze6 hA hk1 (okb u mu) (oka v mv) ?_)
   cases e:O.blt (O.ky u) (O.ky v) with
   | true=>
    simp only[if_true];refine wpS_bind (Zar eu ?_);have m2:=pB hm eu fun z hz=>KO.le_trans (KO.le_of_lt e) (ZcO sa ev' z hz);by_cases c3:ib+1=b.size
    ·rw[if_pos (by simpa using c3)];exact wpS_pure ⟨rfl,.inl ⟨_,_,_,_,_,_,rfl,done m2 (by (clear h3 h2 h1 hy hx c2 c1 hb ha;omega))⟩⟩
    rw[if_neg (by simpa using c3)];refine ZaF (fun _=>?_) (fun _=>?_)
    ·exact wpS_pure ⟨rfl,.inr ⟨_,_,_,_,_,rfl,m2,by (clear c3 h3 h2 hy hx c2 c1 hb ha;omega),by omega,by (clear c3 h2 h1 hy hx c2 c1 hb ha;omega)⟩⟩
    ·exact wpS_pure ⟨rfl,_,_,_,_,_,rfl,m2,by (clear c3 h3 h2 hy hx c2 c1 hb ha;omega),by omega,by (clear c3 h2 h1 hy hx c2 c1 hb ha;omega)⟩
   | false=>
    simp only[YaT,if_false];refine wpS_bind (Zar ev ?_);have m2:=pA hm ev fun z hz=>KO.le_trans (show O.le v u from e) (ZcO sb eu' z hz);by_cases c3:ia+1+1=a.size
    ·rw[if_pos (by simpa using c3)];exact wpS_pure ⟨rfl,.inl ⟨_,_,_,_,_,_,rfl,last m2 c3⟩⟩
    rw[if_neg (by simpa using c3)];refine ZaF (fun _=>?_) (fun _=>?_)
    ·exact wpS_pure ⟨rfl,.inr ⟨_,_,_,_,_,rfl,m2,by omega,by (clear c3 h3 h1 hy hx c2 c1 hb ha;omega),by (clear c3 h2 h1 hy hx c2 c1 hb ha;omega)⟩⟩
    ·exact wpS_pure ⟨rfl,_,_,_,_,_,rfl,m2,by omega,by (clear c3 h3 h1 hy hx c2 c1 hb ha;omega),by (clear c3 h2 h1 hy hx c2 c1 hb ha;omega)⟩
  case post1=>
   rintro c st' ⟨rfl,⟨r,out,ia,ib,p,q,rfl,hr⟩ | ⟨out,ia,ib,p,q,rfl,hm,h1,h2,h3⟩⟩
   ·exact wpS_pure ⟨hG1,_,_,_,_,_,rfl,hr⟩
   dsimp only;refine wpS_bind (wpS_lift (wpAny_rule ⟨rfl,?_⟩));refine wpS_bind (wpS_mono (wpS_forRange
    (I:=fun y c st'=>Gal st st'/\∃ (out:Array Keyed) (ia ib g p q:Nat),c=((none:Option (Array Keyed)),out,ia,ib,g,p,q)/\MI O a.toList b.toList out.toList ia ib/\ia+1<a.size/\ib<b.size/\x+1<=ia+ib)
    (Q:=fun c st'=>Gal st st'/\((∃ (r out:Array Keyed) (ia ib g p q:Nat),c=(some r,out,ia,ib,g,p,q)/\Mg O a.toList b.toList r.toList) ∨
     (∃ (out:Array Keyed) (ia ib g p q:Nat),c=(none,out,ia,ib,g,p,q)/\MI O a.toList b.toList out.toList ia ib/\ia+1<a.size/\ib<b.size/\x+1<=ia+ib))) ?step2 ?fin2 ⟨hG1,out,ia,ib,g+1,p,q,rfl,hm,h1,h2,h3⟩) ?post2)
   case fin2=>
    rintro c st' ⟨hG,out,ia,ib,g,p,q,rfl,hm,h1,h2,h3⟩;exact⟨hG,.inr ⟨out,ia,ib,g,p,q,rfl,hm,h1,h2,h3⟩⟩
   case post2=>
    rintro c st' ⟨hG,⟨r,out,ia,ib,g,p,q,rfl,hr⟩ | ⟨out,ia,ib,g,p,q,rfl,hm,h1,h2,h3⟩⟩
    ·exact wpS_pure ⟨hG,_,_,_,_,_,rfl,hr⟩
    exact wpS_bind (Za7 hG fun st2 hG2=>wpS_pure ⟨hG2,_,_,_,_,rfl,hm,h1,h2,h3⟩)
   case step2=>
    rintro y c st' _ hy ⟨hG,out,ia,ib,g,p,q,rfl,hm,h1,h2,h3⟩;dsimp only;obtain⟨u,eu,eu',mu⟩:=ZaI (a:=b) h2;refine ZaF (fun cg=>?_) (fun cg=>?_)
    all_goals
     refine wpS_bind (Za7 hG fun st2 hG2=>wpS_bind (Zar eu ?_));refine wpS_bind (Zb5 hA (hG2.1.trans hk) (okb u mu) oka (by (clear cg h3 h2 hy hx c2 c1 hb ha;omega)) (srtA sa _ _) (by (clear cg h3 h2 hy hx c2 c1 hb ha;omega)) fun k hk1 b1 b2=>?_);have m3:=hm.takeAs sa k (by simp;(clear cg h3 h2 hy hx c2 c1 hb ha;omega)) fun i z hi e y hy=>KO.le_trans (b1 i z hi (by rw[<- Yau];exact e)) (ZcO sb eu' y hy);have hu:∀ z∈a.toList.drop (ia+k),O.le u z:=by
      intro z hz;obtain⟨j,hj,e⟩:=ZaX hz;have hj2:j<a.size:=(Yab.mp e).1
      refine KO.le_of_lt (b2 (j - ia) z (by (clear hj2 hk1 cg h3 h2 h1 hy hx c2 c1 hb ha;omega)) (by (clear hj hk1 cg h3 h2 hy hx c2 c1 hb ha;omega)) ?_);rw[show ia+(j - ia)=j by (clear hj2 hk1 cg h3 h2 h1 hy hx c2 c1 hb ha;omega),<- Yau];exact e
     have hka:ia+k<a.size:=by
      rcases Yfs hk1 with z | z
      ·(clear hk1 cg h3 h2 h1 hy hx c2 c1 hb ha;omega)
      ·obtain⟨zl,el,_,_⟩:=ZaI (a:=a) (i:=a.size - 1) (by (clear z hk1 cg h3 h2 h1 hy hx c2 c1 hb ha;omega));have q1:=hlast zl el u mu;have q2:=b1 (a.size - 1 - ia) zl (by (clear hk1 cg h3 h2 hy hx c2 c1 hb ha;omega)) (by rw[show ia+(a.size - 1 - ia)=a.size - 1 by (clear z hk1 cg h3 h2 hy hx c2 c1 hb ha;omega)];exact el);rw[show O.blt (O.ky u) (O.ky zl)=false from q2] at q1;cases q1
     dsimp only;by_cases ck:k > 0
     ·rw[if_pos ck];rw[<- ZgE,<- Ybg] at m3;by_cases c3:ia+k+1=a.size
      ·rw[if_pos (by simpa using c3)];exact wpS_pure ⟨hG2,.inl ⟨_,_,_,_,_,_,_,rfl,last m3 c3⟩⟩
      rw[if_neg (by simpa using c3),if_neg (by simp;(clear c3 ck hk1 cg h3 h2 h1 hy hx c2 c1 hb ha;omega))];refine wpS_bind (Zar eu ?_);have m4:=pB m3 eu hu;by_cases c4:ib+1=b.size
      ·rw[if_pos (by simpa using c4)];exact wpS_pure ⟨hG2,.inl ⟨_,_,_,_,_,_,_,rfl,done m4 (by (clear c3 ck hka hk1 cg h3 h2 h1 hy hx c2 c1 hb ha;omega))⟩⟩
      rw[if_neg (by simpa using c4)];obtain⟨v,ev,ev',mv⟩:=ZaI (a:=a) (i:=ia+k) (by (clear c4 c3 ck hk1 cg h3 h2 h1 hy hx c2 c1 hb ha;omega));refine wpS_bind (Zar ev ?_);refine wpS_bind (Zbc hA (hG2.1.trans hk) (oka v mv) okb (by (clear c4 c3 ck hka hk1 cg h3 h1 hy hx c2 c1 hb ha;omega)) (srtA sb _ _) (by (clear c3 ck hka hk1 cg h3 h1 hy hx c2 c1 hb ha;omega)) fun k2 hk2 d1 d2=>?_);have m5:=m4.takeBs sb k2 (by simp;(clear c4 c3 ck hka hk1 cg h3 h1 hy hx c2 c1 hb ha;omega)) fun i z hi e y hy=>KO.le_trans (KO.le_of_lt (d1 i z hi (by rw[<- Yau];exact e))) (ZcO sa ev' y hy);have hv:∀ z∈b.toList.drop (ib+1+k2),O.le v z:=by
       intro z hz;obtain⟨j,hj,e⟩:=ZaX hz;have hj2:j<b.size:=(Yab.mp e).1
       refine d2 (j - (ib+1)) z (by (clear hj2 hk2 c4 c3 ck hka hk1 cg h3 h2 h1 hy hx c2 c1 hb ha;omega)) (by (clear hj hk2 c3 ck hka hk1 cg h3 h1 hy hx c2 c1 hb ha;omega)) ?_;rw[show ib+1+(j - (ib+1))=j by (clear hj2 hk2 c4 c3 ck hka hk1 cg h3 h2 h1 hy hx c2 c1 hb ha;omega),<- Yau];exact e
      dsimp only;by_cases ck2:k2 > 0
      ·rw[if_pos ck2];rw[<- ZgE,<- Ybg] at m5;by_cases c6:ib+1+k2=b.size
       ·rw[if_pos (by simpa using c6)];exact wpS_pure ⟨hG2,.inl ⟨_,_,_,_,_,_,_,rfl,done m5 (by (clear ck2 hk2 c4 c3 ck hka hk1 cg h3 h2 h1 hy hx c2 c1 hb ha;omega))⟩⟩
       rw[if_neg (by simpa using c6)];refine wpS_bind (Zar ev ?_);have m7:=pA m5 ev hv;by_cases c7:ia+k+1+1=a.size
       ·rw[if_pos (by simpa using c7)];exact wpS_pure ⟨hG2,.inl ⟨_,_,_,_,_,_,_,rfl,last m7 c7⟩⟩
       rw[if_neg (by simpa using c7)];refine ZaF (fun _=>?_) (fun _=>?_)
       ·exact wpS_pure ⟨hG2,.inr ⟨_,_,_,_,_,_,rfl,m7,by (clear c6 ck2 hk2 c4 ck hk1 cg h3 h2 h1 hy hx c2 c1 hb ha;omega),by (clear c7 ck2 c4 c3 ck hka hk1 cg h3 h1 hy hx c2 c1 hb ha;omega),by (clear c7 c6 ck2 hk2 c4 c3 ck hka hk1 cg h2 h1 hy hx c2 c1 hb ha;omega)⟩⟩
       ·exact wpS_pure ⟨hG2,_,_,_,_,_,_,rfl,m7,by (clear c6 ck2 hk2 c4 ck hk1 cg h3 h2 h1 hy hx c2 c1 hb ha;omega),by (clear c7 ck2 c4 c3 ck hka hk1 cg h3 h1 hy hx c2 c1 hb ha;omega),by (clear c7 c6 ck2 hk2 c4 c3 ck hka hk1 cg h2 h1 hy hx c2 c1 hb ha;omega)⟩
      ·rw[if_neg ck2];have k0:k2=0:=by (clear hk2 c4 c3 ck hka hk1 cg h3 h2 h1 hy hx c2 c1 hb ha;omega)
       subst k0;rw[YbR,Ya4] at m5;refine wpS_bind (Zar ev ?_);have m7:=pA m5 ev hv;by_cases c7:ia+k+1+1=a.size
       ·rw[if_pos (by simpa using c7)];exact wpS_pure ⟨hG2,.inl ⟨_,_,_,_,_,_,_,rfl,last m7 c7⟩⟩
       rw[if_neg (by simpa using c7)];refine ZaF (fun _=>?_) (fun _=>?_)
       ·exact wpS_pure ⟨hG2,.inr ⟨_,_,_,_,_,_,rfl,m7,by (clear ck2 hk2 c4 ck hk1 cg h3 h2 h1 hy hx c2 c1 hb ha;omega),by (clear c7 ck2 hk2 c3 ck hka hk1 cg h3 h1 hy hx c2 c1 hb ha;omega),by (clear c7 ck2 hk2 c4 c3 ck hka hk1 cg h2 h1 hy hx c2 c1 hb ha;omega)⟩⟩
       ·exact wpS_pure ⟨hG2,_,_,_,_,_,_,rfl,m7,by (clear ck2 hk2 c4 ck hk1 cg h3 h2 h1 hy hx c2 c1 hb ha;omega),by (clear c7 ck2 hk2 c3 ck hka hk1 cg h3 h1 hy hx c2 c1 hb ha;omega),by (clear c7 ck2 hk2 c4 c3 ck hka hk1 cg h2 h1 hy hx c2 c1 hb ha;omega)⟩
     ·rw[if_neg ck];have k0:k=0:=by (clear hka hk1 cg h3 h2 h1 hy hx c2 c1 hb ha;omega)
      subst k0;rw[YbR,Ya4] at m3;refine wpS_bind (Zar eu ?_);have m4:=pB m3 eu hu;by_cases c4:ib+1=b.size
      ·rw[if_pos (by simpa using c4)];exact wpS_pure ⟨hG2,.inl ⟨_,_,_,_,_,_,_,rfl,done m4 (by (clear ck hka hk1 cg h3 h2 h1 hy hx c2 c1 hb ha;omega))⟩⟩
      rw[if_neg (by simpa using c4)];obtain⟨v,ev,ev',mv⟩:=ZaI (a:=a) (i:=ia+0) (by (clear c4 ck hka hk1 cg h3 h2 hy hx c2 c1 hb ha;omega));refine wpS_bind (Zar ev ?_);refine wpS_bind (Zbc hA (hG2.1.trans hk) (oka v mv) okb (by (clear c4 ck hka hk1 cg h3 h1 hy hx c2 c1 hb ha;omega)) (srtA sb _ _) (by (clear ck hka hk1 cg h3 h1 hy hx c2 c1 hb ha;omega)) fun k2 hk2 d1 d2=>?_);have m5:=m4.takeBs sb k2 (by simp;(clear c4 ck hka hk1 cg h3 h1 hy hx c2 c1 hb ha;omega)) fun i z hi e y hy=>KO.le_trans (KO.le_of_lt (d1 i z hi (by rw[<- Yau];exact e))) (ZcO sa ev' y hy);have hv:∀ z∈b.toList.drop (ib+1+k2),O.le v z:=by
       intro z hz;obtain⟨j,hj,e⟩:=ZaX hz;have hj2:j<b.size:=(Yab.mp e).1
       refine d2 (j - (ib+1)) z (by (clear hj2 hk2 c4 ck hka hk1 cg h3 h2 h1 hy hx c2 c1 hb ha;omega)) (by (clear hj hk2 ck hka hk1 cg h3 h1 hy hx c2 c1 hb ha;omega)) ?_;rw[show ib+1+(j - (ib+1))=j by (clear hj2 hk2 c4 ck hka hk1 cg h3 h2 h1 hy hx c2 c1 hb ha;omega),<- Yau];exact e
      dsimp only;by_cases ck2:k2 > 0
      ·rw[if_pos ck2];rw[<- ZgE,<- Ybg] at m5;by_cases c6:ib+1+k2=b.size
       ·rw[if_pos (by simpa using c6)];exact wpS_pure ⟨hG2,.inl ⟨_,_,_,_,_,_,_,rfl,done m5 (by (clear ck2 hk2 c4 ck hka hk1 cg h3 h2 h1 hy hx c2 c1 hb ha;omega))⟩⟩
       rw[if_neg (by simpa using c6)];refine wpS_bind (Zar ev ?_);have m7:=pA m5 ev hv;by_cases c7:ia+0+1+1=a.size
       ·rw[if_pos (by simpa using c7)];exact wpS_pure ⟨hG2,.inl ⟨_,_,_,_,_,_,_,rfl,last m7 c7⟩⟩
       rw[if_neg (by simpa using c7)];refine ZaF (fun _=>?_) (fun _=>?_)
       ·exact wpS_pure ⟨hG2,.inr ⟨_,_,_,_,_,_,rfl,m7,by (clear c6 ck2 hk2 c4 ck hka hk1 cg h3 h2 hy hx c2 c1 hb ha;omega),by (clear c7 ck2 c4 ck hka hk1 cg h3 h1 hy hx c2 c1 hb ha;omega),by (clear c7 c6 ck2 hk2 c4 ck hka hk1 cg h2 h1 hy hx c2 c1 hb ha;omega)⟩⟩
       ·exact wpS_pure ⟨hG2,_,_,_,_,_,_,rfl,m7,by (clear c6 ck2 hk2 c4 ck hka hk1 cg h3 h2 hy hx c2 c1 hb ha;omega),by (clear c7 ck2 c4 ck hka hk1 cg h3 h1 hy hx c2 c1 hb ha;omega),by (clear c7 c6 ck2 hk2 c4 ck hka hk1 cg h2 h1 hy hx c2 c1 hb ha;omega)⟩
      ·rw[if_neg ck2];have k0:k2=0:=by (clear hk2 c4 ck hka hk1 cg h3 h2 h1 hy hx c2 c1 hb ha;omega)
       subst k0;rw[YbR,Ya4] at m5;refine wpS_bind (Zar ev ?_);have m7:=pA m5 ev hv;by_cases c7:ia+0+1+1=a.size
       ·rw[if_pos (by simpa using c7)];exact wpS_pure ⟨hG2,.inl ⟨_,_,_,_,_,_,_,rfl,last m7 c7⟩⟩
       rw[if_neg (by simpa using c7)];refine ZaF (fun _=>?_) (fun _=>?_)
       ·exact wpS_pure ⟨hG2,.inr ⟨_,_,_,_,_,_,rfl,m7,by (clear ck2 hk2 c4 ck hka hk1 cg h3 h2 hy hx c2 c1 hb ha;omega),by (clear c7 ck2 hk2 ck hka hk1 cg h3 h1 hy hx c2 c1 hb ha;omega),by (clear c7 ck2 hk2 c4 ck hka hk1 cg h2 h1 hy hx c2 c1 hb ha;omega)⟩⟩
       ·exact wpS_pure ⟨hG2,_,_,_,_,_,_,rfl,m7,by (clear ck2 hk2 c4 ck hka hk1 cg h3 h2 hy hx c2 c1 hb ha;omega),by (clear c7 ck2 hk2 ck hka hk1 cg h3 h1 hy hx c2 c1 hb ha;omega),by (clear c7 ck2 hk2 c4 ck hka hk1 cg h2 h1 hy hx c2 c1 hb ha;omega)⟩
end
section
variable {O:KO}{a b out:List Keyed}{na nb:Nat}{x:Keyed}
structure MH (O:KO) (a b out:List Keyed) (na nb:Nat):Prop where
 perm:(a.take na++b.take nb++out.reverse).Perm (a++b)
 srt:O.Srt out.reverse
 le:∀ x∈a.take na++b.take nb,∀ y∈out,O.le x y
theorem Zdo {l:List Keyed}{i:Nat}{x:Keyed} (e:l[i]?=some x):l.take (i+1)=l.take i++[x]:=by
 rw[List.take_succ,e];rfl
theorem MH.takeA (h:MH O a b out (na+1) nb) (sa:O.Srt a) (e:a[na]?=some x) (hb:∀ y∈b.take nb,O.le y x):MH O a b (out++[x]) na nb:=by
 have ed:=Zdo e;have sd:O.Srt (a.take na++[x]):=ed ▸ sa.take;have hx:x∈a.take (na+1)++b.take nb:=by rw[ed];simp
 refine⟨?_,?_,fun y hy z hz=>?_⟩
 ·have p:=h.perm;rw[ed] at p;refine Ydj ?_ p;rw[YcY];simp only[YcN,Ydp,Yeq,Yax,YeT];refine YbK _ ?_;exact (YfB (a:=x) (l₁:=b.take nb) (l₂:=out.reverse))
 ·rw[YcY];exact Ybf.mpr ⟨fun y hy=>h.le x hx y (Ydq.mp hy),h.srt⟩
 ·rcases Yah.mp hz with hz | hz
  ·refine h.le y ?_ z hz;rw[ed];rcases Yah.mp hy with hy | hy
   ·exact Ya1 _ (Ya1 _ hy)
   ·exact YaI _ hy
  ·rw[Yaj.mp hz];rcases Yah.mp hy with hy | hy
   ·exact (Ya0.mp sd).2.2 y hy x (by simp)
   ·exact hb y hy
theorem MH.takeB (h:MH O a b out na (nb+1)) (sb:O.Srt b) (e:b[nb]?=some x) (ha:∀ y∈a.take na,O.le y x):MH O a b (out++[x]) na nb:=by
 have ed:=Zdo e;have sd:O.Srt (b.take nb++[x]):=ed ▸ sb.take;have hx:x∈a.take na++b.take (nb+1):=by rw[ed];simp
 refine⟨?_,?_,fun y hy z hz=>?_⟩
 ·have p:=h.perm;rw[ed] at p;rw[YcY];simpa using p
 ·rw[YcY];exact Ybf.mpr ⟨fun y hy=>h.le x hx y (Ydq.mp hy),h.srt⟩
 ·rcases Yah.mp hz with hz | hz
  ·refine h.le y ?_ z hz;rw[ed];rcases Yah.mp hy with hy | hy
   ·exact Ya1 _ hy
   ·exact YaI _ (Ya1 _ hy)
  ·rw[Yaj.mp hz];rcases Yah.mp hy with hy | hy
   ·exact ha y hy
   ·exact (Ya0.mp sd).2.2 y hy x (by simp)
theorem ZgV {l:List Keyed}{i d:Nat}{x:Keyed} (e:l[i]?=some x):(l.drop i).take (d+1)=x::(l.drop (i+1)).take d:=by
 rw[ZgG e];rfl
theorem MH.takeAs (h:MH O a b out na nb) (sa:O.Srt a) (hn:na<=a.length):∀ d,d<=na->(∀ i z,na - d<=i->i<na->a[i]?=some z->∀ y∈b.take nb,O.le y z)->MH O a b (out++((a.drop (na - d)).take d).reverse) (na - d) nb
 | 0,_,_=>by simpa using h
 | d+1,hl,hz=>by
  have q:=MH.takeAs h sa hn d (by omega) fun i z h1 h2 e=>hz i z (by omega) h2 e;have e:a[na - (d+1)]?=some a[na - (d+1)]:=Yac (by omega);rw[show na - d=na - (d+1)+1 by omega] at q;have r:=q.takeA sa e (hz _ _ (by omega) (by omega) e);rw[Yax,<- YcN,<- ZgV e] at r;exact r
theorem MH.takeBs (h:MH O a b out na nb) (sb:O.Srt b) (hn:nb<=b.length):∀ d,d<=nb->(∀ i z,nb - d<=i->i<nb->b[i]?=some z->∀ y∈a.take na,O.le y z)->MH O a b (out++((b.drop (nb - d)).take d).reverse) na (nb - d)
 | 0,_,_=>by simpa using h
 | d+1,hl,hz=>by
  have q:=MH.takeBs h sb hn d (by omega) fun i z h1 h2 e=>hz i z (by omega) h2 e;have e:b[nb - (d+1)]?=some b[nb - (d+1)]:=Yac (by omega);rw[show nb - d=nb - (d+1)+1 by omega] at q;have r:=q.takeB sb e (hz _ _ (by omega) (by omega) e);rw[Yax,<- YcN,<- ZgV e] at r;exact r
theorem MH.doneA (h:MH O a b out 0 nb) (sb:O.Srt b):Mg O a b (a.take 0++b.take nb++out.reverse):=by
 refine⟨h.perm,?_⟩;rw[YbR,Yeq];exact Ya0.mpr ⟨sb.take,h.srt,fun x hx y hy=>h.le x (YaI _ hx) y (Ydq.mp hy)⟩
theorem MH.doneB (h:MH O a b out na nb) (sa:O.Srt a) (sb:O.Srt b) (hl:∀ x∈b.take nb,∀ y∈a.take na,O.le x y):Mg O a b (b.take nb++a.take na++out.reverse):=by
 refine⟨(Ybr _ YbD).trans h.perm,?_⟩;refine Ya0.mpr ⟨Ya0.mpr ⟨sb.take,sa.take,hl⟩,h.srt,fun x hx y hy=>h.le x ?_ y (Ydq.mp hy)⟩;rcases Yah.mp hx with hx | hx
 ·exact YaI _ hx
 ·exact Ya1 _ hx
theorem ZaW {l:List Keyed}{i:Nat}{y:Keyed} (h:y∈l.take i):∃ j,j<i/\l[j]?=some y:=by
 obtain⟨j,hj,e⟩:=Ye5.mp h;rw[Yav] at hj;refine⟨j,by omega,?_⟩;rw[Ydi] at e;rw[Yac (by omega),e]
theorem Zjv {l:List Keyed} (sl:O.Srt l) {i:Nat}{x:Keyed} (hx:l[i]?=some x):∀ y∈l.take (i+1),O.le y x:=fun y hy=>
 let ⟨_,hj,e⟩:=ZaW hy
 Zcq sl (by omega) e hx
theorem Ze2 (a:Array Keyed) (i:Nat):(a.extract 0 i).toList=a.toList.take i:=by
 rw[YcV];simp[YeV]
theorem Ze1 (a:Array Keyed) (i n:Nat):(a.extract i n).toList=(a.toList.drop i).take (n - i):=by
 rw[YcV]
end
section
variable {prog:Program}{w:World}{A:Around}{E:Value->Shared->Prop}{s:Shared}{O:KO}{knd:SortKind}{ok:Keyed->Prop}{st:SortSt}
theorem ZfZ {a b:Array Keyed}{Q:Array Keyed->SortSt->Prop} (hA:Asks prog w A s O knd ok) (hk:kindOf st=knd) (oka:∀ x∈a.toList,ok x) (okb:∀ x∈b.toList,ok x) (sa:O.Srt a.toList) (sb:O.Srt b.toList) (ha:1<=a.size) (hb:1<=b.size)
  (hfirst:∀ y,b[0]?=some y->∀ x∈a.toList,O.blt (O.ky y) (O.ky x)=true) (hlast:∀ z,a[a.size - 1]?=some z->∀ y∈b.toList,O.le y z)
  (h:∀ r st',Gal st st'->Mg O a.toList b.toList r.toList->Q r st'):wpS (model prog w) A E s (Zlf a b) Q st:=by
 obtain⟨a0,ea0,ea0',_⟩:=ZaI (a:=a) (i:=a.size - 1) (by omega);have done:∀ {out:Array Keyed}{nb:Nat},MH O a.toList b.toList out.toList 0 nb->Mg O a.toList b.toList (a.extract 0 0++b.extract 0 nb++out.reverse).toList:=by
  intro out nb m;rw[Ybg,Ybg,Ze2,Ze2,Ycz];exact m.doneA sb
 have first:∀ {out:Array Keyed}{na:Nat},MH O a.toList b.toList out.toList na 1->Mg O a.toList b.toList (b.extract 0 1++a.extract 0 na++out.reverse).toList:=by
  intro out na m;rw[Ybg,Ybg,Ze2,Ze2,Ycz];refine m.doneB sa sb fun x hx y hy=>?_;obtain⟨j,hj,e⟩:=ZaW hx;have e2:j=0:=by omega
  rw[e2,Yau] at e;exact KO.le_of_lt (hfirst x e y (Yba hy))
 have pB:∀ {out:Array Keyed}{na nb:Nat}{y:Keyed},1<=nb->MH O a.toList b.toList out.toList na nb->b[nb - 1]?=some y->(∀ z∈a.toList.take na,O.le z y)->MH O a.toList b.toList (out.push y).toList na (nb - 1):=by
  intro out na nb y hn m e hz;rw[YcM];exact MH.takeB (by rw[show nb - 1+1=nb by omega];exact m) sb (Zep e) hz
 have pA:∀ {out:Array Keyed}{na nb:Nat}{y:Keyed},1<=na->MH O a.toList b.toList out.toList na nb->a[na - 1]?=some y->(∀ z∈b.toList.take nb,O.le z y)->MH O a.toList b.toList (out.push y).toList (na - 1) nb:=by
  intro out na nb y hn m e hz;rw[YcM];exact MH.takeA (by rw[show na - 1+1=na by omega];exact m) sa (Zep e) hz
 have leT:∀ {l:List Keyed}{i:Nat}{x:Keyed},O.Srt l->1<=i->l[i - 1]?=some x->∀ y∈l.take i,O.le y x:=by
  intro l i x sl hi e y hy;exact Zjv sl e y (by rw[show i - 1+1=i by omega];exact hy)
 refine wpS_bind (wpS_lift (wpAny_rule ⟨rfl,?_⟩));refine wpS_bind (Zar ea0 ?_);have m0:MH O a.toList b.toList #[a0].toList (a.size - 1) b.size:=by
  refine MH.takeA (out:=[]) (na:=a.size - 1) (nb:=b.size) ⟨?_,Yb4,fun x hx y hy=>by cases hy⟩ sa ea0' fun y hy=>hlast a0 ea0 y (Yba hy);rw[show a.size - 1+1=a.size by omega,YaY (by simp),YaY (by simp)];simp
 dsimp only;by_cases c1:a.size - 1=0
 ·rw[if_pos (by simpa using c1)];rw[c1] at m0 ⊢;exact wpS_pure (h _ _ Gal.refl (done m0))
 rw[if_neg (by simpa using c1)];by_cases c2:b.size=1
 ·rw[if_pos (by simpa using c2)];rw[c2] at m0;rw[c2];exact wpS_pure (h _ _ Gal.refl (first m0))
 rw[if_neg (by simpa using c2)];refine wpS_bind (wpS_get ?_);refine wpS_bind (wpS_mono (wpS_forRange
  (I:=fun x c st'=>Gal st st'/\∃ (out:Array Keyed) (na nb g:Nat),c=((none:Option (Array Keyed)),na,nb,out,g)/\MH O a.toList b.toList out.toList na nb/\1<=na/\na<=a.size/\2<=nb/\nb<=b.size/\x+na+nb<=a.size+b.size)
  (Q:=fun c st'=>Gal st st'/\∃ (r out:Array Keyed) (na nb g:Nat),c=(some r,na,nb,out,g)/\Mg O a.toList b.toList r.toList) ?step ?fin ⟨Gal.refl,#[a0],a.size - 1,b.size,gallopOf st,rfl,m0,by omega,by omega,by omega,by omega,show 0+(a.size - 1)+b.size<=_ by omega⟩) ?post)
 case fin=>
  rintro c st' ⟨_,out,na,nb,g,rfl,_,h1,h1',h2,h2',h3⟩;omega
 case post=>
  rintro c st' ⟨hG,r,out,na,nb,g,rfl,hm⟩;exact wpS_pure (h r st' hG hm)
 case step=>
  rintro x c st1 _ hx ⟨hG1,out,na,nb,g,rfl,hm,h1,h1',h2,h2',h3⟩;dsimp only;have hk1:kindOf st1=knd:=hG1.1.trans hk;refine wpS_bind (wpS_mono (wpS_forRange
   (I:=fun y c st'=>st'=st1/\∃ (out:Array Keyed) (na nb p q:Nat),c=((none:Option (Array Keyed)),na,nb,out,p,q)/\MH O a.toList b.toList out.toList na nb/\1<=na/\na<=a.size/\2<=nb/\nb<=b.size/\x+y+na+nb<=a.size+b.size)
   (Q:=fun c st'=>st'=st1/\((∃ (r out:Array Keyed) (na nb p q:Nat),c=(some r,na,nb,out,p,q)/\Mg O a.toList b.toList r.toList) ∨
    (∃ (out:Array Keyed) (na nb p q:Nat),c=(none,na,nb,out,p,q)/\MH O a.toList b.toList out.toList na nb/\1<=na/\na<=a.size/\2<=nb/\nb<=b.size/\x+1+na+nb<=a.size+b.size))) ?step1 ?fin1 ⟨rfl,out,na,nb,0,0,rfl,hm,h1,h1',h2,h2',by (clear h2' h2 h1' h1 hx c2 c1 hb ha;omega)⟩) ?post1)
  case fin1=>
   rintro c st' ⟨rfl,out,na,nb,p,q,rfl,hm,h1,h1',h2,h2',h3⟩;exact⟨rfl,.inr ⟨out,na,nb,p,q,rfl,hm,h1,h1',h2,h2',by (clear h2' h2 h1' h1 hx c2 c1 hb ha;omega)⟩⟩
  case step1=>
   rintro y c st' _ hy ⟨rfl,out,na,nb,p,q,rfl,hm,h1,h1',h2,h2',h3⟩;dsimp only;obtain⟨u,eu,eu',mu⟩:=ZaI (a:=b) (i:=nb - 1) (by (clear h3 h2 h1' h1 hy hx c2 c1 hb ha;omega));obtain⟨v,ev,ev',mv⟩:=ZaI (a:=a) (i:=na - 1) (by (clear h3 h2' h2 h1 hy hx c2 c1 hb ha;omega));refine wpS_bind (Zar eu (wpS_bind (Zar ev ?_)));refine wpS_bind (Ze6 hA hk1 (okb u mu) (oka v mv) ?_)
   cases e:O.blt (O.ky u) (O.ky v) with
   | true=>
    simp only[if_true];refine wpS_bind (Zar ev ?_);have m2:=pA h1 hm ev fun z hz=>KO.le_trans (leT sb (by (clear h3 h2' h1' h1 hy hx c2 c1 hb ha;omega)) eu' z hz) (KO.le_of_lt e);by_cases c3:na - 1=0
    ·rw[if_pos (by simpa using c3)];rw[c3] at m2 ⊢;exact wpS_pure ⟨rfl,.inl ⟨_,_,_,_,_,_,rfl,done m2⟩⟩
    rw[if_neg (by simpa using c3)];refine ZaF (fun _=>?_) (fun _=>?_)
    ·exact wpS_pure ⟨rfl,.inr ⟨_,_,_,_,_,rfl,m2,by (clear h3 h2' h2 h1' h1 hy hx c2 c1 hb ha;omega),by (clear c3 h3 h2' h2 h1 hy hx c2 c1 hb ha;omega),by (clear c3 h3 h2' h1' h1 hy hx c2 c1 hb ha;omega),by (clear c3 h3 h2 h1' h1 hy hx c2 c1 hb ha;omega),by (clear c3 h2' h2 h1' hy hx c2 c1 hb ha;omega)⟩⟩
    ·exact wpS_pure ⟨rfl,_,_,_,_,_,rfl,m2,by (clear h3 h2' h2 h1' h1 hy hx c2 c1 hb ha;omega),by (clear c3 h3 h2' h2 h1 hy hx c2 c1 hb ha;omega),by (clear c3 h3 h2' h1' h1 hy hx c2 c1 hb ha;omega),by (clear c3 h3 h2 h1' h1 hy hx c2 c1 hb ha;omega),by (clear c3 h2' h2 h1' hy hx c2 c1 hb ha;omega)⟩
   | false=>
    simp only[YaT,if_false];refine wpS_bind (Zar eu ?_);have m2:=pB (by (clear h3 h2' h1' h1 hy hx c2 c1 hb ha;omega)) hm eu fun z hz=>KO.le_trans (leT sa (by (clear h3 h2' h2 h1' hy hx c2 c1 hb ha;omega)) ev' z hz) (show O.le v u from e);by_cases c3:nb - 1=1
    ·rw[if_pos (by simpa using c3)];rw[c3] at m2 ⊢;exact wpS_pure ⟨rfl,.inl ⟨_,_,_,_,_,_,rfl,first m2⟩⟩
    rw[if_neg (by simpa using c3)];refine ZaF (fun _=>?_) (fun _=>?_)
    ·exact wpS_pure ⟨rfl,.inr ⟨_,_,_,_,_,rfl,m2,by (clear c3 h3 h2' h2 h1' hy hx c2 c1 hb ha;omega),by (clear c3 h3 h2' h2 h1 hy hx c2 c1 hb ha;omega),by (clear h3 h2' h1' h1 hy hx c2 c1 hb ha;omega),by (clear c3 h3 h2 h1' h1 hy hx c2 c1 hb ha;omega),by (clear c3 h2' h1' h1 hy hx c2 c1 hb ha;omega)⟩⟩
    ·exact wpS_pure ⟨rfl,_,_,_,_,_,rfl,m2,by (clear c3 h3 h2' h2 h1' hy hx c2 c1 hb ha;omega),by (clear c3 h3 h2' h2 h1 hy hx c2 c1 hb ha;omega),by (clear h3 h2' h1' h1 hy hx c2 c1 hb ha;omega),by (clear c3 h3 h2 h1' h1 hy hx c2 c1 hb ha;omega),by (clear c3 h2' h1' h1 hy hx c2 c1 hb ha;omega)⟩
  case post1=>
   rintro c st' ⟨rfl,⟨r,out,na,nb,p,q,rfl,hr⟩ | ⟨out,na,nb,p,q,rfl,hm,h1,h1',h2,h2',h3⟩⟩
   ·exact wpS_pure ⟨hG1,_,_,_,_,_,rfl,hr⟩
   dsimp only;refine wpS_bind (wpS_lift (wpAny_rule ⟨rfl,?_⟩));refine wpS_bind (wpS_mono (wpS_forRange
    (I:=fun y c st'=>Gal st st'/\∃ (out:Array Keyed) (na nb g p q:Nat),c=((none:Option (Array Keyed)),na,nb,out,g,p,q)/\MH O a.toList b.toList out.toList na nb/\1<=na/\na<=a.size/\2<=nb/\nb<=b.size/\x+1+na+nb<=a.size+b.size)
    (Q:=fun c st'=>Gal st st'/\((∃ (r out:Array Keyed) (na nb g p q:Nat),c=(some r,na,nb,out,g,p,q)/\Mg O a.toList b.toList r.toList) ∨
     (∃ (out:Array Keyed) (na nb g p q:Nat),c=(none,na,nb,out,g,p,q)/\MH O a.toList b.toList out.toList na nb/\1<=na/\na<=a.size/\2<=nb/\nb<=b.size/\x+1+na+nb<=a.size+b.size))) ?step2 ?fin2 ⟨hG1,out,na,nb,g+1,p,q,rfl,hm,h1,h1',h2,h2',h3⟩) ?post2)
   case fin2=>
    rintro c st' ⟨hG,out,na,nb,g,p,q,rfl,hm,h1,h1',h2,h2',h3⟩;exact⟨hG,.inr ⟨out,na,nb,g,p,q,rfl,hm,h1,h1',h2,h2',h3⟩⟩
   case post2=>
    rintro c st' ⟨hG,⟨r,out,na,nb,g,p,q,rfl,hr⟩ | ⟨out,na,nb,g,p,q,rfl,hm,h1,h1',h2,h2',h3⟩⟩
    ·exact wpS_pure ⟨hG,_,_,_,_,_,rfl,hr⟩
    exact wpS_bind (Za7 hG fun st2 hG2=>wpS_pure ⟨hG2,_,_,_,_,rfl,hm,h1,h1',h2,h2',h3⟩)
   case step2=>
    rintro y c st' _ hy ⟨hG,out,na,nb,g,p,q,rfl,hm,h1,h1',h2,h2',h3⟩;dsimp only;obtain⟨u,eu,eu',mu⟩:=ZaI (a:=b) (i:=nb - 1) (by (clear h3 h2 h1' h1 hy hx c2 c1 hb ha;omega));refine ZaF (fun cg=>?_) (fun cg=>?_)
    all_goals
     refine wpS_bind (Za7 hG fun st2 hG2=>wpS_bind (Zar eu ?_));refine wpS_bind (Zb5 hA (hG2.1.trans hk) (okb u mu) oka (by (clear cg h3 h2' h2 h1 hy hx c2 c1 hb ha;omega)) (srtA sa _ _) (by (clear cg h3 h2' h2 h1' hy hx c2 c1 hb ha;omega)) fun k hk1 b1 b2=>?_);have m3:=hm.takeAs sa (by simp;(clear hk1 cg h3 h2' h2 h1 hy hx c2 c1 hb ha;omega)) (na - k) (by (clear hk1 cg h3 h2' h2 h1' h1 hy hx c2 c1 hb ha;omega)) fun i z h6 h7 e y hy=>KO.le_trans (leT sb (by (clear h7 h6 hk1 cg h3 h2' h1' h1 hx c2 c1 hb ha;omega)) eu' y hy) (KO.le_of_lt (b2 i z (by (clear h7 cg h3 h2' h2 h1' h1 hx c2 c1 hb ha;omega)) (by (clear h6 hk1 cg h3 h2' h2 h1' h1 hx c2 c1 hb ha;omega)) (by rw[YbT,<- Yau];exact e)));rw[show na - (na - k)=k by (clear cg h3 h2' h2 h1' h1 hy hx c2 c1 hb ha;omega)] at m3;have hu:∀ z∈a.toList.take k,O.le z u:=by
      intro z hz;obtain⟨j,hj,e⟩:=ZaW hz;refine b1 j z hj ?_;rw[YbT,<- Yau];exact e
     dsimp only;by_cases ck:na - k > 0
     ·rw[if_pos ck];rw[<- Ze1,<- Ycz,<- Ybg] at m3;by_cases c3:k=0
      ·rw[if_pos (by simpa using c3)];rw[c3] at m3 ⊢;exact wpS_pure ⟨hG2,.inl ⟨_,_,_,_,_,_,_,rfl,done m3⟩⟩
      rw[if_neg (by simpa using c3)];refine wpS_bind (Zar eu ?_);have m4:=pB (by (clear c3 ck hk1 cg h3 h2' h1' h1 hy hx c2 c1 hb ha;omega)) m3 eu hu;by_cases c4:nb - 1=1
      ·rw[if_pos (by simpa using c4)];rw[c4] at m4 ⊢;exact wpS_pure ⟨hG2,.inl ⟨_,_,_,_,_,_,_,rfl,first m4⟩⟩
      rw[if_neg (by simpa using c4)];obtain⟨v,ev,ev',mv⟩:=ZaI (a:=a) (i:=k - 1) (by (clear c4 c3 ck cg h3 h2' h2 h1 hy hx c2 c1 hb ha;omega));refine wpS_bind (Zar ev ?_);refine wpS_bind (Zbc hA (hG2.1.trans hk) (oka v mv) okb (by (clear c4 c3 ck hk1 cg h3 h2 h1' h1 hy hx c2 c1 hb ha;omega)) (srtA sb _ _) (by (clear c4 c3 ck hk1 cg h3 h2' h1' h1 hy hx c2 c1 hb ha;omega)) fun k2 hk2 d1 d2=>?_);have hk20:1<=k2:=by
       rcases YdY k2 with z | z
       ·obtain⟨zl,el,_,_⟩:=ZaI (a:=b) (i:=0) (by (clear z hk2 c4 c3 ck hk1 cg h3 h2' h2 h1' h1 hy hx c2 c1 hb ha;omega));have q1:=hfirst zl el v mv;have q2:=d2 0 zl (by (clear hk2 c4 c3 ck hk1 cg h3 h2' h2 h1' h1 hy hx c2 c1 hb ha;omega)) (by (clear z hk2 c4 c3 ck hk1 cg h3 h2' h1' h1 hy hx c2 c1 hb ha;omega)) (by rw[YbT];exact el);rw[show O.blt (O.ky zl) (O.ky v)=false from q2] at q1;cases q1
       ·exact z
      have m5:=m4.takeBs sb (by simp;(clear hk20 hk2 c4 c3 ck hk1 cg h3 h2 h1' h1 hy hx c2 c1 hb ha;omega)) (nb - 1 - k2) (by (clear hk20 hk2 c4 c3 ck hk1 cg h3 h2' h2 h1' h1 hy hx c2 c1 hb ha;omega)) fun i z h6 h7 e y hy=>KO.le_trans (leT sa (by (clear h7 h6 hk20 hk2 c4 ck hk1 cg h3 h2' h2 h1' h1 hx c2 c1 hb ha;omega)) ev' y hy) (d2 i z (by (clear h7 hk20 c4 c3 ck hk1 cg h3 h2' h2 h1' h1 hx c2 c1 hb ha;omega)) (by (clear h6 hk20 hk2 c4 c3 ck hk1 cg h3 h2' h2 h1' h1 hx c2 c1 hb ha;omega)) (by rw[YbT,<- Yau];exact e));rw[show nb - 1 - (nb - 1 - k2)=k2 by (clear hk20 c4 c3 ck hk1 cg h3 h2' h2 h1' h1 hy hx c2 c1 hb ha;omega)] at m5;have hv:∀ z∈b.toList.take k2,O.le z v:=by
       intro z hz;obtain⟨j,hj,e⟩:=ZaW hz;refine KO.le_of_lt (d1 j z hj ?_);rw[YbT,<- Yau];exact e
      dsimp only;by_cases ck2:nb - 1 - k2 > 0
      ·rw[if_pos ck2];rw[<- Ze1,<- Ycz,<- Ybg] at m5;by_cases c6:k2=1
       ·rw[if_pos (by simpa using c6)];rw[c6] at m5 ⊢;exact wpS_pure ⟨hG2,.inl ⟨_,_,_,_,_,_,_,rfl,first m5⟩⟩
       rw[if_neg (by simpa using c6),if_neg (by simp;(clear c6 ck2 hk2 c4 c3 ck hk1 cg h3 h2' h2 h1' h1 hy hx c2 c1 hb ha;omega))];obtain⟨v2,ev2,ev2',mv2⟩:=ZaI (a:=a) (i:=k - 1) (by (clear c6 ck2 hk20 hk2 c4 c3 ck cg h3 h2' h2 h1 hy hx c2 c1 hb ha;omega));refine wpS_bind (Zar ev2 ?_);have ee:v2=v:=YaB (ev2.symm.trans ev);subst ee;have m7:=pA (by (clear c6 ck2 hk20 hk2 c4 ck hk1 cg h3 h2' h2 h1' h1 hy hx c2 c1 hb ha;omega)) m5 ev2 hv;by_cases c7:k - 1=0
       ·rw[if_pos (by simpa using c7)];rw[c7] at m7 ⊢;exact wpS_pure ⟨hG2,.inl ⟨_,_,_,_,_,_,_,rfl,done m7⟩⟩
       rw[if_neg (by simpa using c7)];refine ZaF (fun _=>?_) (fun _=>?_)
       ·exact wpS_pure ⟨hG2,.inr ⟨_,_,_,_,_,_,rfl,m7,by (clear c6 ck2 hk20 hk2 c4 c3 ck hk1 cg h3 h2' h2 h1' h1 hy hx c2 c1 hb ha;omega),by (clear c7 c6 ck2 hk20 hk2 c4 c3 ck cg h3 h2' h2 h1 hy hx c2 c1 hb ha;omega),by (clear c7 ck2 hk2 c4 c3 ck hk1 cg h3 h2' h2 h1' h1 hy hx c2 c1 hb ha;omega),by (clear c7 c6 ck2 hk20 c4 c3 ck hk1 cg h3 h2 h1' h1 hy hx c2 c1 hb ha;omega),by (clear c7 c6 ck2 hk20 c4 c3 ck cg h2' h2 h1' h1 hy hx c2 c1 hb ha;omega)⟩⟩
       ·exact wpS_pure ⟨hG2,_,_,_,_,_,_,rfl,m7,by (clear c6 ck2 hk20 hk2 c4 c3 ck hk1 cg h3 h2' h2 h1' h1 hy hx c2 c1 hb ha;omega),by (clear c7 c6 ck2 hk20 hk2 c4 c3 ck cg h3 h2' h2 h1 hy hx c2 c1 hb ha;omega),by (clear c7 ck2 hk2 c4 c3 ck hk1 cg h3 h2' h2 h1' h1 hy hx c2 c1 hb ha;omega),by (clear c7 c6 ck2 hk20 c4 c3 ck hk1 cg h3 h2 h1' h1 hy hx c2 c1 hb ha;omega),by (clear c7 c6 ck2 hk20 c4 c3 ck cg h2' h2 h1' h1 hy hx c2 c1 hb ha;omega)⟩
      ·rw[if_neg ck2];have k0:nb - 1=k2:=by (clear hk20 c4 c3 ck hk1 cg h3 h2' h2 h1' h1 hy hx c2 c1 hb ha;omega)
       rw[show nb - 1 - k2=0 by (clear k0 hk20 hk2 c4 c3 ck hk1 cg h3 h2' h2 h1' h1 hy hx c2 c1 hb ha;omega),YbR,Ydp,Ya4] at m5;rw[k0];obtain⟨v2,ev2,ev2',mv2⟩:=ZaI (a:=a) (i:=k - 1) (by (clear k0 ck2 hk20 hk2 c4 c3 ck cg h3 h2' h2 h1 hy hx c2 c1 hb ha;omega));refine wpS_bind (Zar ev2 ?_);have ee:v2=v:=YaB (ev2.symm.trans ev);subst ee;have m7:=pA (by (clear k0 ck2 hk20 hk2 c4 ck hk1 cg h3 h2' h2 h1' h1 hy hx c2 c1 hb ha;omega)) m5 ev2 hv;by_cases c7:k - 1=0
       ·rw[if_pos (by simpa using c7)];rw[c7] at m7 ⊢;exact wpS_pure ⟨hG2,.inl ⟨_,_,_,_,_,_,_,rfl,done m7⟩⟩
       rw[if_neg (by simpa using c7)];refine ZaF (fun _=>?_) (fun _=>?_)
       ·exact wpS_pure ⟨hG2,.inr ⟨_,_,_,_,_,_,rfl,m7,by (clear k0 ck2 hk20 hk2 c4 c3 ck hk1 cg h3 h2' h2 h1' h1 hy hx c2 c1 hb ha;omega),by (clear c7 k0 ck2 hk20 hk2 c4 c3 ck cg h3 h2' h2 h1 hy hx c2 c1 hb ha;omega),by (clear c7 k0 hk20 hk2 c3 ck hk1 cg h3 h2' h1' h1 hy hx c2 c1 hb ha;omega),by (clear c7 k0 ck2 hk20 c4 c3 ck hk1 cg h3 h2 h1' h1 hy hx c2 c1 hb ha;omega),by (clear c7 k0 ck2 hk20 c4 c3 ck cg h2' h2 h1' h1 hy hx c2 c1 hb ha;omega)⟩⟩
       ·exact wpS_pure ⟨hG2,_,_,_,_,_,_,rfl,m7,by (clear k0 ck2 hk20 hk2 c4 c3 ck hk1 cg h3 h2' h2 h1' h1 hy hx c2 c1 hb ha;omega),by (clear c7 k0 ck2 hk20 hk2 c4 c3 ck cg h3 h2' h2 h1 hy hx c2 c1 hb ha;omega),by (clear c7 k0 hk20 hk2 c3 ck hk1 cg h3 h2' h1' h1 hy hx c2 c1 hb ha;omega),by (clear c7 k0 ck2 hk20 c4 c3 ck hk1 cg h3 h2 h1' h1 hy hx c2 c1 hb ha;omega),by (clear c7 k0 ck2 hk20 c4 c3 ck cg h2' h2 h1' h1 hy hx c2 c1 hb ha;omega)⟩
     ·rw[if_neg ck];have k0:na=k:=by (clear cg h3 h2' h2 h1' h1 hy hx c2 c1 hb ha;omega)
      rw[show na - k=0 by (clear k0 hk1 cg h3 h2' h2 h1' h1 hy hx c2 c1 hb ha;omega),YbR,Ydp,Ya4] at m3;rw[k0];refine wpS_bind (Zar eu ?_);have m4:=pB (by (clear k0 ck hk1 cg h3 h2' h1' h1 hy hx c2 c1 hb ha;omega)) m3 eu hu;by_cases c4:nb - 1=1
      ·rw[if_pos (by simpa using c4)];rw[c4] at m4 ⊢;exact wpS_pure ⟨hG2,.inl ⟨_,_,_,_,_,_,_,rfl,first m4⟩⟩
      rw[if_neg (by simpa using c4)];obtain⟨v,ev,ev',mv⟩:=ZaI (a:=a) (i:=k - 1) (by (clear c4 k0 ck cg h3 h2' h2 h1 hy hx c2 c1 hb ha;omega));refine wpS_bind (Zar ev ?_);refine wpS_bind (Zbc hA (hG2.1.trans hk) (oka v mv) okb (by (clear c4 k0 ck hk1 cg h3 h2 h1' h1 hy hx c2 c1 hb ha;omega)) (srtA sb _ _) (by (clear c4 k0 ck hk1 cg h3 h2' h1' h1 hy hx c2 c1 hb ha;omega)) fun k2 hk2 d1 d2=>?_);have hk20:1<=k2:=by
       rcases YdY k2 with z | z
       ·obtain⟨zl,el,_,_⟩:=ZaI (a:=b) (i:=0) (by (clear z hk2 c4 k0 ck hk1 cg h3 h2' h2 h1' h1 hy hx c2 c1 hb ha;omega));have q1:=hfirst zl el v mv;have q2:=d2 0 zl (by (clear hk2 c4 k0 ck hk1 cg h3 h2' h2 h1' h1 hy hx c2 c1 hb ha;omega)) (by (clear z hk2 c4 k0 ck hk1 cg h3 h2' h1' h1 hy hx c2 c1 hb ha;omega)) (by rw[YbT];exact el);rw[show O.blt (O.ky zl) (O.ky v)=false from q2] at q1;cases q1
       ·exact z
      have m5:=m4.takeBs sb (by simp;(clear hk20 hk2 c4 k0 ck hk1 cg h3 h2 h1' h1 hy hx c2 c1 hb ha;omega)) (nb - 1 - k2) (by (clear hk20 hk2 c4 k0 ck hk1 cg h3 h2' h2 h1' h1 hy hx c2 c1 hb ha;omega)) fun i z h6 h7 e y hy=>KO.le_trans (leT sa (by (clear h7 h6 hk20 hk2 c4 k0 hk1 cg h3 h2' h2 h1' hx c2 c1 hb ha;omega)) ev' y hy) (d2 i z (by (clear h7 hk20 c4 k0 ck hk1 cg h3 h2' h2 h1' h1 hx c2 c1 hb ha;omega)) (by (clear h6 hk20 hk2 c4 k0 ck hk1 cg h3 h2' h2 h1' h1 hx c2 c1 hb ha;omega)) (by rw[YbT,<- Yau];exact e));rw[show nb - 1 - (nb - 1 - k2)=k2 by (clear hk20 c4 k0 ck hk1 cg h3 h2' h2 h1' h1 hy hx c2 c1 hb ha;omega)] at m5;have hv:∀ z∈b.toList.take k2,O.le z v:=by
       intro z hz;obtain⟨j,hj,e⟩:=ZaW hz;refine KO.le_of_lt (d1 j z hj ?_);rw[YbT,<- Yau];exact e
      dsimp only;by_cases ck2:nb - 1 - k2 > 0
      ·rw[if_pos ck2];rw[<- Ze1,<- Ycz,<- Ybg] at m5;by_cases c6:k2=1
       ·rw[if_pos (by simpa using c6)];rw[c6] at m5 ⊢;exact wpS_pure ⟨hG2,.inl ⟨_,_,_,_,_,_,_,rfl,first m5⟩⟩
       rw[if_neg (by simpa using c6),if_neg (by simp;(clear c6 ck2 hk2 c4 k0 ck hk1 cg h3 h2' h2 h1' h1 hy hx c2 c1 hb ha;omega))];obtain⟨v2,ev2,ev2',mv2⟩:=ZaI (a:=a) (i:=k - 1) (by (clear c6 ck2 hk20 hk2 c4 k0 ck cg h3 h2' h2 h1 hy hx c2 c1 hb ha;omega));refine wpS_bind (Zar ev2 ?_);have ee:v2=v:=YaB (ev2.symm.trans ev);subst ee;have m7:=pA (by (clear c6 ck2 hk20 hk2 c4 k0 hk1 cg h3 h2' h2 h1' hy hx c2 c1 hb ha;omega)) m5 ev2 hv;by_cases c7:k - 1=0
       ·rw[if_pos (by simpa using c7)];rw[c7] at m7 ⊢;exact wpS_pure ⟨hG2,.inl ⟨_,_,_,_,_,_,_,rfl,done m7⟩⟩
       rw[if_neg (by simpa using c7)];refine ZaF (fun _=>?_) (fun _=>?_)
       ·exact wpS_pure ⟨hG2,.inr ⟨_,_,_,_,_,_,rfl,m7,by (clear c6 ck2 hk20 hk2 c4 k0 ck hk1 cg h3 h2' h2 h1' h1 hy hx c2 c1 hb ha;omega),by (clear c7 c6 ck2 hk20 hk2 c4 k0 ck cg h3 h2' h2 h1 hy hx c2 c1 hb ha;omega),by (clear c7 ck2 hk2 c4 k0 ck hk1 cg h3 h2' h2 h1' h1 hy hx c2 c1 hb ha;omega),by (clear c7 c6 ck2 hk20 c4 k0 ck hk1 cg h3 h2 h1' h1 hy hx c2 c1 hb ha;omega),by (clear c7 c6 ck2 hk20 c4 k0 ck cg h2' h2 h1' h1 hy hx c2 c1 hb ha;omega)⟩⟩
       ·exact wpS_pure ⟨hG2,_,_,_,_,_,_,rfl,m7,by (clear c6 ck2 hk20 hk2 c4 k0 ck hk1 cg h3 h2' h2 h1' h1 hy hx c2 c1 hb ha;omega),by (clear c7 c6 ck2 hk20 hk2 c4 k0 ck cg h3 h2' h2 h1 hy hx c2 c1 hb ha;omega),by (clear c7 ck2 hk2 c4 k0 ck hk1 cg h3 h2' h2 h1' h1 hy hx c2 c1 hb ha;omega),by (clear c7 c6 ck2 hk20 c4 k0 ck hk1 cg h3 h2 h1' h1 hy hx c2 c1 hb ha;omega),by (clear c7 c6 ck2 hk20 c4 k0 ck cg h2' h2 h1' h1 hy hx c2 c1 hb ha;omega)⟩
      ·rw[if_neg ck2];have k0:nb - 1=k2:=by (clear hk20 c4 k0 ck hk1 cg h3 h2' h2 h1' h1 hy hx c2 c1 hb ha;omega)
       rw[show nb - 1 - k2=0 by (clear k0 hk20 hk2 c4 ck hk1 cg h3 h2' h2 h1' h1 hy hx c2 c1 hb ha;omega),YbR,Ydp,Ya4] at m5;rw[k0];obtain⟨v2,ev2,ev2',mv2⟩:=ZaI (a:=a) (i:=k - 1) (by (clear k0 ck2 hk20 hk2 c4 ck hk1 cg h3 h2' h2 h1 hy hx c2 c1 hb ha;omega));refine wpS_bind (Zar ev2 ?_);have ee:v2=v:=YaB (ev2.symm.trans ev);subst ee;have m7:=pA (by (clear k0 ck2 hk20 hk2 c4 ck hk1 cg h3 h2' h2 h1' hy hx c2 c1 hb ha;omega)) m5 ev2 hv;by_cases c7:k - 1=0
       ·rw[if_pos (by simpa using c7)];rw[c7] at m7 ⊢;exact wpS_pure ⟨hG2,.inl ⟨_,_,_,_,_,_,_,rfl,done m7⟩⟩
       rw[if_neg (by simpa using c7)];refine ZaF (fun _=>?_) (fun _=>?_)
       ·exact wpS_pure ⟨hG2,.inr ⟨_,_,_,_,_,_,rfl,m7,by (clear k0 ck2 hk20 hk2 c4 ck hk1 cg h3 h2' h2 h1' h1 hy hx c2 c1 hb ha;omega),by (clear c7 k0 ck2 hk20 hk2 c4 ck hk1 cg h3 h2' h2 h1 hy hx c2 c1 hb ha;omega),by (clear c7 k0 hk20 hk2 ck hk1 cg h3 h2' h1' h1 hy hx c2 c1 hb ha;omega),by (clear c7 k0 ck2 hk20 c4 ck hk1 cg h3 h2 h1' h1 hy hx c2 c1 hb ha;omega),by (clear c7 k0 ck2 hk20 c4 ck hk1 cg h2' h2 h1' h1 hy hx c2 c1 hb ha;omega)⟩⟩
       ·exact wpS_pure ⟨hG2,_,_,_,_,_,_,rfl,m7,by (clear k0 ck2 hk20 hk2 c4 ck hk1 cg h3 h2' h2 h1' h1 hy hx c2 c1 hb ha;omega),by (clear c7 k0 ck2 hk20 hk2 c4 ck hk1 cg h3 h2' h2 h1 hy hx c2 c1 hb ha;omega),by (clear c7 k0 hk20 hk2 ck hk1 cg h3 h2' h1' h1 hy hx c2 c1 hb ha;omega),by (clear c7 k0 ck2 hk20 c4 ck hk1 cg h3 h2 h1' h1 hy hx c2 c1 hb ha;omega),by (clear c7 k0 ck2 hk20 c4 ck hk1 cg h2' h2 h1' h1 hy hx c2 c1 hb ha;omega)⟩
def ka (O:KO) (xs:Array Keyed) (i:Nat):O.α:=O.ky ((xs[i]?).getD (.none,.none))
def Up (O:KO) (lo n:Nat) (xs:Array Keyed):Prop:=∀ i j,i<=j->j<n->O.kle (ka O xs (lo+i)) (ka O xs (lo+j))
def Dn (O:KO) (lo n:Nat) (xs:Array Keyed):Prop:=∀ i j,i<=j->j<n->O.kle (ka O xs (lo+j)) (ka O xs (lo+i))
structure FB (knd:SortKind) (b₀:Array Keyed) (p₀:Array (Nat × Nat × Nat)) (lo:Nat) (st:SortSt):Prop where
 perm:(arrOf st).Perm b₀
 keep:∀ i,i<lo->(arrOf st)[i]?=b₀[i]?
 kind:kindOf st=knd
 failed:failedOf st=none
 pend:pendingOf st=p₀
section
variable {b₀:Array Keyed}{p₀:Array (Nat × Nat × Nat)}{lo:Nat}
theorem FB.size (h:FB knd b₀ p₀ lo st):(arrOf st).size=b₀.size:=h.perm.size_eq
theorem FB.put {xs:Array Keyed} (h:FB knd b₀ p₀ lo st) (hp:xs.Perm (arrOf st)) (hx:∀ i,i<lo->xs[i]?=(arrOf st)[i]?):FB knd b₀ p₀ lo (setArr st xs) :=
 ⟨hp.trans h.perm,fun i hi=>(hx i hi).trans (h.keep i hi),h.kind,h.failed,h.pend⟩
theorem FB.mir (h:FB knd b₀ p₀ lo st) {i j:Nat} (hi:lo<=i) (hj:j<=b₀.size):FB knd b₀ p₀ lo (setArr st (mirror (arrOf st) i j ((j - i) / 2))) :=
 h.put (mirror_perm _ _ _ _) fun k hk=>by rw[getElem?_mirror_all (by rw[h.size];exact hj),if_neg (by omega)]
theorem Zcv {xs ys:Array Keyed}{i j:Nat} (h:xs[i]?=ys[j]?):ka O xs i=ka O ys j:=by unfold ka;rw[h]
theorem Zjz {xs:Array Keyed}{i j:Nat} (hj:j<=xs.size) (k:Nat):ka O (mirror xs i j ((j - i) / 2)) k=if i<=k/\k<j then ka O xs (i+j - 1 - k) else ka O xs k:=by
 have e:=getElem?_mirror_all (i:=i) hj k;split
 ·rename_i c;rw[if_pos c] at e;exact Zcv e
 ·rename_i c;rw[if_neg c] at e;exact Zcv e
theorem Zce {xs:Array Keyed}{i j:Nat} (hj:j<=xs.size) (he:∀ k,i<=k->k<j->ka O xs k=ka O xs (j - 1)) (k:Nat):ka O (mirror xs i j ((j - i) / 2)) k=ka O xs k:=by
 rw[Zjz hj];split
 ·rw[he _ (by omega) (by omega),he k (by omega) (by omega)]
 ·rfl
theorem ZlR {xs:Array Keyed}{src d:Nat} (hs:src<xs.size) (hd:d<=src) (k:Nat):ka O (bubble xs src d) k=if k=src - d then ka O xs src else if src - d<k/\k<=src then ka O xs (k - 1) else ka O xs k:=by
 have e:=getElem?_bubble hs d hd k;split
 ·rename_i c;rw[if_pos c] at e;exact Zcv e
 ·rename_i c;rw[if_neg c] at e;split
  ·rename_i c2;rw[if_pos c2] at e;exact Zcv e
  ·rename_i c2;rw[if_neg c2] at e;exact Zcv e
theorem Zdm {i j:Nat}{Q:Option Bool->SortSt->Prop} (hA:Asks prog w A s O knd ok) (h0:∀ x∈b₀.toList,ok x) (hF:FB knd b₀ p₀ lo st) (hi:i<b₀.size) (hj:j<b₀.size) (h:Q (some (O.blt (ka O (arrOf st) i) (ka O (arrOf st) j))) st):wpS (model prog w) A E s (ltAt' i j) Q st:=by
 obtain⟨x,ex,_,mx⟩:=ZaI (a:=arrOf st) (i:=i) (by rw[hF.size];exact hi);obtain⟨y,ey,_,my⟩:=ZaI (a:=arrOf st) (i:=j) (by rw[hF.size];exact hj);have pm:=Yew.mp hF.perm;rw[ltAt'_eq];refine wpS_bind (wpS_get ?_);refine wpS_bind (Zar ex (wpS_bind (Zar ey ?_)));refine Ze6 hA hF.kind (h0 x (pm.mem_iff.mp mx)) (h0 y (pm.mem_iff.mp my)) ?_;unfold ka at h;rw[ex,ey] at h;exact h
theorem ZbG {i j:Nat}{Q:Unit->SortSt->Prop} (h:Q () (setArr st (mirror (arrOf st) i j ((j - i) / 2)))):wpS (model prog w) A E s (reverseSlice' i j) Q st:=by
 rw[reverseSlice'_eq];exact wpS_modify h
def ascL (lo a nrem:Nat):StateT SortSt Sem (Option (Option Nat) × Nat) :=
 forIn [a:nrem] ((none,a):Option (Option Nat) × Nat) fun _ c=>ltAt' (lo+c.2) (lo+c.2 - 1) >>= fun x=>match x with
  | some sm=>if sm=true then pure (Ycx (none,c.2)) else pure (Ybo (none,c.2+1))
  | _=>pure (Ycx (some none,c.2))
theorem Zcj {a nrem:Nat}{Q:Option (Option Nat) × Nat->SortSt->Prop} (hA:Asks prog w A s O knd ok) (h0:∀ x∈b₀.toList,ok x) (hF:FB knd b₀ p₀ lo st) (hn:lo+nrem<=b₀.size) (ha:1<=a) (hl:a<=nrem) (hu:Up O lo a (arrOf st))
  (h:∀ n,a<=n->n<=nrem->Up O lo n (arrOf st)->(n=nrem∨O.klt (ka O (arrOf st) (lo+n)) (ka O (arrOf st) (lo+n - 1)))->Q (none,n) st):wpS (model prog w) A E s (ascL lo a nrem) Q st:=by
 unfold ascL;refine wpS_forRange (I:=fun n c τ=>τ=st/\c=((none:Option (Option Nat)),n)/\Up O lo n (arrOf st)) ?go ?out ⟨rfl,rfl,hu⟩
 case out=>
  rintro c τ ⟨rfl,rfl,u⟩;rw[Yek hl] at u ⊢;exact h nrem hl (Yap _) u (.inl rfl)
 case go=>
  rintro n c τ h1 h2 ⟨rfl,rfl,u⟩;refine wpS_bind (Zdm hA h0 hF (by dsimp only;omega) (by dsimp only;omega) ?_);dsimp only
  cases e:O.blt (ka O (arrOf τ) (lo+n)) (ka O (arrOf τ) (lo+n - 1)) with
  | true=>
   simp only[if_true];exact wpS_pure (h n h1 (by omega) u (.inr e))
  | false=>
   simp only[YaT,if_false];refine wpS_pure ⟨rfl,rfl,fun i j hij hj=>?_⟩;rcases Ybt j n with z | z
   ·exact u i j hij z
   ·obtain rfl:j=n:=by omega
    rcases Ybt i j with y | y
    ·exact YcQ (u i (j - 1) (by omega) (by omega)) (by rw[show lo+(j - 1)=lo+j - 1 by omega];exact e)
    ·obtain rfl:i=j:=by omega
     exact Ycp _
theorem ZgQ {n:Nat}{xs:Array Keyed} (hd:Dn O lo n xs) (hsz:lo+n<=xs.size):Up O lo n (mirror xs lo (lo+n) ((lo+n - lo) / 2)):=by
 intro i j hij hj;rw[Zjz hsz,Zjz hsz,if_pos (by omega),if_pos (by omega)];have q:=hd (n - 1 - j) (n - 1 - i) (by omega) (by omega);rw[show lo+(n - 1 - j)=lo+(lo+n) - 1 - (lo+j) by omega,show lo+(n - 1 - i)=lo+(lo+n) - 1 - (lo+i) by omega] at q;exact q
def dscL (lo n nrem:Nat):StateT SortSt Sem (Option (Option Nat) × Nat × Nat) :=
 forIn [n:nrem] ((none,n,0):Option (Option Nat) × Nat × Nat) fun _ c=>ltAt' (lo+c.2.1) (lo+c.2.1 - 1) >>= fun x=>match x with
  | some sm=>if sm=true then (if c.2.2 > 0 then reverseSlice' (lo+c.2.1 - (c.2.2+1)) (lo+c.2.1) >>= fun _=>pure (Ybo (none,c.2.1+1,0)) else pure (Ybo (none,c.2.1+1,0)))
   else ltAt' (lo+c.2.1 - 1) (lo+c.2.1) >>= fun y=>match y with
    | some lg=>if lg=true then pure (Ycx (none,c.2.1,c.2.2)) else pure (Ybo (none,c.2.1+1,c.2.2+1))
    | _=>pure (Ycx (some none,c.2.1,c.2.2))
  | _=>pure (Ycx (some none,c.2.1,c.2.2))
theorem ZgP {n nrem:Nat}{Q:Option (Option Nat) × Nat × Nat->SortSt->Prop} (hA:Asks prog w A s O knd ok) (h0:∀ x∈b₀.toList,ok x) (hF:FB knd b₀ p₀ lo st) (hn:lo+nrem<=b₀.size) (h1:1<=n) (hl:n<=nrem) (hd:Dn O lo n (arrOf st))
  (h:∀ m e τ,FB knd b₀ p₀ lo τ->n<=m->m<=nrem->Dn O lo m (arrOf τ)->e+1<=m->(∀ i,m - (e+1)<=i->i<m->ka O (arrOf τ) (lo+i)=ka O (arrOf τ) (lo+m - 1))->Q (none,m,e) τ):wpS (model prog w) A E s (dscL lo n nrem) Q st:=by
 unfold dscL;refine wpS_forRange (I:=fun m c τ=>∃ e,c=((none:Option (Option Nat)),m,e)/\FB knd b₀ p₀ lo τ/\Dn O lo m (arrOf τ)/\e+1<=m/\∀ i,m - (e+1)<=i->i<m->ka O (arrOf τ) (lo+i)=ka O (arrOf τ) (lo+m - 1)) ?go ?out
  ⟨0,rfl,hF,hd,by omega,fun i h2 h3=>by congr 1;omega⟩
 case out=>
  rintro c τ ⟨e,rfl,hT,d,q,he⟩;rw[Yek hl] at d q he ⊢;exact h nrem e τ hT hl (Yap _) d q he
 case go=>
  rintro m c τ h2 h3 ⟨e,rfl,hT,d,q,he⟩;have hsz:lo+m<=(arrOf τ).size:=by rw[hT.size];omega
  have more:∀ xs:Array Keyed,(∀ k,ka O xs k=ka O (arrOf τ) k)->O.kle (ka O (arrOf τ) (lo+m)) (ka O (arrOf τ) (lo+m - 1))->Dn O lo (m+1) xs:=by
   intro xs hk hle i j hij hj;rw[hk,hk];rcases Ybt j m with z | z
   ·exact d i j hij z
   ·obtain rfl:j=m:=by omega
    rcases Ybt i j with y | y
    ·exact YcQ hle (by rw[show lo+j - 1=lo+(j - 1) by (clear y z hj hsz q h3 hij hl hn;omega)];exact d i (j - 1) (by (clear z hj hsz q h3 h2 hij hl h1 hn;omega)) (by (clear y z hj hsz q h3 hij hl hn;omega)))
    ·obtain rfl:i=j:=by (clear z hj hsz q h3 h2 hl h1 hn;omega)
     exact Ycp _
  have eq1:∀ k,lo+m - (e+1)<=k->k<lo+m->ka O (arrOf τ) k=ka O (arrOf τ) (lo+m - 1):=fun k k1 k2=>by
   have:=he (k - lo) (by omega) (by omega)
   rwa [show lo+(k - lo)=k by omega] at this
  refine wpS_bind (Zdm hA h0 hT (by dsimp only;omega) (by dsimp only;omega) ?_);dsimp only
  cases ew:O.blt (ka O (arrOf τ) (lo+m)) (ka O (arrOf τ) (lo+m - 1)) with
  | true=>
   simp only[if_true];refine ZaF (fun _=>?_) (fun _=>?_)
   ·exact wpS_bind (ZbG (wpS_pure ⟨0,rfl,hT.mir (by omega) (by omega),more _ (Zce hsz eq1) (Ycs ew),by omega,fun i h2 h3=>by congr 1;omega⟩))
   ·exact wpS_pure ⟨0,rfl,hT,more _ (fun _=>rfl) (Ycs ew),by omega,fun i h2 h3=>by congr 1;omega⟩
  | false=>
   simp only[YaT,if_false];refine wpS_bind (Zdm hA h0 hT (by omega) (by omega) ?_);dsimp only
   cases eg:O.blt (ka O (arrOf τ) (lo+m - 1)) (ka O (arrOf τ) (lo+m)) with
   | true=>
    simp only[if_true];exact wpS_pure (h m e τ hT h2 (by omega) d q he)
   | false=>
    simp only[YaT,if_false];have hx:ka O (arrOf τ) (lo+m)=ka O (arrOf τ) (lo+m - 1):=YeY (O:=O.toKeyOrd) eg ew;refine wpS_pure ⟨e+1,rfl,hT,more _ (fun _=>rfl) eg,by omega,fun i i1 i2=>?_⟩;rw[show lo+(m+1) - 1=lo+m by (clear i2 i1 hsz q h3 h2 hl h1 hn;omega)];rcases Ybt i m with z | z
    ·rw[hx];exact he i (by (clear z i2 hsz q h3 h2 hl h1 hn;omega)) z
    ·obtain rfl:i=m:=by omega
     rfl
theorem Zl1 {nrem:Nat}{Q:Option Nat->SortSt->Prop} (hA:Asks prog w A s O knd ok) (h0:∀ x∈b₀.toList,ok x) (hF:FB knd b₀ p₀ lo st) (hn:lo+nrem<=b₀.size) (h1:1<=nrem)
  (h:∀ m τ,FB knd b₀ p₀ lo τ->1<=m->m<=nrem->Up O lo m (arrOf τ)->Q (some m) τ):wpS (model prog w) A E s (countRun' lo nrem) Q st:=by
 refine wpS_bind (Zcj (a:=1) hA h0 hF hn (Yap 1) h1 (fun i j hij hj=>?_) fun n n1 n2 u hor=>?_)
 ·obtain rfl:i=j:=by omega
  exact Ycp _
 dsimp only;by_cases c:n=nrem
 ·rw[if_pos (by simpa using c)];exact wpS_pure (h n st hF n1 n2 u)
 rw[if_neg (by simpa using c)];have hlt:=hor.resolve_left c;have hsz:lo+n<=(arrOf st).size:=by rw[hF.size];omega
 by_cases cg:n > 1
 ·rw[if_pos cg];refine wpS_bind (Zdm hA h0 hF (by omega) (by omega) ?_)
  cases e:O.blt (ka O (arrOf st) lo) (ka O (arrOf st) (lo+n - 1)) with
  | true=>
   simp only[if_true];exact wpS_pure (h n st hF n1 n2 u)
  | false=>
   simp only[YaT,if_false];have all:∀ k,lo<=k->k<lo+n->ka O (arrOf st) k=ka O (arrOf st) (lo+n - 1):=by
    intro k k1 k2;have a1:=u 0 (k - lo) (by (clear k2 k1 cg hsz c hor n2 n1 h1 hn;omega)) (by omega);have a2:=u (k - lo) (n - 1) (by (clear k1 cg hsz c hor n2 n1 h1 hn;omega)) (by (clear k2 k1 cg hsz c hor n2 h1 hn;omega));rw[show lo+(k - lo)=k by (clear k2 cg hsz c hor n2 n1 h1 hn;omega)] at a1 a2;rw[show lo+(n - 1)=lo+n - 1 by (clear k2 k1 cg hsz c hor n2 h1 hn;omega)] at a2;exact YeY a2 (YcQ (O:=O.toKeyOrd) e a1)
   refine wpS_bind (ZbG ?_);have hF7:=FB.mir hF (i:=lo) (j:=lo+n) (Yap _) (by omega);have d7:Dn O lo (n+1) (arrOf (setArr st (mirror (arrOf st) lo (lo+n) ((lo+n - lo) / 2)))):=by
    intro i j hij hj;show O.kle (ka O (mirror (arrOf st) _ _ _) _) (ka O (mirror (arrOf st) _ _ _) _);rw[Zce hsz all,Zce hsz all];rcases Ybt j n with z | z
    ·rw[all _ (by (clear z hj hij cg hsz c hor n2 n1 h1 hn;omega)) (show lo+j<lo+n by (clear hj hij cg hsz c hor n2 n1 h1 hn;omega)),all _ (by (clear z hj hij cg hsz c hor n2 n1 h1 hn;omega)) (show lo+i<lo+n by (clear hj cg hsz c hor n2 n1 h1 hn;omega))];exact Ycp _
    ·obtain rfl:j=n:=by (clear hij cg hsz c hor n2 n1 h1 hn;omega)
     rcases Ybt i j with y | y
     ·rw[all _ (by (clear y z hj cg hsz c hor n2 n1 hij h1 hn;omega)) (show lo+i<lo+j by (clear z hj cg hsz c hor n2 n1 hij h1 hn;omega))];exact Ycs hlt
     ·obtain rfl:i=j:=by (clear z hj cg hsz c hor n2 n1 h1 hn;omega)
      exact Ycp _
   refine wpS_bind (wpS_lift (wpAny_rule ⟨rfl,?_⟩));refine wpS_bind (ZgP hA h0 hF7 hn (by omega) (by omega) d7 fun m e τ hT m1 m2 d q he=>?_);dsimp only;have hsz:lo+m<=(arrOf τ).size:=by rw[hT.size];(clear q m1 cg hsz c hor n2 n1 h1;omega)
   have eq1:∀ k,lo+m - (e+1)<=k->k<lo+m->ka O (arrOf τ) k=ka O (arrOf τ) (lo+m - 1):=fun k k1 k2=>by
    have:=he (k - lo) (by (clear k2 hsz q m2 m1 cg c hor n2 n1 h1 hn;omega)) (by (clear k1 hsz q m2 cg c hor n2 n1 h1 hn;omega))
    rwa [show lo+(k - lo)=k by (clear k2 hsz m2 m1 cg c hor n2 n1 h1 hn;omega)] at this
   refine ZaF (fun _=>?_) (fun _=>?_)
   ·refine wpS_bind (ZbG ?_);have hF8:=FB.mir hT (i:=lo+m - (e+1)) (j:=lo+m) (by (clear hsz m2 m1 cg c hor n2 n1 h1 hn;omega)) (by (clear hsz q m1 cg c hor n2 n1 h1;omega));have d8:Dn O lo m (arrOf (setArr τ (mirror (arrOf τ) (lo+m - (e+1)) (lo+m) ((lo+m - (lo+m - (e+1))) / 2)))):=by
     intro i j hij hj;show O.kle (ka O (mirror (arrOf τ) _ _ _) _) (ka O (mirror (arrOf τ) _ _ _) _);rw[Zce hsz eq1,Zce hsz eq1];exact d i j hij hj
    refine wpS_bind (ZbG ?_);have hF9:=FB.mir hF8 (i:=lo) (j:=lo+m) (Yap _) (by (clear hsz q m1 cg c hor n2 n1 h1;omega));refine wpS_bind (Zcj hA h0 hF9 hn (by (clear hsz q m2 cg c hor n2 n1 h1 hn;omega)) m2 (ZgQ d8 (by rw[FB.size hF8];(clear hsz q m1 cg c hor n2 n1 h1;omega))) fun m' m1' m2' u' _=>wpS_pure (h m' _ hF9 (by (clear m2' hsz q m2 cg c hor n2 n1 h1 hn;omega)) m2' u'))
   ·
    refine wpS_bind (ZbG ?_);have hF9:=FB.mir hT (i:=lo) (j:=lo+m) (Yap _) (by (clear hsz q m1 cg c hor n2 n1 h1;omega));refine wpS_bind (Zcj hA h0 hF9 hn (by (clear hsz q m2 cg c hor n2 n1 h1 hn;omega)) m2 (ZgQ d (by rw[FB.size hT];(clear hsz q m1 cg c hor n2 n1 h1;omega))) fun m' m1' m2' u' _=>wpS_pure (h m' _ hF9 (by (clear m2' hsz q m2 cg c hor n2 n1 h1 hn;omega)) m2' u'))
 ·rw[if_neg cg];obtain rfl:n=1:=by omega
  have d7:Dn O lo (1+1) (arrOf st):=by
   intro i j hij hj;rcases Ybt i j with y | y
   ·obtain rfl:i=0:=by (clear hij cg hsz c hor n2 n1 h1 hn;omega)
    obtain rfl:j=1:=by (clear hij cg hsz c hor n2 n1 h1 hn;omega)
    exact Ycs hlt
   ·obtain rfl:i=j:=by (clear hj cg hsz c hor n2 n1 h1 hn;omega)
    exact Ycp _
  refine wpS_bind (wpS_lift (wpAny_rule ⟨rfl,?_⟩));refine wpS_bind (ZgP hA h0 hF hn (by omega) (by omega) d7 fun m e τ hT m1 m2 d q he=>?_);dsimp only;have hsz:lo+m<=(arrOf τ).size:=by rw[hT.size];(clear q m1 cg hsz c hor n2 n1 h1;omega)
  have eq1:∀ k,lo+m - (e+1)<=k->k<lo+m->ka O (arrOf τ) k=ka O (arrOf τ) (lo+m - 1):=fun k k1 k2=>by
   have:=he (k - lo) (by (clear k2 hsz q m2 m1 cg c hor n2 n1 h1 hn;omega)) (by (clear k1 hsz q m2 cg c hor n2 n1 h1 hn;omega))
   rwa [show lo+(k - lo)=k by (clear k2 hsz m2 m1 cg c hor n2 n1 h1 hn;omega)] at this
  refine ZaF (fun _=>?_) (fun _=>?_)
  ·refine wpS_bind (ZbG ?_);have hF8:=FB.mir hT (i:=lo+m - (e+1)) (j:=lo+m) (by (clear hsz m2 m1 cg c hor n2 n1 h1 hn;omega)) (by (clear hsz q m1 cg c hor n2 n1 h1;omega));have d8:Dn O lo m (arrOf (setArr τ (mirror (arrOf τ) (lo+m - (e+1)) (lo+m) ((lo+m - (lo+m - (e+1))) / 2)))):=by
    intro i j hij hj;show O.kle (ka O (mirror (arrOf τ) _ _ _) _) (ka O (mirror (arrOf τ) _ _ _) _);rw[Zce hsz eq1,Zce hsz eq1];exact d i j hij hj
   refine wpS_bind (ZbG ?_);have hF9:=FB.mir hF8 (i:=lo) (j:=lo+m) (Yap _) (by (clear hsz q m1 cg c hor n2 n1 h1;omega));refine wpS_bind (Zcj hA h0 hF9 hn (by (clear hsz q m2 cg c hor n2 n1 h1 hn;omega)) m2 (ZgQ d8 (by rw[FB.size hF8];(clear hsz q m1 cg c hor n2 n1 h1;omega))) fun m' m1' m2' u' _=>wpS_pure (h m' _ hF9 (by (clear m2' hsz q m2 cg c hor n2 n1 h1 hn;omega)) m2' u'))
  ·
   refine wpS_bind (ZbG ?_);have hF9:=FB.mir hT (i:=lo) (j:=lo+m) (Yap _) (by (clear hsz q m1 cg c hor n2 n1 h1;omega));refine wpS_bind (Zcj hA h0 hF9 hn (by (clear hsz q m2 cg c hor n2 n1 h1 hn;omega)) m2 (ZgQ d (by rw[FB.size hT];(clear hsz q m1 cg c hor n2 n1 h1;omega))) fun m' m1' m2' u' _=>wpS_pure (h m' _ hF9 (by (clear m2' hsz q m2 cg c hor n2 n1 h1 hn;omega)) m2' u'))
end
end
end L2
namespace L2
open PySem PyProof.Rows
section
variable {prog:Program}{w:World}{A:Around}{E:Value->Shared->Prop}{s:Shared}{O:KO}{knd:SortKind}{ok:Keyed->Prop}{st:SortSt}{b₀:Array Keyed}{p₀:Array (Nat × Nat × Nat)}{lo:Nat}
theorem ZnA {l r:Nat} (h:l<r):l<=(l+r) / 2/\(l+r) / 2<r:=by omega
theorem Zoo {l r k x N:Nat} (m1:l<=(l+r) / 2) (m2:(l+r) / 2<r) (hx:x<N) (e2:r<=k) (e3:r - l<=k - x):(l+r) / 2 - l<=k - (x+1):=by omega
theorem Zon {l r k x N:Nat} (m1:l<=(l+r) / 2) (m2:(l+r) / 2<r) (hx:x<N) (e2:r<=k) (e3:r - l<=k - x):r - ((l+r) / 2+1)<=k - (x+1):=by omega
theorem Zl2 {n m:Nat}{Q:Bool->SortSt->Prop} (hA:Asks prog w A s O knd ok) (h0:∀ x∈b₀.toList,ok x) (hF:FB knd b₀ p₀ lo st) (hn:lo+n<=b₀.size) (h1:1<=m) (hm:m<=n) (hu:Up O lo m (arrOf st))
  (h:∀ τ,FB knd b₀ p₀ lo τ->Up O lo n (arrOf τ)->Q true τ):wpS (model prog w) A E s (binarySort' lo n m) Q st:=by
 rw[binarySort'_eq,Nat.max_eq_left h1];refine wpS_bind (wpS_mono (wpS_forRange (I:=fun k c τ=>c=(none,())/\FB knd b₀ p₀ lo τ/\Up O lo k (arrOf τ))
  (Q:=fun c τ=>c=(none,())/\FB knd b₀ p₀ lo τ/\Up O lo n (arrOf τ)) ?go ?out ⟨rfl,hF,hu⟩) ?fin)
 case fin=>
  rintro c τ ⟨rfl,hT,u⟩;exact wpS_pure (h τ hT u)
 case out=>
  rintro c τ ⟨hc,hT,u⟩;rw[Yek hm] at u;exact⟨hc,hT,u⟩
 case go=>
  rintro k c τ k1 k2 ⟨rfl,hT,u⟩;refine wpS_bind (wpS_mono (wpS_forRange (I:=fun x c τ'=>τ'=τ/\∃ l r,c=(none,l,r)/\l<=r/\r<=k/\r - l<=k - x /\
    (∀ i,i<l->O.kle (ka O (arrOf τ) (lo+i)) (ka O (arrOf τ) (lo+k)))/\∀ i,r<=i->i<k->O.klt (ka O (arrOf τ) (lo+k)) (ka O (arrOf τ) (lo+i)))
   (Q:=fun c τ'=>τ'=τ/\∃ l,c=(none,l,l)/\l<=k/\(∀ i,i<l->O.kle (ka O (arrOf τ) (lo+i)) (ka O (arrOf τ) (lo+k)))/\∀ i,l<=i->i<k->O.klt (ka O (arrOf τ) (lo+k)) (ka O (arrOf τ) (lo+i))) ?go2 ?out2
   ⟨rfl,0,k,rfl,Ya2 _,Yap _,Yap _,fun i hi=>absurd hi (Ycv _),fun i i1 i2=>absurd i2 (Nat.not_lt.mpr i1)⟩) ?fin2)
  case out2=>
   rintro c τ' ⟨rfl,l,r,rfl,e1,e2,e3,e4,e5⟩;obtain rfl:l=r:=by omega
   exact⟨rfl,l,rfl,e2,e4,e5⟩
  case go2=>
   rintro x c τ' _ hx ⟨rfl,l,r,rfl,e1,e2,e3,e4,e5⟩;dsimp only;by_cases hge:l ≥ r
   ·rw[if_pos hge];obtain rfl:l=r:=by omega
    exact wpS_pure ⟨rfl,l,rfl,e2,e4,e5⟩
   rw[if_neg hge];obtain⟨m1,m2⟩:=ZnA (Nat.lt_of_not_le hge);have mk:(l+r) / 2<k:=Yaw m2 e2;have kn:lo+k<b₀.size:=Yaw (Yfm k2 lo) hn;refine wpS_bind (Zdm hA h0 hT kn (Nat.lt_trans (Yfm mk lo) kn) ?_)
   cases e:O.blt (ka O (arrOf τ') (lo+k)) (ka O (arrOf τ') (lo+(l+r) / 2)) with
   | true=>
    simp only[if_true];exact wpS_pure ⟨rfl,l,(l+r) / 2,rfl,m1,Ybv mk,Zoo m1 m2 hx e2 e3,e4,fun i i1 i2=>KeyOrd.klt_of_klt_of_kle e (u _ _ i1 i2)⟩
   | false=>
    simp only[YaT,if_false];exact wpS_pure ⟨rfl,(l+r) / 2+1,r,rfl,m2,e2,Zon m1 m2 hx e2 e3,fun i i1=>YcQ (u i ((l+r) / 2) (Nat.le_of_lt_succ i1) mk) e,e5⟩
  case fin2=>
   rintro c τ' ⟨rfl,l,rfl,e2,e4,e5⟩;dsimp only;rw[moveDown'_eq];have hks:lo+k<(arrOf τ').size:=by rw[hT.size];omega
   refine wpS_bind (wpS_modify (wpS_pure ⟨rfl,hT.put (bubble_perm _ _ _) (fun i hi=>?_),?_⟩))
   ·rw[getElem?_bubble hks _ (by omega),if_neg (by omega),if_neg (by omega)]
   ·intro i j hij hj;show O.kle (ka O (bubble (arrOf τ') (lo+k) (lo+k - (lo+l))) _) (ka O (bubble (arrOf τ') (lo+k) (lo+k - (lo+l))) _);rw[ZlR hks (by (clear hj hij hks e2 k2 k1 hm h1 hn;omega)),ZlR hks (by (clear hj hij hks e2 k2 k1 hm h1 hn;omega)),show lo+k - (lo+k - (lo+l))=lo+l by omega]
    repeat' split
    all_goals first
     | (exfalso;omega)
     | exact Ycp _
     | exact e4 _ (by omega)
     | (rw[show lo+j - 1=lo+(j - 1) by (clear hj hij hks e2 k2 k1 hm h1 hn;omega)];exact Ycs (e5 _ (by (clear hj hij hks e2 k2 k1 hm h1 hn;omega)) (by (clear hj hij hks e2 k2 k1 hm h1 hn;omega))))
     | exact Ycs (e5 _ (by omega) (by omega))
     | (rw[show lo+i - 1=lo+(i - 1) by (clear hj hij hks e2 k2 k1 hm h1 hn;omega),show lo+j - 1=lo+(j - 1) by (clear hj hij hks e2 k2 k1 hm h1 hn;omega)];exact u _ _ (by omega) (by (clear hj hij hks e2 k2 k1 hm h1 hn;omega)))
     | (rw[show lo+j - 1=lo+(j - 1) by (clear hj hij hks e2 k2 k1 hm h1 hn;omega)];exact u _ _ (by omega) (by (clear hj hij hks e2 k2 k1 hm h1 hn;omega)))
     | exact u _ _ (by omega) (by omega)
def pos:Nat->List (List Keyed)->List (Nat × Nat)
 | _,[]=>[]
 | o,r::rs=>(o,r.length)::pos (o+r.length) rs
theorem ZbY:∀ (o:Nat) (xs ys:List (List Keyed)),pos o (xs++ys)=pos o xs++pos (o+xs.flatten.length) ys
 | o,[],ys=>by simp[pos]
 | o,r::rs,ys=>by
  simp only[Yef,pos,ZbY,YaF,Yag];rw[Nat.add_assoc]
theorem ZcL:∀ (o:Nat) (xs:List (List Keyed)),(pos o xs).length=xs.length
 | _,[]=>rfl
 | o,r::rs=>by simp only[pos,YaH,ZcL]
def pr (p:Nat × Nat × Nat):Nat × Nat:=(p.1,p.2.1)
structure RI (O:KO) (knd:SortKind) (a₀:List Keyed) (runs:List (List Keyed)) (rest:List Keyed) (st:SortSt):Prop where
 arr:(arrOf st).toList=runs.flatten++rest
 perm:(arrOf st).toList.Perm a₀
 srt:∀ r∈runs,O.Srt r
 ne:∀ r∈runs,1<=r.length
 kind:kindOf st=knd
 failed:failedOf st=none
 pend:(pendingOf st).toList.map pr=pos 0 runs
theorem ZdS:∀ (l:List Keyed) (n sa:Nat) (xs:Array Keyed) (P M S:List Keyed),xs.toList=P++M++S->M.length=l.length->P.length=sa+n ->
  ((l.zipIdx n).foldl (fun a (q:Keyed × Nat)=>a.setIfInBounds (sa+q.2) q.1) xs).toList=P++l++S
 | [],n,sa,xs,P,M,S,e,h1,h2=>by
  have:M=[]:=YbF.mp h1;subst this;simpa using e
 | x::l,n,sa,xs,P,[],S,e,h1,h2=>by cases h1
 | x::l,n,sa,xs,P,y::M,S,e,h1,h2=>by
  rw[Yd9,Yc2];have q:=ZdS l (n+1) sa (xs.setIfInBounds (sa+n) x) (P++[x]) M S ?_ (by simpa using h1) (by simp;omega)
  ·rw[q];simp
  ·rw[Yev,e,<- h2];simp
theorem Zjo {α β:Type}{f:α->β}{l:List α}{X Z:List β}{x y:β} (h:l.map f=X++x::y::Z):∃ P p q S,l=P++p::q::S/\P.map f=X/\f p=x/\f q=y/\S.map f=Z:=by
 obtain⟨P,l2,e1,e2,e3⟩:=List.map_eq_append_iff.mp h;obtain⟨p,l3,e4,e5,e6⟩:=Ye6.mp e3;obtain⟨q,S,e7,e8,e9⟩:=Ye6.mp e6;exact⟨P,p,q,S,by rw[e1,e4,e7],e2,e5,e8,e9⟩
theorem Zc5 {α:Type}{pre m post:List α}{l:List α}{i:Nat} (e:l=pre++m++post) (hi:i<m.length):l[pre.length+i]?=m[i]?:=by
 rw[e,Yax,YaG (by omega),Ydo,Yaz hi]
theorem ZlD {xs:Array Keyed}{pre m post:List Keyed} (e:xs.toList=pre++m++post) (sm:O.Srt m):∀ p q x y,pre.length<=p->p<=q->q<pre.length+m.length->xs[p]?=some x->xs[q]?=some y->O.le x y:=by
 intro p q x y h1 h2 h3 e1 e2;have f1:=Zc5 (i:=p - pre.length) e (by omega);have f2:=Zc5 (i:=q - pre.length) e (by omega);rw[show pre.length+(p - pre.length)=p by omega,Yau,e1] at f1;rw[show pre.length+(q - pre.length)=q by omega,Yau,e2] at f2;exact Zcq sm (by omega) f1.symm f2.symm
theorem ZjL {xs:Array Keyed}{P M S:List Keyed}{i j:Nat} (e:xs.toList=P++M++S) (hi:i=P.length) (hj:j=P.length+M.length):(xs.extract i j).toList=M:=by
 rw[Ze1,e,hi,hj,Yax,List.drop_left,Ydo,List.take_left]
theorem srt3 {x y z:List Keyed} (hx:O.Srt x) (hy:O.Srt y) (hz:O.Srt z) (xy:∀ p∈x,∀ q∈y,O.le p q) (yz:∀ p∈y,∀ q∈z,O.le p q) (xz:∀ p∈x,∀ q∈z,O.le p q):O.Srt (x++y++z):=by
 refine Ya0.mpr ⟨Ya0.mpr ⟨hx,hy,xy⟩,hz,fun p hp q hq=>?_⟩;rcases Yah.mp hp with hp | hp
 ·exact xz p hp q hq
 ·exact yz p hp q hq
theorem Zl0 {M:Model}{σ:Type}{x y:σ}{Q:PUnit->σ->Prop} (h:Q ⟨⟩ x):wpS M A E s (set x:StateT σ Sem PUnit) Q y:=by
 unfold wpS;rw[StateT.run_set];exact wpAny_pure ⟨rfl,h⟩
theorem Zb4 {a₀ rest:List Keyed}{R1 R2:List (List Keyed)}{a b:List Keyed}{i:Nat}{Q:Bool->SortSt->Prop} (hA:Asks prog w A s O knd ok) (h0:∀ x∈a₀,ok x) (hR:RI O knd a₀ (R1++a::b::R2) rest st) (hi:R1.length=i)
  (h:∀ m τ,m.Perm (a++b)->RI O knd a₀ (R1++m::R2) rest τ->Q true τ):wpS (model prog w) A E s (mergeAt' i) Q st:=by
 have hp:=hR.pend;rw[ZbY] at hp;obtain⟨P,p,q,S,ep,e1,e2,e3,e4⟩:=Zjo hp;obtain⟨p1,p2,w1⟩:=p;obtain⟨q1,q2,w2⟩:=q;simp only[pr,Prod.mk.injEq,YbT] at e2 e3;obtain⟨rfl,rfl⟩:=e2;obtain⟨rfl,rfl⟩:=e3;have hP:P.length=i:=by rw[<- hi,<- ZcL 0 R1,<- e1,Yaa]
 have g1:(pendingOf st)[i]?=some (R1.flatten.length,a.length,w1):=by
  rw[<- Yau,ep,YaG (by omega),hP,Ydc];rfl
 have g2:(pendingOf st)[i+1]?=some (R1.flatten.length+a.length,b.length,w2):=by
  rw[<- Yau,ep,YaG (by omega),hP,Ydo];rfl
 have ea:(arrOf st).toList=R1.flatten++a++(b++(R2.flatten++rest)):=by
  rw[hR.arr];simp
 have eb:(arrOf st).toList=(R1.flatten++a)++b++(R2.flatten++rest):=by
  rw[hR.arr];simp
 have sa:O.Srt a:=hR.srt a (by simp);have sb:O.Srt b:=hR.srt b (by simp);have la:1<=a.length:=hR.ne a (by simp);have lb:1<=b.length:=hR.ne b (by simp);have oks:∀ x∈(arrOf st).toList,ok x:=fun x hx=>h0 x (hR.perm.mem_iff.mp hx);have oka:∀ x∈a,ok x:=fun x hx=>oks x (by rw[ea];simp[hx]);have okb:∀ x∈b,ok x:=fun x hx=>oks x (by rw[eb];simp[hx]);have fin:∀ (τ:SortSt) (m:List Keyed),m.Perm (a++b)->O.Srt m->(arrOf τ).toList=R1.flatten++m++(R2.flatten++rest)->kindOf τ=knd->failedOf τ=none->(pendingOf τ).toList=P++(R1.flatten.length,a.length+b.length,w1)::S->Q true τ:=by
  intro τ m pm sm em k1 k2 k3;have lm:m.length=a.length+b.length:=by rw[pm.length_eq,Yag]
  refine h m τ pm ⟨by rw[em];simp,?_,?_,?_,k1,k2,?_⟩
  ·refine Ydj ?_ hR.perm;rw[em,ea];have:=YbK R1.flatten (Ybr (R2.flatten++rest) pm);simpa using this
  ·intro r hr;rcases Yah.mp hr with hr | hr
   ·exact hR.srt r (Ya1 _ hr)
   ·rcases YaD.mp hr with hr | hr
    ·rw[hr];exact sm
    ·exact hR.srt r (by simp[hr])
  ·intro r hr;rcases Yah.mp hr with hr | hr
   ·exact hR.ne r (Ya1 _ hr)
   ·rcases YaD.mp hr with hr | hr
    ·rw[hr];omega
    ·exact hR.ne r (by simp[hr])
  ·rw[k3,ZbY,Yai,e1,YaJ,e4,YbT];simp only[pos,pr,lm,Nat.add_assoc]
 have new:(((pendingOf st).setIfInBounds i (R1.flatten.length,a.length+b.length,w1)).eraseIdxIfInBounds (i+1)).toList=P++(R1.flatten.length,a.length+b.length,w1)::S:=by
  rw[Array.toList_eraseIdxIfInBounds,Yev,ep,<- hP];simp[List.eraseIdx_append_of_length_le]
 refine wpS_bind (wpS_get ?_);rw[show (pendingOf st)[i]?=_ from g1,show (pendingOf st)[i+1]?=_ from g2];dsimp only;refine wpS_bind (Zl0 ?_);have eb0:(arrOf st).toList[(R1.flatten++a).length+0]?=b[0]?:=Zc5 eb (by omega);have hb0:b[0]?=some b[0]:=Yac lb;have eb1:(arrOf st)[R1.flatten.length+a.length]?=some b[0]:=by
  rw[<- Yau,<- hb0,<- eb0,Yag,Nat.add_zero]
 have mb0:b[0]∈b:=Yby _;refine wpS_bind (Zar eb1 ?_);have hlen:(arrOf st).size=R1.flatten.length+a.length+b.length+(R2.flatten++rest).length:=by
  rw[<- Ya7,eb];simp only[Yag]
 refine wpS_bind (Zb5 hA hR.kind (okb _ mb0) oks (show R1.flatten.length+a.length<=(arrOf st).size by omega) (ZlD ea sa) (by omega) fun k hk1 u1 u2=>?_);have ka1:∀ z∈a.take k,O.le z b[0]:=by
  intro z hz;obtain⟨j,hj,e⟩:=ZaW hz;refine u1 j z hj ?_;rw[<- Yau,Zc5 ea (by omega)];exact e
 have ka2:∀ z∈a.drop k,O.blt (O.ky b[0]) (O.ky z)=true:=by
  intro z hz;obtain⟨j,hj,e⟩:=ZaX hz;have hj2:j<a.length:=(Yab.mp e).1
  refine u2 j z hj hj2 ?_;rw[<- Yau,Zc5 ea hj2];exact e
 have bb:∀ z∈b,O.le b[0] z:=fun z hz=>ZcO sb hb0 z (by simpa using hz);dsimp only;by_cases ck:a.length - k=0
 ·rw[if_pos (by simpa using ck)];have ek:a.take k=a:=YaY (by omega);rw[ek] at ka1;refine wpS_pure (fin _ (a++b) (Ybx _) (Ya0.mpr ⟨sa,sb,fun x hx y hy=>KO.le_trans (ka1 x hx) (bb y hy)⟩) ?_ hR.kind hR.failed new);show (arrOf st).toList=_;rw[ea];simp
 rw[if_neg (by simpa using ck)];have hla:a[a.length - 1]?=some a[a.length - 1]:=Yac (by omega);have mla:a[a.length - 1]∈a:=Yby _;have mla2:a[a.length - 1]∈a.drop k:=by
  refine Ycq.mpr ⟨a.length - 1 - k,?_⟩;rw[Yca,show k+(a.length - 1 - k)=a.length - 1 by omega];exact hla
 have ela:(arrOf st)[R1.flatten.length+k+(a.length - k) - 1]?=some a[a.length - 1]:=by
  rw[<- Yau,show R1.flatten.length+k+(a.length - k) - 1=R1.flatten.length+(a.length - 1) by omega,Zc5 ea (by omega)];exact hla
 refine wpS_bind (Zar ela ?_);refine wpS_bind (Zbc hA hR.kind (oka _ mla) oks (show R1.flatten.length+a.length+b.length<=(arrOf st).size by omega) (by rw[<- Yag];exact ZlD eb sb) (by omega) fun n hn1 v1 v2=>?_);have kb1:∀ z∈b.take n,O.blt (O.ky z) (O.ky a[a.length - 1])=true:=by
  intro z hz;obtain⟨j,hj,e⟩:=ZaW hz;refine v1 j z hj ?_;rw[<- Yau,<- Yag,Zc5 eb (by omega)];exact e
 have kb2:∀ z∈b.drop n,O.le a[a.length - 1] z:=by
  intro z hz;obtain⟨j,hj,e⟩:=ZaX hz;have hj2:j<b.length:=(Yab.mp e).1
  refine v2 j z hj hj2 ?_;rw[<- Yau,<- Yag,Zc5 eb hj2];exact e
 have hn0:1<=n:=by
  rcases YdY n with z | z
  ·subst z;have q1:=ka2 _ mla2;rw[show O.blt (O.ky b[0]) (O.ky a[a.length - 1])=false from kb2 b[0] (by simpa using mb0)] at q1;cases q1
  ·exact z
 have aa:∀ z∈a,O.le z a[a.length - 1]:=fun z hz=>Zjv sa hla z (by rw[show a.length - 1+1=a.length by omega,YaM];exact hz);dsimp only;rw[if_neg (by simp;omega)];have exx:((arrOf st).extract (R1.flatten.length+k) (R1.flatten.length+a.length)).toList=a.drop k :=
  ZjL (P:=R1.flatten++a.take k) (S:=b++(R2.flatten++rest)) (by rw[ea];simp[<- Yax];simp[Yax,YaU]) (by simp;omega) (by simp;omega)
 have exy:((arrOf st).extract (R1.flatten.length+a.length) (R1.flatten.length+a.length+n)).toList=b.take n :=
  ZjL (P:=R1.flatten++a) (S:=b.drop n++(R2.flatten++rest)) (by rw[eb];simp only[Yax];rw[<- Yax (b.take n),YaU]) (by simp) (by simp;omega)
 have sx:O.Srt (a.drop k):=sa.drop;have sy:O.Srt (b.take n):=sb.take;have after:∀ (r:Array Keyed) (τ:SortSt),Gal (YdS (kindOf st) (arrOf st) (((pendingOf st).setIfInBounds i (R1.flatten.length,a.length+b.length,w1)).eraseIdxIfInBounds (i+1)) (gallopOf st) (failedOf st)) τ->Mg O (a.drop k) (b.take n) r.toList ->
   Q true (YdS (kindOf τ) (r.toList.zipIdx.foldl (fun a (q:Keyed × Nat)=>a.setIfInBounds (R1.flatten.length+k+q.2) q.1) (arrOf τ)) (pendingOf τ) (gallopOf τ) (failedOf τ)):=by
  intro r τ hG hM;have mem:∀ z∈r.toList,z∈a.drop k∨z∈b.take n:=fun z hz=>Yah.mp (hM.1.mem_iff.mp hz);refine fin _ (a.take k++r.toList++b.drop n) ?_ (srt3 sa.take hM.2 sb.drop (fun p hp q hq=>?_) (fun p hp q hq=>?_) fun p hp q hq=>?_) ?_ (hG.1.trans hR.kind) (hG.2.2.2.trans hR.failed) (by rw[show pendingOf τ=_ from hG.2.2.1];exact new)
  ·have p1:(a.take k++r.toList++b.drop n).Perm (a.take k++(a.drop k++b.take n)++b.drop n):=Ybr _ (YbK _ hM.1);refine p1.trans (YdZ ?_);rw[<- Yax,YaU,Yax,YaU]
  ·rcases mem q hq with m | m
   ·refine (Ya0.mp (show O.Srt (a.take k++a.drop k) from by rw[YaU];exact sa)).2.2 p hp q m
   ·exact KO.le_trans (ka1 p hp) (bb q (Yba m))
  ·rcases mem p hp with m | m
   ·exact KO.le_trans (aa p (Ya3 m)) (kb2 q hq)
   ·refine (Ya0.mp (show O.Srt (b.take n++b.drop n) from by rw[YaU];exact sb)).2.2 p m q hq
  ·exact KO.le_trans (ka1 p hp) (bb q (Ya3 hq))
  ·show (YeK _ (arrOf τ) _).toList=_;rw[show arrOf τ=arrOf st from hG.2.1];have:=ZdS r.toList 0 (R1.flatten.length+k) (arrOf st) (R1.flatten++a.take k) (a.drop k++b.take n) (b.drop n++(R2.flatten++rest)) ?_ (by rw[hM.1.length_eq]) (by simp;omega)
   ·rw[this];simp
   ·rw[eb];simp only[Yax];rw[<- Yax (a.take k),YaU,<- Yax (b.take n),YaU]
 have xsz:((arrOf st).extract (R1.flatten.length+k) (R1.flatten.length+a.length)).size=a.length - k:=by
  rw[<- Ya7,exx,YaX]
 have ysz:((arrOf st).extract (R1.flatten.length+a.length) (R1.flatten.length+a.length+n)).size=n:=by
  rw[<- Ya7,exy,Yav];omega
 have y0:∀ y,((arrOf st).extract (R1.flatten.length+a.length) (R1.flatten.length+a.length+n))[0]?=some y->y=b[0]:=by
  intro y e;rw[<- Yau,exy,Ycg (by omega),hb0] at e;exact (YaB e).symm
 have xl:∀ z,((arrOf st).extract (R1.flatten.length+k) (R1.flatten.length+a.length))[((arrOf st).extract (R1.flatten.length+k) (R1.flatten.length+a.length)).size - 1]?=some z->z=a[a.length - 1]:=by
  intro z e;rw[xsz,<- Yau,exx,Yca,show k+(a.length - k - 1)=a.length - 1 by omega,hla] at e;exact (YaB e).symm
 have hx1:1<=((arrOf st).extract (R1.flatten.length+k) (R1.flatten.length+a.length)).size:=by rw[xsz];omega
 have hy1:1<=((arrOf st).extract (R1.flatten.length+a.length) (R1.flatten.length+a.length+n)).size:=by rw[ysz];omega
 refine ZaF (fun _=>?_) (fun _=>?_)
 ·refine wpS_bind (ZfY hA hR.kind (by rw[exx];exact fun x hx=>oka x (Ya3 hx)) (by rw[exy];exact fun x hx=>okb x (Yba hx)) (by rw[exx];exact sx) (by rw[exy];exact sy) hx1 hy1 ?_ ?_ ?_)
  ·intro y e x hx;rw[y0 y e];rw[exx] at hx;exact KO.le_of_lt (ka2 x hx)
  ·intro z e y hy;rw[xl z e];rw[exy] at hy;exact kb1 y hy
  ·intro r τ hG hM;rw[exx,exy] at hM;refine wpS_bind (wpS_modify (wpS_bind (wpS_get ?_)));have e9:failedOf τ=none:=hG.2.2.2.trans hR.failed;refine wpS_pure ?_;show Q (failedOf τ).isNone _;rw[e9];exact after r τ hG hM
 ·refine wpS_bind (ZfZ hA hR.kind (by rw[exx];exact fun x hx=>oka x (Ya3 hx)) (by rw[exy];exact fun x hx=>okb x (Yba hx)) (by rw[exx];exact sx) (by rw[exy];exact sy) hx1 hy1 ?_ ?_ ?_)
  ·intro y e x hx;rw[y0 y e];rw[exx] at hx;exact ka2 x hx
  ·intro z e y hy;rw[xl z e];rw[exy] at hy;exact KO.le_of_lt (kb1 y hy)
  ·intro r τ hG hM;rw[exx,exy] at hM;refine wpS_bind (wpS_modify (wpS_bind (wpS_get ?_)));have e9:failedOf τ=none:=hG.2.2.2.trans hR.failed;refine wpS_pure ?_;show Q (failedOf τ).isNone _;rw[e9];exact after r τ hG hM
end
end L2
namespace L2
open PySem PyProof.Rows
section
variable {prog:Program}{w:World}{A:Around}{E:Value->Shared->Prop}{s:Shared}{O:KO}{knd:SortKind}{ok:Keyed->Prop}{st τ:SortSt}
theorem ZmL {c:Prop} [Decidable c] {a b n:Nat} (h1:a<=n) (h2:b<=n):(if c then a else b)<=n:=by split <;> assumption
theorem Zco {α:Type}:∀ {l:List α}{i:Nat},i+1<l.length->∃ R1 a b R2,l=R1++a::b::R2/\R1.length=i
 | [],_,h=>by simp at h
 | [_],_,h=>by simp at h
 | a::b::l,0,_=>⟨[],a,b,l,rfl,rfl⟩
 | a::b::l,i+1,h=>by
  obtain⟨R1,x,y,R2,e,q⟩:=Zco (l:=b::l) (i:=i) (by simpa using h);exact⟨a::R1,x,y,R2,by rw[e];rfl,by simp[q]⟩
theorem RI.len {a₀ rest:List Keyed}{runs:List (List Keyed)} (h:RI O knd a₀ runs rest st):(pendingOf st).size=runs.length:=by
 rw[<- Ya7,<- ZcL 0 runs,<- h.pend,Yaa]
theorem RI.size {a₀ rest:List Keyed}{runs:List (List Keyed)} (h:RI O knd a₀ runs rest st):(arrOf st).size=runs.flatten.length+rest.length:=by
 rw[<- Ya7,h.arr,Yag]
theorem RI.size0 {a₀ rest:List Keyed}{runs:List (List Keyed)} (h:RI O knd a₀ runs rest st):(arrOf st).size=a₀.length:=by
 rw[<- Ya7,h.perm.length_eq]
theorem Ziu:∀ {runs:List (List Keyed)},(∀ r∈runs,1<=r.length)->runs.length<=runs.flatten.length
 | [],_=>by simp
 | r::rs,h=>by
  have q:=Ziu (runs:=rs) fun x hx=>h x (by simp[hx]);have:=h r (by simp);simp only[YaH,YaF,Yag];omega
theorem ZnR {a₀ rest:List Keyed}{runs:List (List Keyed)}{n:Nat} (h:RI O knd a₀ runs rest st) (hF:FB knd (arrOf st) (pendingOf st) runs.flatten.length τ) (hu:Up O runs.flatten.length n (arrOf τ)) (hn:n<=rest.length) :
  ∃ r rest',r.length=n/\O.Srt r/\rest.length=n+rest'.length/\RI O knd a₀ runs (r++rest') τ:=by
 have hpm:=Yew.mp hF.perm;have hsz:(arrOf τ).size=runs.flatten.length+rest.length:=by rw[hF.size,h.size]
 have e1:(arrOf τ).toList.take runs.flatten.length=runs.flatten:=by
  have:(arrOf τ).toList.take runs.flatten.length=(arrOf st).toList.take runs.flatten.length:=by
   apply Yfw;intro i;rcases Ybt i runs.flatten.length with hi | hi
   ·rw[Ycg hi,Ycg hi,Yau,Yau];exact hF.keep i hi
   ·rw[YdA (by rw[Yav];omega),YdA (by rw[Yav];omega)]
  rw[this,h.arr,List.take_left]
 have e2:(arrOf τ).toList=runs.flatten++(arrOf τ).toList.drop runs.flatten.length:=by
  conv=>lhs;rw[<- YaU runs.flatten.length (arrOf τ).toList,e1]
 have lr:((arrOf τ).toList.drop runs.flatten.length).length=rest.length:=by
  rw[YaX,Ya7];omega
 refine⟨((arrOf τ).toList.drop runs.flatten.length).take n,((arrOf τ).toList.drop runs.flatten.length).drop n,by rw[Yav];omega,?_,by rw[YaX];omega,⟨by rw[YaU];exact e2,hpm.trans h.perm,h.srt,h.ne,hF.kind,hF.failed,by rw[hF.pend];exact h.pend⟩⟩;refine Ydd.mpr fun i j hi hj hij=>?_;rw[Yav] at hi hj;have q:=hu i j (by omega) (by omega);rw[Ydi,Ydi,Yfu,Yfu];have g:∀ k (hk:runs.flatten.length+k<(arrOf τ).toList.length),ka O (arrOf τ) (runs.flatten.length+k)=O.ky ((arrOf τ).toList[runs.flatten.length+k]):=by
  intro k hk;unfold ka;rw[<- Yau,Yac hk];rfl
 have hlt:(arrOf τ).toList.length=runs.flatten.length+rest.length:=by rw[Ya7];exact hsz
 rw[g i (by omega),g j (by omega)] at q;exact q
theorem RI.push {a₀ rest r:List Keyed}{runs:List (List Keyed)}{lo n:Nat} (h:RI O knd a₀ runs (r++rest) st) (hs:O.Srt r) (hr:r.length=n) (hn:1<=n) (hl:lo=runs.flatten.length):RI O knd a₀ (runs++[r]) rest (setPending st ((pendingOf st).push (lo,n,0))):=by
 refine⟨?_,h.perm,?_,?_,h.kind,h.failed,?_⟩
 ·show (arrOf st).toList=_;rw[h.arr];simp
 ·intro x hx;rcases Yah.mp hx with hx | hx
  ·exact h.srt x hx
  ·rw[Yaj.mp hx];exact hs
 ·intro x hx;rcases Yah.mp hx with hx | hx
  ·exact h.ne x hx
  ·rw[Yaj.mp hx];omega
 ·show ((pendingOf st).push (lo,n,0)).toList.map pr=_;rw[YcM,Yai,h.pend,ZbY,hl,<- hr];simp[pos,pr]
theorem RI.pow {a₀ rest:List Keyed}{runs:List (List Keyed)}{pw:Nat} (h:RI O knd a₀ runs rest st):RI O knd a₀ runs rest (setPending st ((pendingOf st).modify ((pendingOf st).size - 1) fun x=>(x.1,x.2.1,pw))):=by
 refine⟨h.arr,h.perm,h.srt,h.ne,h.kind,h.failed,?_⟩;show ((pendingOf st).modify _ _).toList.map pr=_;rw[<- h.pend];apply Yfw;intro i;rw[Yaf,Yaf,Yau,Yau,Array.getElem?_modify];split
 ·cases (pendingOf st)[i]? <;> rfl
 ·rfl
theorem ZfX {a₀:Array Keyed}{Q:Unit->SortSt->Prop} (hA:Asks prog w A s O knd ok) (h0:∀ x∈a₀.toList,ok x) (ha:arrOf st=a₀) (hk:kindOf st=knd) (hf:failedOf st=none) (hp:pendingOf st=#[])
  (h:∀ τ,(arrOf τ).toList.Perm a₀.toList->failedOf τ=none->O.Srt (arrOf τ).toList->Q () τ):wpS (model prog w) A E s sortRuns' Q st:=by
 refine wpS_bind (wpS_get ?_);dsimp only;have hN:(arrOf st).size=a₀.size:=by rw[ha]
 have hN2:a₀.toList.length=a₀.size:=Ya7;rw[hN];refine wpS_bind (wpS_mono (wpS_forRange
  (I:=fun x c τ=>∃ lo runs rest,c=((none:Option Unit),lo)/\RI O knd a₀.toList runs rest τ/\lo=runs.flatten.length/\(x<=lo))
  (Q:=fun c τ=>∃ lo runs,c=((none:Option Unit),lo)/\RI O knd a₀.toList runs [] τ) ?go ?out ⟨0,[],a₀.toList,rfl,⟨by rw[ha];simp,by rw[ha],(fun r hr=>nomatch hr),(fun r hr=>nomatch hr),hk,hf,by rw[hp];rfl⟩,rfl,Yap 0⟩) ?fin)
 case out=>
  rintro c τ ⟨lo,runs,rest,rfl,hR,e1,e2⟩;have q1:=hR.size;have q2:=hR.size0;have q3:=hN2;have:rest=[]:=YbF.mp (by
   have q4:max 0 a₀.size<=lo:=e2;omega)
  subst this;exact⟨lo,runs,rfl,hR⟩
 case fin=>
  rintro c τ ⟨lo,runs,rfl,hR⟩;dsimp only;have q1:=hR.size;have q2:=Ziu hR.ne;have q3:=hN2;have q4:=hR.size0;refine wpS_bind (wpS_mono (wpS_forRange (I:=fun x c τ'=>c=((none:Option Unit),())/\∃ runs',RI O knd a₀.toList runs' [] τ'/\runs'.length+x<=a₀.size)
   (Q:=fun c τ'=>c=((none:Option Unit),())/\∃ runs',RI O knd a₀.toList runs' [] τ'/\runs'.length<=1) ?g2 ?o2 ⟨rfl,runs,hR,by simp only[YcF] at q1;omega⟩) ?f2)
  case o2=>
   rintro c τ' ⟨hc,runs',hR',e⟩;have e:runs'.length+max 0 a₀.size<=a₀.size:=e;exact⟨hc,runs',hR',by omega⟩
  case f2=>
   rintro c τ' ⟨rfl,runs',hR',e⟩;refine wpS_pure (h τ' hR'.perm hR'.failed ?_);rw[hR'.arr,Ya4]
   match runs',e,hR' with
   | [],_,_=>exact Yb4
   | [r],_,hR'=>simpa using hR'.srt r (by simp)
  case g2=>
   rintro x c τ' _ _ ⟨rfl,runs',hR',e⟩;refine wpS_bind (wpS_get ?_);by_cases c1:(pendingOf τ').size<=1
   ·rw[if_pos c1];exact wpS_pure ⟨rfl,runs',hR',by rw[<- hR'.len];exact c1⟩
   rw[if_neg c1];have key:∀ j,j<=(pendingOf τ').size - 2->wpS (model prog w) A E s (mergeAt' j) (fun b τ3=>b=true/\∃ runs',RI O knd a₀.toList runs' [] τ3/\runs'.length+(x+1)<=a₀.size) τ':=by
    intro j hj;obtain⟨R1,a,b,R2,e3,e4⟩:=Zco (l:=runs') (i:=j) (by rw[<- hR'.len];omega);subst e3;refine Zb4 hA h0 hR' e4 fun m τ3 pm hR3=>⟨rfl,_,hR3,?_⟩
    simp only[Yag,YaH] at e ⊢
    (clear e4 hj c1 q4 q3 q2 q1 hN2 hN;omega)
   refine wpS_bind (wpS_mono (key _ ?_) ?_)
   ·have:=hR'.len;rw[show (pendingOf τ').size=runs'.length from this];exact ZmL (by (clear this c1 e q4 q3 q2 q1 hN2 hN;omega)) (by (clear this c1 e q4 q3 q2 q1 hN2 hN;omega))
   ·rintro b τ3 ⟨rfl,runs3,hR3,e3⟩;simp only[Ydn,YaT,if_false];exact wpS_pure ⟨rfl,runs3,hR3,e3⟩
 case go=>
  rintro x c τ _ hx ⟨lo,runs,rest,rfl,hR,e1,e2⟩;have q1:=hR.size;have q2:=hR.size0;have q3:=hN2;dsimp only;by_cases c0:lo ≥ a₀.size
  ·rw[if_pos c0];have:rest=[]:=YbF.mp (by omega);subst this;exact wpS_pure ⟨lo,runs,rfl,hR⟩
  rw[if_neg c0];have oks:∀ x∈(arrOf τ).toList,ok x:=fun x hx=>h0 x (hR.perm.mem_iff.mp hx);refine wpS_bind (Zl1 (b₀:=arrOf τ) (p₀:=pendingOf τ) (lo:=lo) hA oks ⟨Array.Perm.refl _,fun _ _=>rfl,hR.kind,hR.failed,rfl⟩ (by omega) (by omega) fun m τ1 hF m1 m2 u=>?_);dsimp only;refine ZaF (fun cm=>?_) (fun cm=>?_)
  ·refine wpS_bind (wpS_lift (wpAny_rule ⟨rfl,?_⟩));refine wpS_bind (Zl2 hA oks hF (by omega) m1 (by (clear m1 c0 q3 q2 q1 e2 e1 hx hN2 hN;omega)) u fun τ2 hF2 u2=>?_);simp only[Ydn,YaT,if_false];rw[e1] at hF2 u2;obtain⟨r,rest',hr,hs,hl,hR2⟩:=ZnR hR hF2 u2 (by (clear cm m2 m1 c0 q3 e2 e1 hx hN;omega));rw[<- e1] at hr;have h1n:1<=r.length:=by (clear hl m2 m1 q3 q2 q1 e2 e1 hx hN2 hN;omega)
   rw[hr] at h1n;refine wpS_bind (wpS_get ?_)
   cases eb:(pendingOf τ2).back? with
   | none=>
    dsimp only;exact wpS_bind (wpS_modify (wpS_pure ⟨_,runs++[r],rest',rfl,hR2.push hs hr h1n e1,by simp[hr,e1],by (clear h1n hl hr m2 m1 c0 q3 q2 q1 e1 hN2 hN;omega)⟩))
   | some p=>
    obtain⟨s1,n1,w1⟩:=p;dsimp only;refine wpS_bind (wpS_mono (wpS_forRange (I:=fun _ c τ'=>c=((none:Option Unit),())/\∃ runs',RI O knd a₀.toList runs' (r++rest') τ'/\runs'.flatten.length=lo)
     (Q:=fun c τ'=>c=((none:Option Unit),())/\∃ runs',RI O knd a₀.toList runs' (r++rest') τ'/\runs'.flatten.length=lo) ?g2 (fun _ _ z=>z) ⟨rfl,runs,hR2,e1.symm⟩) ?f2)
    case f2=>
     rintro c τ' ⟨rfl,runs',hR',e⟩;exact wpS_bind (wpS_modify (wpS_bind (wpS_modify (wpS_pure ⟨_,runs'++[r],rest',rfl,hR'.pow.push hs hr h1n e.symm,by simp[hr,e],by (clear e h1n hl hr m2 m1 c0 q3 q2 q1 e1 hN2 hN;omega)⟩))))
    case g2=>
     rintro y c τ' _ _ ⟨rfl,runs',hR',e⟩;refine wpS_bind (wpS_get ?_);by_cases c1:(pendingOf τ').size > 1
     ·rw[if_pos c1]
      cases ep:(pendingOf τ')[(pendingOf τ').size - 2]? with
      | none=>exact wpS_pure ⟨rfl,runs',hR',e⟩
      | some p=>
       obtain⟨s3,n3,w3⟩:=p;dsimp only;refine ZaF (fun _=>wpS_pure ⟨rfl,runs',hR',e⟩) (fun _=>?_);obtain⟨R1,a,b,R2,e3,e4⟩:=Zco (l:=runs') (i:=(pendingOf τ').size - 2) (by rw[<- hR'.len];(clear e h1n hl hr cm m2 m1 c0 q3 q2 q1 e2 e1 hx hN2 hN;omega));subst e3;refine wpS_bind (Zb4 hA h0 hR' e4 fun m τ3 pm hR3=>?_);simp only[Ydn,YaT,if_false];refine wpS_pure ⟨rfl,_,hR3,?_⟩;rw[<- e];have:=pm.length_eq;simp only[Ybk,YaF,Yag] at this ⊢
       (clear e e4 c1 h1n hl hr cm m2 m1 c0 q3 q2 q1 e2 e1 hx hN2 hN;omega)
     ·rw[if_neg c1];exact wpS_pure ⟨rfl,runs',hR',e⟩
  ·rw[e1] at hF u;obtain⟨r,rest',hr,hs,hl,hR2⟩:=ZnR hR hF u (by omega);have h1n:1<=m:=m1;refine wpS_bind (wpS_get ?_)
   cases eb:(pendingOf τ1).back? with
   | none=>
    dsimp only;exact wpS_bind (wpS_modify (wpS_pure ⟨_,runs++[r],rest',rfl,hR2.push hs hr h1n e1,by simp[hr,e1],by (clear h1n hl hr cm m2 c0 q3 q2 q1 e1 hx hN2 hN;omega)⟩))
   | some p=>
    obtain⟨s1,n1,w1⟩:=p;dsimp only;refine wpS_bind (wpS_mono (wpS_forRange (I:=fun _ c τ'=>c=((none:Option Unit),())/\∃ runs',RI O knd a₀.toList runs' (r++rest') τ'/\runs'.flatten.length=lo)
     (Q:=fun c τ'=>c=((none:Option Unit),())/\∃ runs',RI O knd a₀.toList runs' (r++rest') τ'/\runs'.flatten.length=lo) ?g2 (fun _ _ z=>z) ⟨rfl,runs,hR2,e1.symm⟩) ?f2)
    case f2=>
     rintro c τ' ⟨rfl,runs',hR',e⟩;exact wpS_bind (wpS_modify (wpS_bind (wpS_modify (wpS_pure ⟨_,runs'++[r],rest',rfl,hR'.pow.push hs hr h1n e.symm,by simp[hr,e],by (clear e h1n hl hr cm m2 c0 q3 q2 q1 e1 hx hN2 hN;omega)⟩))))
    case g2=>
     rintro y c τ' _ _ ⟨rfl,runs',hR',e⟩;refine wpS_bind (wpS_get ?_);by_cases c1:(pendingOf τ').size > 1
     ·rw[if_pos c1]
      cases ep:(pendingOf τ')[(pendingOf τ').size - 2]? with
      | none=>exact wpS_pure ⟨rfl,runs',hR',e⟩
      | some p=>
       obtain⟨s3,n3,w3⟩:=p;dsimp only;refine ZaF (fun _=>wpS_pure ⟨rfl,runs',hR',e⟩) (fun _=>?_);obtain⟨R1,a,b,R2,e3,e4⟩:=Zco (l:=runs') (i:=(pendingOf τ').size - 2) (by rw[<- hR'.len];(clear e h1n hl hr cm m2 m1 c0 q3 q2 q1 e2 e1 hx hN2 hN;omega));subst e3;refine wpS_bind (Zb4 hA h0 hR' e4 fun m τ3 pm hR3=>?_);simp only[Ydn,YaT,if_false];refine wpS_pure ⟨rfl,_,hR3,?_⟩;rw[<- e];have:=pm.length_eq;simp only[Ybk,YaF,Yag] at this ⊢
       (clear e e4 c1 h1n hl hr cm m2 m1 c0 q3 q2 q1 e2 e1 hx hN2 hN;omega)
     ·rw[if_neg c1];exact wpS_pure ⟨rfl,runs',hR',e⟩
end
end L2
namespace L2
open PySem PyProof.Rows
section
variable {prog:Program}{w:World}{A:Around}{E:Value->Shared->Prop}{s:Shared}{O:KO}{knd:SortKind}{ok:Keyed->Prop}
def Ord2 (O:KO) (b:Bool) (us:List Value):Prop:=us.Pairwise fun u v=>if b=true then O.le (v,v) (u,u) else O.le (u,u) (v,v)
theorem Znr {vs:List Value}{out:List Keyed} (hp:out.Perm (vs.zip vs)) (hs:O.Srt out) (b:Bool):∃ us:List Value,(if b=true then (out.map (·.2)).reverse else out.map (·.2))=us/\us.Perm vs/\Ord2 O b us:=by
 have hm:∀ p∈out,p=(p.2,p.2):=fun p hp'=>by
  have:=(mem_zip_self (hp.mem_iff.mp hp')).1
  exact Prod.ext this rfl
 have p1:(out.map (·.2)).Perm vs:=by
  have:=hp.map (·.2)
  rwa [List.map_snd_zip (Yap _)] at this
 have s1:(out.map (·.2)).Pairwise fun u v=>O.le (u,u) (v,v):=by
  rw[Ybz];refine hs.imp_of_mem fun {x y} hx hy q=>?_;rw[hm x hx,hm y hy] at q;exact q
 cases b with
 | false=>exact⟨_,rfl,p1,by simpa[Ord2] using s1⟩
 | true=>exact⟨_,rfl,(List.reverse_perm _).trans p1,by simp only[Ord2,if_true,List.pairwise_reverse];exact s1⟩
theorem Zis {a:Addr}{vs:List Value}{n:Nat}{h:Heap} (ho:h.get? a=some (seqObj "list" vs.toArray n)) {b:Addr}{o:Obj} (hb:h.get? b=some o) (hne:b≠a):(((h.update a (YbJ fun _=>#[])).push (seqObj "tuple" vs.toArray 0)).push (seqObj "list" #[] 0)).get? b=some o :=
 Yae _ (Yae _ (by rw[Yfi _ _ _ _ hne];exact hb))
theorem ZgT {a:Addr}{vs:List Value}{n:Nat}{P:PySem.Fin->Shared->Prop} (ho:s.heap.get? a=some (seqObj "list" vs.toArray n)) (hz:vs.length<=sizeLine)
  (hkk:∀ h',(∀ b o,s.heap.get? b=some o->b≠a->h'.get? b=some o)->2<=vs.length->∀ Q:SortKind->Shared->Prop,Q knd { s with heap:=h' }->wpAny (model prog w) A (keyKind' vs.toArray) Q E { s with heap:=h' })
  (hA:∀ h',(∀ b o,s.heap.get? b=some o->b≠a->h'.get? b=some o)->Asks prog w A { s with heap:=h' } O knd ok) (hok:∀ v∈vs,ok (v,v))
  (h:∀ us:List Value,us.Perm vs->Ord2 O false us->P (.done (.ret .none)) { s with heap:=sortedHeap s.heap a vs us.toArray }):wpAny (model prog w) A (Builtin.«list.sort» ⟨[.ref a],[]⟩) P E s:=by
 have ha:a<s.heap.objs.size:=Yar ho;have keep:=fun (b:Addr) (o:Obj) (hb:s.heap.get? b=some o) (hne:b≠a)=>Zis ho hb hne;obtain⟨e1,ho1⟩:∃ c,(s.heap.update a (YbJ fun _=>#[])).get? a=some (seqObj "list" #[] c):=⟨_,get?_update_seq ho (fun _=>#[])⟩
 have ho6:=Yae (seqObj "list" #[] 0) (Yae (seqObj "tuple" vs.toArray 0) ho1);have hsv:vs.toArray.size=vs.length:=Yal;have hz1:vs.toArray.size<=sizeLine:=by rw[hsv];exact hz
 have fin:∀ (τ:SortSt),(arrOf τ).toList.Perm (vs.zip vs)->O.Srt (arrOf τ).toList->P (.done (.ret .none)) { s with heap:=sortedHeap s.heap a vs ((arrOf τ).map (·.2)) }:=by
  intro τ hp hs;obtain⟨us,e,p1,p2⟩:=Znr hp hs false;have e2:(arrOf τ).map (·.2)=us.toArray:=by rw[<- e];apply Yfx.mp;simp
  rw[e2];exact h us p1 p2
 have osz:∀ τ:SortSt,(arrOf τ).toList.Perm (vs.zip vs)->((arrOf τ).map (·.2)).size<=sizeLine+1:=by
  intro τ hp;rw[Array.size_map,<- Ya7,hp.length_eq,List.length_zip];omega
 rw[list_sort_plain];refine wpAny_bind (listItems_at ho rfl (wpAny_bind (listUpdate_at ho rfl ?_ hz1 (Ya2 _))));refine wpAny_bind (seqEpoch_at ho1 rfl (wpAny_bind (wpAny_newTuple ?_ hz)));refine wpAny_bind (wpAny_newList ?_ (Ya2 _));refine wpAny_holding ?_;show wpAny (model prog w) A _ P E ({ s with heap:=((s.heap.update a (YbJ fun _=>#[])).push (seqObj "tuple" vs.toArray 0)).push (seqObj "list" #[] 0) }:Shared);dsimp only;by_cases h2:vs.toArray.size<2
 ·rw[if_pos h2,if_pos h2];refine wpAny_bind (wpAny_pure ?_);rw[StateT.run_pure];have hp0:(vs.toArray.zip vs.toArray).toList.Perm (vs.zip vs):=by simp
  refine wpAny_bind (wpAny_pure (wpAny_bind (seqEpoch_at ho6 rfl (wpAny_bind (listUpdate_at ho6 rfl ?_ (Ya2 _) (osz (YdS general' (vs.toArray.zip vs.toArray) #[] 7 none) hp0))))));simp only[bne_self_eq_false,YaT,if_false];refine wpAny_pure (fin (YdS general' (vs.toArray.zip vs.toArray) #[] 7 none) hp0 ?_);show O.Srt (vs.toArray.zip vs.toArray).toList;rw[show (vs.toArray.zip vs.toArray).toList=vs.zip vs by simp]
  match vs,h2 with
  | [],_=>exact Yb4
  | [v],_=>exact Ydl _ _
 ·rw[if_neg h2,if_neg h2];refine wpAny_bind (hkk _ keep (by omega) _ ?_);refine wpAny_bind (wpAny_mono (ZfX (a₀:=vs.toArray.zip vs.toArray) (st:=YdS knd (vs.toArray.zip vs.toArray) #[] 7 none) (Q:=fun _ τ=>(arrOf τ).toList.Perm (vs.zip vs)/\failedOf τ=none/\O.Srt (arrOf τ).toList)
   (hA _ keep) (fun x hx=>?_) rfl rfl rfl rfl fun τ a1 a2 a3=>⟨by simpa using a1,a2,a3⟩) ?_ fun _ _ z=>z)
  ·have hx:x∈vs.zip vs:=by simpa using hx
   have q:=mem_zip_self hx;rw[show x=(x.1,x.1) from Prod.ext rfl q.1.symm];exact hok _ q.2
  ·rintro⟨⟨⟩,τ⟩ s' ⟨rfl,hp,hf,hs⟩;refine wpAny_bind (seqEpoch_at ho6 rfl (wpAny_bind (listUpdate_at ho6 rfl ?_ (Ya2 _) (osz τ hp))));dsimp only;rw[hf];simp only[bne_self_eq_false,YaT,if_false];exact wpAny_pure (fin τ hp hs)
theorem ZdX {l:Addr}{vs:List Value} (h:Heap):∀ b o,h.get? b=some o->(((h.push (seqObj "list" #[] 0)).update h.objs.size (YbJ (·++vs.toArray))).push (seqObj "list" vs.toArray 0)).get? b=some o:=by
 intro b o q;have hlt:b<h.objs.size:=Yar q;refine Yae _ ?_;rw[Yfi _ _ _ _ (YaP hlt)];exact Yae _ q
structure Sortable (prog:Program) (w:World) (s:Shared) (O:KO) (vs:List Value):Prop where
 ex:∃ (knd:SortKind) (ok:Keyed->Prop),(∀ v∈vs,ok (v,v))/\(∀ A h',(∀ b o,s.heap.get? b=some o->h'.get? b=some o)->Asks prog w A { s with heap:=h' } O knd ok) /\
  ∀ (A:Around) (E:Value->Shared->Prop) h',(∀ b o,s.heap.get? b=some o->h'.get? b=some o)->2<=vs.length->∀ Q:SortKind->Shared->Prop,Q knd { s with heap:=h' }->wpAny (model prog w) A (keyKind' vs.toArray) Q E { s with heap:=h' }
theorem Zdx {l:Addr}{vs:List Value}{Q:Value->Shared->Prop} (hl:s.heap.IsList l vs.toArray) (hz:vs.length<=sizeLine) (hS:Sortable prog w s O vs)
  (h:∀ us:List Value,us.Perm vs->Ord2 O false us->Q (.ref (s.heap.objs.size+1)) { s with heap:=sortedAll s.heap vs us.toArray }):wpAny (model prog w) A (call (.builtin "sorted") [.ref l]) Q E s:=by
 obtain⟨knd,ok,h1,h2,h3⟩:=hS.ex;have zz:((s.heap.push (seqObj "list" #[] 0)).update s.heap.objs.size (YbJ (·++vs.toArray))).objs.size=s.heap.objs.size+1:=by rw[YfF,size_push']
 have at1:(((s.heap.push (seqObj "list" #[] 0)).update s.heap.objs.size (YbJ (·++vs.toArray))).push (seqObj "list" vs.toArray 0)).get? (s.heap.objs.size+1)=some (seqObj "list" vs.toArray 0):=by
  have:=YaC ((s.heap.push (seqObj "list" #[] 0)).update s.heap.objs.size (YbJ (·++vs.toArray))) (o:=seqObj "list" vs.toArray 0) rfl
  rwa [zz] at this
 refine YeA kind_sorted plain_sorted entry_sorted (args_sorted1 _) ?_;unfold Builtin.«sorted»;refine wpAny_bind (m:=checkCount "sorted" 1 1 _) (wpAny_pure (wpAny_bind (collect_list hl (wpAny_bind (wpAny_newList ?_ hz)) hz)));show wpAny _ _ _ _ _ { s with heap:=((s.heap.push (seqObj "list" #[] 0)).update s.heap.objs.size (YbJ (·++vs.toArray))).push (seqObj "list" vs.toArray 0) };rw[zz];have up:∀ h':Heap,(∀ b o,(((s.heap.push (seqObj "list" #[] 0)).update s.heap.objs.size (YbJ (·++vs.toArray))).push (seqObj "list" vs.toArray 0)).get? b=some o->b≠s.heap.objs.size+1->h'.get? b=some o)->∀ b o,s.heap.get? b=some o->h'.get? b=some o:=fun h' k b o q=>
  k b o (ZdX (l:=l) s.heap b o q) (YaP (YcO (Yar q)))
 exact wpAny_bind (wpAny_holding (wpAny_call_entry slot_list_sort ⟨_,at1,rfl⟩ entry_list_sort (ZgT at1 hz (fun h' k hl2 Q' q=>h3 _ _ h' (up h' k) hl2 Q' q) (fun h' k=>h2 _ h' (up h' k)) h1 fun us p1 p2=>⟨_,rfl,wpAny_pure ⟨_,rfl,h us p1 p2⟩⟩) (args_list_sort _)))
theorem Zgj {l:Addr}{vs:List Value}{Q:Value->Shared->Prop} (hl:s.heap.IsTuple l vs.toArray) (hz:vs.length<=sizeLine) (hS:Sortable prog w s O vs)
  (h:∀ us:List Value,us.Perm vs->Ord2 O false us->Q (.ref (s.heap.objs.size+1)) { s with heap:=sortedAll s.heap vs us.toArray }):wpAny (model prog w) A (call (.builtin "sorted") [.ref l]) Q E s:=by
 obtain⟨knd,ok,h1,h2,h3⟩:=hS.ex;have zz:((s.heap.push (seqObj "list" #[] 0)).update s.heap.objs.size (YbJ (·++vs.toArray))).objs.size=s.heap.objs.size+1:=by rw[YfF,size_push']
 have at1:(((s.heap.push (seqObj "list" #[] 0)).update s.heap.objs.size (YbJ (·++vs.toArray))).push (seqObj "list" vs.toArray 0)).get? (s.heap.objs.size+1)=some (seqObj "list" vs.toArray 0):=by
  have:=YaC ((s.heap.push (seqObj "list" #[] 0)).update s.heap.objs.size (YbJ (·++vs.toArray))) (o:=seqObj "list" vs.toArray 0) rfl
  rwa [zz] at this
 refine YeA kind_sorted plain_sorted entry_sorted (args_sorted1 _) ?_;unfold Builtin.«sorted»;refine wpAny_bind (m:=checkCount "sorted" 1 1 _) (wpAny_pure (wpAny_bind (Zh0 hl (wpAny_bind (wpAny_newList ?_ hz)) hz)));show wpAny _ _ _ _ _ { s with heap:=((s.heap.push (seqObj "list" #[] 0)).update s.heap.objs.size (YbJ (·++vs.toArray))).push (seqObj "list" vs.toArray 0) };rw[zz];have up:∀ h':Heap,(∀ b o,(((s.heap.push (seqObj "list" #[] 0)).update s.heap.objs.size (YbJ (·++vs.toArray))).push (seqObj "list" vs.toArray 0)).get? b=some o->b≠s.heap.objs.size+1->h'.get? b=some o)->∀ b o,s.heap.get? b=some o->h'.get? b=some o:=fun h' k b o q=>
  k b o (ZdX (l:=l) s.heap b o q) (YaP (YcO (Yar q)))
 exact wpAny_bind (wpAny_holding (wpAny_call_entry slot_list_sort ⟨_,at1,rfl⟩ entry_list_sort (ZgT at1 hz (fun h' k hl2 Q' q=>h3 _ _ h' (up h' k) hl2 Q' q) (fun h' k=>h2 _ h' (up h' k)) h1 fun us p1 p2=>⟨_,rfl,wpAny_pure ⟨_,rfl,h us p1 p2⟩⟩) (args_list_sort _)))
def KOi:KO where
 α:=Int
 blt a b:=decide (a<b)
 irrefl a:=by simp
 trans a b c h1 h2:=by simp only[decide_eq_true_eq] at *;omega
 negTrans a b c h:=by simp only[decide_eq_true_eq] at *;omega
 total a b h1 h2:=by simp only[decide_eq_false_iff_not] at *;omega
 ky p:=numOf p.1
theorem Zcr {vs:List Value}{ns:List Int} (hI:IntsAre vs ns):Sortable prog w s KOi vs:=by
 refine⟨oneType',(fun p=>∃ n t,p.1=.int n t),fun v hv=>?_,fun A h' _ x y hx hy E Q q=>?_,fun A E h' _ h2 Q q=>?_⟩
 ·obtain⟨n,t,e⟩:=hI.all v hv;exact⟨n,t,e⟩
 ·obtain⟨n,t,e1⟩:=hx;obtain⟨m,u,e2⟩:=hy;rw[keyLt'_oneType,e1,e2];refine oneLt_int ?_;have q:Q (decide (numOf x.1<numOf y.1)) { s with heap:=h' }:=q;rw[e1,e2] at q;exact q
 ·match vs,h2,hI with
  | v1::v2::r,_,hI=>
   rw[keyKind_ints hI];exact wpAny_pure q
theorem Zg7 {us:List Value}{ms:List Int}{b:Bool} (hI:IntsAre us ms) (h:Ord2 KOi b us):if b=true then ms.Pairwise (· ≥ ·) else ms.Pairwise (·<=·):=by
 have e:=hI.nums;subst e
 cases b with
 | false=>
  simp only[YaT,if_false,Ord2] at h ⊢;rw[Ybz];exact h.imp fun {x y} q=>by
   have q:decide (numOf y<numOf x)=false:=q;simpa using q
 | true=>
  simp only[if_true,Ord2] at h ⊢;rw[Ybz];exact h.imp fun {x y} q=>by
   have q:decide (numOf x<numOf y)=false:=q;simpa using q
theorem ZfB {vs us:List Value}{ns:List Int} (hI:IntsAre vs ns) (hp:us.Perm vs):∃ ms,IntsAre us ms/\ms.Perm ns:=by
 refine⟨us.map numOf,intsAre_map us fun v hv=>hI.all v (hp.mem_iff.mp hv),?_⟩;rw[<- hI.nums];exact hp.map _
def lxB:List Int->List Int->Bool
 | _,[]=>false
 | [],_::_=>true
 | a::as,b::bs=>if a=b then lxB as bs else decide (a<b)
theorem Zeh:∀ a,lxB a a=false
 | []=>rfl
 | a::as=>by rw[lxB,if_pos rfl];exact Zeh as
theorem ZdE:∀ a b c,lxB a b=true->lxB b c=true->lxB a c=true
 | _,[],_,h,_=>by rw[lxB] at h;cases h
 | _,_::_,[],_,h=>by rw[lxB] at h;cases h
 | [],_::_,_::_,_,_=>rfl
 | a::as,b::bs,c::cs,h1,h2=>by
  rw[lxB] at h1 h2 ⊢;by_cases e1:a=b
  ·subst e1;rw[if_pos rfl] at h1;by_cases e2:a=c
   ·subst e2;rw[if_pos rfl] at h2 ⊢;exact ZdE as bs cs h1 h2
   ·rw[if_neg e2] at h2 ⊢;exact h2
  ·rw[if_neg e1] at h1;have h1:=of_decide_eq_true h1;by_cases e2:b=c
   ·subst e2;rw[if_neg e1];exact decide_eq_true h1
   ·rw[if_neg e2] at h2;have h2:=of_decide_eq_true h2;rw[if_neg (by omega)];exact decide_eq_true (by omega)
theorem ZdF:∀ a b,lxB a b=false->lxB b a=false->a=b
 | [],[],_,_=>rfl
 | _::_,[],_,h=>by rw[lxB] at h;cases h
 | [],_::_,h,_=>by rw[lxB] at h;cases h
 | a::as,b::bs,h1,h2=>by
  rw[lxB] at h1 h2;by_cases e:a=b
  ·subst e;rw[if_pos rfl] at h1 h2;rw[ZdF as bs h1 h2]
  ·rw[if_neg e] at h1;rw[if_neg (fun z=>e z.symm)] at h2;have h1:=of_decide_eq_false h1;have h2:=of_decide_eq_false h2;omega
theorem ZmH (a b c:List Int) (h:lxB a c=true):lxB a b=true∨lxB b c=true:=by
 cases e1:lxB a b with
 | true=>exact .inl rfl
 | false=>
  right
  cases e2:lxB b a with
  | true=>exact ZdE b a c e2 h
  | false=>rw[<- ZdF a b e1 e2];exact h
def KOt (ks:Addr->List Int):KO where
 α:=List Int
 blt:=lxB
 irrefl:=Zeh
 trans:=ZdE
 negTrans:=ZmH
 total:=ZdF
 ky p:=match p.1 with
  | .ref a=>ks a
  | _=>[]
theorem Zjs {b:Bool}{Q:Bool->Shared->Prop}{τ:Shared}{fin:Bool}:∀ {xs ys:List Int}{us vs:List Value}{i:Nat},IntsAre us xs->IntsAre vs ys->(Q (lxB xs ys) τ)->(fin=decide (xs.length<ys.length)) ->
  PySem.W.KatLex prog w A b fin Q (us.zip vs) i τ
 | [],[],_,_,i,.nil,.nil,q,e=>by
  rw[e];exact Yd6 q
 | [],y::ys,_,_,i,.nil,.cons _ _ _,q,e=>by
  rw[e];exact Yd6 (by simpa[lxB] using q)
 | x::xs,[],_,_,i,.cons _ _ _,.nil,q,e=>by
  rw[e];exact Yd6 (by simpa[lxB] using q)
 | x::xs,y::ys,_,_,i,.cons _ t h1,.cons _ u h2,q,e=>by
  rw[YdT];refine PySem.W.kat_cons (wpAny_eqBool_int ?_);rw[lxB] at q;by_cases c:x=y
  ·subst c;rw[if_pos rfl] at q;rw[show (x == x)=true by simp];exact PySem.W.kat_yes (Zjs h1 h2 q (by rw[e];simp))
  ·rw[if_neg c] at q;rw[show (x == y)=false by simpa using c];refine PySem.W.kat_no ?_
   cases b && i == 0 with
   | true=>exact oneLt_int q
   | false=>exact PySem.W.kat_one _ _ (PySem.P.lt_int q)
def TupI (h:Heap) (ks:Addr->List Int) (v:Value):Prop:=∃ a o its n,v=.ref a/\h.get? a=some o/\o.cls=.type "tuple"/\o.data=.seq its n/\IntsAre its.toList (ks a)/\ks a≠[]
theorem Zek {h:Heap}{ks:Addr->List Int}:∀ {vs:List Value},(∀ v∈vs,TupI h ks v)->∃ fs:List Value,fs.length=vs.length/\PySem.W.KatTups h vs fs/\∀ f∈fs,∃ n t,f=.int n t
 | [],_=>⟨[],rfl,PySem.W.KatTups.nil,fun f hf=>nomatch hf⟩
 | v::vs,hv=>by
  obtain⟨fs,e,k,q⟩:=Zek (vs:=vs) fun u hu=>hv u (Yas _ hu);obtain⟨a,o,its,n,rfl,ho,hc,hd,hI,hne⟩:=hv v (Yay ..);obtain⟨l⟩:=its;have hI:IntsAre l (ks a):=hI
  revert hI hd
  generalize ks a=z at hne ⊢;intro hd hI
  cases hI with
  | nil=>exact absurd rfl hne
  | cons m t hI=>exact⟨.int m t::fs,by simp[e],PySem.W.KatTups.cons ho hc hd rfl k,fun f hf=>by
    rcases YaD.mp hf with z | z
    ·exact⟨m,t,z⟩
    ·exact q f z⟩
theorem ZeJ {vs:List Value}{ks:Addr->List Int} (hT:∀ v∈vs,TupI s.heap ks v):Sortable prog w s (KOt ks) vs:=by
 refine⟨tuples' (Ydf "int" != Ydf "tuple"),(fun p=>TupI s.heap ks p.1),hT,fun A h' kp x y hx hy E Q q=>?_,fun A E h' kp h2 Q q=>?_⟩
 ·obtain⟨a,o,its,n,e1,ho,hc,hd,hI,hne⟩:=hx;obtain⟨b,o',its',n',e2,ho',hc',hd',hI',hne'⟩:=hy;have q:Q (lxB ((KOt ks).ky x) ((KOt ks).ky y)) { s with heap:=h' }:=q;have k1:(KOt ks).ky x=ks a:=by show (match x.1 with | .ref a=>ks a | _=>[])=_;rw[e1]
  have k2:(KOt ks).ky y=ks b:=by show (match y.1 with | .ref a=>ks a | _=>[])=_;rw[e2]
  rw[k1,k2] at q;rw[e1,e2];refine PySem.W.kat_lt (kp _ _ ho) hd (kp _ _ ho') hd' (Zjs hI hI' q ?_);rw[<- hI.nums,<- hI'.nums,Yaa,Yaa,Ya7,Ya7]
 ·obtain⟨fs,e,k,hi⟩:=Zek (h:=h') (ks:=ks) (vs:=vs) fun v hv=>by
   obtain⟨a,o,its,n,e1,ho,r⟩:=hT v hv;exact⟨a,o,its,n,e1,kp _ _ ho,r⟩
  refine PySem.W.kat_kind (T:=Ydf "int") k (by omega) (fun v hv=>?_) rfl q;obtain⟨n,t,rfl⟩:=hi v hv;exact PySem.W.Looks.now
end
end L2
namespace L2
open PySem PySem.Spec PyProof.Rows PySem.SeqAt
section
variable {X:Cx}
theorem Zbb:Zbf X (.builtin "sorted") (fun xs H Q=>∃ (a:Addr) (ns:List Int),xs=[.ref a]/\SqL X.K H a (ns.map V.int)/\∀ (l:Addr) (ms:List Int),H l=none->ms.Perm ns->ms.Pairwise (·<=·)->Q (.ref l) (upd H l (.lst (ms.map V.int)))):=by
 intro pins s σ H xs us Q I r h;obtain⟨a,ns,rfl,hq,q⟩:=h;obtain⟨u,rfl,r1⟩:=Zb6 r;cases r1;obtain⟨its,rv,p,hz⟩:=I.list hq;have hl:its.length=ns.length:=by rw[<- rv.length,Yaa]
 rw[Yaa] at hz;refine Zdx p.isList (by rw[hl];exact hz) (Zcr (Za1 rv)) fun us p1 p2=>?_;obtain⟨ms,hI,pm⟩:=ZfB (Za1 rv) p1;obtain⟨e,he⟩:=sortedAll_at s.heap its us.toArray;have hle:s.heap.objs.size<=s.heap.objs.size+1:=Ycw _;refine⟨.ref (s.heap.objs.size+1),_,I.laid (a:=s.heap.objs.size+1) (o:=.lst (ms.map V.int)) (t':=s.toks) (fun b o q=>sortedAll_old q) hle ⟨?_,us,e,ZcU hI,he⟩,rfl,q _ ms (I.hok.fresh hle) pm (Zg7 hI p2)⟩;rw[Yaa,pm.length_eq];exact hz
theorem ZgL:Zbf X (.builtin "sorted") (fun xs H Q=>∃ (a:Addr) (ns:List Int),xs=[.ref a]/\SqT X.K H a (ns.map V.int)/\∀ (l:Addr) (ms:List Int),H l=none->ms.Perm ns->ms.Pairwise (·<=·)->Q (.ref l) (upd H l (.lst (ms.map V.int)))):=by
 intro pins s σ H xs us Q I r h;obtain⟨a,ns,rfl,hq,q⟩:=h;obtain⟨u,rfl,r1⟩:=Zb6 r;cases r1;obtain⟨its,rv,p,hz⟩:=I.tuple hq;have hl:its.length=ns.length:=by rw[<- rv.length,Yaa]
 rw[Yaa] at hz;refine Zgj (show s.heap.IsTuple a its.toArray from p) (by rw[hl];exact hz) (Zcr (Za1 rv)) fun us p1 p2=>?_;obtain⟨ms,hI,pm⟩:=ZfB (Za1 rv) p1;obtain⟨e,he⟩:=sortedAll_at s.heap its us.toArray;have hle:s.heap.objs.size<=s.heap.objs.size+1:=Ycw _;refine⟨.ref (s.heap.objs.size+1),_,I.laid (a:=s.heap.objs.size+1) (o:=.lst (ms.map V.int)) (t':=s.toks) (fun b o q=>sortedAll_old q) hle ⟨?_,us,e,ZcU hI,he⟩,rfl,q _ ms (I.hok.fresh hle) pm (Zg7 hI p2)⟩;rw[Yaa,pm.length_eq];exact hz
theorem Ze7:∀ {ps:List Addr}{us:List Value},Vals (ps.map V.ref) us->us=ps.map YbH
 | [],_,.nil=>rfl
 | p::ps,_,.cons r t=>by
  have e:_=YbH p:=r;rw[Ze7 t,e];rfl
theorem Zfm:∀ (ps:List Addr),Vals (ps.map V.ref) (ps.map YbH)
 | []=>.nil
 | p::ps=>.cons rfl (Zfm ps)
def adr:Value->Addr
 | .ref a=>a
 | _=>0
theorem ZiC {ps:List Addr}{us:List Value} (h:us.Perm (ps.map YbH)):∃ qs:List Addr,us=qs.map YbH/\qs.Perm ps:=by
 refine⟨us.map adr,?_,?_⟩
 ·rw[Ybh];refine (Yfe us).symm.trans (Ybw fun v hv=>?_);obtain⟨p,_,e⟩:=YaS.mp (h.mem_iff.mp hv);rw[<- e];rfl
 ·have:=h.map adr
  rwa [Ybh,show (adr ∘ YbH)=id from rfl,Yfe] at this
theorem ZbA:Zbf X (.builtin "sorted") (fun xs H Q=>∃ (a:Addr) (ps:List Addr) (ks:Addr->List Int),xs=[.ref a]/\SqL X.K H a (ps.map V.ref)/\(∀ p∈ps,ks p≠[]/\H p=some (.tup ((ks p).map V.int)))/\∀ (l:Addr) (qs:List Addr),H l=none->qs.Perm ps->qs.Pairwise (fun p q=>lxB (ks q) (ks p)=false)->Q (.ref l) (upd H l (.lst (qs.map V.ref)))):=by
 intro pins s σ H xs us Q I r h;obtain⟨a,ps,ks,rfl,hq,ht,q⟩:=h;obtain⟨u,rfl,r1⟩:=Zb6 r;cases r1;obtain⟨its,rv,p,hz⟩:=I.list hq;have ei:=Ze7 rv;rw[Yaa] at hz;have hl:its.length=ps.length:=by rw[ei,Yaa]
 have hT:∀ v∈its,TupI s.heap ks v:=by
  intro v hv;rw[ei] at hv;obtain⟨b,hb,e⟩:=YaS.mp hv;obtain⟨h1,h2⟩:=ht b hb;obtain⟨_,ii,rr,o,g1,g2,_,n,g3⟩:=(show ObjOk X.prog X.w H s.heap b (.tup ((ks b).map V.int)) from I.hok b _ h2)
  exact⟨b,o,ii.toArray,n,e.symm,g1,g2,g3,by simpa using Za1 rr,h1⟩
 refine Zdx p.isList (by rw[hl];exact hz) (ZeJ hT) fun us p1 p2=>?_;have p1':=p1;rw[ei] at p1';obtain⟨qs,e1,pm⟩:=ZiC p1';obtain⟨e,he⟩:=sortedAll_at s.heap its us.toArray;have hle:s.heap.objs.size<=s.heap.objs.size+1:=Ycw _;refine⟨.ref (s.heap.objs.size+1),_,I.laid (a:=s.heap.objs.size+1) (o:=.lst (qs.map V.ref)) (t':=s.toks) (fun b o q=>sortedAll_old q) hle ⟨?_,us,e,?_,he⟩,rfl,q _ qs (I.hok.fresh hle) pm ?_⟩
 ·rw[Yaa,pm.length_eq];exact hz
 ·rw[e1];exact Zfm qs
 ·rw[e1] at p2;simp only[Ord2,YaT,if_false] at p2;exact Ybz.mp p2
end
end L2
namespace Lv
open PySem L2
def prs:Nat->List (List Int)->List Nat->List (Int × Nat)
 | k,x::N,m::ms=>(x.drop m).map (fun z=>(z,k))++prs (k+1) N ms
 | _,_,_=>[]
def ZnD (p q:Int × Nat):Prop:=p.1<q.1∨(p.1=q.1/\p.2<=q.2)
structure MgS (N:List (List Int)) (m:List Nat) (tk:List (Int × Nat)):Prop where
 inm:InM N m
 perm:(tk++prs 0 N m).Perm (prs 0 N (N.map fun _=>0))
 srt:tk.Pairwise ZnD
 le:∀ p∈tk,∀ q∈prs 0 N m,ZnD p q
 sm:m.sum=tk.length
theorem Zm8 {a b:List Int} (h:a.Perm b) (h1:a.Pairwise (·<=·)) (h2:b.Pairwise (·<=·)):a=b :=
 List.Perm.eq_of_pairwise (fun a b _ _ h1 h2=>Int.le_antisymm h1 h2) h1 h2 h
def SeqI (H:Hp) (r:Addr) (xs:List V):Prop:=H r=some (.lst xs)∨H r=some (.tup xs)
theorem SeqI.both {H:Hp}{r:Addr}{xs:List V} (h:SeqI H r xs):∃ b,∀ (K:Yad) (H':Hp),Same H H'->SqB b K H' r xs:=by
 rcases h with h | h
 ·exact⟨true,fun K H' s=>SqL.of (s _ _ h)⟩
 ·exact⟨false,fun K H' s=>SqT.of (s _ _ h)⟩
structure RwS (H:Hp) (a:Addr) (rs:List Addr) (N:List (List Int)):Prop where
 top:SeqI H a (rs.map V.ref)
 len:rs.length=N.length
 row:∀ (j:Nat) r xs,rs[j]?=some r->N[j]?=some xs->SeqI H r (xs.map V.int)
theorem RwS.of {H:Hp}{a:Addr}{rs:List Addr}{N:List (List Int)} (h1:H a=some (.lst (rs.map V.ref))) (h2:LLs H rs N):RwS H a rs N:=⟨.inl h1,h2.1,fun j r xs e1 e2=>.inl (h2.2 j r xs e1 e2)⟩
theorem RwS.get {H:Hp}{a:Addr}{rs:List Addr}{N:List (List Int)} (h:RwS H a rs N) {i:Nat}{x:V} (hx:(rs.map V.ref)[i]?=some x):∃ r xs,x=.ref r/\rs[i]?=some r/\N[i]?=some xs/\SeqI H r (xs.map V.int):=by
 have hi:=(Yab.mp hx).1
 rw[Yaa] at hi;have e:rs[i]?=some rs[i]:=Yac hi;have hN:i<N.length:=by rw[<- h.len];exact hi
 have e2:N[i]?=some N[i]:=Yac hN;refine⟨rs[i],N[i],?_,e,e2,h.row i _ _ e e2⟩;rw[Yaf,e] at hx;exact (YaB hx).symm
theorem ZfE {N:List (List Int)}{i:Nat}{xs:List Int} (h:N[i]?=some xs):(N.take (i+1)).flatten=(N.take i).flatten++xs:=by
 rw[YaQ,h,Ybp,Ybk];simp
theorem ZmT {N:List (List Int)} (i:Nat):(N.take i).flatten.length<=(lenN N).sum:=by
 have:(lenN N).sum=N.flatten.length:=by unfold lenN;rw[YcD]
 rw[this]
 conv=>rhs;rw[<- YaU i N,Ybk,Yag]
 omega
theorem Zlm {N:List (List Int)}{i j:Nat}{xs:List Int} (h:N[i]?=some xs) (hj:j<=xs.length):(N.take i).flatten.length+j<=(lenN N).sum:=by
 have:=ZmT (N:=N) (i+1);rw[ZfE h,Yag] at this;omega
theorem ZcP {qs:List Addr}{i:Nat}{x:V} (h:(qs.map V.ref)[i]?=some x):∃ p,qs[i]?=some p/\x=.ref p:=by
 rw[Yaf] at h
 cases e:qs[i]? with
 | none=>rw[e] at h;cases h
 | some p=>rw[e] at h;exact⟨p,rfl,(YaB h).symm⟩
theorem ZgW {H:Hp}:∀ zs:List Int,RdL H (zs.map V.int) (zs.map Yfb)
 | []=>.nil
 | z::zs=>.cons (.int z) (ZgW zs)
structure GoodT (N:List (List Int)):Prop where
 many:N.length<=12
 tot:(lenN N).sum<=400
 bnd:∀ xs∈N,∀ z∈xs,-Zba<z/\z<Zba
 srt:∀ xs∈N,xs.Pairwise (·<=·)
structure GoodB (b:Nat) (N:List (List Int)):Prop where
 len:∀ xs∈N,xs.length<=b
 bnd:∀ xs∈N,∀ z∈xs,-Zba<z/\z<Zba
 srt:∀ xs∈N,xs.Pairwise (·<=·)
end Lv
namespace L2
open PySem PySem.Spec PyProof.Rows PySem.SeqAt
section
variable {P:Program}{w:World}{H:Hp}{s:Shared}
theorem RdL.len_eq:∀ {xs ys:List V}{ds:List PyData},RdL H xs ds->RdL H ys ds->xs.length=ys.length
 | _,_,_,.nil,r=>by cases r;rfl
 | _,_,_,.cons _ q,r=>by
  cases r with
  | cons _ q2=>rw[YaH,YaH,RdL.len_eq q q2]
mutual
theorem RdN.eqs (ok:HOk P w H s.heap):∀ {x:V}{d:PyData},RdN H x d->∀ {y:V},RdN H y d->∀ {u v:Value},RelV x u->RelV y v->∀ A:Around,A.units+d.depth<cLine->EqAt A s u v true
 | _,_,.non,y,r,u,v,h1,h2,A,hu=>by
  cases r;cases (show u=Ycu from h1);cases (show v=Ycu from h2);exact YeZ _
 | _,_,.bl b,y,r,u,v,h1,h2,A,hu=>by
  cases r;cases (show u=Ydv b from h1);cases (show v=Ydv b from h2);exact YeZ _
 | _,_,.int i,y,r,u,v,h1,h2,A,hu=>by
  cases r;obtain⟨t,z⟩:=(show ∃ t,u=Yeh i t from h1);cases z;obtain⟨t2,z⟩:=(show ∃ t,v=Yeh i t from h2);cases z;have:=EqAt.int_int (A:=A) (s:=s) i t i t2;rw[beq_self_eq_true] at this;exact this
 | _,_,.str x,y,r,u,v,h1,h2,A,hu=>by
  cases r;obtain⟨t,z⟩:=(show ∃ t,u=Yeg x t from h1);cases z;obtain⟨t2,z⟩:=(show ∃ t,v=Yeg x t from h2);cases z;have:=EqAt.str_str (A:=A) (s:=s) x t x t2;rw[show (x == x)=true from by rw[<- str_beq];exact beq_self_eq_true _] at this;exact this
 | _,_,.lst (a:=a) (xs:=xs) (ds:=ds) e q,y,r,u,v,h1,h2,A,hu=>by
  cases r with
  | lst e2 q2=>
   rename_i b ys;cases (show u=YbH a from h1);cases (show v=YbH b from h2);by_cases hab:a=b
   ·subst hab;exact YeZ _
   obtain⟨_,i1,n1,v1,g1⟩:=(show ObjOk P w H s.heap a (.lst xs) from ok a _ e)
   obtain⟨_,i2,n2,v2,g2⟩:=(show ObjOk P w H s.heap b (.lst ys) from ok b _ e2)
   have hd:A.units+(Ybs ds+1)<cLine:=hu;have hl:=q.len_eq q2;refine EqAt.of_refs hab ?_;have:=RcAt.lists (A:=A) (s:=s) (e:=fun _=>true) (l:=a) (b:=b) (items:=i1.toArray) (items2:=i2.toArray) ⟨_,g1,rfl,n1,rfl⟩ ⟨_,g2,rfl,n2,rfl⟩ (by rw[Yal,Yal,<- v1.length,<- v2.length,hl]) (by omega) (fun j h1 h2=>by
    have:=RdL.eqs ok q q2 v1 v2 A.in1 (by show A.units+1+_<_;omega) j (by simpa using h1) (by simpa using h2);simpa using this)
   rw[Zcy] at this;exact this
 | _,_,.tup (a:=a) (xs:=xs) (ds:=ds) e q,y,r,u,v,h1,h2,A,hu=>by
  cases r with
  | tup e2 q2=>
   rename_i b ys;cases (show u=YbH a from h1);cases (show v=YbH b from h2);by_cases hab:a=b
   ·subst hab;exact YeZ _
   obtain⟨_,i1,v1,o1,g1,c1,_,n1,k1⟩:=(show ObjOk P w H s.heap a (.tup xs) from ok a _ e)
   obtain⟨_,i2,v2,o2,g2,c2,_,n2,k2⟩:=(show ObjOk P w H s.heap b (.tup ys) from ok b _ e2)
   have hd:A.units+(Ybs ds+1)<cLine:=hu;have hl:=q.len_eq q2;refine EqAt.of_refs hab ?_;have:=RcAt.tuples (A:=A) (s:=s) (e:=fun _=>true) (l:=a) (b:=b) (items:=i1.toArray) (items2:=i2.toArray) ⟨o1,g1,c1,n1,k1⟩ ⟨o2,g2,c2,n2,k2⟩ (by omega) (fun j h1 h2=>by
    have:=RdL.eqs ok q q2 v1 v2 A.in1 (by show A.units+1+_<_;omega) j (by simpa using h1) (by simpa using h2);simpa using this)
   rw[Zcy,Yal,Yal,<- v1.length,<- v2.length,hl,beq_self_eq_true] at this;exact this
theorem RdL.eqs (ok:HOk P w H s.heap):∀ {xs:List V}{ds:List PyData},RdL H xs ds->∀ {ys:List V},RdL H ys ds->∀ {us vs:List Value},Vals xs us->Vals ys vs->∀ A:Around,A.units+Ybs ds<cLine->∀ (j:Nat) (h1:j<us.length) (h2:j<vs.length),EqAt A s us[j] vs[j] true
 | _,_,.nil,ys,r,us,vs,v1,v2,A,hu,j,h1,h2=>by
  cases v1;exact absurd h1 (Ycv _)
 | _,_,.cons (d:=d) (ds:=ds) p q,ys,r,us,vs,v1,v2,A,hu,j,h1,h2=>by
  cases r with
  | cons p2 q2=>
   cases v1 with
   | cons a1 b1=>
    cases v2 with
    | cons a2 b2=>
     have hm:Ybs (d::ds)=max d.depth (Ybs ds):=by rw[Ybs]
     rw[hm] at hu
     cases j with
     | zero=>exact RdN.eqs ok p p2 a1 a2 A (by omega)
     | succ j=>exact RdL.eqs ok q q2 b1 b2 A (by omega) j (by simpa using h1) (by simpa using h2)
end
end
def rNeR:R2:=fun x y H Q=>∃ (a b:Addr) (d:PyData),x=.ref a/\y=.ref b/\RdN H (.ref a) d/\RdN H (.ref b) d/\d.depth<=10/\Q (.bl false) H
section
variable {X:Cx}
theorem ZlH {P:Program}{w:World}{H:Hp}{s:Shared}{A:Around}{xs ys:List V}{ds:List PyData}{i1 i2:List Value} (ok:HOk P w H s.heap) (q:RdL H xs ds) (q2:RdL H ys ds) (v1:Vals xs i1) (v2:Vals ys i2) (hu:A.units+1+Ybs ds<cLine) :
  ∀ j (h1:j<i1.toArray.size) (h2:j<i2.toArray.size),EqAt A.in1 s i1.toArray[j] i2.toArray[j] true:=fun j h1 h2=>by
 have:=RdL.eqs ok q q2 v1 v2 A.in1 (by show A.units+1+_<_;omega) j (by simpa using h1) (by simpa using h2);simpa using this
theorem Znt (hu:X.A.units+12<cLine):OpR X (compareOp .NotEq) rNeR:=by
 intro pins s σ H x y v u Q I rx ry h;obtain⟨a,b,d,rfl,rfl,r1,r2,hd,q⟩:=h;cases rx;cases ry
 cases r1 with
 | lst e p=>
  rename_i xs ds
  cases r2 with
  | lst e2 p2=>
   rename_i ys;obtain⟨_,i1,n1,v1,g1⟩:=(show ObjOk X.prog X.w H s.heap a (.lst xs) from I.hok a _ e)
   obtain⟨_,i2,n2,v2,g2⟩:=(show ObjOk X.prog X.w H s.heap b (.lst ys) from I.hok b _ e2)
   have hd':Ybs ds+1<=10:=hd;refine RcNeAt.lists (e:=fun _=>true) (items:=i1.toArray) (items2:=i2.toArray) ⟨_,g1,rfl,n1,rfl⟩ ⟨_,g2,rfl,n2,rfl⟩ (by rw[Yal,Yal,<- v1.length,<- v2.length,p.len_eq p2]) (by omega) (ZlH I.hok p p2 v1 v2 (by omega)) _ _ _ _ ?_;rw[Zcy];exact⟨.bl false,H,I,rfl,q⟩
 | tup e p=>
  rename_i xs ds
  cases r2 with
  | tup e2 p2=>
   rename_i ys;obtain⟨_,i1,v1,o1,g1,c1,_,n1,k1⟩:=(show ObjOk X.prog X.w H s.heap a (.tup xs) from I.hok a _ e)
   obtain⟨_,i2,v2,o2,g2,c2,_,n2,k2⟩:=(show ObjOk X.prog X.w H s.heap b (.tup ys) from I.hok b _ e2)
   have hd':Ybs ds+1<=10:=hd;refine RcNeAt.tuples (e:=fun _=>true) (items:=i1.toArray) (items2:=i2.toArray) ⟨o1,g1,c1,n1,k1⟩ ⟨o2,g2,c2,n2,k2⟩ (by omega) (ZlH I.hok p p2 v1 v2 (by omega)) _ _ _ _ ?_;rw[Zcy,Yal,Yal,<- v1.length,<- v2.length,p.len_eq p2,beq_self_eq_true];exact⟨.bl false,H,I,rfl,q⟩
end
end L2
namespace L2
open PySem PySem.Spec PyProof.Rows PySem.SeqAt
section
variable {X:Cx}
end
end L2
namespace Lv
open PySem L2
def Fr (S:List Addr) (H H':Hp):Prop:=∀ b o,H b=some o->b ∉ S->H' b=some o
abbrev Rows:=List (Option (List Int))
def datO:Option (List Int)->PyData
 | none=>.none
 | some xs=>.list (xs.map Yfb)
def Zkx (ds:Rows):PyData:=.list (ds.map datO)
def shp (D:List Rows):List (List Bool):=D.map fun ds=>ds.map Option.isSome
theorem Zem:∀ (zs:List Int),Ybs (zs.map Yfb)=0
 | []=>rfl
 | z::zs=>by simp only[YaJ,Ybs,Yds,Zem zs];rfl
theorem Zh1 (c:Option (List Int)):(datO c).depth<=1:=by
 cases c with
 | none=>simp[datO,Yds]
 | some xs=>simp only[datO,Yds,Zem];decide
theorem ZhL (ds:Rows):(Zkx ds).depth<=2:=by
 have:∀ ds:Rows,Ybs (ds.map datO)<=1:=by
  intro ds
  induction ds with
  | nil=>simp[Ybs]
  | cons c r ih=>simp only[YaJ,Ybs];have:=Zh1 c;omega
 unfold Zkx;simp only[Yds];have:=this ds;omega
abbrev Cell:=Option (Addr × List Int)
abbrev Reel:=Addr × List Cell
def cV:Cell->V
 | none=>.non
 | some (r,_)=>.ref r
def cD:Cell->Option (List Int):=Option.map (·.2)
def cA:Cell->List Addr
 | none=>[]
 | some (r,_)=>[r]
def cOk (H:Hp):Cell->Prop
 | none=>True
 | some (r,xs)=>H r=some (.lst (xs.map V.int))
def tA (t:Reel):List Addr:=t.1::t.2.flatMap cA
def adr (T:List Reel):List Addr:=T.flatMap tA
def tOk (H:Hp) (t:Reel):Prop:=H t.1=some (.lst (t.2.map cV))/\∀ c∈t.2,cOk H c
def NRL (H:Hp) (T:List Reel):Prop:=∀ t∈T,tOk H t
def datT (T:List Reel):List Rows:=T.map fun t=>t.2.map cD
theorem cOk.frame {H H':Hp}{c:Cell} (h:cOk H c) (f:∀ x∈cA c,∀ o,H x=some o->H' x=some o):cOk H' c:=by
 cases c with
 | none=>trivial
 | some q=>exact f q.1 (by simp[cA]) _ h
theorem tOk.frame {H H':Hp}{t:Reel} (h:tOk H t) (f:∀ x∈tA t,∀ o,H x=some o->H' x=some o):tOk H' t:=by
 refine⟨f t.1 (by simp[tA]) _ h.1,fun c hc=>(h.2 c hc).frame fun x hx=>f x ?_⟩;exact Yas _ (YaL.mpr ⟨c,hc,hx⟩)
theorem NRL.frame {H H':Hp}{T:List Reel} (h:NRL H T) (f:∀ x∈adr T,∀ o,H x=some o->H' x=some o):NRL H' T:=fun t ht=>(h t ht).frame fun x hx=>f x (YaL.mpr ⟨t,ht,hx⟩)
theorem NRL.same {H H':Hp}{T:List Reel} (h:NRL H T) (s:Same H H'):NRL H' T:=h.frame fun x _ o e=>s x o e
theorem NRL.off {H:Hp}{T:List Reel}{a:Addr}{o:HO} (h:NRL H T) (n:a ∉ adr T):NRL (upd H a o) T:=h.frame fun x hx q e=>by rw[Zai fun z=>n (by rw[<- z];exact hx)];exact e
theorem Zdk {H:Hp}:∀ {cs:List Cell},(∀ c∈cs,cOk H c)->RdL H (cs.map cV) ((cs.map cD).map datO)
 | [],_=>.nil
 | none::cs,h=>.cons .non (Zdk fun c hc=>h c (Yas _ hc))
 | some (r,xs)::cs,h=>.cons (.lst (h (some (r,xs)) Yay) (ZgW xs)) (Zdk fun c hc=>h c (Yas _ hc))
def TB (H:Hp) (tr:List Addr) (B:List (List Bool)):Prop:=tr.length=B.length/\∀ (j:Nat) r bs,tr[j]?=some r->B[j]?=some bs->H r=some (.tup (bs.map V.bl))
end Lv
namespace Lv
open PySem L2
def St (S:List Addr) (H:Hp) (Φ:Hp->Prop):Prop:=∀ H',Fr S H H'->Φ H'
theorem LLs.snoc {H:Hp}{rs:List Addr}{N:List (List Int)}{r:Addr}{xs:List Int} (h:LLs H rs N) (e:H r=some (.lst (xs.map V.int))):LLs H (rs++[r]) (N++[xs]):=by
 refine⟨by rw[Yag,Yag,h.1];rfl,fun j q cs a b=>?_⟩;rcases Ybt j rs.length with hj | hj
 ·rw[Yaz hj] at a;rw[Yaz (by rw[<- h.1];exact hj)] at b;exact h.2 j q cs a b
 ·rw[YaG hj] at a;rw[YaG (by rw[<- h.1];exact hj),<- h.1] at b
  cases e3:j - rs.length with
  | zero=>rw[e3] at a b;cases a;cases b;exact e
  | succ n=>rw[e3] at a;cases a
structure Bld (S:List Addr) (H:Hp) (us:List V) (rs tr:List Addr) (D:List Rows) (R:List (List Int)):Prop where
 due:St S H fun H'=>RdL H' us (D.map Zkx)
 rows:St S H fun H'=>LLs H' rs R
 lay:St S H fun H'=>TB H' tr (shp D)
end Lv
namespace Lv
open PySem L2
end Lv
namespace Lv
open PySem L2
def les (m x:Int):Int:=if x - m > 0 then x - m else 0
def ZgN (c:List Int) (out:Nat) (m:Int):List Int:=(c.map (les m)).set out m
def Zoy (a b:List Int):Prop:=a.length=b.length/\∀ j:Nat,a.getD j 0<=b.getD j 0
def Cov (c L:List Int):Prop:=∃ l:List Int,l.Perm (c)/\Zoy l (L++[0])
end Lv
namespace L2
open PySem PySem.Spec PyProof.Rows PySem.SeqAt
section
variable {X:Cx}
end
end L2
namespace L2
open PySem PySem.Spec PyProof.Rows PySem.SeqAt
section
variable {X:Cx}
end
end L2
namespace L2
open PySem PySem.Spec PyProof.Rows PySem.SeqAt
section
variable {X:Cx}
end
end L2
namespace Lv
open PySem L2
def CovL (L r:List Int):Prop:=∀ j,j<L.length->r.getD j 0<=L.getD j 0
instance (L r:List Int):Decidable (CovL L r):=inferInstanceAs (Decidable (∀ j,j<L.length->r.getD j 0<=L.getD j 0))
def big:Int:=1000000000000000000000000000000000000000000000000000000000000
structure Stand (p:Nat) (st:List Int):Prop where
 p2:2<=p
 p7:p<=7
 len:st.length=p+1
 nn:∀ x∈st,0<=x
 le:∀ x∈st,x<=big
 zero:(0:Int)∈st
 pos:∃ x∈st,1<=x
def mxl:List Int->Int
 | []=>0
 | x::r=>if mxl r > x then mxl r else x
theorem Zjf:∀ (c:List Int),∀ x∈c,x<=mxl c
 | y::r,x,h=>by
  unfold mxl;rcases YaD.mp h with rfl | h
  ·split <;> omega
  ·have:=Zjf r x h;split <;> omega
theorem Zgv:∀ (c:List Int),(∀ x∈c,0<=x)->c≠[]->mxl c∈c
 | [],_,h=>absurd rfl h
 | y::r,hn,_=>by
  unfold mxl;by_cases hr:r=[]
  ·subst hr;have:=hn y (by simp);rw[if_neg (by show ¬ (0:Int) > y;omega)];simp
  ·have:=Zgv r (fun x hx=>hn x (by simp[hx])) hr;split
   ·exact Yas _ this
   ·simp
theorem Znz {c:List Int}{m:Int} (hn:∀ x∈c,0<=x) (hm:m∈c) (hg:∀ x∈c,x<=m):m=mxl c:=by
 have h1:=Zjf c m hm;have h2:=hg _ (Zgv c hn (Yc8 hm));omega
def mn (a b:Int):Int:=if b<a then b else a
def ph (p:Nat) (c:List Int) (n:Nat):Int:=mn (hd p n) (mxl c)
structure On (p:Nat) (c:List Int) (n:Nat):Prop where
 len:c.length=p+1
 cov:Cov c (cnt p n)
 nn:∀ x∈c,0<=x
 pos:∃ x∈c,1<=x
end Lv
namespace Lv
open PySem L2
end Lv
namespace Lv
open PySem L2
end Lv
namespace L2
open PySem PySem.Spec PyProof.Rows
section
variable {X:Cx}
end
end L2
namespace Lv
open PySem L2
def Zf3:Sp:=fun vs H Q _=>∃ (a:Addr) (xs:List V) (n:Int),vs=[.ref a,.int n]/\H a=some (.tup xs)/\(xs.length:Int)=n/\Q (.bl true) H
end Lv
namespace L2
open PySem PySem.Spec PyProof.Rows
end L2
namespace L2
open PySem PySem.Spec PyProof.Rows
def Fly (H:Hp) (h0 h:Heap) (ea:Addr) (cls:Value) (od:Option Addr) (fl:Value):Prop :=
 ∃ (a0:Value) (T:Addr) (oe oT:Obj) (vs ts:Array Value),(H ea=none/\H T=none/\h0.get? ea=none/\h0.get? T=none) /\
  h.get? ea=some oe/\((oe.cls=cls/\vs[0]?=some a0)/\oe.dict=od)/\oe.data=.fields vs/\vs[1]?=some (.ref T)/\T≠ea/\h.get? T=some oT/\oT.data=.fields ts/\ts[3]?=some fl
def CX1 (P:Program) (w:World):CXT:=fun outer H s E e s'=>∃ (ea:Addr) (cls:Value) (od:Option Addr) (H':Hp),e=.ref ea/\s'.os=s.os/\AllBare s'.gens/\Un (frs outer) [] H H' s.heap s'.heap/\HOk P w H' s'.heap/\Fly H' s.heap s'.heap ea cls od .none/\E cls od H'
section
variable {P:Program}{w:World}{K:Yad}{mg:Str->Option Value}{base:Heap}{N:List Str}{qual:Str}{scope:Scope}{f:Addr}{cd:Value}{A:Around}{outer:List Env}{s:Shared}{H:Hp}{E:XK}
end
end L2
namespace L2
open PySem PySem.Spec PyProof.Rows PySem.W
section
variable {prog:Program}{w:World}{A:Around}{E:Value->Shared->Prop}{s:Shared}{K:Frag}{x C D:Addr}{ox:Obj}
noncomputable def ZjM (K:Frag) (C:Addr):Bool:=findIn K (.ref C) "__getattribute__" == some (some (.builtin "BaseException.__getattribute__")) && (findIn K (.ref C) "__getattr__" == some none &&
 (findIn K (.ref C) "__class__" == some (some (.builtin "object.__class__")) && (mroIn K C (.type "object") == some true && (mroIn K C (.type "BaseException") == some true && ((clsIn K C).isSome &&
 (specialIn K (.builtin "object.__class__") "__get__" == some (some (.builtin "getset_descriptor.__get__")) && takesIn K (.builtin "object.__class__") == some true))))))
def ZnT (K:Frag) (C:Addr):Bool:=excIn K C [.type "ValueError",.type "Exception",.type "BaseException",.type "object"] "ValueError.__new__" && ZjM K C
end
section
variable {X:Cx}
end
end L2
namespace L2
open PySem PySem.Spec PyProof.Rows PySem.W
section
variable {P:Program}{w:World}{K:Yad}{mg:Str->Option Value}{base:Heap}
end
structure CalE (P:Program) (w:World) (K:Yad) (mg:Str->Option Value) (base:Heap) (k:Nat) (x:Str) (ps:List Str) (dvs:List V) (sp:Sp) (f:Addr) (fd:FuncData):Prop where
 ok:FnOk P w K mg base (CX1 P w) k f fd ps sp
 mg:mg x=some (.ref f)
 kp:Yao K (.ref f)=true
 bd:∃ ds,Binds K fd ps ds/\Vals dvs ds
section
variable {X:Cx}
inductive FParts (X:Cx):List Expr->List TE->Prop
 | nil:FParts X [] []
 | con {x:Str}{j pos}{es:List Expr}{ts:List TE} (h:x.length<=1000) (r:FParts X es ts):FParts X (.Constant (.str x) j pos::es) ts
 | val {v:Expr}{t:TE}{pos:Pos}{es:List Expr}{ts:List TE} (h:PE X v t) (r:FParts X es ts):FParts X (.FormattedValue v (-1) none pos::es) (t::ts)
end
section
variable {X:Cx}{pins:List (Addr × Obj)}{σ:St}{H:Hp}{s:Shared}
end
def Ends.without (D:Ends) (i:Nat):Ends:={ nx:=fun σ H=>D.nx (σ.set i none) H,rt:=D.rt,bk:=fun σ H=>D.bk (σ.set i none) H,ct:=fun σ H=>D.ct (σ.set i none) H }
section
variable {X:Cx}
end
end L2
namespace Lv
open PySem L2 PySem.W
structure ExcTab (K:Frag) (reel C:Addr) (all:List Addr):Prop where
 ok:ZnT K C=true
 exm:exmOne K (.ref C) (.ref reel)=some true
 isR:kitOne K (.ref C) (.ref reel)=some true
 isV:kitOne K (.ref C) (.type "ValueError")=some true
 one:∀ D∈all,kitOne K (.ref C) (.ref D)=some (D == C)
structure Excs (K:Frag) (mg:Str->Option Value) where
 reel:Addr
 nWays:Addr
 nRoom:Addr
 nLevel:Addr
 nStand:Addr
 tMany:Addr
 tFew:Addr
 nPlace:Addr
 nText:Addr
 nLine:Addr
 nBack:Addr
 nPhase:Addr
 clash:Addr
 mReel:mg "ReelError"=some (.ref reel)
 mWays:mg "NoWays"=some (.ref nWays)
 mRoom:mg "NoRoom"=some (.ref nRoom)
 mLevel:mg "NoLevel"=some (.ref nLevel)
 mStand:mg "NoStanding"=some (.ref nStand)
 mMany:mg "TooMany"=some (.ref tMany)
 mFew:mg "TooFew"=some (.ref tFew)
 mPlace:mg "NoPlace"=some (.ref nPlace)
 mText:mg "NoText"=some (.ref nText)
 mLine:mg "NoLine"=some (.ref nLine)
 mBack:mg "NoBack"=some (.ref nBack)
 mPhase:mg "NoPhase"=some (.ref nPhase)
 mClash:mg "Clash"=some (.ref clash)
 nd:([nWays,nRoom,nLevel,nStand,tMany,tFew,nPlace,nText,nLine,nBack,nPhase,clash]:List Addr).Nodup
def Excs.all {K:Frag}{mg:Str->Option Value} (X:Excs K mg):List Addr:=[X.nWays,X.nRoom,X.nLevel,X.nStand,X.tMany,X.tFew,X.nPlace,X.nText,X.nLine,X.nBack,X.nPhase,X.clash]
def anT:List String:=["NoneType","bool","int","str","list","tuple","dict"]
structure Thing (K:Frag) (H:Hp) (v:V) (T:String):Prop where
 ty:TyOf K H v (.type T)
 mem:T∈anT
def NotIn (lo hi:Int) (v:V) (T:String):Prop:=T≠"int"∨∃ i,v=.int i/\¬ (lo<=i/\i<=hi)
end Lv
namespace Lv
open PySem L2 PySem.W
end Lv
namespace Lv
open PySem L2 PySem.W
end Lv
namespace Lv
open PySem L2 PySem.W
end Lv
namespace L2
open PySem PySem.Spec PyProof.Rows PySem.W
end L2
namespace Lv
open PySem L2 PySem.W
end Lv
namespace L2
open PySem PySem.Spec PyProof.Rows PySem.W
abbrev VB:List Value:=[.type "ValueError",.type "Exception",.type "BaseException",.type "object"]
noncomputable def ZnS (K:Frag) (C:Addr):Bool:=match K.lookup C with
 | some ⟨.type "type",_,.cls cd,sl⟩=>(match cd.mro,sl.toList with
  | .ref D::bm,[_,_,_,_,some (.builtin n),_]=>D == C && (n == "ValueError.__new__" && (!cd.hasDel && (tailIn K VB bm && (nsOkIn K cd.ns && cd.hasDict))))
  | _,_=>false)
 | _=>false
noncomputable def ZmU (K:Frag) (C fI:Addr):Bool:=ZnS K C && (ZjM K C && (findIn K (.ref C) "__setattr__" == some (some (.builtin "object.__setattr__")) && (findIn K (.ref C) "at" == some none && (isFn K (.ref fI) && (keepIn K (.ref C) && findIn K (.ref C) "__init__" == some (some (.ref fI)))))))
section
variable {prog:Program}{w:World}{A:Around}{E:Value->Shared->Prop}{s:Shared}{K:Frag}{x C fI:Addr}{v:Value}
abbrev newExc (C t:Addr):Obj:={ cls:=.ref C,data:=.fields #[.ref t,.none,.none,.none,.bool false,.none] }
end
end L2
namespace L2
open PySem PySem.Spec PyProof.Rows PySem.W
section
variable {X:Cx}{o value:Expr}{pos pos':Pos}{ta tv:TE}{C fI:Addr}
end
end L2
namespace Lv
open PySem L2 PySem.W
structure ExcTabI (K:Frag) (reel C fI:Addr) (all:List Addr):Prop where
 ok:ZmU K C fI=true
 exm:exmOne K (.ref C) (.ref reel)=some true
 exmS:exmOne K (.ref C) (.ref C)=some true
 isR:kitOne K (.ref C) (.ref reel)=some true
 isV:kitOne K (.ref C) (.type "ValueError")=some true
 one:∀ D∈all,kitOne K (.ref C) (.ref D)=some (D == C)
end Lv
namespace Lv
open PySem L2
def PhOk (c:List Int) (out m:Int):Prop:=(0<=out/\out<(c.length:Int))/\(c.getD out.toNat 0<=0/\(1<=m/\m<=mxl c))
instance (c:List Int) (out m:Int):Decidable (PhOk c out m):=by unfold PhOk;infer_instance
def ZeD:Sp:=fun vs H Q _=>∃ i n:Int,vs=[.int i,.int n]/\Q (.bl (decide (0<=i/\i<n))) H
end Lv
namespace Lv
open PySem L2
def prT (p:Int × Int):List Int:=[p.1,p.2]
noncomputable def wk:List Int->List (Int × Int)->Nat->Except Nat (List Int)
 | c,[],_=>.ok c
 | c,(o,m)::r,i=>if PhOk c o m then wk (ZgN c o.toNat m) r (i+1) else .error i
def fin (c:List Int) (ps:List (Int × Int)):Except Nat (List Int):=match wk c ps 0 with
 | .ok d=>if 1<d.sum then .error ps.length else .ok d
 | .error i=>.error i
structure Way (c0:List Int) (ps:List (Int × Int)) (i:Nat) (c:List Int):Prop where
 wk:wk c0 ps 0=wk c (ps.drop i) i
 len:c.length=c0.length
 nn:∀ x∈c,0<=x
structure Cts (p:Nat) (c:List Int):Prop where
 len:c.length=p+1
 nn:∀ x∈c,0<=x
 le:∀ x∈c,x<=big
 pos:∃ x∈c,1<=x
end Lv
namespace Lv
open PySem L2
end Lv
namespace Lv
open PySem L2
def srt (xs:List Int):List Int:=xs.mergeSort fun a b=>decide (a<=b)
theorem Za8 (xs:List Int):(srt xs).Perm xs:=Yfd _ _
theorem Zdr (xs:List Int):(srt xs).Pairwise (·<=·):=by
 have h:=YeM (le:=fun a b:Int=>decide (a<=b)) (fun a b c h1 h2=>by simp at *;omega) (fun a b=>by simp;omega) xs;exact h.imp fun h=>by simpa using h
theorem ZcV {ms xs:List Int} (h:ms.Perm xs) (hs:ms.Pairwise (·<=·)):ms=srt xs:=Zm8 (h.trans (Za8 xs).symm) hs (Zdr xs)
def rl90 (cs:Rows):List (List Int):=cs.filterMap id
def mrg (cs:Rows):Option (List Int):=if rl90 cs=[] then none else some (srt (rl90 cs).flatten)
def tkA (D:List Rows) (m i:Nat):Rows:=D.filterMap fun r=>(r.take m)[i]?
def phR (D:List Rows) (o m:Nat):List Rows:=(D.map (·.drop m)).set o ((YaE m).map fun i=>mrg (tkA D m i))
def thg (cs:Rows):Int:=((rl90 cs).map fun xs=>(xs.length:Int)).sum
def lns (D:List Rows):List Int:=D.map fun r=>(r.length:Int)
def allT (D:List Rows):List Int:=(rl90 D.flatten).flatten
theorem Zc0 (a b:Rows):rl90 (a++b)=rl90 a++rl90 b:=YdB
theorem ZaO (r:Rows) (D:List Rows):allT (r::D)=(rl90 r).flatten++allT D:=by
 unfold allT;rw[YaF,Zc0,Ybk]
theorem ZcN (cs:Rows):((mrg cs).toList.flatten).Perm (rl90 cs).flatten:=by
 unfold mrg;by_cases h:rl90 cs=[]
 ·rw[if_pos h,h];exact Ybx _
 ·rw[if_neg h];show ((srt (rl90 cs).flatten)++[]).Perm _;rw[Ya4];exact Za8 _
theorem ZlG (f:Nat->Option (List Int)):∀ (is:List Nat),(rl90 (is.map f)).flatten=(is.map fun i=>(f i).toList.flatten).flatten
 | []=>rfl
 | i::is=>by
  have ih:=ZlG f is;rw[YaJ,YaJ,YaF,<- ih];unfold rl90;rw[YbN]
  cases f i with
  | none=>rfl
  | some xs=>
   show xs++_=(xs++[])++_;rw[Ya4]
theorem Zdo (r:Rows):∀ m,((YaE m).map fun i=>rl90 ((r.take m)[i]?.toList)).flatten=rl90 (r.take m)
 | 0=>by simp[rl90]
 | m+1=>by
  have ih:=Zdo r m;rw[Yb2,Yai,Ybk];have e1:((YaE m).map fun i=>rl90 ((r.take (m+1))[i]?.toList))=(YaE m).map fun i=>rl90 ((r.take m)[i]?.toList):=by
   refine Ybw fun i hi=>?_;have hi':=Ybu.mp hi;rw[Yb9,Yb9,if_pos (by omega),if_pos hi']
  rw[e1,ih];show rl90 (r.take m)++(rl90 ((r.take (m+1))[m]?.toList)++[])=_;rw[Ya4,<- Zc0];congr 1;rw[Yb9,if_pos (by omega),YaQ]
theorem ZgO {α:Type} (f g:Nat->List α):∀ (is:List Nat),((is.map fun i=>f i++g i).flatten).Perm ((is.map f).flatten++(is.map g).flatten)
 | []=>Ybx _
 | i::is=>by
  have ih:=ZgO f g is;rw[YaJ,YaJ,YaJ,YaF,YaF,YaF];refine ((ih.append_left (f i++g i))).trans ?_;rw[Yax,Yax];refine YbK _ ?_;rw[<- Yax,<- Yax];exact Ybr _ YbD
theorem Zew (m:Nat):∀ D:List Rows,(((YaE m).map fun i=>rl90 (tkA D m i)).flatten).Perm ((D.map fun r=>rl90 (r.take m)).flatten)
 | []=>by
  have:((YaE m).map fun i=>rl90 (tkA [] m i)).flatten=[]:=by
   rw[List.flatten_eq_nil_iff];intro x hx;obtain⟨i,_,rfl⟩:=YaS.mp hx;rfl
  rw[this];exact Ybx _
 | r::D=>by
  have ih:=Zew m D;have e:((YaE m).map fun i=>rl90 (tkA (r::D) m i))=(YaE m).map fun i=>rl90 ((r.take m)[i]?.toList)++rl90 (tkA D m i):=by
   refine Ybw fun i _=>?_;rw[<- Zc0];congr 1;unfold tkA;rw[YbN];cases (r.take m)[i]? <;> rfl
  rw[e,YaJ,YaF];refine (ZgO _ _ _).trans ?_;rw[Zdo];exact ih.append_left _
theorem Zbz {f g:Nat->List Int}:∀ {is:List Nat},(∀ i∈is,(f i).Perm (g i))->((is.map f).flatten).Perm ((is.map g).flatten)
 | [],_=>Ybx _
 | i::is,h=>by
  rw[YaJ,YaJ,YaF,YaF];exact (h i Yay).append (Zbz fun j hj=>h j (Yas _ hj))
theorem Zhq:∀ {D:List Rows}{o:Nat}{r:Rows},D[o]?=some []->(allT (D.set o r)).Perm ((rl90 r).flatten++allT D)
 | d::D,0,r,h=>by
  have:d=[]:=by simpa using h
  subst this;show (allT (r::D)).Perm _;rw[ZaO,ZaO];exact Ybx _
 | d::D,o+1,r,h=>by
  have ih:=Zhq (D:=D) (o:=o) (r:=r) (by simpa using h);show (allT (d::D.set o r)).Perm _;rw[ZaO,ZaO];refine (ih.append_left _).trans ?_;rw[<- Yax,<- Yax];exact Ybr _ YbD
theorem ZcA (m:Nat):∀ D:List Rows,(allT D).Perm (((D.map fun r=>rl90 (r.take m)).flatten).flatten++allT (D.map (·.drop m)))
 | []=>Ybx _
 | r::D=>by
  have ih:=ZcA m D;rw[ZaO,YaJ,YaJ,ZaO,YaF,Ybk];have e:(rl90 r).flatten=(rl90 (r.take m)).flatten++(rl90 (r.drop m)).flatten:=by
   rw[<- Ybk,<- Zc0,YaU]
  rw[e,Yax,Yax];refine YbK _ ?_;refine (ih.append_left _).trans ?_;rw[<- Yax,<- Yax];exact Ybr _ YbD
theorem Zfq {D:List Rows}{o m:Nat} (h:D[o]?=some []):(allT (phR D o m)).Perm (allT D):=by
 unfold phR;have h':(D.map (·.drop m))[o]?=some []:=by rw[Yaf,h];simp
 refine (Zhq h').trans ?_;refine Ydj ?_ (ZcA m D).symm;refine Ybr _ ?_;rw[ZlG];refine (Zbz fun i _=>ZcN _).trans ?_;have e:((YaE m).map fun i=>(rl90 (tkA D m i)).flatten).flatten=(((YaE m).map fun i=>rl90 (tkA D m i)).flatten).flatten:=by
  rw[YdI,Ybh];rfl
 rw[e];exact (Zew m D).flatten
def AllS (D:List Rows):Prop:=∀ r∈D,∀ c∈r,∃ xs:List Int,c=some xs/\xs.Pairwise (·<=·)
theorem ZiP {D:List Rows}{o m:Nat} (h:AllS D) (hm:∃ r∈D,m<=r.length):AllS (phR D o m):=by
 intro r hr c hc;rcases Ybb hr with hr | rfl
 ·obtain⟨r',hr',rfl⟩:=YaS.mp hr;exact h r' hr' c (Ya3 hc)
 ·obtain⟨i,hi,rfl⟩:=YaS.mp hc;have hi':=Ybu.mp hi;obtain⟨r',hr',hl⟩:=hm;have hx:(r'.take m)[i]?=some r'[i]:=by
   rw[Yb9,if_pos hi',Yac (by omega)]
  obtain⟨xs,hxs,_⟩:=h r' hr' r'[i] (Yby _);have hmem:xs∈rl90 (tkA D m i):=by
   unfold rl90 tkA;rw[Yb6];exact⟨some xs,Yb6.mpr ⟨r',hr',by rw[hx,hxs]⟩,rfl⟩
  unfold mrg;rw[if_neg (Yc8 hmem)];exact⟨_,rfl,Zdr _⟩
theorem ZnC (D:List Rows) (o m:Nat):lns (phR D o m)=ZgN (lns D) o m:=by
 unfold lns phR ZgN les;rw[YbZ,Ybh,Ybh,Yaa,Ycf];congr 1;refine Ybw fun r _=>?_;show (((r.drop m).length:Nat):Int)=if (r.length:Int) - (m:Int) > 0 then (r.length:Int) - (m:Int) else 0
 rw[YaX];split <;> omega
theorem Zbd {n:Nat} (h:n<=15001):n<sizeLine:=by rw[sizeLine_eq];omega
abbrev refT (T:List Reel):List V:=T.map fun t=>V.ref t.1
theorem cOk.same {H H':Hp}{c:Cell} (h:cOk H c) (s:Same H H'):cOk H' c:=h.frame fun x _ o e=>s x o e
theorem tOk.same {H H':Hp}{t:Reel} (h:tOk H t) (s:Same H H'):tOk H' t:=h.frame fun x _ o e=>s x o e
theorem cOk.off {H:Hp}{c:Cell}{a:Addr}{o:HO} (h:cOk H c) (n:a ∉ cA c):cOk (upd H a o) c:=h.frame fun x hx q e=>by rw[Zai fun z=>n (by rw[<- z];exact hx)];exact e
theorem cOk.has {H:Hp}{c:Cell} (h:cOk H c):∀ r∈cA c,H r≠none:=fun r hr z=>by
 cases c with
 | none=>simp[cA] at hr
 | some q=>
  have:r=q.1:=by simpa[cA] using hr
  subst this;have h':H q.1=some (.lst (q.2.map V.int)):=h;rw[h'] at z;cases z
theorem tOk.has {H:Hp}{t:Reel} (h:tOk H t):∀ r∈tA t,H r≠none:=fun r hr z=>by
 rcases YaD.mp hr with rfl | hr
 ·rw[h.1] at z;cases z
 ·obtain⟨c,hc,hrc⟩:=YaL.mp hr;exact (h.2 c hc).has r hrc z
theorem tOk.off {H:Hp}{t:Reel}{a:Addr}{o:HO} (h:tOk H t) (n:a ∉ tA t):tOk (upd H a o) t:=h.frame fun x hx q e=>by rw[Zai fun z=>n (by rw[<- z];exact hx)];exact e
theorem Zh2 {b:Bool}{K:Yad}{own:List Str}{js:List Nat}{g:TG}{te:TE}{σ:L2.St}{H1:Hp}{Q:VK}{a:Addr}{xs:List V} (F:Nat->Option (List Int)) (O:Addr->Prop) (hO:∀ x,O x->H1 x≠none) (hq:SqB b K H1 a xs) (hlen:xs.length<=15000)
  (hs:∀ (i:Nat) x,xs[i]?=some x->∀ H,Same H1 H->∀ R:VK,(∀ c H',cOk H' c->cD c=F i->(∀ r∈cA c,H r=none∨O r)->Same H H'->R (cV c) H')->g x (blkσ own js σ) H fun τ H4=>te τ H4 R)
  (hd:∀ acc cs H,H1 acc=none->tOk H (acc,cs)->cs.map cD=(YaE xs.length).map F->acc ∉ cs.flatMap cA->(∀ x∈cs.flatMap cA,H1 x=none∨O x)->Same H1 H->Q (.ref acc) H):Zbg own js g Zcn te σ (ItlB b K a) H1 Q:=by
 refine Za0 (b:=b) (K:=K) (a:=a) (xs:=xs) (fun acc i H=>∃ cs:List Cell,H acc=some (.lst (cs.map cV))/\(∀ c∈cs,cOk H c)/\cs.map cD=(YaE i).map F/\acc ∉ cs.flatMap cA/\Same H1 H/\∀ x∈cs.flatMap cA,H1 x=none∨O x) (fun acc h0=>⟨[],Zab,fun c hc=>by simp at hc,rfl,by simp,Same.new h0,fun x hx=>by simp at hx⟩) (fun acc i H h0 _ z=>?_) ?_ ?_
 ·obtain⟨_,_,_,_,_,s,_⟩:=z
  cases b with
  | true=>exact s.seq hq
  | false=>exact s.tup hq
 ·rintro acc i x H h0 hx ⟨cs,hacc,hok,hD,hn,s1,hO'⟩;have hi:=(Yab.mp hx).1
  have hl:cs.length=i:=by have:=congrArg Ya8 hD;simpa using this
  refine (cast ?_ (hs i x hx H s1 (fun y H6=>∃ zs,H6 acc=some (.lst zs)/\zs.length<sizeLine/\(i+1<=xs.length/\∃ cs:List Cell,upd H6 acc (.lst (zs++[y])) acc=some (.lst (cs.map cV))/\(∀ c∈cs,cOk (upd H6 acc (.lst (zs++[y]))) c)/\cs.map cD=(YaE (i+1)).map F/\acc ∉ cs.flatMap cA/\Same H1 (upd H6 acc (.lst (zs++[y])))/\∀ x∈cs.flatMap cA,H1 x=none∨O x)) fun c H6 ok6 hcD hcA s6=>?_))
  ·unfold Zcn;simp only[if_true]
  ·have nc:acc ∉ cA c:=fun z=>by
    rcases hcA acc z with y | y
    ·rw[hacc] at y;cases y
    ·exact hO _ y h0
   refine⟨_,s6 _ _ hacc,Zbd (by rw[Yaa];omega),hi,cs++[c],by rw[Zab,Yai];rfl,fun d hd'=>?_,by rw[Yai,hD,Yb2,Yai];simp[hcD],?_,(s1.trans s6).put h0,fun x hx=>?_⟩
   ·rcases Yah.mp hd' with hd' | hd'
    ·exact ((hok d hd').same s6).off fun z=>hn (YaL.mpr ⟨d,hd',z⟩)
    ·rw[Yaj.mp hd'];exact ok6.off nc
   ·rw[YbM];intro z;rcases Yah.mp z with z | z
    ·exact hn z
    ·exact nc (by simpa using z)
   ·rw[YbM] at hx;rcases Yah.mp hx with hx | hx
    ·exact hO' x hx
    ·rcases hcA x (by simpa using hx) with y | y
     ·exact .inl (s1.free y)
     ·exact .inr y
 ·rintro acc H h0 ⟨cs,hacc,hok,hD,hn,s1,hO'⟩;exact hd acc cs H h0 ⟨hacc,hok⟩ hD hn hO' s1
theorem ZgH {own:List Str}{js:List Nat}{g:TG}{te:TE}{σ:L2.St}{H1:Hp}{Q:VK}{lo:Int}{n:Nat} (F:Nat->Option (List Int)) (O:Addr->Prop) (hO:∀ x,O x->H1 x≠none) (hlen:n<=15000)
  (hs:∀ (i:Nat),i<n->∀ H,Same H1 H->∀ R:VK,(∀ c H',cOk H' c->cD c=F i->(∀ r∈cA c,H r=none∨O r)->Same H H'->R (cV c) H')->g (.int (lo+i)) (blkσ own js σ) H fun τ H4=>te τ H4 R)
  (hd:∀ acc cs H,H1 acc=none->tOk H (acc,cs)->cs.map cD=(YaE n).map F->acc ∉ cs.flatMap cA->(∀ x∈cs.flatMap cA,H1 x=none∨O x)->Same H1 H->Q (.ref acc) H):Zbg own js g Zcn te σ (Itr lo n) H1 Q:=by
 refine ZcS (fun acc i H=>∃ cs:List Cell,H acc=some (.lst (cs.map cV))/\(∀ c∈cs,cOk H c)/\cs.map cD=(YaE i).map F/\acc ∉ cs.flatMap cA/\Same H1 H/\∀ x∈cs.flatMap cA,H1 x=none∨O x) (fun acc h0=>⟨[],Zab,fun c hc=>by simp at hc,rfl,by simp,Same.new h0,fun x hx=>by simp at hx⟩) ?_ ?_
 ·rintro acc i H h0 hi ⟨cs,hacc,hok,hD,hn,s1,hO'⟩;have hl:cs.length=i:=by have:=congrArg Ya8 hD;simpa using this
  refine (cast ?_ (hs i hi H s1 (fun y H6=>∃ zs,H6 acc=some (.lst zs)/\zs.length<sizeLine/\(i+1<=n/\∃ cs:List Cell,upd H6 acc (.lst (zs++[y])) acc=some (.lst (cs.map cV))/\(∀ c∈cs,cOk (upd H6 acc (.lst (zs++[y]))) c)/\cs.map cD=(YaE (i+1)).map F/\acc ∉ cs.flatMap cA/\Same H1 (upd H6 acc (.lst (zs++[y])))/\∀ x∈cs.flatMap cA,H1 x=none∨O x)) fun c H6 ok6 hcD hcA s6=>?_))
  ·unfold Zcn;simp only[if_true]
  ·have nc:acc ∉ cA c:=fun z=>by
    rcases hcA acc z with y | y
    ·rw[hacc] at y;cases y
    ·exact hO _ y h0
   refine⟨_,s6 _ _ hacc,Zbd (by rw[Yaa];omega),hi,cs++[c],by rw[Zab,Yai];rfl,fun d hd'=>?_,by rw[Yai,hD,Yb2,Yai];simp[hcD],?_,(s1.trans s6).put h0,fun x hx=>?_⟩
   ·rcases Yah.mp hd' with hd' | hd'
    ·exact ((hok d hd').same s6).off fun z=>hn (YaL.mpr ⟨d,hd',z⟩)
    ·rw[Yaj.mp hd'];exact ok6.off nc
   ·rw[YbM];intro z;rcases Yah.mp z with z | z
    ·exact hn z
    ·exact nc (by simpa using z)
   ·rw[YbM] at hx;rcases Yah.mp hx with hx | hx
    ·exact hO' x hx
    ·rcases hcA x (by simpa using hx) with y | y
     ·exact .inl (s1.free y)
     ·exact .inr y
 ·rintro acc H h0 ⟨cs,hacc,hok,hD,hn,s1,hO'⟩;exact hd acc cs H h0 ⟨hacc,hok⟩ hD hn hO' s1
theorem ZcR {b:Bool}{K:Yad}{own:List Str}{js:List Nat}{g:TG}{te:TE}{σ:L2.St}{H1:Hp}{Q:VK}{a:Addr}{xs:List V} (F:Nat->Rows) (O:Addr->Prop) (hO:∀ x,O x->H1 x≠none) (hq:SqB b K H1 a xs) (hlen:xs.length<=15000)
  (hs:∀ (i:Nat) x,xs[i]?=some x->∀ H,Same H1 H->∀ R:VK,(∀ t H',tOk H' t->t.2.map cD=F i->(∀ r∈tA t,H r=none∨O r)->Same H H'->R (.ref t.1) H')->g x (blkσ own js σ) H fun τ H4=>te τ H4 R)
  (hd:∀ acc T H,H1 acc=none->H acc=some (.lst (refT T))->NRL H T->datT T=(YaE xs.length).map F->acc ∉ adr T->(∀ x∈adr T,H1 x=none∨O x)->Same H1 H->Q (.ref acc) H):Zbg own js g Zcn te σ (ItlB b K a) H1 Q:=by
 refine Za0 (b:=b) (K:=K) (a:=a) (xs:=xs) (fun acc i H=>∃ T:List Reel,H acc=some (.lst (refT T))/\NRL H T/\datT T=(YaE i).map F/\acc ∉ adr T/\Same H1 H/\∀ x∈adr T,H1 x=none∨O x) (fun acc h0=>⟨[],Zab,fun c hc=>by simp at hc,rfl,by simp[adr],Same.new h0,fun x hx=>by simp[adr] at hx⟩) (fun acc i H h0 _ z=>?_) ?_ ?_
 ·obtain⟨_,_,_,_,_,s,_⟩:=z
  cases b with
  | true=>exact s.seq hq
  | false=>exact s.tup hq
 ·rintro acc i x H h0 hx ⟨T,hacc,hok,hD,hn,s1,hO'⟩;have hi:=(Yab.mp hx).1
  have hl:T.length=i:=by have:=congrArg Ya8 hD;simpa[datT] using this
  refine (cast ?_ (hs i x hx H s1 (fun y H6=>∃ zs,H6 acc=some (.lst zs)/\zs.length<sizeLine/\(i+1<=xs.length/\∃ T:List Reel,upd H6 acc (.lst (zs++[y])) acc=some (.lst (refT T))/\NRL (upd H6 acc (.lst (zs++[y]))) T/\datT T=(YaE (i+1)).map F/\acc ∉ adr T/\Same H1 (upd H6 acc (.lst (zs++[y])))/\∀ x∈adr T,H1 x=none∨O x)) fun t H6 ok6 hcD hcA s6=>?_))
  ·unfold Zcn;simp only[if_true]
  ·have nc:acc ∉ tA t:=fun z=>by
    rcases hcA acc z with y | y
    ·rw[hacc] at y;cases y
    ·exact hO _ y h0
   refine⟨_,s6 _ _ hacc,Zbd (by rw[Yaa];omega),hi,T++[t],by rw[Zab];simp[refT],fun d hd'=>?_,?_,?_,(s1.trans s6).put h0,fun x hx=>?_⟩
   ·rcases Yah.mp hd' with hd' | hd'
    ·exact ((hok d hd').same s6).off fun z=>hn (YaL.mpr ⟨d,hd',z⟩)
    ·rw[Yaj.mp hd'];exact ok6.off nc
   ·unfold datT at hD ⊢;rw[Yai,hD,Yb2,Yai];simp[hcD]
   ·unfold adr at hn ⊢;rw[YbM];intro z;rcases Yah.mp z with z | z
    ·exact hn z
    ·exact nc (by simpa using z)
   ·unfold adr at hx hO';rw[YbM] at hx;rcases Yah.mp hx with hx | hx
    ·exact hO' x hx
    ·rcases hcA x (by simpa using hx) with y | y
     ·exact .inl (s1.free y)
     ·exact .inr y
 ·rintro acc H h0 ⟨T,hacc,hok,hD,hn,s1,hO'⟩;exact hd acc T H h0 hacc hok hD hn hO' s1
def Zdb:Sp:=fun vs H Q _=>∃ (a:Addr) (rs:List Addr) (N:List (List Int)),vs=[.ref a]/\RwS H a rs N/\(lenN N).sum<=15000/\∀ l (ms:List Int) H',H l=none->H' l=some (.lst (ms.map V.int))->ms.Perm N.flatten->ms.Pairwise (·<=·)->Same H H'->Q (.ref l) H'
def Zgg:Sp:=fun vs H Q _=>∃ c:Cell,vs=[cV c]/\cOk H c/\∀ c' H',cD c'=cD c->cOk H' c'->(∀ r∈cA c',H r=none)->Same H H'->Q (cV c') H'
def Zf8:Sp:=fun vs H Q _=>∃ (l:Addr) (cs:List Cell),vs=[.ref l]/\tOk H (l,cs)/\cs.length<=15000/\∀ H',Same H H'->Q (.int (thg (cs.map cD))) H'
def Zgf:Sp:=fun vs H Q _=>∃ (l:Addr) (cs:List Cell),vs=[.ref l]/\tOk H (l,cs)/\cs.length<=15000/\((rl90 (cs.map cD)).flatten).length<=15000/\∀ c' H',cD c'=mrg (cs.map cD)->cOk H' c'->(∀ r∈cA c',H r=none)->Same H H'->Q (cV c') H'
def Zf6:Sp:=fun vs H Q _=>∃ (l:Addr) (T:List Reel) (i:Nat),vs=[.ref l,.int i]/\H l=some (.lst (refT T))/\NRL H T/\T.length<=20/\∀ a cs H',H a=none->tOk H' (a,cs)->cs.map cD=(datT T).filterMap (·[i]?)->Same H H'->Q (.ref a) H'
def SzD (D:List Rows):Prop:=D.length<=20/\(∀ r∈D,r.length<=15000)/\(allT D).length<=15000
def Zgb:Sp:=fun vs H Q _=>∃ (l q:Addr) (T:List Reel) (o m:Nat),vs=[.ref l,.ref q]/\H l=some (.lst (refT T))/\NRL H T/\H q=some (.tup [.int o,.int m])/\o<T.length/\m<=15000/\SzD (datT T) /\
 ∀ t b e T' H',H' t=some (.tup [.ref b,.ref e])->H' b=some (.lst (refT T'))->NRL H' T'->datT T'=phR (datT T) o m->H' e=some (.lst (((datT T).map fun r=>thg (r.take m)).map V.int))->H e=none->H b=none->b ∉ adr T'->(∀ x∈adr T',H x=none∨x∈adr T)->Same H H'->Q (.ref t) H'
def plR:List Rows->List (Int × Int)->List Rows
 | D,[]=>D
 | D,(o,m)::r=>plR (phR D o.toNat m.toNat) r
def rdR:List Rows->List (Int × Int)->List (List Int)
 | _,[]=>[]
 | D,(o,m)::r=>(D.map fun q=>thg (q.take m.toNat))::rdR (phR D o.toNat m.toNat) r
def Pls:List Rows->List (Int × Int)->Prop
 | _,[]=>True
 | D,(o,m)::r=>PhOk (lns D) o m/\Pls (phR D o.toNat m.toNat) r
theorem Zg0:∀ (D:List Rows) (ps:List (Int × Int)) (o m:Int),plR D (ps++[(o,m)])=phR (plR D ps) o.toNat m.toNat
 | D,[],o,m=>rfl
 | D,(a,b)::ps,o,m=>Zg0 (phR D a.toNat b.toNat) ps o m
theorem ZgX:∀ (D:List Rows) (ps:List (Int × Int)) (o m:Int),rdR D (ps++[(o,m)])=rdR D ps++[(plR D ps).map fun q=>thg (q.take m.toNat)]
 | D,[],o,m=>rfl
 | D,(a,b)::ps,o,m=>by
  show _::rdR _ (ps++[(o,m)])=_::(rdR _ ps++_);rw[ZgX];rfl
theorem Pls.at:∀ {D:List Rows}{ps:List (Int × Int)},Pls D ps->∀ {i:Nat}{o m:Int},ps[i]?=some (o,m)->PhOk (lns (plR D (ps.take i))) o m
 | D,(a,b)::ps,h,0,o,m,e=>by
  cases e;exact h.1
 | D,(a,b)::ps,h,i+1,o,m,e=>Pls.at (D:=phR D a.toNat b.toNat) h.2 (i:=i) (by simpa using e)
theorem Zg3 {D:List Rows}{o m:Int} (h:PhOk (lns D) o m):∃ (a b:Nat),o=a/\m=b/\a<D.length/\D[a]?=some []/\1<=b/\∃ r∈D,b<=r.length:=by
 obtain⟨⟨h1,h2⟩,h3,h4,h5⟩:=h;have hl:(lns D).length=D.length:=by unfold lns;rw[Yaa]
 have ha:o.toNat<D.length:=by omega
 refine⟨o.toNat,m.toNat,by omega,by omega,ha,?_,by omega,?_⟩
 ·rw[Yak] at h3;unfold lns at h3;rw[Yaf,Yac ha] at h3;have:(D[o.toNat].length:Int)<=0:=h3;rw[Yac ha];exact congrArg some (YcT (by omega))
 ·have hne:lns D≠[]:=fun z=>by rw[z] at hl;simp at hl;omega
  have hm:=Zgv (lns D) (fun x hx=>by obtain⟨r,_,rfl⟩:=YaS.mp hx;omega) hne;obtain⟨r,hr,e⟩:=YaS.mp hm;exact⟨r,hr,by omega⟩
theorem SzD.ph {D:List Rows}{a b:Nat} (z:SzD D) (h0:D[a]?=some []) (hb:∃ r∈D,b<=r.length):SzD (phR D a b):=by
 obtain⟨z1,z2,z3⟩:=z;refine⟨by unfold phR;rw[YcZ,Yaa];exact z1,fun r hr=>?_,by rw[(Zfq h0).length_eq];exact z3⟩;rcases Ybb hr with hr | rfl
 ·obtain⟨r',hr',rfl⟩:=YaS.mp hr;have:=z2 r' hr';rw[YaX];omega
 ·obtain⟨r',hr',hl⟩:=hb;have:=z2 r' hr';rw[Yaa,Ycf];omega
theorem Zgr {D:List Rows}:∀ {ps:List (Int × Int)},Pls D ps->SzD D->SzD (plR D ps)/\(plR D ps).length=D.length/\(allT (plR D ps)).Perm (allT D)/\(AllS D->AllS (plR D ps))/\(∀ i,wk (lns D) ps i=.ok (lns (plR D ps))):=by
 intro ps
 induction ps generalizing D with
 | nil=>intro _ z;exact⟨z,rfl,Ybx _,id,fun i=>rfl⟩
 | cons q ps ih=>
  obtain⟨o,m⟩:=q;intro h z;obtain⟨a,b,rfl,rfl,ha,h0,hb1,hb⟩:=Zg3 h.1;have h2:=h.2;rw[YaK,YaK] at h2;obtain⟨i1,i2,i3,i4,i5⟩:=ih h2 (z.ph h0 hb);have e:plR D (((a:Int),(b:Int))::ps)=plR (phR D a b) ps:=by
   show plR (phR D ((a:Int).toNat) ((b:Int).toNat)) ps=_;rw[YaK,YaK]
  rw[e];refine⟨i1,by rw[i2];unfold phR;rw[YcZ,Yaa],i3.trans (Zfq h0),fun s=>i4 (ZiP s hb),fun i=>?_⟩;rw[wk,if_pos h.1,YaK,<- ZnC];exact i5 (i+1)
def Zge:Sp:=fun vs H Q _=>∃ (a q:Addr) (c:List Int) (out m:Int),vs=[.ref a,.ref q]/\H a=some (.lst (c.map V.int))/\H q=some (.tup [.int out,.int m])/\c≠[]/\(∀ x∈c,0<=x)/\Q (.bl (decide (PhOk c out m))) H
def Zga:Sp:=fun vs H Q _=>∃ (l b:Addr) (T:List Reel) (rs:List Addr) (ps:List (Int × Int)),vs=[.ref l,.ref b]/\H l=some (.lst (refT T))/\NRL H T/\H b=some (.lst (rs.map V.ref))/\TTs H rs (ps.map prT)/\rs.length<=1000/\T≠[]/\SzD (datT T)/\Pls (datT T) ps /\
 ∀ t bl rl T' es H',H' t=some (.tup [.ref bl,.ref rl])->H' bl=some (.lst (refT T'))->NRL H' T'->datT T'=plR (datT T) ps->H' rl=some (.lst (es.map V.ref))->LLs H' es (rdR (datT T) ps)->(∀ x∈adr T',H x=none)->Same H H'->Q (.ref t) H'
end Lv
namespace Lv
open PySem L2
end Lv
namespace Lv
open PySem L2
theorem ZfK:∀ T:List Reel,(datT T).flatten=(T.flatMap (·.2)).map cD
 | []=>rfl
 | t::T=>by
  rw[List.flatMap_cons,Yai,<- ZfK T];rfl
structure Bl (H:Hp) (l pl cl rl tg:Addr) (fs cs:List Int) (T:List Reel) (ts:List Int):Prop where
 hl:H l=some (.lst (fs.map V.int))
 hc:H cl=some (.lst (cs.map V.int))
 hr:H rl=some (.lst (refT T))
 ht:H tg=some (.lst (ts.map V.int))
 hN:NRL H T
 hA:∀ x∈adr T,x≠pl/\x≠rl/\x≠tg
structure Dst (l pl cl rl tg:Addr):Prop where
 lp:l≠pl
 lr:l≠rl
 lt:l≠tg
 cp:cl≠pl
 cr:cl≠rl
 ct:cl≠tg
 rp:rl≠pl
 rt:rl≠tg
 tp:tg≠pl
variable {H H':Hp}{l pl cl rl tg:Addr}{fs cs:List Int}{T:List Reel}{ts:List Int}
end Lv
namespace Lv
open PySem L2
def fstN (N:List (List Int)):List Int:=(N.headD []).map (·+1)
def ZeV (N:List (List Int)):List (List Int):=(N.tail.map (fstN N++·))++[fstN N]
def num0 (p:Nat):List (List Int):=[0]::Yan (p - 1) []
def num (p:Nat):Nat->List (List Int)
 | 0=>num0 p
 | n+1=>ZeV (num p n)
def lens (N:List (List Int)):List Int:=N.map fun l=>(l.length:Int)
theorem Zjt (N:List (List Int)):lens (ZeV N)=ZbN (lens N):=by
 cases N with
 | nil=>simp[lens,ZeV,ZbN,fstN]
 | cons a r=>
  simp[lens,ZeV,ZbN,fstN,Function.comp_def]
theorem ZbZ (p:Nat):∀ n,lens (num p n)=cnt p n
 | 0=>by simp[lens,num,num0,cnt,Zen]
 | n+1=>by
  show lens (ZeV (num p n))=ZbN (cnt p n);rw[Zjt,ZbZ p n]
theorem Za5 {p:Nat} (hp:1<=p) (n:Nat):(num p n).length=p:=by
 have:=congrArg Ya8 (ZbZ p n);rw[ZcT hp] at this;simpa[lens] using this
theorem ZlO {c:List Int} (h:∀ x∈c,0<=x) {x:Int} (hx:x∈c):x<=c.sum:=by
 induction c with
 | nil=>cases hx
 | cons a r ih=>
  have nn:∀ l:List Int,(∀ x∈l,0<=x)->0<=l.sum:=by
   intro l
   induction l with
   | nil=>intro _;simp
   | cons x y ih=>
    intro h;rw[Ybe];have:=h x (by simp);have:=ih fun z hz=>h z (by simp[hz]);omega
  rw[Ybe];have ha:=h a (by simp);have hr:∀ x∈r,0<=x:=fun x hx=>h x (by simp[hx]);rcases YaD.mp hx with rfl | hx
  ·have:=nn r hr;omega
  ·have:=ih hr hx;omega
theorem Zg8 {p n:Nat}{xs:List Int} (h:xs∈num p n):(xs.length:Int)<=tot p n:=by
 refine ZlO (Zdh p n).2 ?_;rw[<- ZbZ p n];exact YaS.mpr ⟨xs,h,rfl⟩
theorem ZeT {p:Nat} (hp:2<=p) (n:Nat):∃ a r,num p n=a::r/\a≠[]/\r.length=p - 1:=by
 have h:=Za5 (p:=p) (by omega) n
 cases e:num p n with
 | nil=>rw[e] at h;simp at h;omega
 | cons a r=>
  rw[e] at h;refine⟨a,r,rfl,?_,by simp at h;omega⟩;rintro rfl;have h1:=Zhh hp n;unfold hd at h1;rw[<- ZbZ p n,e] at h1;simp[lens] at h1
theorem ZbK {n:Nat} (h:n<=8000):n<sizeLine:=YdX h (by decide)
theorem Zn6 {p:Nat} (hp:2<=p) (h7:p<=7):4000<tot p 20:=by
 have:p=2∨p=3∨p=4∨p=5∨p=6∨p=7:=by omega
 rcases this with rfl | rfl | rfl | rfl | rfl | rfl <;> decide +kernel
def ZeC:Sp:=fun vs H Q _=>∃ p n:Nat,vs=[.int p,.int n]/\2<=p/\p<=7/\n<=300/\tot p n<=4000/\∀ H',Same H H'->Q .non H'
def ZcB:Sp:=fun vs H Q _=>∃ (a:Addr) (rs:List Addr) (N:List (List Int)),vs=[.ref a]/\H a=some (.tup (rs.map V.ref))/\TTs H rs N/\2<=N.length/\N.length<=7/\N.headD []≠[]/\(∀ xs∈N,xs.length<=4000) /\
 ∀ l qs H',H l=none->H' l=some (.tup (qs.map V.ref))->TTs H' qs (ZeV N)->Same H H'->Q (.ref l) H'
def Zgc:Sp:=fun vs H Q _=>∃ p n:Nat,vs=[.int p,.int n]/\2<=p/\p<=7/\n<=300/\tot p n<=4000/\∀ l qs H',H l=none->H' l=some (.tup (qs.map V.ref))->TTs H' qs (num p n)->Same H H'->Q (.ref l) H'
theorem ZiB {α:Type}{n j:Nat}{x y:α} (h:(Yan n x)[j]?=some y):y=x:=by
 rw[YcG] at h;split at h
 ·exact (YaB h).symm
 ·cases h
theorem ZaG {rs:List Addr}{i:Nat}{x:V} (h:(rs.map V.ref)[i]?=some x):∃ r,rs[i]?=some r/\x=.ref r:=by
 rw[Yaf] at h
 cases e:rs[i]? with
 | none=>rw[e] at h;cases h
 | some p=>rw[e] at h;exact⟨p,rfl,(YaB h).symm⟩
def Zl5:Sp:=fun vs H Q _=>∃ i,vs=[.int i]/\i<=4000/\Q .non H
def Zdd:Sp:=fun vs H Q _=>∃ p:Nat,vs=[.int p]/\2<=p/\p<=7/\∀ l qs H',H l=none->H' l=some (.tup (qs.map V.ref))->TTs H' qs (num0 p)->Same H H'->Q (.ref l) H'
def Zgi (fn:Addr):Sp:=fun vs H Q _=>∃ p n:Nat,vs=[.int p,.int n,.ref fn]/\2<=p/\p<=7/\n<=300/\tot p n<=4000/\∀ l qs H',H l=none->H' l=some (.tup (qs.map V.ref))->TTs H' qs (num p n)->Same H H'->Q (.ref l) H'
end Lv
namespace L2
open PySem PySem.Spec PyProof.Rows
structure WA (X:Cx) (es:List Expr) (t:TA):Prop where
 out:PA X es t
structure WS (X:Cx) (st:Stmt) (t:TS):Prop where
 out:PS X st t
structure WSs (X:Cx) (sts:List Stmt) (t:TS):Prop where
 out:PSs X sts t
section
variable {X:Cx}{st:Stmt}{rest a b:List Stmt}{t u:TS}{c e:Expr}{tc:TT}{pos:Pos}{es:List Expr}{te:TE}{ta:TA}
theorem Zaq (h1:WS X st t) (h2:WSs X rest u):WSs X (st::rest) (tSeq t u):=⟨Zaf h1.out h2.out⟩
theorem ZaU (h:WS X st t):WSs X [st] t:=⟨Zak h.out⟩
theorem Zbt:WSs X [] Zm2:=⟨ZaH⟩
theorem wss {sts:List Stmt} (h:PSs X sts t):WSs X sts t:=⟨h⟩
theorem Zet (hc:PT X c tc) (ha:WSs X a t) (hb:WSs X b u):WS X (.If c a b pos) (tIfS tc t u):=⟨Zbo hc ha.out hb.out⟩
theorem ws (h:PS X st t):WS X st t:=⟨h⟩
end
section
variable {P:Program}{w:World}{K:Yad}{mg:Str->Option Value}{base:Heap}
theorem okW {x qual:Str}{st:Stmt}{f:Addr}{fd:FuncData}{N ps:List Str}{k:Nat}{sp:Sp} (F:Fun K x qual st f fd) (S:FnScope N ps (Zac st)) (len:∀ vs H Q E,sp vs H Q E->vs.length=ps.length)
  (hbody:∀ (cdv:Value) (A:Around) (outer:List Env) (s:Shared) (H:Hp) (vs:List V) (Q:VK) (E:XK),Room k (A.deeper (envOfC qual (Zac st) s.heap.objs.size f cdv))->sp vs H Q E ->
   ∃ t,WSs (cxOf CX0 P w K mg base N qual (Zac st) f cdv A outer s H E).nox (Zal st) t/\t { nx:=fun _ H'=>Q .non H',rt:=Q } (start N vs) H):FnOk P w K mg base CX0 (k+1) f fd ps sp :=
 F.ok S len fun cdv A outer s H vs Q E hr hsp=>by
  obtain⟨t,h,q⟩:=hbody cdv A outer s H vs Q E hr hsp;exact⟨t,h.out,q⟩
end
end L2
namespace L2
open PySem PySem.Spec PyProof.Rows PySem.SeqAt
section
variable {X:Cx}{pins:List (Addr × Obj)}{σ:St}{H:Hp}{s:Shared}{a:Addr}{u v:HO}{kvs:List (Key × V)}
end
section
variable {X:Cx}
end
section
variable {X:Cx}
end
section
variable {prog:Program}{w:World}{A:Around}{R:Result->Shared->Prop}{s:Shared}
end
section
variable {X:Cx}{pins:List (Addr × Obj)}{σ:St}{H H':Hp}{s s':Shared}{scope:Scope}{own:List Str}{js:List Nat}{C:Addr}{fp:List Addr}
end
section
variable {X:Cx}{scope:Scope}{own:List Str}{js:List Nat}{kx vx iter target:Expr}{ifs:List Expr}{wi:TI}{g:TG}{tt:TT}{tk tv:TE}{pos:Pos}
end
end L2
namespace L2
open PySem PySem.Spec PyProof.Rows PySem.SeqAt
section
variable {prog:Program}{w:World}{A:Around}{E:Value->Shared->Prop}{s:Shared}{O:KO}
end
section
variable {X:Cx}{pins:List (Addr × Obj)}{σ:St}{H:Hp}{s:Shared}{h':Heap}
end
section
variable {X:Cx}
end
end L2
namespace L2
open PySem PySem.Spec PyProof.Rows
structure WE (X:Cx) (e:Expr) (t:TE):Prop where
 out:PE X e t
section
variable {X:Cx}{a b e k v:Expr}{ta tb te tk tv:TE}{pos:Pos}{es:List Expr}{t:TA}
end
end L2
namespace Lv
open PySem L2
open Classical in
def cn (xs:List Int) (m:Int):Int:=(xs.count m:Int)
def Bd (B:Int) (N:List (List Int)):Prop:=∀ xs∈N,∀ m∈xs,0<=m/\m<=B
theorem Zeo (p:Nat):∀ n:Nat,Bd n (num p n)
 | 0=>fun xs a m b=>by
  rcases YaD.mp (show xs∈[0]::Yan (p - 1) [] from a) with rfl | h
  ·have:m=0:=by simpa using b
   omega
  ·rw[(YdU.mp h).2] at b;cases b
 | n+1=>fun xs a m b=>by
  have ih:=Zeo p n;have hf:∀ m∈fstN (num p n),0<=m/\m<=((n+1:Nat):Int):=fun m hm=>by
   unfold fstN at hm;obtain⟨y,hy,rfl⟩:=YaS.mp hm
   cases e:num p n with
   | nil=>rw[e] at hy;cases hy
   | cons c r=>
    rw[e] at hy;have:=ih c (by rw[e];exact Yay) y hy;omega
  rcases Yah.mp (show xs∈((num p n).tail.map (fstN (num p n)++·))++[fstN (num p n)] from a) with h | h
  ·obtain⟨y,hy,rfl⟩:=YaS.mp h;rcases Yah.mp b with b | b
   ·exact hf m b
   ·have:=ih y (List.mem_of_mem_tail hy) m b;omega
  ·rw[Yaj.mp h] at b;exact hf m b
end Lv
namespace L2
open PySem PySem.Spec PyProof.Rows
section
variable {X:Cx}
end
end L2
namespace Lv
open PySem L2
def rl (p n i:Nat):List Int:=(num p n).getD i []
theorem Zof {p n i:Nat} (hp:2<=p) (hi:i<p):(num p n)[i]?=some (rl p n i):=by
 have h:i<(num p n).length:=by rw[Za5 (by omega)];exact hi
 unfold rl;rw[Yak,Yac h];rfl
theorem ZnP {p n:Nat}:fstN (num p n)=(rl p n 0).map (·+1):=by
 unfold fstN rl
 cases num p n with
 | nil=>rfl
 | cons a r=>rfl
theorem Zmm {p i:Nat}:rl p 0 i=if i=0 then [0] else []:=by
 unfold rl;show ([0]::Yan (p - 1) ([]:List Int)).getD i []=_
 cases i with
 | zero=>rfl
 | succ i=>
  rw[if_neg (by omega),Yak,List.getElem?_cons_succ,YcG];split <;> rfl
theorem Zmn {p n i:Nat} (hp:2<=p) (hi:i<p):rl p (n+1) i=(rl p n 0).map (·+1)++(if i+1<p then rl p n (i+1) else []):=by
 have hl:=Za5 (p:=p) (by omega) n;obtain⟨a,r,e,_,hr⟩:=ZeT hp n;have h1:rl p (n+1) i=(ZeV (num p n)).getD i []:=rfl;rw[h1,<- ZnP];unfold ZeV;rw[Yak];by_cases h:i+1<p
 ·rw[if_pos h,Yaz (by rw[Yaa,Yec,hl];omega),Yaf,List.getElem?_tail,Zof hp h];rfl
 ·rw[if_neg h,Ya4,YaG (by rw[Yaa,Yec,hl];omega)];have:i - ((num p n).tail.map (fstN (num p n)++·)).length=0:=by rw[Yaa,Yec,hl];omega
  rw[this];rfl
theorem Zfv {p:Nat} (hp:2<=p):∀ (n i:Nat) (m:Int),i<p->(m∈rl p n i↔m<=n/\(n:Int)+i<=p*m)
 | 0,i,m,hi=>by
  rw[Zmm];by_cases h:i=0
  ·subst h;rw[if_pos rfl,Yaj];constructor
   ·rintro rfl;simp
   ·rintro⟨h1,h2⟩;have:(0:Int)<=m:=by
     refine Ybq fun z=>?_;have:(p:Int)*m<=p*(-1):=Ya6 (by omega) (by omega);omega
    simp at h1;omega
  ·rw[if_neg h];constructor
   ·intro z;cases z
   ·rintro⟨h1,h2⟩;have:(p:Int)*m<=p*0:=Ya6 (by simpa using h1) (by omega);simp at h2;omega
 | n+1,i,m,hi=>by
  rw[Zmn hp hi,Yah];have e1:m∈(rl p n 0).map (·+1)↔m - 1<=n/\(n:Int)<=p*(m - 1):=by
   rw[YaS];constructor
   ·rintro⟨x,hx,rfl⟩;have:=(Zfv hp n 0 x (by omega)).mp hx;rw[show x+1 - 1=x by omega];simpa using this
   ·rintro⟨h1,h2⟩;exact⟨m - 1,(Zfv hp n 0 _ (by omega)).mpr ⟨h1,by simpa using h2⟩,by omega⟩
  have e3:(p:Int)*(m - 1)=p*m - p:=by rw[Yck,Yc5]
  rw[e1,e3];constructor
  ·rintro (⟨h1,h2⟩ | h)
   ·refine⟨by omega,?_⟩;have:((n+1:Nat):Int)=n+1:=by omega
    rw[this];omega
   ·by_cases z:i+1<p
    ·rw[if_pos z] at h;have:=(Zfv hp n (i+1) m z).mp h;obtain⟨h1,h2⟩:=this;refine⟨by omega,?_⟩;have:((n+1:Nat):Int)=n+1:=by omega
     have:((i+1:Nat):Int)=i+1:=by omega
     omega
    ·rw[if_neg z] at h;cases h
  ·rintro⟨h1,h2⟩;have q1:((n+1:Nat):Int)=n+1:=by omega
   rw[q1] at h2;by_cases z:(n:Int)<=p*m - p
   ·exact .inl ⟨by omega,z⟩
   ·right;have hip:i+1<p:=by omega
    rw[if_pos hip];refine (Zfv hp n (i+1) m hip).mpr ⟨?_,by omega⟩;have hm:1<=m:=by
     refine Ybq fun y=>?_;have:(p:Int)*m<=p*0:=Ya6 (by (clear hip z q1 h2 h1 e3 e1 hi hp;omega)) (by (clear y hip z q1 h2 h1 e3 e1 hi hp;omega));simp at this
     (clear y hip z q1 h1 e3 e1 hi hp;omega)
    have h3:(2:Int)*(m - 1)<=p*(m - 1):=YbG (by (clear hm hip z q1 h2 h1 e3 e1 hi;omega)) (by (clear hip z q1 h2 h1 e3 e1 hi hp;omega));rw[e3] at h3
    (clear hm hip q1 h2 h1 e3 e1 hi hp;omega)
end Lv
namespace Lv
open PySem L2
theorem Zjd {p:Nat} (hp:2<=p) (n:Nat):∃ x r,num p n=x::r/\r.length+1=p:=by
 have hl:=Za5 (p:=p) (by omega) n
 cases h:num p n with
 | nil=>rw[h] at hl;simp at hl;omega
 | cons x r=>exact⟨x,r,rfl,by rw[h] at hl;simpa using hl⟩
end Lv
namespace Lv
open PySem L2
section
variable {α:Type}
structure Adds (g:List α->Int):Prop where
 nil:g []=0
 app:∀ a b,g (a++b)=g a+g b
def dt (g:List α->Int):List (List α)->List Int->Int
 | r::rs,n::ns=>n*g r+dt g rs ns
 | _,_=>0
def sg (g:List α->Int) (rs:List (List α)):Int:=(rs.map g).sum
def ptR (g:List α->Int):List (List (List α))->List (List Int)->Int
 | R::RR,W::WW=>dt g R W+ptR g RR WW
 | _,_=>0
def es:List Int->(Nat->Int)->Int
 | [],_=>0
 | n::ns,h=>(n+1)*h 0+es ns fun j=>h (j+1)
theorem ZlV:∀ (ns:List Int) (h k:Nat->Int),es ns (fun j=>h j+k j)=es ns h+es ns k
 | [],_,_=>rfl
 | n::ns,h,k=>by
  rw[es,es,es,ZlV ns,YcP];omega
theorem ZgF:∀ (ns:List Int),es ns (fun _=>0)=0
 | []=>rfl
 | n::ns=>by rw[es,ZgF ns,Int.mul_zero];rfl
theorem ZnU (g:List α->Int):∀ (ns:List Int) (H:Nat->List α),dt g ((YaE ns.length).map H) ns+sg g ((YaE ns.length).map H)=es ns fun j=>g (H j)
 | [],H=>rfl
 | n::ns,H=>by
  have ih:=ZnU g ns fun j=>H (j+1);rw[YaH,YeP,YaJ,Ybh];rw[es,<- ih];show n*g (H 0)+dt g ((YaE ns.length).map (H ∘ Yfr)) ns+(g (H 0)+(((YaE ns.length).map (H ∘ Yfr)).map g).sum)=(n+1)*g (H 0)+(dt g ((YaE ns.length).map fun j=>H (j+1)) ns+(((YaE ns.length).map fun j=>H (j+1)).map g).sum);have e:(H ∘ Yfr)=fun j=>H (j+1):=rfl;rw[e,Ydr];omega
theorem ZlU {g:List α->Int}:∀ (ns:List Int) (R:List (List α)) (W:List Int),ns.length<=R.length->R.length=W.length->W.take ns.length=ns.map (·+1)->dt g R W=es ns (fun j=>g (R.getD j []))+dt g (R.drop ns.length) (W.drop ns.length)
 | [],R,W,_,_,_=>by simp[es]
 | n::ns,[],W,h,_,_=>by simp at h
 | n::ns,r::R,[],_,h,_=>by simp at h
 | n::ns,r::R,w::W,h1,h2,h3=>by
  simp only[YaH,YdJ,YaJ,List.cons.injEq] at h3;have ih:=ZlU (g:=g) ns R W (by simpa using h1) (by simpa using h2) h3.2;rw[dt,ih,es,h3.1];simp only[YaH,List.drop_succ_cons,YdL,YdM];omega
def RdyR (ns:List Int) (R:List (List α)) (W:List Int):Prop:=(R=[]/\W=[])∨(ns.length<=R.length/\R.length=W.length/\W.take ns.length=ns.map (·+1))
theorem Zg4 {g:List α->Int} (hg:Adds g) (ns:List Int):∀ (RR:List (List (List α))) (WW:List (List Int)),RR.length=WW.length->(∀ (i:Nat) R W,RR[i]?=some R->WW[i]?=some W->RdyR ns R W) ->
  ptR g RR WW=ptR g (RR.map (·.drop ns.length)) (WW.map (·.drop ns.length))+es ns fun j=>g ((RR.map fun R=>R.getD j []).flatten)
 | [],[],_,_=>by
  have:es ns (fun j=>g (([]:List (List (List α))).map fun R=>R.getD j []).flatten)=0:=by
   have e:(fun j=>g ((([]:List (List (List α))).map fun R=>R.getD j []).flatten))=fun _:Nat=>(0:Int):=funext fun j=>hg.nil;rw[e,ZgF]
  rw[this];rfl
 | [],_::_,h,_=>by simp at h
 | _::_,[],h,_=>by simp at h
 | R::RR,W::WW,h,hr=>by
  have ih:=Zg4 hg ns RR WW (by simpa using h) fun i R W a b=>hr (i+1) R W (by simpa using a) (by simpa using b);have h0:=hr 0 R W rfl rfl;have e:(fun j=>g (((R::RR).map fun R=>R.getD j []).flatten))=fun j=>g (R.getD j [])+g ((RR.map fun R=>R.getD j []).flatten):=funext fun j=>by
   rw[YaJ,YaF,hg.app]
  rw[e,ZlV,YaJ,YaJ,ptR,ptR,ih];rcases h0 with ⟨rfl,rfl⟩ | ⟨a,b,c⟩
  ·have e2:(fun j=>g (([]:List (List α)).getD j []))=fun _:Nat=>(0:Int):=funext fun j=>by simp[hg.nil]
   rw[e2,ZgF];simp[dt]
  ·rw[ZlU ns R W a b c];omega
end
def rot {β:Type} (a:Nat) (l:List β):List β:=l.drop a++l.take a
theorem Ziw {β:Type} (a:Nat) (l:List β):(rot a l).length=l.length:=by
 simp[rot];omega
theorem Zmj {β γ:Type} (f:β->γ) (a:Nat) (l:List β):(rot a l).map f=rot a (l.map f):=by simp[rot,Ycj,Yb7]
theorem Zgo {β:Type}{a:Nat}{l:List β}{x:β}:x∈rot a l↔x∈l:=by
 unfold rot;rw[Yah];constructor
 ·rintro (h | h)
  ·exact Ya3 h
  ·exact Yba h
 ·intro h;rw[<- YaU a l] at h;rcases Yah.mp h with h | h
  ·exact .inr h
  ·exact .inl h
theorem Zmi {β:Type}{p a:Nat}{l:List β}{v:β} (hl:l.length=p+1) (ha:a<=p):(rot a l).set (p - a) v=rot a (l.set p v):=by
 unfold rot;have h:(l.take a).set p v=l.take a:=List.set_eq_of_length_le (by rw[Yav];omega);rw[List.set_append_left _ _ (by rw[YaX];omega),List.drop_set,List.take_set,if_neg (by omega),h]
theorem Zix {β:Type}{a b:Nat}{l:List β} (h:a+b<=l.length):rot a (rot b l)=rot (a+b) l:=by
 unfold rot;rw[List.drop_append_of_le_length (by rw[YaX];omega),Yea (by rw[YaX];omega),List.drop_drop,Yax];congr 1
 ·congr 1;omega
 ·rw[show l.take (a+b)=l.take b++(l.drop b).take a by rw[Nat.add_comm,List.take_add]]
theorem Zml {β:Type}{l:List β}:rot l.length l=rot 0 l:=by simp[rot]
theorem Zmk {β:Type}{p a:Nat}{l:List β} (hl:l.length=p+1) (ha:a<=p):(rot a l)[p - a]?=l[p]?:=by
 unfold rot;rw[Yaz (by rw[YaX];omega),Yca,show a+(p - a)=p by omega]
def Lm (p m:Nat):List (List Int):=num p m++[[]]
theorem Zer {p:Nat} (hp:2<=p) (m:Nat):(Lm p m).length=p+1:=by rw[Lm,Yag,Za5 (by omega)];rfl
theorem ZdD {p:Nat} (hp:2<=p) (n:Nat):∃ x r,num p n=x::r/\r.length+1=p/\num p (n+1)=(r.map (x.map (·+1)++·))++[x.map (·+1)]:=by
 obtain⟨x,r,e,hr⟩:=Zjd hp n;refine⟨x,r,e,hr,?_⟩;show ZeV (num p n)=_;rw[e];rfl
theorem Ziv {β:Type}{p a i:Nat}{l:List β}{v:β} (ha:a<=p) (hl:l.length=p) {x:β} (h:(rot a (l++[v]))[i]?=some x) (hi:i≠p - a):x∈l:=by
 have hll:(l++[v]).length=p+1:=by simp[hl]
 unfold rot at h;by_cases z:i<((l++[v]).drop a).length
 ·rw[Yaz z,Yca] at h;rw[YaX,hll] at z;rw[Yaz (by omega)] at h;exact Yam h
 ·rw[YaG (by omega)] at h;have h2:=(Yab.mp h).1
  rw[Yav,YaX,hll] at h2;rw[Ycg (by rw[YaX,hll];omega)] at h;rw[Yaz (by rw[YaX,hll];omega)] at h;exact Yam h
theorem ZmZ {p:Nat} (hp:2<=p) (k a:Nat) (ha:a<=p) {x:List Int}{r:List (List Int)} (e:num p k=x::r):(∀ (i:Nat) W,(rot a (Lm p (k+1)))[i]?=some W->i≠p - a->x.length<=W.length)/\x.map (·+1)∈rot a (Lm p (k+1)):=by
 obtain⟨x',r',e',hr,e2⟩:=ZdD hp k;rw[e] at e';cases e';refine⟨fun i W h hi=>?_,?_⟩
 ·have hm:=Ziv ha (Za5 (by omega) (k+1)) h hi;rw[e2] at hm;rcases Yah.mp hm with hW | hW
  ·obtain⟨y,_,rfl⟩:=YaS.mp hW;simp
  ·rw[Yaj] at hW;subst hW;simp
 ·rw[Zgo,Lm,e2];simp
theorem ZmY {p:Nat} (hp:2<=p) (k a:Nat) (ha:a<=p):∃ x r,num p k=x::r/\(∀ W∈rot a (Lm p (k+1)),W=[]∨(x.length<=W.length/\W.take x.length=x.map (·+1))) /\
  (rot a (Lm p (k+1)))[p - a]?=some []/\((rot a (Lm p (k+1))).map (·.drop x.length)).set (p - a) x=rot (if a=p then 0 else a+1) (Lm p k):=by
 obtain⟨x,r,e,hr,e2⟩:=ZdD hp k;have hl:=Zer hp (k+1);refine⟨x,r,e,fun W hW=>?_,?_,?_⟩
 ·rw[Zgo,Lm,e2] at hW;rcases Yah.mp hW with hW | hW
  ·right;rcases Yah.mp hW with hW | hW
   ·obtain⟨y,_,rfl⟩:=YaS.mp hW;exact⟨by simp,by rw[Yea (by simp),YaY (by simp)]⟩
   ·rw[Yaj] at hW;subst hW;exact⟨by simp,by rw[YaY (by simp)]⟩
  ·left;simpa using hW
 ·rw[Zmk hl ha,Lm,YaG (by rw[Za5 (by omega)];omega),Za5 (by omega)];simp
 ·have hm:(Lm p (k+1)).map (·.drop x.length)=r++[[],[]]:=by
   rw[Lm,e2,Yai,Yai,Ybh];have h1:((fun l:List Int=>l.drop x.length) ∘ (x.map (·+1)++·))=id:=funext fun y=>by
    show (x.map (·+1)++y).drop x.length=y;rw[show x.length=(x.map (·+1)).length by simp,List.drop_left]
   rw[h1];simp
  rw[Zmj,hm];have hl2:(r++[([]:List Int),[]]).length=p+1:=by simp;omega
  rw[Zmi hl2 ha];have hs:(r++[([]:List Int),[]]).set p x=rot 1 (Lm p k):=by
   rw[List.set_append_right _ _ (by omega),show p - r.length=1 by omega,Lm,e];simp[rot]
  rw[hs];by_cases z:a=p
  ·rw[if_pos z,Zix (by rw[Zer hp];omega),z,show p+1=(Lm p k).length from (Zer hp k).symm,Zml]
  ·rw[if_neg z,Zix (by rw[Zer hp];omega)]
end Lv
namespace Lv
open PySem L2
section
variable {S:List Addr}{H H':Hp}{a w:Addr}
end
end Lv
namespace Lv
open PySem L2
section
variable {α:Type}
theorem ZiG {g:List α->Int}:∀ (A:List (List (List α))) (B:List (List Int)) (o:Nat) (R:List (List α)) (X:List Int),A.length=B.length->A[o]?=some []->B[o]?=some []->ptR g (A.set o R) (B.set o X)=ptR g A B+dt g R X
 | [],_,o,R,X,_,h,_=>by simp at h
 | _::_,[],o,R,X,h,_,_=>by simp at h
 | a::A,b::B,0,R,X,_,h1,h2=>by
  have e1:a=[]:=by simpa using h1
  have e2:b=[]:=by simpa using h2
  subst e1 e2;simp only[List.set_cons_zero,ptR];simp[dt];omega
 | a::A,b::B,o+1,R,X,h,h1,h2=>by
  have ih:=ZiG (g:=g) A B o R X (by simpa using h) (by simpa using h1) (by simpa using h2);simp only[List.set_cons_succ,ptR,ih];omega
def ones (RR:List (List (List α))):List (List Int):=RR.map fun R=>R.map fun _=>1
def tl (g:List α->Int) (RR:List (List (List α))):Int:=(RR.map fun R=>sg g R).sum
def Alike (RR:List (List (List α))) (WW:List (List Int)):Prop:=RR.map Ya8=WW.map Ya8
theorem Alike.at {RR:List (List (List α))}{WW:List (List Int)} (h:Alike RR WW) {i:Nat}{R:List (List α)} (e:RR[i]?=some R):∃ W,WW[i]?=some W/\W.length=R.length:=by
 have:=congrArg (·[i]?) h;simp only[Yaf,e,Yfp] at this
 cases q:WW[i]? with
 | none=>rw[q] at this;cases this
 | some W=>
  rw[q] at this;exact⟨W,rfl,(YaB this).symm⟩
theorem Alike.len {RR:List (List (List α))}{WW:List (List Int)} (h:Alike RR WW):RR.length=WW.length:=by
 have:=congrArg Ya8 h;simpa using this
end
end Lv
namespace L2
open PySem PySem.Spec PyProof.Rows PySem.SeqAt
theorem Zec {α:Type}:∀ ys:List α,(YaE ys.length).filterMap (ys[·]?)=ys
 | []=>rfl
 | y::ys=>by
  rw[YaH,YeP,YbN];show y::(List.map Yfr (YaE ys.length)).filterMap ((y::ys)[·]?)=_;rw[Yda];exact congrArg (y::·) (Zec ys)
theorem Zhi {α β:Type}{f g:α->Option β}:∀ {l:List α},(∀ x∈l,f x=g x)->l.filterMap f=l.filterMap g
 | [],_=>rfl
 | x::l,h=>by rw[YbN,YbN,h x (by simp),Zhi fun y hy=>h y (by simp[hy])]
theorem ZdN (its:List Value):slicePick its.toArray none none (some (-1))=its.reverse.toArray:=by
 unfold slicePick;have e1:sliceBounds none none (some (-1)) its.toArray.size=((its.length:Int) - 1,-1,-1):=by
  simp[sliceBounds]
 rw[e1];have e2:sliceRange ((its.length:Int) - 1) (-1) (-1)=(YaE its.length).map fun k=>its.length - 1 - k:=by
  unfold sliceRange;have:(if (its.length:Int) - 1 > -1 then ((its.length:Int) - 1 - (-1) - (-1) - 1) / (-(-1)) else 0).toNat=its.length:=by
   by_cases h:(its.length:Int) - 1 > -1
   ·rw[if_pos h,show (-(-1):Int)=1 by decide,Int.ediv_one];omega
   ·rw[if_neg h];omega
  dsimp only;rw[if_neg (by decide),this];apply Ybw;intro k hk;have:=Ybu.mp hk;omega
 show (List.filterMap _ (sliceRange ((its.length:Int) - 1) (-1) (-1))).toArray=_;rw[e2,Yda];congr 1;have e3:=Zec its.reverse;rw[Yff] at e3;rw[<- e3];apply Zhi;intro k hk;have:=Ybu.mp hk;show its.toArray[its.length - 1 - k]?=_;rw[List.getElem?_toArray,YeU this]
def Zoi (K:Yad):V->Hp->VK->Prop:=fun x H Q=>∃ a xs,x=.ref a/\SqL K H a xs/\∀ p,H p=none->Q (.ref p) (upd H p (.lst xs.reverse))
def Zn8 (K:Yad) (te:TE) (ts:TO):TE:=fun σ H Q=>te σ H fun x H1=>ts σ H1 fun k H2=>k=some (-1)/\Zoi K x H2 Q
section
variable {X:Cx}{e st:Expr}{te:TE}{ts:TO}{pos p2:Pos}
theorem Znm (he:PE X e te) (hst:PO X (some st) ts):PE X (.Subscript e (.Slice none none (some st) p2) pos) (Zn8 X.K te ts):=by
 intro pins s σ H Q I h;refine Subscript_ (thn (he pins s σ H _ I h) fun v s1 ⟨x,H1,I1,r1,q1⟩=>?_);refine wpAny_Slice ?_;rw[evalPart_none];refine wpAny_pure ?_;refine wpAny_pure ?_;refine thn (hst pins s1 σ H1 _ I1 q1) fun vu s3 ⟨u,H3,I3,pu,ek,q3⟩=>?_;subst ek;obtain⟨a,xs,rfl,hx,q⟩:=q3;cases r1;have I4:Inv X pins σ H3 { s3 with heap:=s3.heap.push { cls:=.type "slice",data:=.fields #[.none,.none,vu] } }:=I3.kept (t':=s3.toks) fun b ob q=>Yae _ q;obtain⟨its,r,ht,hz⟩:=I4.list hx;have hlen:=r.length;show wpAny (model X.prog X.w) X.A (subscriptTail e (.Slice none none (some st) p2) (.ref a) (.ref s3.heap.objs.size)) (EP X pins σ Q) X.xe { s3 with heap:=s3.heap.push { cls:=.type "slice",data:=.fields #[.none,.none,vu] } };refine tail_any (ops:=[.ref a,.ref s3.heap.objs.size]) ht.isList.typeIs slot_list_getitem.lookup ?_ (by with_unfolding_all rfl);refine wpAny_getItem_list_slice ht.isList (Yen ..) .none .none pu (by simp) ?_ (by rw[Yal] <;> omega);rw[ZdN];refine⟨.ref (s3.heap.push { cls:=.type "slice",data:=.fields #[.none,.none,vu] }).objs.size,_,I4.laid (t':=s3.toks) (o:=.lst xs.reverse) (fun b ob q=>Yae _ q) (Yap _) ?_,rfl,q _ (I4.hok.fresh (Yap _))⟩;exact⟨by rw[Yff];omega,_,0,Vals.reverse r,YaC _ rfl⟩
end
end L2
namespace Lv
open PySem L2
def pre:Int->List Int->List Int
 | _,[]=>[]
 | s,x::r=>(s+x)::pre (s+x) r
end Lv
namespace L2
open PySem PySem.Spec PyProof.Rows PySem.SeqAt
section
variable {X:Cx}
end
end L2
namespace Lv
open PySem L2
def Zju (N:List (List Int)):List Int:=N.map fun xs=>(xs.length:Int)
def Zoe (r:List (List Int)) (t:Nat):List Int:=r.getD t []
def S (q:Int) (g:Nat->List Int) (a:List Int):Int:=((YaE a.length).map fun t=>((g t).count q:Int)*a.getD t 0).sum
def pot (q:Int):List (List (List Int))->List (List Int)->Int
 | r::R,a::N=>S q (Zoe r) a+pot q R N
 | _,_=>0
end Lv
namespace Lv
open PySem L2
end Lv
namespace Lv
open PySem L2
end Lv
namespace Lv
open PySem L2
end Lv
namespace L2
open PySem PySem.Spec PyProof.Rows PySem.SeqAt
section
variable {X:Cx}{scope:Scope}{own:List Str}{js fr:List Nat}{elt i1 t1 i2 t2:Expr}{f1 f2:List Expr}{wi wi2:TI}{g1 g2:TG}{tt1 tt2:TT}{te:TE}{pos:Pos}
theorem ZkB {i:Nat}{y:Str}{py spos:Pos} (hN:X.N.Nodup) (hy:X.N[i]?=some y) (hyl:X.env.scope.names.lookup y=some .local) (c:CompOk X scope own js) (hc:X.calm=true) (hi:PI X t1 i1 wi) (hgk:ZfW own fr g1) (hgt:Zes fr g2)
  (hg:∀ s H C fp pins,PG (X.blk scope own js s H C fp pins) t1 g1) (ht:∀ s H C fp pins,PTs (X.blk scope own js s H C fp pins) f1 tt1) (hi2:∀ s H C fp pins,PI (X.blk scope own js s H C fp pins) t2 i2 wi2)
  (hg2:∀ s H C fp pins,PG (X.blk scope own js s H C fp pins) t2 g2) (ht2:∀ s H C fp pins,PTs (X.blk scope own js s H C fp pins) f2 tt2) (he:∀ s H C fp pins,PE (X.blk scope own js s H C fp pins) elt te)
  (hsw:swapsWith (two elt t1 i1 f1 t2 i2 f2 scope pos) (some (.Name y py)) spos.line X.env=pure true:=by rfl)
  (hs:∀ x,foldedSetIterable i1 X.env x=pure x:=by intro _;rfl) (hs2:∀ env x,foldedSetIterable i2 env x=pure x:=by intro _ _;rfl):PS X (.Assign [.Name y py] (two elt t1 i1 f1 t2 i2 f2 scope pos) spos) (tAsg (Zlz own js wi g1 tt1 wi2 g2 tt2 te) (ZbE i)):=by
 intro pins s σ H D I h;rw[exec_Assign_Name_used _ _ _ _ hsw];refine wpAny_bind (wpAny_standAt (wpAny_bind ?_));show wpAny _ X.A (do let _ <- comprehension (two elt t1 i1 f1 t2 i2 f2 scope pos) scope X.env _ (newList []) false (eval i1 X.env) (some (assign (.Name y py) X.env))) _ _ s;refine wpAny_bind (wpAny_mono (wpAny_comprehension_free (use:=some (assign (.Name y py) X.env)) (Q:=fun _ s'=>SP X pins D .next s') rfl hs (Zb1 (c.cl I)) c.kind c.names
  (thn (hi pins s σ H _ I h) fun v s1 h1=>thn h1 fun itv s2 h2=>?_)) (fun _ s' hq=>wpAny_pure (wpAny_pure hq)) fun _ _ e=>e)
 obtain⟨it,fp,tn,J,H2,e,I2,T,st2,f2',hw⟩:=h2;subst e;refine Zho (Q:=fun x H1=>ZbE i x σ H1 D.nx) (RR:=fun acc C=>compPost (model X.prog X.w) X.A X.xe (some (assign (.Name y py) X.env)) (fun _ s'=>SP X pins D .next s') acc C) c hc hgk hgt hg ht hi2 hg2 ht2 he hs2 I2 T st2 f2' hw ?_;intro acc C H' s' m hCs hCn I' hn q;have hL:C≠X.env.locals:=YbU (Yaw I2.lt hCs);have hcell:∀ x a,X.env.cells.lookup x=some a->a≠C:=by
  intro x a e z;obtain⟨v,q⟩:=I2.cell x a e;exact absurd (Yaw q.lt (by rw[z];exact hCs)) (Ybl _)
 refine wpAny_assign_Name (Zdp I' hN hy (.inl hyl) (v:=.ref acc) rfl (fun s2 I'' hch=>?_) (.inr hyl));obtain⟨a,sb,ha⟩:=hch;have hCa:C≠a:=by
  rcases ha with rfl | ha
  ·exact hL
  ·exact Ybn (hcell _ _ ha)
 refine⟨m,hn.sameBut sb hCa,fun h' hs'=>⟨_,H',I''.other hs' hCn hL (Ybm I2.sz hCs) hcell ?_,q⟩⟩;intro p hp z;exact absurd (Yaw (Yar (I2.pin p hp).1) (by rw[z];exact hCs)) (Ybl _)
end
end L2
namespace L2
open PySem PySem.Spec PyProof.Rows PySem.SeqAt
theorem ZiM (K:Yad) {X:Cx}{es:List Expr}{x1}{tpos:Pos}{e:Expr}{ta:TA}{p pos:Pos} (hg:Gl X "enumerate") (hm:X.mg "enumerate"=none) (ha:PA X [e] ta) (hK:X.K=K:=by rfl) (hs:starEach [e] X.env=[(false,eval e X.env)]:=by rfl) :
  PI X (.Tuple es x1 tpos) (.Call (.Name "enumerate" p) [e] [] pos) (ZlT K ta):=by subst hK;exact Za9 hg hm ha hs
section
variable {b:Bool}{K:Yad}{g2:TG}{tt2:TT}{te:TE}{τ:St}{H6:Hp}{a acc:Addr}{xs:List V}
theorem Zlh {Z:Hp->Prop} (W2:Nat->Hp->Prop) (h0:W2 0 H6) (hl:∀ i H,i<=xs.length->W2 i H->SqB b K H a xs)
  (hs:∀ i x p H,xs[i]?=some x->W2 i H->H p=none->g2 (.ref p) τ (upd H p (.tup [.int i,x])) fun τ2 H9=>tt2 τ2 H9 fun c H10=>
   if c=true then te τ2 H10 fun z H11=>∃ zs,H11 acc=some (.lst zs)/\zs.length<sizeLine/\(i+1<=xs.length/\W2 (i+1) (upd H11 acc (.lst (zs++[z])))) else (i+1<=xs.length/\W2 (i+1) H10))
  (hd:∀ H,W2 xs.length H->Z H):tInW g2 tt2 te τ acc (IteB b K a) H6 Z:=by
 refine⟨fun i H=>i<=xs.length/\W2 i H,xs.length,⟨Ya2 _,h0⟩,?_⟩;rintro i H ⟨hi,p⟩;have q:=hl i H hi p;rcases Ybt i xs.length with hlt | hge
 ·refine .inr ⟨hlt,ZjD q hlt,fun x H' y=>?_⟩;obtain⟨pa,z,hp,rfl,rfl,hx⟩:=Zhf q y;exact hs i z pa H hx p hp
 ·obtain rfl:i=xs.length:=by omega
  exact .inl ⟨ZfA q (Yap _),hd H p⟩
end
end L2
namespace Lv
open PySem L2
def intW:V->Int
 | .int i=>i
 | _=>0
def kf (H:Hp) (p:Addr):List Int:=match H p with
 | some (.tup vs)=>vs.map intW
 | _=>[]
theorem Zfz {H:Hp}{p:Addr}{k:List Int} (h:H p=some (.tup (k.map V.int))):kf H p=k:=by
 unfold kf;rw[h];show (k.map V.int).map intW=k;rw[Ybh];exact (Ybw fun _ _=>rfl).trans (Yfe k)
def TuM (H:Hp) (ps:List Addr) (ks:List (List Int)):Prop:=(∀ p∈ps,∃ k:List Int,k≠[]/\H p=some (.tup (k.map V.int)))/\ps.map (kf H)=ks
theorem TuM.nil {H:Hp}:TuM H [] []:=⟨fun p hp=>(nomatch hp),rfl⟩
theorem TuM.keep {H H':Hp}{ps:List Addr}{ks:List (List Int)} (h:TuM H ps ks) (k:∀ p∈ps,H' p=H p):TuM H' ps ks:=by
 refine⟨fun p hp=>by rw[k p hp];exact h.1 p hp,?_⟩;rw[<- h.2];refine Ybw fun p hp=>?_;unfold kf;rw[k p hp]
theorem TuM.same {H H':Hp}{ps:List Addr}{ks:List (List Int)} (h:TuM H ps ks) (s:Same H H'):TuM H' ps ks:=h.keep fun p hp=>by
 obtain⟨k,_,e⟩:=h.1 p hp;rw[e,s _ _ e]
theorem TuM.snoc {H:Hp}{ps:List Addr}{ks:List (List Int)}{p:Addr}{k:List Int} (h:TuM H ps ks) (e:H p=some (.tup (k.map V.int))) (hk:k≠[]):TuM H (ps++[p]) (ks++[k]):=by
 refine⟨fun q hq=>?_,by rw[Yai,h.2,YaJ,Yc9,Zfz e]⟩;rcases Yah.mp hq with hq | hq
 ·exact h.1 q hq
 ·rw[Yaj.mp hq];exact⟨k,hk,e⟩
theorem TuM.at {H:Hp}{ps:List Addr}{ks:List (List Int)} (h:TuM H ps ks) {j:Nat}{p:Addr} (e:ps[j]?=some p):∃ k,ks[j]?=some k/\H p=some (.tup (k.map V.int)):=by
 obtain⟨k,_,e2⟩:=h.1 p (Yam e);exact⟨k,by rw[<- h.2,Yaf,e,Yfp,Zfz e2],e2⟩
theorem TuM.len {H:Hp}{ps:List Addr}{ks:List (List Int)} (h:TuM H ps ks):ps.length=ks.length:=by rw[<- h.2,Yaa]
def Zb7 (k:Nat) (xs:List Int):List (List Int):=xs.mapIdx fun j z=>[z,(k:Int),(j:Int)]
def trip:Nat->List (List Int)->List (List Int)
 | _,[]=>[]
 | k,xs::N=>Zb7 k xs++trip (k+1) N
theorem Zhu {k:Nat}{xs:List Int}{j:Nat}{z:Int} (h:xs[j]?=some z):Zb7 k (xs.take (j+1))=Zb7 k (xs.take j)++[[z,(k:Int),(j:Int)]]:=by
 have hl:=(Yab.mp h).1
 unfold Zb7;rw[YaQ,h,Ybp,YdV];simp[Yav,Yb3 (Ybv hl)]
theorem Zfa:∀ (N:List (List Int)) (k:Nat) (xs:List Int),trip k (N++[xs])=trip k N++Zb7 (k+N.length) xs
 | [],k,xs=>by simp[trip]
 | y::N,k,xs=>by rw[Yef,trip,Zfa N (k+1) xs,trip,Yax,YaH,show k+1+N.length=k+(N.length+1) by omega]
theorem Zig {N:List (List Int)}{i:Nat}{xs:List Int} (h:N[i]?=some xs):trip 0 (N.take (i+1))=trip 0 (N.take i)++Zb7 i xs:=by
 have hl:=(Yab.mp h).1
 rw[YaQ,h,Ybp,Zfa,Yav,Yb3 (Ybv hl),YbT]
theorem Zfc (k:Nat) (xs:List Int):(Zb7 k xs).length=xs.length:=by unfold Zb7;simp
theorem Zcl:∀ (N:List (List Int)) (k:Nat),(trip k N).length=N.flatten.length
 | [],_=>rfl
 | xs::N,k=>by rw[trip,Yag,Zfc,Zcl N,YaF,Yag]
def ZbT:Sp:=fun vs H Q _=>∃ (a:Addr) (rs:List Addr) (N:List (List Int)),vs=[.ref a]/\H a=some (.tup (rs.map V.ref))/\TTs H rs N/\N.length<=7/\∀ H',Same H H'->Q (.int (N.flatten.length:Int)) H'
def ZeF:Sp:=fun vs H Q _=>∃ (a:Addr) (rs:List Addr) (N:List (List Int)) (m:Nat),vs=[.ref a,.int m]/\H a=some (.tup (rs.map V.ref))/\TTs H rs N/\N.length<=7/\N.flatten.length<=100000 /\
 ∀ (l:Addr) (qs:List Addr) (ks:List (List Int)) H',H l=none->H' l=some (.lst ((qs.take m).map V.ref))->TuM H' qs ks->ks.Perm (trip 0 N)->ks.Pairwise (fun p q=>lxB q p=false)->Same H H'->Q (.ref l) H'
end Lv
namespace L2
open PySem PySem.Spec PyProof.Rows PySem.SeqAt
theorem ZhX {K:Yad}{own:List Str}{i k m:Nat} (hi:i<own.length:=by decide) (hk:k<own.length:=by decide) (hm:m<own.length:=by decide):Zh7 own (gTup K 2 (ZdJ (ZbE i) (ZdJ (gTup K 2 (ZdJ (ZbE k) (ZdJ (ZbE m) gNil))) gNil))):=fun js σ x H Q h=>by
 obtain⟨a,xs,rfl,hq,hl,v,r,rfl,w,r',rfl,⟨b,ys,rfl,hq2,hl2,v2,r2,rfl,w2,r3,rfl,e2,e,h⟩⟩:=h;refine⟨a,_,rfl,hq,hl,v,_,rfl,_,r',rfl,⟨b,_,rfl,hq2,hl2,v2,_,rfl,w2,r3,rfl,e2,e,fun j z e=>?_,h⟩⟩;have hj:j≠i:=by rintro rfl;exact ZaN hi e
 have hj':j≠k:=by rintro rfl;exact ZaN hk e
 have hj3:j≠m:=by rintro rfl;exact ZaN hm e
 rw[YaO (Ybn hj3),YaO (Ybn hj'),YaO (Ybn hj)];exact e
theorem Zhd (K:Yad) {X:Cx} (hK:X.K=K:=by rfl):IxR X (rIxT K):=by subst hK;exact Zb3
end L2
namespace Lv
open PySem L2
def numV (N:List (List Int)) (k:List Int):Int:=(N.getD (k.getD 0 0).toNat []).getD (k.getD 1 0).toNat 0
def InN (N:List (List Int)) (k:List Int):Prop:=∃ (r p:Nat) (xs:List Int),k=[(r:Int),(p:Int)]/\N[r]?=some xs/\p<xs.length
def ZaQ (N:List (List Int)) (ls:List Int) (ks:List (List Int)):List Int:=Ydw (fun l k=>l*numV N k) ls ks
theorem ZhM {N:List (List Int)}{ls:List Int}{ks:List (List Int)}{i:Nat}{l:Int}{k:List Int} (h1:ls[i]?=some l) (h2:ks[i]?=some k):ZaQ N (ls.take (i+1)) (ks.take (i+1))=ZaQ N (ls.take i) (ks.take i)++[l*numV N k]:=by
 have a:=(Yab.mp h1).1
 have b:=(Yab.mp h2).1
 unfold ZaQ;rw[YaQ,h1,YaQ,h2,Ybp,Ybp,Yfc (by rw[Yav,Yav];omega)];rfl
def Zda (K:Yad):Sp:=fun vs H Q _=>∃ (a ll pl:Addr) (b:Bool) (rs qs:List Addr) (N:List (List Int)) (ls:List Int) (ks:List (List Int)),vs=[.ref a,.ref ll,.ref pl]/\H a=some (.tup (rs.map V.ref))/\TTs H rs N/\SqB b K H ll (ls.map V.int)/\H pl=some (.lst (qs.map V.ref))/\TuM H qs ks/\(∀ k∈ks,InN N k)/\ls.length=ks.length/\ls.length<=100000 /\
 (∀ l∈ls,YaR l<=8000)/\(∀ xs∈N,∀ z∈xs,YaR z<=8000)/\∀ H',Same H H'->Q (.int (ZaQ N ls ks).sum) H'
end Lv
namespace Lv
open PySem L2
def phO (p t:Nat):Int:=((p:Int) - t) % ((p:Int)+1)
def phs (p n:Nat):Nat->List (List Int)
 | 0=>[]
 | t+1=>phs p n t++[[phO p t,hd p (n - 1 - t)]]
theorem ZiO (p n:Nat):∀ t,(phs p n t).length=t
 | 0=>rfl
 | t+1=>by rw[phs,Yag,ZiO p n t];rfl
end Lv
namespace Lv
open PySem L2
def mxAt:List Int->Nat
 | []=>0
 | x::r=>if r.all (·<=x) then 0 else mxAt r+1
structure IsTop (d:List Int) (r:Nat):Prop where
 lt:r<d.length
 ge:∀ j (h:j<d.length),d[j]<=d[r]
 fst:∀ j (h:j<r),d[j]<d[r]
def Zoq (c v:List Int):List Int:=Ydw (· - ·) c v
noncomputable def came (p:Nat):Nat->Nat × List Int
 | 0=>(0,Yan p 0)
 | n+1=>
  let L:=if (came p n).2=cnt p (came p n).1 then (came p n).1+1 else (came p n).1
  let r:=mxAt (Zoq (cnt p L) (came p n).2)
  (L,(came p n).2.set r ((came p n).2.getD r 0+1))
end Lv
namespace Lv
open PySem L2
end Lv
namespace Lv
open PySem L2
end Lv
namespace Lv
open PySem L2
def fill (x y:Int):List Bool:=Yan x.toNat false++Yan y.toNat true
def layB (c v:List Int):List (List Bool):=Ydw (fun x y=>fill (x - y) y) c v
def lay (p n:Nat):List (List Bool):=layB (cnt p (came p n).1) (came p n).2
end Lv
namespace L2
open PySem PySem.Spec PyProof.Rows
end L2
namespace Lv
open PySem L2
def sel (xs:List Int) (bs:List Bool):List Int:=((xs.zip bs).filter (·.2)).map (·.1)
def Zog (N:List (List Int)) (B:List (List Bool)):List Int:=(Ydw sel N B).flatten
end Lv
namespace Lv
open PySem L2
def opr (D:List Rows):List (List (List Int)):=D.map fun r=>r.map fun c=>c.getD []
def gl (r:List Int):Int:=(r.length:Nat)
theorem ZmQ:Adds gl:=⟨rfl,fun a b=>by simp[gl]⟩
theorem ZiX (D:List Rows):(opr D).map Ya8=D.map Ya8:=by
 unfold opr;rw[Ybh];exact Ybw fun r _=>by simp
theorem Zij {m j:Nat} (hj:j<m):∀ D:List Rows,(rl90 (tkA D m j)).flatten=((opr D).map fun R=>R.getD j []).flatten
 | []=>rfl
 | r::D=>by
  have ih:=Zij hj D;have e:(r.take m)[j]?=r[j]?:=by rw[Yb9,if_pos hj]
  unfold tkA opr at ih ⊢;rw[YbN,e,YaJ,YaJ,YaF,<- ih,Yak,Yaf]
  cases q:r[j]? with
  | none=>rfl
  | some c=>
   cases c with
   | none=>rfl
   | some xs=>rfl
theorem Zjk (cs:Rows):(mrg cs).getD []=(mrg cs).toList.flatten:=by
 cases mrg cs with
 | none=>rfl
 | some xs=>simp
theorem ZnN {D:List Rows}{m j:Nat} (hj:j<m):gl ((mrg (tkA D m j)).getD [])=gl (((opr D).map fun R=>R.getD j []).flatten):=by
 rw[Zjk,<- Zij hj];unfold gl;rw[(ZcN _).length_eq]
theorem ZlM (D:List Rows) (o m:Nat):opr (phR D o m)=((opr D).map (·.drop m)).set o ((YaE m).map fun j=>(mrg (tkA D m j)).getD []):=by
 unfold opr phR;rw[YbZ,Ybh,Ybh,Ybh];congr 1;exact Ybw fun r _=>by simp[Ycj]
theorem Zik (cs:Rows):thg cs=(((rl90 cs).flatten.length:Nat):Int):=by
 unfold thg
 induction rl90 cs with
 | nil=>rfl
 | cons x r ih=>rw[YaJ,Ybe,ih,YaF,Yag];omega
theorem Zim (m:Nat):∀ D:List Rows,((D.map fun q=>thg (q.take m)).sum:Int)=((((D.map fun r=>rl90 (r.take m)).flatten).flatten.length:Nat):Int)
 | []=>rfl
 | r::D=>by
  rw[YaJ,Ybe,Zim m D,Zik,YaJ,YaF,Ybk,Yag];omega
theorem ZlC:∀ (R:List (List Int)),sg gl R=((R.flatten.length:Nat):Int)
 | []=>rfl
 | r::R=>by
  have:=ZlC R;unfold sg at this ⊢;rw[YaJ,Ybe,this,YaF,Yag];show ((r.length:Nat):Int)+_=_;omega
theorem Zm9 (D:List Rows) (m:Nat):sg gl ((YaE m).map fun j=>(mrg (tkA D m j)).getD [])=(D.map fun q=>thg (q.take m)).sum:=by
 rw[Zim,ZlC,((Zew m D).flatten.length_eq).symm];have h:(((YaE m).map fun j=>(mrg (tkA D m j)).getD []).flatten).Perm (((YaE m).map fun i=>(rl90 (tkA D m i)).flatten).flatten):=Zbz fun i _=>by
  rw[Zjk];exact ZcN _
 have e:((YaE m).map fun i=>(rl90 (tkA D m i)).flatten).flatten=(((YaE m).map fun i=>rl90 (tkA D m i)).flatten).flatten:=by
  rw[YdI,Ybh];rfl
 rw[h.length_eq,e]
theorem ph52 {p:Nat} (hp:2<=p) {k a:Nat} (ha:a<=p) {D:List Rows} (hA:Alike (opr D) (rot a (Lm p (k+1)))):∃ f:Nat,hd p k=f/\1<=f/\D[p - a]?=some []/\(∀ (i:Nat) r,D[i]?=some r->i≠p - a->f<=r.length)/\PhOk (lns D) ((p - a:Nat):Int) (hd p k) /\
  Alike (opr (phR D (p - a) f)) (rot (if a=p then 0 else a+1) (Lm p k))/\ptR gl (opr D) (rot a (Lm p (k+1)))=ptR gl (opr (phR D (p - a) f)) (rot (if a=p then 0 else a+1) (Lm p k))+(D.map fun q=>thg (q.take f)).sum:=by
 obtain⟨x,r,ek,hW,hWo,hn⟩:=ZmY hp k a ha;have hx:hd p k=(x.length:Nat):=by
  unfold hd;rw[<- ZbZ,ek];rfl
 have hl:=hA.len;have hll:(rot a (Lm p (k+1))).length=p+1:=by rw[Ziw,Zer hp]
 have hDl:D.length=p+1:=by
  have:(opr D).length=D.length:=by unfold opr;rw[Yaa]
  omega
 have hx1:1<=x.length:=by
  have h0:rl p k 0=x:=by unfold rl;rw[ek];rfl
  have hm:(k:Int)∈rl p k 0:=(Zfv hp k 0 k (by omega)).mpr ⟨YbO _,by
   have:(1:Int)*k<=p*k:=YbG (by omega) (by omega);simp;omega⟩
  rw[h0] at hm;exact Ydt hm
 have hnil:(opr D)[p - a]?=some []:=by
  have hi:p - a<(opr D).length:=by omega
  obtain⟨W,e1,e2⟩:=hA.at (Yac hi);rw[hWo] at e1;rw[<- YaB e1] at e2;rw[Yac hi,YbF.mp e2.symm]
 have hDnil:D[p - a]?=some []:=by
  unfold opr at hnil;rw[Yaf] at hnil
  cases q:D[p - a]? with
  | none=>rw[q] at hnil;cases hnil
  | some c=>
   rw[q] at hnil;have:c.map (fun c=>c.getD [])=[]:=YaB hnil;rw[List.map_eq_nil_iff.mp this]
 have hrdy:∀ (i:Nat) (R:List (List Int)) W,(opr D)[i]?=some R->(rot a (Lm p (k+1)))[i]?=some W->RdyR x R W:=fun i R W e1 e2=>by
  obtain⟨W',e3,e4⟩:=hA.at e1;rw[e2] at e3;rw[<- YaB e3] at e4;rcases hW W (Yam e2) with z | ⟨z1,z2⟩
  ·subst z;exact .inl ⟨YbF.mp e4.symm,rfl⟩
  ·exact .inr ⟨by omega,e4.symm,z2⟩
 obtain⟨hoth,hone⟩:=ZmZ hp k a ha ek;have hD2:∀ (i:Nat) r,D[i]?=some r->i≠p - a->x.length<=r.length:=fun i r e hne=>by
  have e':(opr D)[i]?=some (r.map fun c=>c.getD []):=by unfold opr;rw[Yaf,e];rfl
  obtain⟨W,e1,e2⟩:=hA.at e';rw[Yaa] at e2;rw[<- e2];exact hoth i W e1 hne
 refine⟨x.length,hx,hx1,hDnil,hD2,⟨⟨by omega,by unfold lns;rw[Yaa];omega⟩,?_,by rw[hx];omega,?_⟩,?_,?_⟩
 ·rw[YaK,Yak];unfold lns;rw[Yaf,hDnil];exact YbO _
 ·obtain⟨i,hi,hne⟩:∃ i,i<D.length/\i≠p - a:=by
   by_cases z:p - a=0
   ·exact⟨1,by omega,by omega⟩
   ·exact⟨0,by omega,by omega⟩
  have h1:=hD2 i D[i] (Yac hi) hne;have h2:=Zjf (lns D) ((D[i].length:Nat):Int) (YaS.mpr ⟨D[i],Yby hi,rfl⟩);omega
 ·rw[<- hn,ZlM];unfold Alike at hA ⊢;have h7:((opr D).map (·.drop x.length)).map Ya8=((rot a (Lm p (k+1))).map (·.drop x.length)).map Ya8:=by
   rw[Ybh,Ybh];have:(Ya8 ∘ fun l:List (List Int)=>l.drop x.length)=(fun n=>n - x.length) ∘ Ya8:=funext fun l=>by simp
   have h8:(Ya8 ∘ fun l:List Int=>l.drop x.length)=(fun n=>n - x.length) ∘ Ya8:=funext fun l=>by simp
   rw[this,h8,<- Ybh,<- Ybh,hA]
  rw[YbZ,YbZ,h7,Yaa,Ycf]
 ·have h1:=Zg4 ZmQ x (opr D) _ hl hrdy;have h2:=ZnU gl x fun j=>(mrg (tkA D x.length j)).getD [];have h3:=ZiG (g:=gl) ((opr D).map (·.drop x.length)) ((rot a (Lm p (k+1))).map (·.drop x.length)) (p - a) ((YaE x.length).map fun j=>(mrg (tkA D x.length j)).getD []) x (by simp[hl]) (by rw[Yaf,hnil];simp) (by rw[Yaf,hWo];simp);rw[hn,<- ZlM] at h3;have h4:es x (fun j=>gl ((mrg (tkA D x.length j)).getD []))=es x fun j=>gl (((opr D).map fun R=>R.getD j []).flatten):=es_congr x _ _ fun j hj=>ZnN hj;have h5:=Zm9 D x.length;omega
where
 es_congr:∀ (ns:List Int) (h k:Nat->Int),(∀ j,j<ns.length->h j=k j)->es ns h=es ns k
  | [],_,_,_=>rfl
  | n::ns,h,k,e=>by
   rw[es,es,e 0 (by simp),es_congr ns (fun j=>h (j+1)) (fun j=>k (j+1)) fun j hj=>e (j+1) (by simpa using hj)]
def phL (p:Nat):Nat->Nat->List (Int × Int)
 | _,0=>[]
 | t,m+1=>(phO p t,hd p m)::phL p (t+1) m
theorem Zgt (p:Nat):∀ (m t:Nat),(phL p t m).length=m
 | 0,_=>rfl
 | m+1,t=>by rw[phL,YaH,Zgt p m (t+1)]
theorem ZiN (p n:Nat):∀ (m t:Nat),t+m=n->phs p n t++(phL p t m).map prT=phs p n n
 | 0,t,h=>by
  have:t=n:=by omega
  rw[phL,Yc9,Ya4,this]
 | m+1,t,h=>by
  rw[<- ZiN p n m (t+1) (by omega),phL,phs,YaJ,Yax,YeT,show n - 1 - t=m by omega];rfl
theorem Zmt (p n:Nat):phs p n n=(phL p 0 n).map prT:=by
 rw[<- ZiN p n n 0 (by omega)];rfl
theorem ZiQ (p t:Nat):phO p t=((p - t % (p+1):Nat):Int):=by
 unfold phO;have h1:=YfA t (show 0<p+1 by omega);have h2:=Nat.mod_add_div t (p+1);have e:(p:Int) - t=((p - t % (p+1):Nat):Int)+((p:Int)+1)*(-((t / (p+1):Nat):Int)):=by
  have:((p:Int)+1)*(-((t / (p+1):Nat):Int)) = -(((p+1)*(t / (p+1)):Nat):Int):=by
   rw[Int.mul_neg];congr 1
  rw[this];omega
 rw[e,YeH];exact YfE (by omega) (by omega)
theorem Zkl (p t:Nat):(t+1) % (p+1)=if t % (p+1)=p then 0 else t % (p+1)+1:=by
 have h1:=YfA t (show 0<p+1 by omega);rw[Nat.add_mod];split
 ·next h=>
  rw[h];by_cases z:p=0
  ·subst z;rfl
  ·rw[Yej (show 1<p+1 by omega),Nat.mod_self]
 ·next h=>
  rw[Yej (show 1<p+1 by omega),Yej (by omega)]
def SrtD (D:List Rows):Prop:=∀ r∈D,∀ xs:List Int,some xs∈r->xs.Pairwise (·<=·)
def HasR (D:List Rows):Prop:=∃ r∈D,∃ xs:List Int,some xs∈r
def AllN (D:List Rows):Prop:=∀ r∈D,∀ c∈r,∃ xs:List Int,c=some xs/\xs≠[]
theorem SrtD.ph {D:List Rows}{o m:Nat} (h:SrtD D):SrtD (phR D o m):=by
 intro r hr xs hc;rcases Ybb hr with hr | rfl
 ·obtain⟨r',hr',rfl⟩:=YaS.mp hr;exact h r' hr' xs (Ya3 hc)
 ·obtain⟨i,hi,e⟩:=YaS.mp hc;unfold mrg at e;split at e
  ·cases e
  ·cases e;exact Zdr _
theorem Zjn {D:List Rows}{r:Rows} (hr:r∈D) {m i:Nat} (hi:i<m) {c:Option (List Int)} (e:r[i]?=some c):c∈tkA D m i:=by
 unfold tkA;exact Yb6.mpr ⟨r,hr,by rw[Yb9,if_pos hi,e]⟩
theorem ZnB {D:List Rows}{o m:Nat} (ho:D[o]?=some []):((YaE m).map fun i=>mrg (tkA D m i))∈phR D o m:=by
 unfold phR;have hi:=(Yab.mp ho).1
 exact Yam (i:=o) (by rw[YbI (by rw[Yaa];exact hi)])
theorem HasR.ph {D:List Rows}{o m:Nat} (ho:D[o]?=some []) (h:HasR D):HasR (phR D o m):=by
 obtain⟨r,hr,xs,hx⟩:=h;obtain⟨i,hi⟩:=YbS hx;by_cases z:i<m
 ·have hm:xs∈rl90 (tkA D m i):=Yb6.mpr ⟨some xs,Zjn hr z hi,rfl⟩;refine⟨_,ZnB ho,srt (rl90 (tkA D m i)).flatten,YaS.mpr ⟨i,Ybu.mpr z,?_⟩⟩;unfold mrg;rw[if_neg (Yc8 hm)]
 ·obtain⟨j,hj⟩:=YbS hr;have hne:j≠o:=fun e=>by
   rw[e,ho] at hj;cases hj;simp at hx
  refine⟨r.drop m,?_,xs,?_⟩
  ·unfold phR;exact Yam (i:=j) (by rw[YaO (Ybn hne),Yaf,hj];rfl)
  ·exact Yam (i:=i - m) (by rw[Yca,show m+(i - m)=i by omega];exact hi)
theorem AllN.ph {D:List Rows}{o m:Nat} (h:AllN D) (hm:∃ r∈D,m<=r.length):AllN (phR D o m):=by
 intro r hr c hc;rcases Ybb hr with hr | rfl
 ·obtain⟨r',hr',rfl⟩:=YaS.mp hr;exact h r' hr' c (Ya3 hc)
 ·obtain⟨i,hi,rfl⟩:=YaS.mp hc;have hi':=Ybu.mp hi;obtain⟨r',hr',hl⟩:=hm;obtain⟨xs,hxs,hne⟩:=h r' hr' r'[i] (Yby _);have hmem:xs∈rl90 (tkA D m i):=Yb6.mpr ⟨some xs,Zjn hr' hi' (by rw[Yac (by omega),hxs]),rfl⟩;unfold mrg;rw[if_neg (Yc8 hmem)];refine⟨_,rfl,fun z=>?_⟩;have:=(Za8 (rl90 (tkA D m i)).flatten).length_eq;rw[z] at this
  cases xs with
  | nil=>exact hne rfl
  | cons y ys=>
   have:y∈(rl90 (tkA D m i)).flatten:=Yeb.mpr ⟨_,hmem,Yay⟩;have:=Ydt this;simp at *;omega
def ZlZ (o:Int) (s:List Int):Prop:=∃ a:Nat,o=a/\s[a]?=some 0/\∀ (j:Nat) x,s[j]?=some x->j≠a->1<=x
theorem Zl3 {r:Rows}{f:Nat} (hf:1<=f) (hl:f<=r.length) (h:∀ c∈r,∃ xs:List Int,c=some xs/\xs≠[]):1<=thg (r.take f):=by
 cases r with
 | nil=>simp at hl;omega
 | cons c r=>
  obtain⟨xs,rfl,hne⟩:=h c Yay;rw[Zik];obtain⟨g,rfl⟩:∃ g,f=g+1:=⟨f - 1,by omega⟩
  rw[YdJ];show 1<=(((xs::rl90 (r.take g)).flatten.length:Nat):Int);rw[YaF,Yag];have:=Yc0.mpr hne;omega
theorem ZlJ {p:Nat} (hp:2<=p):∀ (m t:Nat) (D:List Rows),Alike (opr D) (rot (t % (p+1)) (Lm p m))->Pls D (phL p t m)/\Alike (opr (plR D (phL p t m))) (rot ((t+m) % (p+1)) (Lm p 0)) /\
  ptR gl (opr D) (rot (t % (p+1)) (Lm p m))=ptR gl (opr (plR D (phL p t m))) (rot ((t+m) % (p+1)) (Lm p 0))+((rdR D (phL p t m)).map Yem).sum/\(SrtD D->SrtD (plR D (phL p t m)))/\(HasR D->HasR (plR D (phL p t m))) /\
  (AllN D->∀ (i:Nat) q s,(phL p t m)[i]?=some q->(rdR D (phL p t m))[i]?=some s->ZlZ q.1 s)
 | 0,t,D,h=>⟨trivial,h,by simp[phL,plR,rdR],id,id,fun _ i q s e=>by simp[phL] at e⟩
 | m+1,t,D,h=>by
  have ha:t % (p+1)<=p:=by have:=YfA t (show 0<p+1 by omega);omega
  obtain⟨f,e1,f1,hn,hoth,hph,hA,hpt⟩:=ph52 hp ha h;rw[<- Zkl] at hA hpt;obtain⟨i1,i2,i3,i4,i5,i6⟩:=ZlJ hp m (t+1) _ hA;have hm:∃ r∈D,f<=r.length:=by
   have hDl:D.length=p+1:=by
    have h1:=h.len;have h2:(opr D).length=D.length:=by unfold opr;rw[Yaa]
    rw[Ziw,Zer hp] at h1
    (clear i6 i5 i4 i3 hpt f1 e1 ha hp;omega)
   obtain⟨i,hi,hne⟩:∃ i,i<D.length/\i≠p - t % (p+1):=by
    by_cases z:p - t % (p+1)=0
    ·exact⟨1,by (clear z i6 i5 i4 i3 hpt f1 e1 ha;omega),by (clear hDl i6 i5 i4 i3 hpt f1 e1 ha hp;omega)⟩
    ·exact⟨0,by (clear z i6 i5 i4 i3 hpt f1 e1 ha hp;omega),by (clear hDl i6 i5 i4 i3 hpt f1 e1 ha hp;omega)⟩
   exact⟨D[i],Yby hi,hoth i _ (Yac hi) hne⟩
  have e2:(phO p t).toNat=p - t % (p+1):=by rw[ZiQ,YaK]
  have e3:(hd p m).toNat=f:=by rw[e1,YaK]
  have eP:plR D (phL p t (m+1))=plR (phR D (p - t % (p+1)) f) (phL p (t+1) m):=by rw[phL,plR,e2,e3]
  have eR:rdR D (phL p t (m+1))=(D.map fun q=>thg (q.take f))::rdR (phR D (p - t % (p+1)) f) (phL p (t+1) m):=by rw[phL,rdR,e2,e3]
  have et:t+1+m=t+(m+1):=by (clear e3 e2 i6 i5 i4 i3 hpt f1 e1 ha hp;omega)
  rw[et] at i2 i3;rw[eP,eR];refine⟨?_,i2,?_,fun s=>i4 s.ph,fun s=>i5 (s.ph hn),fun s i q x a b=>?_⟩
  ·rw[phL,Pls,e2,e3,ZiQ];exact⟨hph,i1⟩
  ·rw[hpt,i3,YaJ,Ybe]
   (clear et e3 e2 i6 i5 i4 i3 hpt f1 e1 ha hp;omega)
  ·cases i with
   | zero=>
    rw[phL] at a;cases a;cases b;refine⟨p - t % (p+1),ZiQ p t,?_,fun j x e hne=>?_⟩
    ·rw[Yaf,hn];simp[thg,rl90]
    ·rw[Yaf] at e
     cases q:D[j]? with
     | none=>rw[q] at e;cases e
     | some r=>
      rw[q] at e;cases e;exact Zl3 f1 (hoth j r q hne) (s r (Yam q))
   | succ i=>
    rw[phL] at a;exact i6 (s.ph hm) i q x (by simpa using a) (by simpa using b)
theorem Zov {p:Nat} (hp:2<=p) {a:Nat}{D:List Rows} (hA:Alike (opr D) (rot a (Lm p 0))) (hs:SrtD D) (hr:HasR D):D.flatten=[some (srt (allT D))]:=by
 have h1:D.flatten.length=1:=by
  have h1:D.flatten.length=(D.map Ya8).sum:=by rw[YcD]
  rw[h1,<- ZiX,hA];unfold rot;rw[Yai,YdK];have h2:((Lm p 0).map Ya8).sum=1:=by
   unfold Lm;have:num p 0=num0 p:=rfl;rw[this,Yai,YdK];simp[num0]
  rw[<- YaU a (Lm p 0),Yai,YdK] at h2;omega
 obtain⟨c,e⟩:=YeQ.mp h1;obtain⟨r,hr',xs,hx⟩:=hr;have hm:some xs∈D.flatten:=Yeb.mpr ⟨r,hr',hx⟩;rw[e,Yaj] at hm;subst hm;have e2:allT D=xs:=by unfold allT;rw[e];simp[rl90]
 rw[e,e2,<- ZcV (Ybx xs) (hs r hr' xs hx)]
theorem end0 {p:Nat}{a:Nat} (RR:List (List (List Int))):ptR gl RR (rot a (Lm p 0))=0:=by
 refine pz RR _ fun W hW w hw=>?_;rw[Zgo] at hW;unfold Lm at hW;rcases Yah.mp hW with h | h
 ·have:=Zeo p 0 W h w hw;omega
 ·have:W=[]:=by simpa using h
  rw[this] at hw;simp at hw
where
 dz:∀ (R:List (List Int)) (W:List Int),(∀ w∈W,w=0)->dt gl R W=0
  | [],W,_=>by cases W <;> rfl
  | r::R,[],_=>rfl
  | r::R,w::W,h=>by rw[dt,dz R W fun x hx=>h x (Yas _ hx),h w Yay];simp
 pz:∀ (RR:List (List (List Int))) (WW:List (List Int)),(∀ W∈WW,∀ w∈W,w=0)->ptR gl RR WW=0
  | [],WW,_=>by cases WW <;> rfl
  | R::RR,[],_=>rfl
  | R::RR,W::WW,h=>by
   rw[ptR,dz R W (h W Yay),pz RR WW fun W hW=>h W (Yas _ hW)];rfl
end Lv
namespace L2
open PySem PySem.Spec PyProof.Rows
section
variable {M:Model}{A:Around}{E:Value->Shared->Prop}
end
section
variable {X:Cx}{pins:List (Addr × Obj)}{σ:St}{H H':Hp}{s s':Shared}{scope:Scope}{own:List Str}{js:List Nat}{C:Addr}{fp:List Addr}
structure CompOkK (X:Cx) (scope:Scope) (own:List Str) (js:List Nat):Prop where
 kind:scope.kind=.function
 free:∀ y∈scope.names,y.2=.free->X.env.kindOf y.1=some .cell∨X.env.kindOf y.1=some .free
 names:∀ y∈scope.names,scope.names.lookup y.1=some y.2
 out:∀ j∈js,∃ x,X.N[j]?=some x/\scope.names.lookup x=some .free
end
section
variable {X:Cx}{scope:Scope}{own:List Str}{js:List Nat}{elt iter target:Expr}{ifs:List Expr}{wi:TI}{g:TG}{tt:TT}{te:TE}{pos:Pos}
end
end L2
namespace Lv
open PySem L2
end Lv
namespace Lv
open PySem L2
noncomputable def fil1:List Bool->List (List Int)->Rows
 | [],_=>[]
 | false::bs,rows=>none::fil1 bs rows
 | true::bs,rows=>some (rows.headD [])::fil1 bs rows.tail
noncomputable def filB:List (List Bool)->List (List Int)->List Rows
 | [],_=>[]
 | b::B,rows=>fil1 b (rows.take (b.count true))::filB B (rows.drop (b.count true))
def wS (rows:List (List Int)) (ns:List Int):List Int:=Ydw (fun r w=>(r.length:Int)*w) rows ns
where
 sl:∀ (W:List Int) (b:List Bool),W.length=b.length->(sel W b).length=b.count true
  | [],[],_=>rfl
  | [],_::_,h=>by simp at h
  | _::_,[],h=>by simp at h
  | w::W,b::bs,h=>by
   have ih:=sl W bs (by simpa using h);unfold sel at ih ⊢
   cases b with
   | false=>simpa using ih
   | true=>simpa using ih
structure Pl52 (p n:Nat) (B:List (List Bool)) (rows:List (List Int)):Prop where
 pls:Pls (filB B rows++[[]]) (phL p 0 n)
 left:(plR (filB B rows++[[]]) (phL p 0 n)).flatten=[some (srt rows.flatten)]
 read:((rdR (filB B rows++[[]]) (phL p 0 n)).map Yem).sum=(wS rows (Zog (num p n) B)).sum
 out:(∀ b∈B,∀ x∈b,x=true)->(∀ r∈rows,r≠[])->∀ (i:Nat) q s,(phL p 0 n)[i]?=some q->(rdR (filB B rows++[[]]) (phL p 0 n))[i]?=some s->ZlZ q.1 s
end Lv
namespace L2
open PySem
end L2
namespace Lv
open PySem L2
def sm (g:Nat->Int):Nat->Int
 | 0=>0
 | k+1=>sm g k+g (k+1)
def sq (p n:Nat):List (List Int):=(YaE (n+1)).map fun j=>rl p j 0
end Lv
namespace L2
open PySem PySem.Spec PyProof.Rows PySem.SeqAt
section
variable {X:Cx}
end
end L2
namespace L2
open PySem PySem.Spec PyProof.Rows PySem.SeqAt
end L2
namespace L2
open PySem PySem.Spec PyProof.Rows PySem.W
structure RoomS (k:Nat) (A:Around):Prop where
 dp:A.depth+3*k+5<recursionLimit
 un:A.units+16*k+200<cLine
 gd:A.guards=some []
structure FnOkS (P:Program) (w:World) (K:Yad) (mg:Str->Option Value) (base:Heap) (CX:CXT) (k:Nat) (f:Addr) (fd:FuncData) (ps:List Str) (sp:Sp):Prop where
 len:∀ vs H Q E,sp vs H Q E->vs.length=ps.length
 run:∀ (A:Around) (outer:List Env) (s:Shared) (H:Hp) (args:Args) (us:List Value) (vs:List V) (Q:VK) (E:XK),RoomS k A->Env0 P w K mg base A outer s H->BindsTo s fd args (ps.zip us)->Vals vs us->sp vs H Q E ->
  codeAny (model P w) A (.call (.ref f) args) (CR CX outer P w H s Q E) s
section
variable {P:Program}{w:World}{K:Yad}{mg:Str->Option Value}{base:Heap}
end
structure CalS (P:Program) (w:World) (K:Yad) (mg:Str->Option Value) (base:Heap) (k:Nat) (x:Str) (ps:List Str) (sp:Sp) (f:Addr) (fd:FuncData):Prop where
 ok:FnOkS P w K mg base CX0 k f fd ps sp
 mg:mg x=some (.ref f)
 kp:Yao K (.ref f)=true
 bd:Binds K fd ps []
section
variable {X:Cx}
end
end L2
namespace Lv
open PySem L2
end Lv
namespace Lv
open PySem L2
end Lv
namespace Lv
open PySem L2
def pz (x:Int):Int:=if x<0 then 0 else x
def sv (xs:List Int) (t:Int):Int:=(xs.map fun x=>pz (t - x)).sum
def Sub (ys xs:List Int):Prop:=∀ m,cn ys m<=cn xs m
theorem Zg5 {xs ys:List Int} (h:xs.Perm ys):xs.sum=ys.sum:=by
 induction h with
 | nil=>rfl
 | cons x _ ih=>simp[ih]
 | swap x y l=>simp only[Ybe];omega
 | trans _ _ h1 h2=>exact h1.trans h2
structure Lst (xs:List Int) (r v:Int):Prop where
 le:∀ t,r*t - sv xs t<=v
 eq:∃ θ∈xs,v=r*θ - sv xs θ
end Lv
namespace Lv
open PySem L2
theorem bern {p:Int} (hp:1<=p):∀ n:Nat,1+(p - 1)*n<=p ^ n
 | 0=>by simp
 | n+1=>by
  have ih:=bern hp n;have h1:1<=p ^ n:=by
   have:0<=(p - 1)*(n:Int):=Ydg (by omega) (by omega);omega
  rw[YdG];have h2:p ^ n*p=p ^ n+p ^ n*(p - 1):=by rw[Yck,Yc5];omega
  have h3:1*(p - 1)<=p ^ n*(p - 1):=YbG h1 (by omega);have h4:(p - 1)*((n+1:Nat):Int)=(p - 1)*n+(p - 1):=by rw[Int.natCast_add,YcP];simp
  omega
theorem ZbX {p:Int} (hp:1<=p) (n:Nat):1<=p ^ n:=by
 have:=bern hp n;have:0<=(p - 1)*(n:Int):=Ydg (by omega) (by omega);omega
theorem above {p:Int} (hp:2<=p) (a b:Nat):p ^ b*(1+(p - 1)*((a:Int) - b))<=p ^ a:=by
 by_cases h:b<=a
 ·obtain⟨c,rfl⟩:∃ c,a=b+c:=⟨a - b,by omega⟩
  rw[Yez];have e:((b+c:Nat):Int) - b=c:=by omega
  rw[e];exact Ya6 (bern (by omega) c) (by have:=ZbX (p:=p) (by omega) b;omega)
 ·have h1:=ZbX (p:=p) (by omega) a;have h2:=ZbX (p:=p) (by omega) b;have h3:(p - 1)*((a:Int) - b)<=(p - 1)*(-1):=Ya6 (by omega) (by omega);have h4:p ^ b*(1+(p - 1)*((a:Int) - b))<=0:=Int.mul_nonpos_of_nonneg_of_nonpos (by omega) (by omega);omega
def kr (p:Int) (M:Nat) (ys:List Int):Int:=(ys.map fun y=>p ^ (M - y.toNat)).sum
end Lv
namespace Lv
open PySem L2
def dot:List Int->List Int->Int
 | w::ws,n::ns=>w*n+dot ws ns
 | _,_=>0
def fmJ (p:Int) (L:Nat):Nat:=(((L:Int) - 2) % (p - 1)+2).toNat
noncomputable def hfF (p:Int):Nat->List Int->Int
 | 0,_=>0
 | k+1,ws=>if ws.length<=1 then 0 else (ws.take (fmJ p ws.length)).sum+hfF p k (srt ((ws.take (fmJ p ws.length)).sum::ws.drop (fmJ p ws.length)))
def hf (p:Int) (ws:List Int):Int:=hfF p ws.length (srt ws)
theorem Zcz (xs:List Int):(srt xs).length=xs.length:=(Za8 xs).length_eq
theorem ZcQ {p:Int} (hp:2<=p) {L:Nat} (hL:2<=L):2<=fmJ p L/\fmJ p L<=L/\((fmJ p L:Nat):Int)<=p/\∃ q:Int,0<=q/\(L:Int)=fmJ p L+(p - 1)*q:=by
 have h1:=Ych ((L:Int) - 2) (show p - 1≠0 by omega);have h2:=Ycc ((L:Int) - 2) (show 0<p - 1 by omega);have h3:=Int.mul_ediv_add_emod ((L:Int) - 2) (p - 1);have h4:0<=((L:Int) - 2) / (p - 1):=Int.ediv_nonneg (by omega) (by omega);have h5:0<=(p - 1)*(((L:Int) - 2) / (p - 1)):=Ydg (by omega) h4;have e:((fmJ p L:Nat):Int)=((L:Int) - 2) % (p - 1)+2:=by unfold fmJ;omega
 exact⟨by omega,by omega,by omega,((L:Int) - 2) / (p - 1),h4,by omega⟩
theorem ZmS {p:Int} (hp:2<=p) {L:Nat} (hL:2<=L) (h:2<=L - fmJ p L+1):((fmJ p (L - fmJ p L+1):Nat):Int)=p:=by
 obtain⟨h1,h2,h3,q,hq,e⟩:=ZcQ hp hL;have e2:(((L - fmJ p L+1:Nat):Int) - 2)=(p - 2)+(p - 1)*(q - 1):=by
  have:(p - 1)*(q - 1)=(p - 1)*q - (p - 1):=by rw[Yck,Yc5]
  omega
 have e3:(((L - fmJ p L+1:Nat):Int) - 2) % (p - 1)=p - 2:=by
  rw[e2,YeH];exact YfE (by omega) (by (clear e2 e hq h3 h2 h1 h hL hp;omega))
 unfold fmJ at e3 ⊢;omega
theorem Zlj {p:Int} (hp:2<=p):∀ (k:Nat) (ws:List Int),ws.length<=k->hfF p k ws=hfF p ws.length ws:=by
 intro k
 induction k using Nat.strongRecOn with
 | ind k ih=>
  intro ws h
  match k,ws,h with
  | 0,ws,h=>rw[YbF.mp (Nat.le_zero.mp h)];rfl
  | k+1,[],h=>simp[hfF]
  | k+1,w::ws,h=>
   rw[YaH,hfF,hfF];by_cases z:(w::ws).length<=1
   ·rw[if_pos z,if_pos z]
   ·rw[if_neg z,if_neg z];obtain⟨h1,h2,_⟩:=ZcQ hp (L:=(w::ws).length) (by omega);have hl:(srt (((w::ws).take (fmJ p (w::ws).length)).sum::(w::ws).drop (fmJ p (w::ws).length))).length<=ws.length:=by
     rw[Zcz,YaH,YaX];rw[YaH] at h1 h2 ⊢;omega
    have hk:ws.length<=k:=by rw[YaH] at h;omega
    congr 1;rw[ih k (by omega) _ (by omega)];by_cases z2:ws.length=k
    ·rw[z2,ih k (by omega) _ (by omega)]
    ·rw[ih ws.length (by omega) _ hl]
theorem ZjI {p:Int} (hp:2<=p) {ws:List Int} (hs:ws.Pairwise (·<=·)) (h:2<=ws.length):hf p ws=(ws.take (fmJ p ws.length)).sum+hf p ((ws.take (fmJ p ws.length)).sum::ws.drop (fmJ p ws.length)):=by
 obtain⟨h1,h2,_⟩:=ZcQ hp h;have e:srt ws=ws:=(ZcV (Ybx ws) hs).symm;unfold hf;rw[e];have hl:((ws.take (fmJ p ws.length)).sum::ws.drop (fmJ p ws.length)).length<=ws.length - 1:=by
  rw[YaH,YaX];omega
 obtain⟨k,hk⟩:∃ k,ws.length=k+1:=⟨ws.length - 1,by omega⟩
 conv=>lhs;rw[hk,hfF,if_neg (by omega)]
 congr 1;rw[Zlj hp k _ (by rw[Zcz];omega),Zcz]
theorem Zhg {p:Int}{ws:List Int} (h:ws.length<=1):hf p ws=0:=by
 unfold hf
 cases e:ws.length with
 | zero=>rfl
 | succ k=>rw[hfF,if_pos (by rw[Zcz];omega)]
theorem ZgA {p:Int}{ws vs:List Int} (h:ws.Perm vs):hf p ws=hf p vs:=by
 unfold hf;rw[h.length_eq,ZcV ((Za8 ws).trans h) (Zdr ws)]
theorem ZkG {ws vs:List Int} (h:ws.Perm vs):∀ {ns:List Int},ns.length=ws.length->∃ ms,ms.Perm ns/\dot vs ms=dot ws ns:=by
 induction h with
 | nil=>intro ns h;exact⟨ns,Ybx _,rfl⟩
 | cons w _ ih=>
  intro ns h
  cases ns with
  | nil=>simp at h
  | cons n ns=>
   obtain⟨ms,h1,h2⟩:=ih (ns:=ns) (by simpa using h);exact⟨n::ms,h1.cons n,by rw[dot,dot,h2]⟩
 | swap a b l=>
  intro ns h
  match ns,h with
  | n::m::ns,h=>exact⟨m::n::ns,Ydu _ _ _,by simp only[dot];omega⟩
  | [n],h=>simp at h
  | [],h=>simp at h
 | trans h1 _ ih1 ih2=>
  intro ns h;obtain⟨ms,a1,a2⟩:=ih1 h;obtain⟨ks,b1,b2⟩:=ih2 (ns:=ms) (by rw[a1.length_eq,h,h1.length_eq]);exact⟨ks,b1.trans a1,b2.trans a2⟩
theorem ZnV:∀ {ws ns:List Int}{w0 n0 N:Int},ws.length=ns.length->(∀ w∈ws,w0<=w)->n0<=N->N∈ns->∃ ms,(N::ms).Perm (n0::ns)/\w0*N+dot ws ms<=w0*n0+dot ws ns
 | [],[],_,_,_,_,_,_,h=>by simp at h
 | [],_::_,_,_,_,h,_,_,_=>by simp at h
 | _::_,[],_,_,_,h,_,_,_=>by simp at h
 | w::ws,n::ns,w0,n0,N,hl,hw,hn,hm=>by
  rcases YaD.mp hm with rfl | hm
  ·refine⟨n0::ns,Ydu _ _ _,?_⟩;have h1:=hw w Yay;have h2:w0*(N - n0)<=w*(N - n0):=YbG h1 (by omega);rw[Yck,Yck] at h2;simp only[dot];omega
  ·obtain⟨ms,h1,h2⟩:=ZnV (ws:=ws) (ns:=ns) (w0:=w0) (n0:=n0) (by simpa using hl) (fun x hx=>hw x (Yas _ hx)) hn hm;refine⟨n::ms,((Ydu _ _ _).trans (h1.cons n)).trans (Ydu _ _ _),?_⟩;simp only[dot];omega
theorem mxE:∀ (ns:List Int),ns≠[]->∃ N∈ns,∀ n∈ns,n<=N
 | [],h=>absurd rfl h
 | [n],_=>⟨n,Yay,fun x hx=>by rw[Yaj.mp hx];exact YbO _⟩
 | n::m::ns,_=>by
  obtain⟨N,h1,h2⟩:=mxE (m::ns) (by simp);by_cases z:n<=N
  ·exact⟨N,Yas _ h1,fun x hx=>by
    rcases YaD.mp hx with rfl | hx
    ·exact z
    ·exact h2 x hx⟩
  ·exact⟨n,Yay,fun x hx=>by
    rcases YaD.mp hx with rfl | hx
    ·exact YbO _
    ·have:=h2 x hx;omega⟩
theorem Znh:∀ (ws ns:List Int),ws.length=ns.length->ws.Pairwise (·<=·)->∃ ms,ms.Perm ns/\ms.Pairwise (fun a b=>b<=a)/\dot ws ms<=dot ws ns
 | [],[],_,_=>⟨[],Ybx _,Yb4,YbO _⟩
 | [],_::_,h,_=>by simp at h
 | _::_,[],h,_=>by simp at h
 | w::ws,n::ns,hl,hs=>by
  obtain⟨N,h1,h2⟩:=mxE (n::ns) (by simp);obtain⟨ks,k1,k2⟩:∃ ks,(N::ks).Perm (n::ns)/\w*N+dot ws ks<=w*n+dot ws ns:=by
   rcases YaD.mp h1 with rfl | h1
   ·exact⟨ns,Ybx _,YbO _⟩
   ·exact ZnV (by simpa using hl) (fun x hx=>(Ybf.mp hs).1 x hx) (h2 n Yay) h1
  have hkl:ws.length=ks.length:=by have:=k1.length_eq;simp at this hl;omega
  obtain⟨ms,m1,m2,m3⟩:=Znh ws ks hkl (Ybf.mp hs).2;refine⟨N::ms,(m1.cons N).trans k1,Ybf.mpr ⟨fun x hx=>h2 x (k1.subset (Yas _ (m1.subset hx))),m2⟩,?_⟩;simp only[dot];omega
theorem Zgy {p:Int}{M:Nat}{a b:List Int} (h:a.Perm b):kr p M a=kr p M b:=by
 unfold kr;exact Zg5 (h.map _)
theorem ZeY {p:Int}{N M:Nat} (hNM:N<=M):∀ ys:List Int,(∀ y∈ys,0<=y/\y<=N)->kr p M ys=p ^ (M - N)*kr p N ys
 | [],_=>by simp[kr]
 | y::ys,h=>by
  have ih:=ZeY (p:=p) hNM ys fun z hz=>h z (Yas _ hz);obtain⟨y0,yN⟩:=h y Yay;unfold kr at ih ⊢;rw[YaJ,Ybe,YaJ,Ybe,ih,YcP,<- Yez,show M - N+(N - y.toNat)=M - y.toNat by omega]
def KrOk (p:Int) (ns:List Int):Prop:=∃ M:Nat,(∀ n∈ns,0<=n/\n<=M)/\kr p M ns<=p ^ M
theorem KrOk.at {p:Int} (hp:2<=p) {ns:List Int} (h:KrOk p ns) {N:Nat} (hN:∀ n∈ns,n<=N):kr p N ns<=p ^ N:=by
 obtain⟨M,h1,h2⟩:=h;have hb:∀ n∈ns,0<=n/\n<=N:=fun n hn=>⟨(h1 n hn).1,hN n hn⟩
 rcases Ye4 N M with z | z
 ·rw[ZeY z ns hb,show M=(M - N)+N by omega,Yez,show (M - N)+N - N=M - N by omega] at h2;exact Int.le_of_mul_le_mul_left h2 (by have:=ZbX (p:=p) (by omega) (M - N);omega)
 ·rw[ZeY z ns h1,show N=(N - M)+M by omega,Yez,show (N - M)+M - M=N - M by omega];exact Ya6 h2 (by have:=ZbX (p:=p) (by omega) (N - M);omega)
theorem ZeP {p:Int}:∀ n:Nat,∃ t:Int,p ^ n=1+(p - 1)*t
 | 0=>⟨0,by simp⟩
 | n+1=>by
  obtain⟨t,e⟩:=ZeP (p:=p) n;refine⟨p*t+1,?_⟩;rw[YdG,e,YcP,Ydr,YdH p t,<- Int.mul_assoc];omega
theorem Zjy {p:Int}{M:Nat}:∀ ys:List Int,∃ t:Int,kr p M ys=ys.length+(p - 1)*t
 | []=>⟨0,by simp[kr]⟩
 | y::ys=>by
  obtain⟨t,e⟩:=Zjy (p:=p) (M:=M) ys;obtain⟨u,f⟩:=ZeP (p:=p) (M - y.toNat);refine⟨u+t,?_⟩;have:kr p M (y::ys)=p ^ (M - y.toNat)+kr p M ys:=rfl;rw[this,e,f,YcP,YaH];omega
theorem Zjx {p:Int}{N:Nat}:∀ ys:List Int,(∀ y∈ys,0<=y/\y<=N)->∃ u:Int,kr p N ys=(ys.count (N:Int):Nat)+p*u
 | [],_=>⟨0,by simp[kr]⟩
 | y::ys,h=>by
  obtain⟨u,e⟩:=Zjx (p:=p) ys fun z hz=>h z (Yas _ hz);obtain⟨y0,yN⟩:=h y Yay;have e2:kr p N (y::ys)=p ^ (N - y.toNat)+kr p N ys:=rfl;by_cases z:y=(N:Int)
  ·refine⟨u,?_⟩;rw[e2,e,z,Ye8,YaK,Ydc];simp;omega
  ·obtain⟨k,hk⟩:∃ k,N - y.toNat=k+1:=⟨N - y.toNat - 1,by omega⟩
   refine⟨p ^ k+u,?_⟩;rw[e2,e,hk,YeX z,YdG,YcP,YdH (p ^ k) p];omega
theorem ZjQ:∀ {a b c d:List Int},a.length=c.length->dot (a++b) (c++d)=dot a c+dot b d
 | [],b,[],d,_=>by simp[dot]
 | [],_,_::_,_,h=>by simp at h
 | _::_,_,[],_,h=>by simp at h
 | x::a,b,y::c,d,h=>by
  have ih:=ZjQ (a:=a) (b:=b) (c:=c) (d:=d) (by simpa using h);simp only[Yef,dot,ih];omega
theorem ZjP (N:Int):∀ (a:List Int),dot a (Yan a.length N)=a.sum*N
 | []=>by simp[dot]
 | x::a=>by
  rw[YaH,Ybj,dot,ZjP N a,Ybe,Ydr]
theorem Zhk {N:Int}:∀ {ns:List Int}{m:Nat},ns.Pairwise (fun a b=>b<=a)->(∀ n∈ns,n<=N)->m<=ns.count N->ns.take m=Yan m N
 | _,0,_,_,_=>by simp
 | [],m+1,_,_,h=>by simp at h
 | n::ns,m+1,hs,hb,h=>by
  have hn:n=N:=by
   refine Ybq fun z=>?_;have h1:=hb n Yay;rw[YeX z] at h;have hm:N∈ns:=Yfo.mp (by omega);have:=(Ybf.mp hs).1 N hm;omega
  subst hn;rw[Ye8] at h;rw[YdJ,Ybj,Zhk (Ybf.mp hs).2 (fun x hx=>hb x (Yas _ hx)) (by omega)]
theorem huff_least {p:Int} (hp:2<=p):∀ (L S:Nat) (ws ns:List Int),ws.length=L->ns.length=L->ns.sum<=S->(∀ w∈ws,0<=w)->KrOk p ns->hf p ws<=dot ws ns:=by
 intro L
 induction L using Nat.strongRecOn with
 | ind L ihL=>
 intro S
 induction S with
 | zero=>exact fun ws ns a b c d e=>core hp ihL (S0:=-1) (fun ws ns _ _ h _ hk=>absurd (huff_least.sum_nn0 ns fun n hn=>by obtain⟨M,h,_⟩:=hk;exact (h n hn).1) (by (clear c b a hp;omega))) 0 (by (clear c b a hp;omega)) ws ns a b c d e
 | succ S ihS=>exact fun ws ns a b c d e=>core hp ihL (S0:=S) (fun ws ns a b h d e=>ihS ws ns a b h d e) (S+1:Nat) (by (clear c b a hp;omega)) ws ns a b c d e
where
 core {p:Int} (hp:2<=p) {L:Nat} (ihL:∀ m,m<L->∀ (S:Nat) (ws ns:List Int),ws.length=m->ns.length=m->ns.sum<=S->(∀ w∈ws,0<=w)->KrOk p ns->hf p ws<=dot ws ns) {S0:Int} (ihS:∀ (ws ns:List Int),ws.length=L->ns.length=L->ns.sum<=S0->(∀ w∈ws,0<=w)->KrOk p ns->hf p ws<=dot ws ns) (S:Nat) (hS:(S:Int)<=S0+1) (ws ns:List Int) (h1:ws.length=L) (h2:ns.length=L) (h3:ns.sum<=S) (hw:∀ w∈ws,0<=w) (hk:KrOk p ns):hf p ws<=dot ws ns:=by
  have hn0:∀ n∈ns,0<=n:=by obtain⟨M,h,_⟩:=hk;exact fun n hn=>(h n hn).1
  by_cases hL:L<=1
  ·rw[Zhg (by (clear h3 h2 hS hp;omega))];exact dot_nn ws ns hw hn0
  obtain⟨n1,p1,d1⟩:=ZkG (Za8 ws).symm (ns:=ns) (by (clear hL h3 hS hp;omega));have hl1:(srt ws).length=n1.length:=by rw[Zcz,p1.length_eq];(clear d1 hL h3 hS hp;omega)
  obtain⟨ms,p2,hms,d2⟩:=Znh (srt ws) n1 hl1 (Zdr ws);have pm:=p2.trans p1;have hkm:KrOk p ms:=by
   obtain⟨M,a,b⟩:=hk;exact⟨M,fun n hn=>a n (pm.subset hn),by rw[Zgy pm];exact b⟩
  rw[<- ZgA (Za8 ws)];refine Ye9 ?_ (Ye9 d2 (Int.le_of_eq d1));have hvw:∀ w∈srt ws,0<=w:=fun w hx=>hw w ((Za8 ws).subset hx);have hvs:=Zdr ws;have hvl:(srt ws).length=L:=by rw[Zcz];exact h1
  have hml:ms.length=L:=by rw[pm.length_eq];exact h2
  have hsum:ms.sum<=S:=by rw[Zg5 pm];exact h3
  generalize srt ws=vs at hvw hvs hvl;obtain⟨N,hN,hNx⟩:=mxE ms (fun z=>by rw[z] at hml;simp at hml;(clear hvl hsum d2 hl1 d1 h3 h2 h1 hS hp;omega));have hN0:0<=N:=hn0 N (pm.subset hN);obtain⟨N,rfl⟩:∃ n:Nat,N=n:=⟨N.toNat,by (clear hvl hsum hml d2 hl1 d1 hL h3 h2 h1 hS hp;omega)⟩
  have hbn:∀ n∈ms,0<=n/\n<=N:=fun n hn=>⟨hn0 n (pm.subset hn),hNx n hn⟩
  have hK:=hkm.at hp hNx;have hN1:1<=N:=by
   refine Ybq fun z=>?_;have z:N=0:=by (clear hK hN0 hvl hsum hml d2 hl1 d1 hL h3 h2 h1 hS hp;omega)
   subst z;have:kr p 0 ms=ms.length:=by
    have:∀ ys:List Int,kr p 0 ys=ys.length:=fun ys=>by
     induction ys with
     | nil=>rfl
     | cons y ys ih=>
      have e2:kr p 0 (y::ys)=p ^ (0 - y.toNat)+kr p 0 ys:=rfl;rw[e2,ih,Nat.zero_sub,YaH];simp
      (clear e2 ih z hK hN0 hvl hsum hml d2 hl1 d1 hL h3 h2 h1 hS hp;omega)
    exact this ms
   rw[this] at hK;simp at hK
   (clear this z hN0 hvl hsum d2 hl1 d1 h3 h2 h1 hS hp;omega)
  obtain⟨f1,f2,f3,q,hq,f4⟩:=ZcQ hp (L:=L) (by (clear hN1 hK hN0 hvl hsum hml d2 hl1 d1 h3 h2 h1 hS hp;omega));obtain⟨t,ht⟩:=Zjy (p:=p) (M:=N) ms;obtain⟨t',ht'⟩:=ZeP (p:=p) N;obtain⟨u,hu⟩:=Zjx (p:=p) ms hbn;have hc1:1<=ms.count (N:Int):=Yfo.mpr hN;obtain⟨k,hk1⟩:∃ k,N=k+1:=⟨N - 1,by (clear hc1 hu ht' ht f4 hq f3 f2 f1 hK hN0 hvl hsum hml d2 hl1 d1 hL h3 h2 h1 hS hp;omega)⟩
  have hpN:p ^ N=p*p ^ k:=by rw[hk1,YdG,YdH]
  have hx:p ^ N - kr p N ms=(p - fmJ p L)+(p - 1)*(t' - t - q - 1):=by
   rw[ht,ht',hml,f4];have:(p - 1)*(t' - t - q - 1)=(p - 1)*t' - (p - 1)*t - (p - 1)*q - (p - 1):=by rw[Yck,Yck,Yck,Yc5]
   (clear hpN hk1 hc1 hu ht' ht f4 hq f3 f2 f1 hN1 hK hN0 hvl hsum hml d2 hl1 d1 hL h3 h2 h1 hS hp;omega)
  have hy:p ^ N - kr p N ms=p*(p ^ k - u) - (ms.count (N:Int):Nat):=by
   rw[hu,hpN,Yck]
   (clear hx hpN hk1 hc1 hu ht' ht f4 hq f3 f2 f1 hN1 hK hN0 hvl hsum hml d2 hl1 d1 hL h3 h2 h1 hS hp;omega)
  generalize t' - t - q - 1=x at hx;generalize p ^ k - u=y at hy;have hx0:0<=x:=by
   refine Ybq fun z=>?_;have:(p - 1)*x<=(p - 1)*(-1):=Ya6 (by (clear hy hx hpN hk1 hc1 hu ht' ht f4 hq f3 f2 f1 hN1 hK hN0 hvl hsum hml d2 hl1 d1 hL h3 h2 h1 hS hp;omega)) (by (clear z hy hx hpN hk1 hc1 hu ht' ht f4 hq f3 f2 f1 hN1 hK hN0 hvl hsum hml d2 hl1 d1 hL h3 h2 h1 hS;omega))
   (clear z hy hpN hk1 hc1 hu ht' ht f4 hq f3 f2 hN1 hN0 hvl hsum hml d2 hl1 d1 hL h3 h2 h1 hS hp;omega)
  have hxp:0<=(p - 1)*x:=Ydg (by (clear hx0 hy hx hpN hk1 hc1 hu ht' ht f4 hq f3 f2 f1 hN1 hK hN0 hvl hsum hml d2 hl1 d1 hL h3 h2 h1 hS;omega)) hx0;by_cases hc:fmJ p L<=ms.count (N:Int)
  ·
   have hrep:=Zhk hms hNx hc;have hmm:ms=Yan (fmJ p L) (N:Int)++ms.drop (fmJ p L):=by rw[<- hrep,YaU]
   have hvv:vs=vs.take (fmJ p L)++vs.drop (fmJ p L):=(YaU _ _).symm;have htl:(vs.take (fmJ p L)).length=fmJ p L:=by rw[Yav];(clear hc hxp hx0 hy hx hpN hk1 hc1 hu ht' ht f4 hq f3 f1 hN1 hK hN0 hsum hml d2 hl1 d1 hL h3 h2 h1 hS hp;omega)
   have hdot:dot vs ms=(vs.take (fmJ p L)).sum*N+dot (vs.drop (fmJ p L)) (ms.drop (fmJ p L)):=by
    conv=>lhs;rw[hvv,hmm]
    rw[ZjQ (by rw[htl,Ycr])];congr 1;have:=ZjP (N:Int) (vs.take (fmJ p L))
    rwa [htl] at this
   have hst:=ZjI hp hvs (by (clear hdot htl hc hxp hx0 hy hx hpN hk1 hc1 hu ht' ht f4 hq f3 f2 f1 hN1 hK hN0 hsum hml d2 hl1 d1 h3 h2 h1 hS hp;omega));rw[hvl] at hst;have hs0:∀ w∈(vs.take (fmJ p L)).sum::vs.drop (fmJ p L),0<=w:=fun w hx=>by
    rcases YaD.mp hx with rfl | hx
    ·exact sum_nn0 _ fun y hy=>hvw y (Yba hy)
    ·exact hvw w (Ya3 hx)
   have hkr:kr p N (((N:Int) - 1)::ms.drop (fmJ p L))=p+(kr p N ms - fmJ p L):=by
    have e1:kr p N (((N:Int) - 1)::ms.drop (fmJ p L))=p ^ (N - ((N:Int) - 1).toNat)+kr p N (ms.drop (fmJ p L)):=rfl;have e2:kr p N ms=fmJ p L+kr p N (ms.drop (fmJ p L)):=by
     conv=>lhs;rw[hmm]
     unfold kr;rw[Yai,Ydx,Yfn];congr 1;rw[YaK,Ydc,Int.pow_zero];exact rep_one _
    rw[e1,e2,show N - ((N:Int) - 1).toNat=1 by (clear e2 e1 hst hdot htl hc hxp hx0 hy hx hpN hk1 hc1 hu ht' ht f4 hq f3 f2 f1 hK hN0 hvl hsum hml d2 hl1 d1 hL h3 h2 h1 hS hp;omega),Int.pow_one]
    (clear e2 e1 hst hdot htl hc hxp hx0 hy hx hpN hk1 hc1 hu ht' ht f4 hq f3 f2 f1 hN1 hK hN0 hvl hsum hml d2 hl1 d1 hL h3 h2 h1 hS hp;omega)
   have hlen:((vs.take (fmJ p L)).sum::vs.drop (fmJ p L)).length=L - fmJ p L+1:=by rw[YaH,YaX,hvl]
   have hlen2:(((N:Int) - 1)::ms.drop (fmJ p L)).length=L - fmJ p L+1:=by rw[YaH,YaX,hml]
   have ih:=ihL (L - fmJ p L+1) (by (clear hlen2 hlen hkr hst hdot htl hc hxp hx0 hy hx hpN hk1 hc1 hu ht' ht f4 hq f3 f2 hN1 hK hN0 hvl hsum hml d2 hl1 d1 h3 h2 h1 hS hp;omega)) ((((N:Int) - 1)::ms.drop (fmJ p L)).sum.toNat) _ _ hlen hlen2 (by (clear hlen2 hlen hkr hst hdot htl hc hxp hx0 hy hx hpN hk1 hc1 hu ht' ht f4 hq f3 f2 f1 hN1 hK hN0 hvl hsum hml d2 hl1 d1 hL h3 h2 h1 hS hp;omega)) hs0 ⟨N,fun n hn=>by
    rcases YaD.mp hn with rfl | hn
    ·(clear hlen2 hlen hkr hst hdot htl hc hxp hx0 hy hx hpN hk1 hc1 hu ht' ht f4 hq f3 f2 f1 hK hN0 hvl hsum hml d2 hl1 d1 hL h3 h2 h1 hS hp;omega)
    ·exact hbn n (Ya3 hn),by rw[hkr];(clear hlen2 hlen hkr hst hdot htl hc hx0 hy hpN hk1 hc1 hu ht' ht f4 hq f3 f2 f1 hN1 hK hN0 hvl hsum hml d2 hl1 d1 hL h3 h2 h1 hS hp;omega)⟩
   rw[hst,hdot];have e5:dot ((vs.take (fmJ p L)).sum::vs.drop (fmJ p L)) (((N:Int) - 1)::ms.drop (fmJ p L))=(vs.take (fmJ p L)).sum*((N:Int) - 1)+dot (vs.drop (fmJ p L)) (ms.drop (fmJ p L)):=rfl;rw[e5,Yck,Yc5] at ih
   (clear e5 hlen2 hlen hkr hst hdot htl hc hxp hx0 hy hx hpN hk1 hc1 hu ht' ht f4 hq f3 f2 f1 hN1 hK hN0 hvl hsum hml d2 hl1 d1 hL h3 h2 h1 hS hp;omega)
  ·
   have hslack:p - 1<=p ^ N - kr p N ms:=by
    have hy1:1<=y:=by
     refine Ybq fun z=>?_;have:p*y<=p*0:=Ya6 (by (clear hc hxp hx0 hy hx hpN hk1 hc1 hu ht' ht f4 hq f3 f2 f1 hN1 hK hN0 hvl hsum hml d2 hl1 d1 hL h3 h2 h1 hS hp;omega)) (by (clear z hc hxp hx0 hy hx hpN hk1 hc1 hu ht' ht f4 hq f3 f2 f1 hN1 hK hN0 hvl hsum hml d2 hl1 d1 hL h3 h2 h1 hS;omega))
     (clear z hc hxp hx0 hx hpN hk1 hu ht' ht f4 hq f3 f2 f1 hN1 hN0 hvl hsum hml d2 hl1 d1 hL h3 h2 h1 hS hp;omega)
    by_cases y2:2<=y
    ·have:p*2<=p*y:=Ya6 y2 (by (clear y2 hy1 hc hxp hx0 hy hx hpN hk1 hc1 hu ht' ht f4 hq f3 f2 f1 hN1 hK hN0 hvl hsum hml d2 hl1 d1 hL h3 h2 h1 hS;omega))
     (clear y2 hy1 hxp hx0 hx hpN hk1 hc1 hu ht' ht f4 hq f2 f1 hN1 hK hN0 hvl hsum hml d2 hl1 d1 hL h3 h2 h1 hS hp;omega)
    ·have:y=1:=by (clear hc hxp hx0 hy hx hpN hk1 hc1 hu ht' ht f4 hq f3 f2 f1 hN1 hK hN0 hvl hsum hml d2 hl1 d1 hL h3 h2 h1 hS hp;omega)
     subst this;have hx1:1<=x:=by
      refine Ybq fun z=>?_;have:x=0:=by (clear y2 hy1 hy hc hxp hx hpN hk1 hc1 hu ht' ht f4 hq f3 f2 f1 hN1 hK hN0 hvl hsum hml d2 hl1 d1 hL h3 h2 h1 hS hp;omega)
      subst this
      (clear z hxp hx0 y2 hy1 hpN hk1 hc1 hu ht' ht f4 hq f3 f2 f1 hN1 hK hN0 hvl hsum hml d2 hl1 d1 hL h3 h2 h1 hS hp;omega)
     have:(p - 1)*1<=(p - 1)*x:=Ya6 hx1 (by (clear hx1 y2 hy1 hy hc hxp hx0 hx hpN hk1 hc1 hu ht' ht f4 hq f3 f2 f1 hN1 hK hN0 hvl hsum hml d2 hl1 d1 hL h3 h2 h1 hS;omega))
     (clear hx1 y2 hy1 hy hc hxp hx0 hpN hk1 hc1 hu ht' ht f4 hq f2 f1 hN1 hK hN0 hvl hsum hml d2 hl1 d1 hL h3 h2 h1 hS hp;omega)
   match ms,vs,hms,hml,hvl,hsum,hN,hNx,hbn,hvw,hslack with
   | [],_,_,hml,_,_,_,_,_,_,_=>simp at hml;(clear hc hy hx hc1 hu ht hK d2 hslack hxp hx0 hpN hk1 ht' f4 hq f3 f2 f1 hN1 hN0 hvl hsum hl1 d1 h3 h2 h1 hS hp;omega)
   | _::_,[],_,_,hvl,_,_,_,_,_,_=>simp at hvl;(clear hc hy hx hc1 hu ht hK d2 hslack hxp hx0 hpN hk1 ht' f4 hq f3 f2 f1 hN1 hN0 hsum hml hl1 d1 h3 h2 h1 hS hp;omega)
   | n::ms,v::vs,hms,hml,hvl,hsum,hN,hNx,hbn,hvw,hslack=>
    have hnN:n=N:=by
     rcases YaD.mp hN with z | z
     ·exact z.symm
     ·have a:=(Ybf.mp hms).1 _ z;have b:=hNx n Yay
      (clear hc hy hx hc1 hu ht hK d2 hslack hsum hvl hml hxp hx0 hpN hk1 ht' f4 hq f3 f2 f1 hN1 hN0 hl1 d1 hL h3 h2 h1 hS hp;omega)
    subst hnN;have e1:kr p N ((N:Int)::ms)=1+kr p N ms:=by
     have:kr p N ((N:Int)::ms)=p ^ (N - ((N:Int)).toNat)+kr p N ms:=rfl;rw[this,YaK,Ydc,Int.pow_zero]
    have e2:kr p N (((N:Int) - 1)::ms)=p+kr p N ms:=by
     have:kr p N (((N:Int) - 1)::ms)=p ^ (N - ((N:Int) - 1).toNat)+kr p N ms:=rfl;rw[this,show N - ((N:Int) - 1).toNat=1 by (clear this e1 hc hy hx hc1 hu ht hK d2 hslack hsum hml hvl hxp hx0 hpN hk1 ht' f4 hq f3 f2 f1 hN0 hl1 d1 hL h3 h2 h1 hS hp;omega),Int.pow_one]
    rw[Ybe] at hsum;have ih:=ihS (v::vs) (((N:Int) - 1)::ms) hvl (by simpa using hml) (by rw[Ybe];(clear e2 e1 hc hy hx hc1 hu ht hK d2 hslack hml hvl hxp hx0 hpN hk1 ht' f4 hq f3 f2 f1 hN1 hN0 hl1 d1 hL h3 h2 h1 hp;omega)) hvw ⟨N,fun n hn=>by
     rcases YaD.mp hn with rfl | hn
     ·(clear e2 e1 hc hy hx hc1 hu ht hK d2 hslack hsum hml hvl hxp hx0 hpN hk1 ht' f4 hq f3 f2 f1 hN0 hl1 d1 hL h3 h2 h1 hS hp;omega)
     ·exact hbn n (Yas _ hn),by rw[e2];(clear e2 hc hy hx hc1 hu ht hK d2 hsum hml hvl hxp hx0 hpN hk1 ht' f4 hq f3 f2 f1 hN1 hN0 hl1 d1 hL h3 h2 h1 hS hp;omega)⟩
    refine Ye9 ih ?_;simp only[dot];rw[Yck,Yc5];have:=hvw v Yay
    (clear ih e2 e1 hc hy hx hc1 hu ht hK d2 hslack hsum hml hvl hxp hx0 hpN hk1 ht' f4 hq f3 f2 f1 hN1 hN0 hl1 d1 hL h3 h2 h1 hS hp;omega)
 dot_nn:∀ (ws ns:List Int),(∀ w∈ws,0<=w)->(∀ n∈ns,0<=n)->0<=dot ws ns
  | [],_,_,_=>by simp[dot]
  | _::_,[],_,_=>by simp[dot]
  | w::ws,n::ns,h1,h2=>by
   have a:=Ydg (h1 w Yay) (h2 n Yay);have b:=dot_nn ws ns (fun x hx=>h1 x (Yas _ hx)) fun x hx=>h2 x (Yas _ hx);simp only[dot]
   (clear hp;omega)
 sum_nn0:∀ (xs:List Int),(∀ x∈xs,0<=x)->0<=xs.sum
  | [],_=>by simp
  | x::xs,h=>by
   have a:=h x Yay;have b:=sum_nn0 xs fun y hy=>h y (Yas _ hy);rw[Ybe]
   (clear hp;omega)
 rep_one:∀ m:Nat,(Yan m (1:Int)).sum=m
  | 0=>rfl
  | m+1=>by rw[Ybj,Ybe,rep_one m];(clear hp;omega)
end Lv
namespace L2
open PySem PySem.Spec PyProof.Rows PySem.SeqAt
theorem ZjJ {b1 b2:Bool}{K:Yad}{a b:Addr}{xs ys:List V}{g:TG}{tb:TS}{D:Ends}{σ:St}{H:Hp} (hlen:xs.length<=ys.length) (Pv:Nat->St->Hp->Prop) (h0:Pv 0 σ H)
  (hl:∀ i σ H,i<=xs.length->Pv i σ H->SqB b1 K H a xs/\SqB b2 K H b ys)
  (hs:∀ i x y p σ H,xs[i]?=some x->ys[i]?=some y->Pv i σ H->H p=none->g (.ref p) σ (upd H p (.tup [x,y])) fun σ2 H2=>tb { D with nx:=Pv (i+1),ct:=Pv (i+1),bk:=D.nx } σ2 H2) (hd:∀ σ H,Pv xs.length σ H->D.nx σ H) :
  ∃ W:Nat->Nat->St->Hp->Prop,(∃ m,W 0 m σ H)/\∀ i m σ H,W i m σ H ->
   ((ItzB b1 b2 K a b).stop i H/\D.nx σ H)∨((ItzB b1 b2 K a b).go i H/\∃ N:St->Hp->Prop,(∀ σ' H',N σ' H'->∃ m',m'<m/\W (i+1) m' σ' H')/\∀ x H',(ItzB b1 b2 K a b).yld i H x H'->g x σ H' fun σ2 H2=>tb { D with nx:=N,ct:=N,bk:=D.nx } σ2 H2):=by
 refine⟨fun i m σ H=>m=xs.length - i/\i<=xs.length/\Pv i σ H,⟨xs.length,by simp,Ya2 _,h0⟩,?_⟩;rintro i m σ H ⟨rfl,hi,p⟩;obtain⟨q1,q2⟩:=hl i σ H hi p;by_cases hlt:i<xs.length
 ·have gx:xs[i]?=some xs[i]:=Yac hlt;have gy:ys[i]?=some ys[i]:=Yac (by omega);refine .inr ⟨⟨xs,ys,xs[i],ys[i],q1,q2,gx,gy⟩,Pv (i+1),fun σ' H' z=>⟨xs.length - (i+1),by omega,rfl,hlt,z⟩,fun x H' y=>?_⟩;obtain⟨pa,z,z',hp,e1,e2,y1,y2⟩:=y;subst e1 e2;exact hs i z z' pa σ H (y1 xs q1) (y2 ys q2) p hp
 ·obtain rfl:i=xs.length:=by omega
  exact .inl ⟨⟨xs,ys,q1,q2,.inl (Yap _)⟩,hd σ H p⟩
end L2
namespace Lv
open PySem L2
def prL (ls:List Int):List (List Int):=ls.mapIdx fun j l=>[-l,(j:Int)]
theorem ZkC {ls:List Int}{j:Nat}{l:Int} (h:ls[j]?=some l):prL (ls.take (j+1))=prL (ls.take j)++[[-l,(j:Int)]]:=by
 have hl:=(Yab.mp h).1
 unfold prL;rw[YaQ,h,Ybp,YdV];simp[Yav,Yb3 (Ybv hl)]
theorem ZeO (ls:List Int):(prL ls).length=ls.length:=by unfold prL;simp
theorem Znl {ls:List Int}{j:Nat}{l:Int} (h:ls[j]?=some l):(prL ls)[j]?=some [-l,(j:Int)]:=by
 unfold prL;rw[YcX,h];rfl
theorem ZiI {ls:List Int}{f:List Int} (h:f∈prL ls):∃ (j:Nat) (l:Int),f=[-l,(j:Int)]/\ls[j]?=some l:=by
 obtain⟨j,hj⟩:=Ycq.mp h;unfold prL at hj;rw[YcX] at hj
 cases e:ls[j]? with
 | none=>rw[e] at hj;cases hj
 | some l=>rw[e] at hj;cases hj;exact⟨j,l,rfl,e⟩
theorem Zih {k:Nat}{xs f:List Int} (h:f∈Zb7 k xs):∃ (j:Nat) (z:Int),f=[z,(k:Int),(j:Int)]/\xs[j]?=some z:=by
 obtain⟨j,hj⟩:=Ycq.mp h;unfold Zb7 at hj;rw[YcX] at hj
 cases e:xs[j]? with
 | none=>rw[e] at hj;cases hj
 | some l=>rw[e] at hj;cases hj;exact⟨j,l,rfl,e⟩
theorem Zc9:∀ {N:List (List Int)}{k:Nat}{f:List Int},f∈trip k N->∃ (r j:Nat) (z:Int) (xs:List Int),f=[z,((k+r:Nat):Int),(j:Int)]/\N[r]?=some xs/\xs[j]?=some z
 | [],_,_,h=>nomatch h
 | ys::N,k,f,h=>by
  rw[trip] at h;rcases Yah.mp h with h | h
  ·obtain⟨j,z,e,hz⟩:=Zih h;exact⟨0,j,z,ys,e,rfl,hz⟩
  ·obtain⟨r,j,z,xs,e,hx,hz⟩:=Zc9 h;exact⟨r+1,j,z,xs,by rw[e,show k+1+r=k+(r+1) by omega],hx,hz⟩
theorem ZhH {ls:List Int}{lf:List (List Int)} (h:lf.Perm (prL ls)):(lf.map fun f=>f.getD 1 0).Nodup:=by
 refine ((h.map _).nodup_iff).mpr ?_;have e:(prL ls).map (fun f=>f.getD 1 0)=(YaE ls.length).map fun (j:Nat)=>(j:Int):=by
  unfold prL;exact YbE (by simp) fun i h1 h2=>by simp
 rw[e];refine Ybz.mpr (YfC.imp fun {a b} hab=>?_);omega
theorem Zkc {H:Hp}{N:List (List Int)}:∀ {vs:List V},(∀ (j:Nat),j<vs.length->∃ (q:Addr) (k:List Int),vs[j]?=some (.ref q)/\H q=some (.tup (k.map V.int))/\InN N k)->∃ (qs:List Addr) (ks:List (List Int)),vs=qs.map V.ref/\TuM H qs ks/\∀ k∈ks,InN N k
 | [],_=>⟨[],[],rfl,TuM.nil,fun k hk=>nomatch hk⟩
 | v::vs,h=>by
  obtain⟨qs,ks,e1,e2,e3⟩:=Zkc (vs:=vs) fun j hj=>h (j+1) (by simpa using hj);obtain⟨q,k,a1,a2,a3⟩:=h 0 (by simp);have a1:v=.ref q:=by simpa using a1
  have hk:k≠[]:=by obtain⟨r,p,xs,e,_⟩:=a3;rw[e];simp
  refine⟨q::qs,k::ks,by rw[a1,e1];rfl,⟨fun p hp=>?_,by rw[YaJ,e2.2,Zfz a2]⟩,fun k' hk'=>?_⟩
  ·rcases YaD.mp hp with rfl | hp
   ·exact⟨k,hk,a2⟩
   ·exact e2.1 p hp
  ·rcases YaD.mp hk' with rfl | hk'
   ·exact a3
   ·exact e3 k' hk'
def ZdM (ls:List Int) (N:List (List Int)) (ks lf lp:List (List Int)):Prop:=ks.length=ls.length/\lf.Perm (prL ls)/\lf.Pairwise (fun p q=>lxB q p=false)/\lp.Perm (trip 0 N)/\lp.Pairwise (fun p q=>lxB q p=false) /\
 ∀ (t:Nat) f p,lf[t]?=some f->lp[t]?=some p->ks[(f.getD 1 0).toNat]?=some [p.getD 1 0,p.getD 2 0]
def Zdt (K:Yad):Sp:=fun vs H Q _=>∃ (a ll:Addr) (b:Bool) (rs:List Addr) (N:List (List Int)) (ls:List Int),vs=[.ref a,.ref ll]/\H a=some (.tup (rs.map V.ref))/\TTs H rs N/\N.length<=7/\N.flatten.length<=100000/\SqB b K H ll (ls.map V.int)/\ls.length<=N.flatten.length /\
 (∀ l∈ls,YaR l<=8000)/\(∀ xs∈N,∀ z∈xs,YaR z<=8000) /\
 ∀ (t pl:Addr) (qs:List Addr) (ks lf lp:List (List Int)) H',H t=none->H' t=some (.tup [.int (ZaQ N ls ks).sum,.ref pl])->H pl=none->H' pl=some (.lst (qs.map V.ref))->TuM H' qs ks->(∀ k∈ks,InN N k)->ZdM ls N ks lf lp->Same H H'->Q (.ref t) H'
end Lv
namespace Lv
open PySem L2
def LvsT (H:Hp) (as:List Addr) (L:List (List (List Int))):Prop:=as.length=L.length/\∀ (j:Nat) q N,as[j]?=some q->L[j]?=some N->∃ rs:List Addr,H q=some (.tup (rs.map V.ref))/\TTs H rs N
theorem LvsT.same {H H':Hp}{as:List Addr}{L:List (List (List Int))} (h:LvsT H as L) (s:Same H H'):LvsT H' as L:=⟨h.1,fun j q N a b=>by obtain⟨rs,e1,e2⟩:=h.2 j q N a b;exact⟨rs,s _ _ e1,e2.same s⟩⟩
def Zeq (ls:List Int) (N:List (List Int)) (R:Int):Prop:=∃ ks lf lp:List (List Int),ZdM ls N ks lf lp/\(∀ k∈ks,InN N k)/\R=(ZaQ N ls ks).sum
def Fit (ls:List Int) (N:List (List Int)):Prop:=ls.length<=N.flatten.length
def BestOf (ls:List Int) (L:List (List (List Int))) (m:Nat):Option (Int × Nat)->Prop
 | none=>∀ j N,j<m->L[j]?=some N->¬ Fit ls N
 | some (R,n)=>n<m/\(∃ N,L[n]?=some N/\Fit ls N/\Zeq ls N R)/\∀ j N,j<m->L[j]?=some N->Fit ls N->∃ R',Zeq ls N R'/\R<=R'/\(j<n->R<R')
theorem BestOf.skip {ls:List Int}{L:List (List (List Int))}{m:Nat}{N:List (List Int)}{o:Option (Int × Nat)} (h:BestOf ls L m o) (e:L[m]?=some N) (hn:¬ Fit ls N):BestOf ls L (m+1) o:=by
 match o,h with
 | none,h=>
  intro j N' hj e' hf;by_cases ej:j=m
  ·subst ej;rw[e] at e';cases e';exact hn hf
  ·exact h j N' (by omega) e' hf
 | some (R,n),⟨h1,h2,h3⟩=>
  refine⟨by omega,h2,fun j N' hj e' hf=>?_⟩;by_cases ej:j=m
  ·subst ej;rw[e] at e';cases e';exact absurd hf hn
  ·exact h3 j N' (by omega) e' hf
theorem BestOf.first {ls:List Int}{L:List (List (List Int))}{m:Nat}{N:List (List Int)}{R:Int} (h:BestOf ls L m none) (e:L[m]?=some N) (hf:Fit ls N) (hr:Zeq ls N R):BestOf ls L (m+1) (some (R,m)):=by
 refine⟨by omega,⟨N,e,hf,hr⟩,fun j N' hj e' hf'=>?_⟩;by_cases ej:j=m
 ·subst ej;rw[e] at e';cases e';exact⟨R,hr,YbO _,fun z=>absurd z (Ybl _)⟩
 ·exact absurd hf' (h j N' (by omega) e')
theorem BestOf.better {ls:List Int}{L:List (List (List Int))}{m n:Nat}{N:List (List Int)}{R R':Int} (h:BestOf ls L m (some (R',n))) (e:L[m]?=some N) (hf:Fit ls N) (hr:Zeq ls N R) (hlt:R<R'):BestOf ls L (m+1) (some (R,m)):=by
 obtain⟨h1,h2,h3⟩:=h;refine⟨by omega,⟨N,e,hf,hr⟩,fun j N' hj e' hf'=>?_⟩;by_cases ej:j=m
 ·subst ej;rw[e] at e';cases e';exact⟨R,hr,YbO _,fun z=>absurd z (Ybl _)⟩
 ·obtain⟨R2,a,b,_⟩:=h3 j N' (by omega) e' hf';exact⟨R2,a,by omega,fun _=>by omega⟩
theorem BestOf.worse {ls:List Int}{L:List (List (List Int))}{m n:Nat}{N:List (List Int)}{R R':Int} (h:BestOf ls L m (some (R',n))) (e:L[m]?=some N) (hf:Fit ls N) (hr:Zeq ls N R) (hge:¬ R<R'):BestOf ls L (m+1) (some (R',n)):=by
 obtain⟨h1,h2,h3⟩:=h;refine⟨by omega,h2,fun j N' hj e' hf'=>?_⟩;by_cases ej:j=m
 ·subst ej;rw[e] at e';cases e';exact⟨R,hr,by omega,fun z=>absurd z (by omega)⟩
 ·exact h3 j N' (by omega) e' hf'
end Lv
namespace Lv
open PySem L2
end Lv
namespace Lv
open PySem L2
theorem LvsT.lst {H:Hp}{as:List Addr}{L:List (List (List Int))}{l:Addr}{ys zs:List V} (h:LvsT H as L) (e:H l=some (.lst zs)):LvsT (upd H l (.lst ys)) as L:=⟨h.1,fun j q N a b=>by
 obtain⟨rs,e1,e2⟩:=h.2 j q N a b;refine⟨rs,?_,TTs.lst e2 e⟩;rw[Zai fun z=>by rw[z,e] at e1;cases e1];exact e1⟩
theorem LvsT.snoc {H:Hp}{as rs:List Addr}{L:List (List (List Int))}{q:Addr}{N:List (List Int)} (h:LvsT H as L) (e:H q=some (.tup (rs.map V.ref))) (t:TTs H rs N):LvsT H (as++[q]) (L++[N]):=⟨by rw[Yag,Yag,h.1];rfl,fun j x M a b=>by
 rcases Ybt j as.length with hj | hj
 ·rw[Yaz hj] at a;rw[Yaz (by rw[<- h.1];exact hj)] at b;exact h.2 j x M a b
 ·rw[YaG hj] at a;rw[YaG (by rw[<- h.1];exact hj),<- h.1] at b
  cases e3:j - as.length with
  | zero=>rw[e3] at a b;cases a;cases b;exact⟨rs,e,t⟩
  | succ n=>rw[e3] at a;cases a⟩
end Lv
namespace Lv
open PySem L2
end Lv
namespace Lv
open PySem L2
end Lv
namespace Lv
open PySem L2
end Lv
namespace Lv
open PySem L2
theorem ZmI {x y:Int}{a b:List Int} (h:lxB (y::b) (x::a)=false):x<=y:=by
 rw[lxB] at h;by_cases e:y=x
 ·omega
 ·rw[if_neg e] at h;have:=of_decide_eq_false h;omega
end Lv
namespace Lv
open PySem L2
end Lv
namespace Lv
open PySem L2
end Lv
namespace Lv
open PySem L2
theorem Zej (p:Int) (M:Nat) (a b:List Int):kr p M (a++b)=kr p M a+kr p M b:=by simp[kr]
theorem ZnE {p:Int}{M:Nat}:∀ x:List Int,(∀ y∈x,0<=y/\y+1<=M)->p*kr p M (x.map (·+1))=kr p M x
 | [],_=>by simp[kr]
 | y::x,h=>by
  have ih:=ZnE (p:=p) x fun z hz=>h z (Yas _ hz);obtain⟨y0,y1⟩:=h y Yay;show p*(p ^ (M - (y+1).toNat)+kr p M (x.map (·+1)))=p ^ (M - y.toNat)+kr p M x;rw[YcP,ih,show M - y.toNat=(M - (y+1).toNat)+1 by omega,YdG,YdH]
theorem ZlP (p:Int) (M:Nat) (x:List Int):∀ r:List (List Int),kr p M (r.map (x++·)).flatten=(r.length:Int)*kr p M x+kr p M r.flatten
 | []=>by simp[kr]
 | y::r=>by
  rw[YaJ,YaF,YaF,Zej,Zej,Zej,ZlP p M x r,YaH];have:((r.length+1:Nat):Int)*kr p M x=(r.length:Int)*kr p M x+kr p M x:=by
   rw[show ((r.length+1:Nat):Int)=(r.length:Int)+1 by omega,Ydr,Int.one_mul]
  omega
theorem ZlQ {p:Nat} (hp:2<=p) {M:Nat}:∀ n,n<=M->kr p M (num p n).flatten=(p:Int) ^ M
 | 0,_=>by
  have:(num p 0).flatten=[0]:=by
   show (num0 p).flatten=[0];simp[num0]
  rw[this];simp[kr]
 | n+1,h=>by
  have ih:=ZlQ (M:=M) hp n (by omega);obtain⟨x,r,e,hr,e2⟩:=ZdD hp n;have hx:∀ y∈x,0<=y/\y+1<=M:=fun y hy=>by
   have:=Zeo p n x (by rw[e];exact Yay) y hy;omega
  have hu:=ZnE (p:=p) (M:=M) x hx;rw[e2,Ybk,Zej,ZlP];rw[e,YaF,Zej] at ih;have h1:([x.map (·+1)]:List (List Int)).flatten=x.map (·+1):=by simp
  rw[h1,<- ih,<- hu];have h2:(p:Int)*kr p M (x.map (·+1))=(r.length:Int)*kr p M (x.map (·+1))+kr p M (x.map (·+1)):=by
   rw[show (p:Int)=(r.length:Int)+1 by omega,Ydr,Int.one_mul]
  omega
end Lv
namespace Lv
open PySem L2
def Zcm (p m:Nat):List (List (List Int)):=(YaE m).map (num p)
theorem Zfd (p m:Nat):(Zcm p m).length=m:=by unfold Zcm;simp
theorem Zhw (p m:Nat):Zcm p (m+1)=Zcm p m++[num p m]:=by unfold Zcm;rw[Yb2,Yai];rfl
theorem Zfe {p m n:Nat} (h:n<m):(Zcm p m)[n]?=some (num p n):=by unfold Zcm;rw[Yaf,Yc1 h];rfl
theorem Zbi (p n:Nat):((num p n).flatten.length:Int)=tot p n:=by
 unfold tot;rw[<- ZbZ];have:∀ N:List (List Int),((N.flatten.length:Nat):Int)=(lens N).sum:=fun N=>by
  induction N with
  | nil=>rfl
  | cons x N ih=>
   unfold lens at *;rw[YaF,Yag,YaJ,Ybe];omega
 exact this _
theorem Zf0 {p:Nat} (hp:2<=p):∀ n:Nat,(n:Int)+1<=tot p n
 | 0=>by
  have:=Zev hp (Yap 0);have h0:tot p 0=1:=by
   rw[<- Zbi];show ((([0]::Yan (p - 1) []:List (List Int)).flatten.length:Nat):Int)=1;simp
  omega
 | n+1=>by
  have:=Zf0 hp n;have:=Zii hp n;omega
theorem Zhv {p m:Nat} (h2:2<=p) (h7:p<=7) (h:4000<(num p m).flatten.length):1<=m/\500<=(num p (m - 1)).flatten.length:=by
 have e:=Zbi p m
 cases m with
 | zero=>
  exfalso;have:(num p 0).flatten.length=1:=by
   show ([0]::Yan (p - 1) []:List (List Int)).flatten.length=1;simp
  omega
 | succ m=>
  refine⟨by omega,?_⟩;have e2:=Zbi p m;have e3:=ZgR h2 m;obtain⟨x,y,r,ec,_⟩:=Zdj h2 m;have h1:hd p m<=tot p m:=by
   unfold hd tot;exact ZlO (Zdh p m).2 (by rw[ec];simp)
  have h0:=Zhh h2 m;have h6:((p - 1:Nat):Int)*hd p m<=6*hd p m:=YbG (by omega) (by omega);show 500<=(num p m).flatten.length;omega
def Zf5 (fn:Addr):Sp:=fun vs H Q _=>∃ p:Nat,vs=[.int p,.ref fn]/\2<=p/\p<=7/\∀ (l:Addr) (as:List Addr) (m:Nat) H',H l=none->H' l=some (.lst (as.map V.ref))->LvsT H' as (Zcm p m)->(∀ i,i<m->(num p i).flatten.length<=4000)->4000<(num p m).flatten.length->Same H H'->Q (.ref l) H'
def BestVP (ls:List Int) (L:List (List (List Int))) (H:Hp):Option (Int × Nat)->V->Prop
 | none,v=>v=.non
 | some (R,n),v=>∃ (t pl:Addr) (qs:List Addr) (N ks lf lp:List (List Int)) ,v=.ref t/\H t=some (.tup [.int R,.int (n:Int),.ref pl])/\H pl=some (.lst (qs.map V.ref))/\TuM H qs ks/\L[n]?=some N/\ZdM ls N ks lf lp/\(∀ k∈ks,InN N k)/\Fit ls N/\R=(ZaQ N ls ks).sum
theorem BestVP.same {ls:List Int}{L:List (List (List Int))}{H H':Hp}{o:Option (Int × Nat)}{v:V} (h:BestVP ls L H o v) (s:Same H H'):BestVP ls L H' o v:=by
 match o,h with
 | none,h=>exact h
 | some (R,n),⟨t,pl,qs,N,ks,lf,lp,e,q,a,b,r⟩=>exact⟨t,pl,qs,N,ks,lf,lp,e,s _ _ q,s _ _ a,b.same s,r⟩
def Zdw (K:Yad):Sp:=fun vs H Q _=>∃ (lv ll:Addr) (b:Bool) (as:List Addr) (L:List (List (List Int))) (ls:List Int),vs=[.ref lv,.ref ll]/\H lv=some (.lst (as.map V.ref))/\LvsT H as L/\SqB b K H ll (ls.map V.int) /\
 (∀ N∈L,N.length<=7/\N.flatten.length<=100000/\∀ xs∈N,∀ z∈xs,YaR z<=8000)/\(∀ l∈ls,YaR l<=8000)/\∀ (o:Option (Int × Nat)) (v:V) H',BestOf ls L L.length o->BestVP ls L H' o v->Same H H'->Q v H'
def Zl8 (K:Yad):Sp:=fun vs H Q _=>∃ (p:Nat) (ll:Addr) (b:Bool) (ls:List Int),vs=[.int p,.ref ll]/\2<=p/\p<=7/\SqB b K H ll (ls.map V.int)/\ls.length<=500/\(∀ l∈ls,YaR l<=8000) /\
 ∀ (t pl:Addr) (qs:List Addr) (ks lf lp:List (List Int)) (n m:Nat) H',H t=none∨True->H' t=some (.tup [.int (ZaQ (num p n) ls ks).sum,.int (n:Int),.ref pl])->H' pl=some (.lst (qs.map V.ref))->TuM H' qs ks->ZdM ls (num p n) ks lf lp->(∀ k∈ks,InN (num p n) k)->Fit ls (num p n)->tot p n<=4000->n<m->BestOf ls (Zcm p m) m (some ((ZaQ (num p n) ls ks).sum,n))->(∀ i,i<m->tot p i<=4000)->4000<tot p m->Same H H'->Q (.ref t) H'
end Lv
namespace Lv
open PySem L2
def plcT (p:List Int):List Int:=[p.getD 1 0,p.getD 2 0]
theorem Zdq {ls:List Int}{N ks lf lp:List (List Int)} (h:ZdM ls N ks lf lp) (hle:ls.length<=N.flatten.length):ks.Perm ((lp.take ls.length).map plcT):=by
 obtain⟨h1,h2,_,h4,_,h6⟩:=h;have l1:lf.length=ls.length:=by rw[h2.length_eq,ZeO]
 have l2:lp.length=N.flatten.length:=by rw[h4.length_eq,Zcl]
 have hs:(lf.map fun f=>(f.getD 1 0).toNat).Perm (YaE ls.length):=by
  refine (h2.map _).trans (YdZ ?_);unfold prL;exact YbE (by simp) fun i h1 h2=>by simp
 have hA:(lf.map fun f=>(f.getD 1 0).toNat).map (fun i=>ks.getD i [])=(lp.take ls.length).map plcT:=by
  refine YbE (by simp;omega) fun i a b=>?_;have hi:i<lf.length:=by simpa using a
  have hj:i<lp.length:=by omega
  have g:=h6 i lf[i] lp[i] (Yac hi) (Yac hj);simp only[Yed,Ydi];rw[Yak,g];rfl
 have hB:(YaE ls.length).map (fun i=>ks.getD i [])=ks:=by
  refine YbE (by simp;omega) fun i a b=>?_;simp only[Yed,List.getElem_range];rw[Yak,Yac b];rfl
 rw[<- hA];exact (YdZ hB.symm).trans (hs.symm.map _)
theorem ZdW:∀ (N:List (List Int)) (k:Nat),((trip k N).map plcT).Nodup/\∀ q∈(trip k N).map plcT,(k:Int)<=q.getD 0 0
 | [],k=>⟨Ycm,fun q hq=>nomatch hq⟩
 | xs::N,k=>by
  obtain⟨i1,i2⟩:=ZdW N (k+1);have e:(Zb7 k xs).map plcT=(YaE xs.length).map fun (j:Nat)=>[(k:Int),(j:Int)]:=by
   unfold Zb7;exact YbE (by simp) fun i h1 h2=>by simp[plcT]
  rw[trip,Yai,e];refine⟨Yce.mpr ⟨?_,i1,fun a ha b hb z=>?_⟩,fun q hq=>?_⟩
  ·refine Ybz.mpr (YfC.imp fun {a b} hab z=>hab ?_);have:(a:Int)=b:=by simpa using z
   omega
  ·obtain⟨j,_,rfl⟩:=YaS.mp ha;have:=i2 b hb;rw[<- z] at this;have:((k+1:Nat):Int)<=k:=this;omega
  ·rcases Yah.mp hq with h | h
   ·obtain⟨j,_,rfl⟩:=YaS.mp h;exact YbO _
   ·have:=i2 q h;omega
theorem Zfg {ls:List Int}{N ks lf lp:List (List Int)} (h:ZdM ls N ks lf lp) (hle:ls.length<=N.flatten.length):ks.Nodup:=by
 refine (Zdq h hle).nodup_iff.mpr ?_;obtain⟨_,_,_,h4,_,_⟩:=h;have h5:(lp.map plcT).Nodup:=(h4.map plcT).nodup_iff.mpr (ZdW N 0).1;rw[Yb7];exact h5.sublist (Yd3 _ _)
theorem Zfb:∀ (N:List (List Int)) (k:Nat),(trip k N).map (fun p=>p.getD 0 0)=N.flatten
 | [],_=>rfl
 | xs::N,k=>by
  rw[trip,Yai,Zfb N (k+1),YaF];congr 1;unfold Zb7;exact YbE (by simp) fun i h1 h2=>by simp
theorem Zki {N:List (List Int)}{q:List Int} (h:q∈trip 0 N):numV N (plcT q)=q.getD 0 0:=by
 obtain⟨r,j,z,xs,rfl,hx,hz⟩:=Zc9 h;unfold numV plcT;simp only[YdL,YdM];rw[YbT,YaK,YaK,Yak,Yak,hx,Yfk,hz];rfl
theorem Zfn (N:List (List Int)):∀ (ls:List Int) (ks:List (List Int)),(ZaQ N ls ks).sum=dot ls (ks.map (numV N))
 | [],ks=>by cases ks <;> rfl
 | l::ls,[]=>rfl
 | l::ls,k::ks=>by
  have ih:=Zfn N ls ks;unfold ZaQ at ih ⊢;rw[List.zipWith_cons_cons,Ybe,ih];rfl
theorem ZmK {p n:Nat} (hp:2<=p) {ls:List Int}{ks lf lp:List (List Int)} (hl:∀ l∈ls,0<=l) (h:ZdM ls (num p n) ks lf lp) (hle:ls.length<=(num p n).flatten.length):hf p ls<=(ZaQ (num p n) ls ks).sum:=by
 rw[Zfn];have hpm:=Zdq h hle;obtain⟨h1,_,_,h4,_,_⟩:=h;have e:((lp.take ls.length).map plcT).map (numV (num p n))=(lp.take ls.length).map fun q=>q.getD 0 0:=by
  rw[Ybh];exact Ybw fun q hq=>Zki (h4.subset (Yba hq))
 have hpn:(ks.map (numV (num p n))).Perm ((lp.take ls.length).map fun q=>q.getD 0 0):=by
  rw[<- e];exact hpm.map _
 have hfl:(lp.map fun q=>q.getD 0 0).Perm (num p n).flatten:=by
  rw[<- Zfb (num p n) 0];exact h4.map _
 have hsplit:(lp.map fun q=>q.getD 0 0)=(lp.take ls.length).map (fun q=>q.getD 0 0)++(lp.drop ls.length).map fun q=>q.getD 0 0:=by
  rw[<- Yai,YaU]
 refine huff_least (p:=(p:Int)) (by omega) ls.length _ ls _ rfl (by rw[Yaa,h1]) (Int.self_le_toNat _) hl ⟨n,fun y hy=>?_,?_⟩
 ·have hm:y∈(num p n).flatten:=hfl.subset (by rw[hsplit];exact Ya1 _ (hpn.subset hy));obtain⟨xs,hx,hy⟩:=Yeb.mp hm;have:=Zeo p n xs hx y hy;omega
 ·have k1:=ZlQ hp (M:=n) n (Yap _);rw[<- Zgy hfl,hsplit,Zej] at k1;rw[Zgy hpn,<- k1];have:0<=kr (p:Int) n ((lp.drop ls.length).map fun q=>q.getD 0 0):=huff_least.sum_nn0 _ fun y hy=>by
   obtain⟨z,_,rfl⟩:=YaS.mp hy;have:=ZbX (p:=(p:Int)) (by omega) (n - z.toNat);omega
  omega
theorem ZlF:∀ {row:Rows}{j:Nat}{x:List Int},row[j]?=some none->((rl90 (row.set j (some x))).flatten).Perm (x++(rl90 row).flatten)
 | [],j,x,h=>by simp at h
 | c::row,0,x,h=>by
  have:c=none:=by simpa using h
  subst this;exact Ybx _
 | c::row,j+1,x,h=>by
  have ih:=ZlF (row:=row) (j:=j) (x:=x) (by simpa using h)
  cases c with
  | none=>exact ih
  | some y=>
   show (y++(rl90 (row.set j (some x))).flatten).Perm (x++(y++(rl90 row).flatten));refine (ih.append_left y).trans ?_;rw[<- Yax,<- Yax];exact Ybr _ YbD
theorem ZfV:∀ {D:List Rows}{r j:Nat}{row:Rows}{x:List Int},D[r]?=some row->row[j]?=some none->(allT (D.set r (row.set j (some x)))).Perm (x++allT D)
 | [],r,j,row,x,h,_=>by simp at h
 | d::D,0,j,row,x,h,h2=>by
  have:d=row:=by simpa using h
  subst this;show (allT (d.set j (some x)::D)).Perm _;rw[ZaO,ZaO,<- Yax];exact Ybr _ (ZlF h2)
 | d::D,r+1,j,row,x,h,h2=>by
  have ih:=ZfV (D:=D) (r:=r) (j:=j) (row:=row) (x:=x) (by simpa using h) h2;show (allT (d::D.set r (row.set j (some x)))).Perm _;rw[ZaO,ZaO];refine (ih.append_left _).trans ?_;rw[<- Yax,<- Yax];exact Ybr _ YbD
theorem ZlW:∀ {row:Rows}{W:List Int}{j:Nat}{x:List Int}{w:Int},row[j]?=some none->W[j]?=some w->dt gl ((row.set j (some x)).map fun c=>c.getD []) W=dt gl (row.map fun c=>c.getD []) W+(x.length:Int)*w
 | [],W,j,x,w,h,_=>by simp at h
 | c::row,[],j,x,w,_,h=>by simp at h
 | c::row,v::W,0,x,w,h,h2=>by
  have:c=none:=by simpa using h
  subst this;have:v=w:=by simpa using h2
  subst this;show v*gl x+_=v*gl []+_+_;unfold gl;rw[YdH];simp;omega
 | c::row,v::W,j+1,x,w,h,h2=>by
  have ih:=ZlW (row:=row) (W:=W) (j:=j) (x:=x) (w:=w) (by simpa using h) (by simpa using h2);show v*_+dt gl ((row.set j (some x)).map fun c=>c.getD []) W=v*_+dt gl (row.map fun c=>c.getD []) W+_;rw[ih];omega
theorem ZgY:∀ {D:List Rows}{WW:List (List Int)}{r j:Nat}{row:Rows}{W:List Int}{x:List Int}{w:Int},D[r]?=some row->row[j]?=some none->WW[r]?=some W->W[j]?=some w->ptR gl (opr (D.set r (row.set j (some x)))) WW=ptR gl (opr D) WW+(x.length:Int)*w
 | [],WW,r,j,row,W,x,w,h,_,_,_=>by simp at h
 | d::D,[],r,j,row,W,x,w,_,_,h,_=>by simp at h
 | d::D,V::WW,0,j,row,W,x,w,h,h2,h3,h4=>by
  have:d=row:=by simpa using h
  subst this;have:V=W:=by simpa using h3
  subst this;show dt gl ((d.set j (some x)).map fun c=>c.getD []) V+ptR gl (opr D) WW=dt gl (d.map fun c=>c.getD []) V+ptR gl (opr D) WW+_;rw[ZlW h2 h4];omega
 | d::D,V::WW,r+1,j,row,W,x,w,h,h2,h3,h4=>by
  have ih:=ZgY (D:=D) (WW:=WW) (r:=r) (j:=j) (row:=row) (W:=W) (x:=x) (w:=w) (by simpa using h) h2 (by simpa using h3) h4;show dt gl (d.map fun c=>c.getD []) V+ptR gl (opr (D.set r (row.set j (some x)))) WW=dt gl (d.map fun c=>c.getD []) V+ptR gl (opr D) WW+_;rw[ih];omega
def ZeU (N:List (List Int)):List Rows:=N.map fun xs=>Yan xs.length none
structure Plcd (N:List (List Int)) (rows:List (List Int)) (ks:List (List Int)) (i:Nat) (D:List Rows):Prop where
 len:D.map Ya8=(N++[[]]).map Ya8
 free:∀ (r j:Nat) xs,N[r]?=some xs->j<xs.length->[(r:Int),(j:Int)] ∉ ks.take i->∃ row,D[r]?=some row/\row[j]?=some none
 all:(allT D).Perm (rows.take i).flatten
 pt:ptR gl (opr D) (N++[[]])=(ZaQ N ((rows.take i).map fun r=>(r.length:Int)) (ks.take i)).sum
 srt:(∀ r∈rows,r.Pairwise (·<=·))->SrtD D
 has:1<=i->1<=rows.length->HasR D
theorem Plcd.zero (N rows ks:List (List Int)):Plcd N rows ks 0 (ZeU N++[[]]):=by
 have hnil:∀ N:List (List Int),allT (ZeU N++[[]])=[]:=fun N=>by
  induction N with
  | nil=>rfl
  | cons x N ih=>
   show allT (Yan x.length none::(ZeU N++[[]]))=[];rw[ZaO,ih,Ya4]
   induction x.length with
   | zero=>rfl
   | succ n ih=>rw[Ybj];exact ih
 refine⟨?_,fun r j xs h1 h2 _=>⟨Yan xs.length none,?_,?_⟩,by rw[hnil];exact Ybx _,?_,fun _ r hr xs hx=>?_,fun h=>absurd h (by omega)⟩
 ·unfold ZeU;rw[Yai,Yai,Ybh];congr 1;exact Ybw fun x _=>by simp
 ·have hl:=(Yab.mp h1).1
  unfold ZeU;rw[Yaz (by rw[Yaa];exact hl),Yaf,h1];rfl
 ·rw[YcG,if_pos h2]
 ·have e0:(ZaQ N (((rows.take 0).map fun r=>(r.length:Int))) (ks.take 0)).sum=0:=by simp[ZaQ]
  rw[e0];have:∀ N:List (List Int),ptR gl (opr (ZeU N++[[]])) (N++[[]])=0:=fun N=>by
   induction N with
   | nil=>rfl
   | cons x N ih=>
    show dt gl ((Yan x.length (none:Option (List Int))).map fun c=>c.getD []) x+ptR gl (opr (ZeU N++[[]])) (N++[[]])=0;rw[ih];have:∀ x:List Int,dt gl ((Yan x.length (none:Option (List Int))).map fun c=>c.getD []) x=0:=fun x=>by
     induction x with
     | nil=>rfl
     | cons a x ih=>
      show a*gl []+dt gl ((Yan x.length (none:Option (List Int))).map fun c=>c.getD []) x=0;rw[ih];simp[gl]
    rw[this];rfl
  exact this N
 ·rcases Yah.mp hr with h | h
  ·obtain⟨y,_,rfl⟩:=YaS.mp h;have:=YeL hx;cases this
  ·have:r=[]:=by simpa using h
   rw[this] at hx;simp at hx
theorem Plcd.step {N rows ks:List (List Int)}{i:Nat}{D:List Rows} (h:Plcd N rows ks i D) (hnd:ks.Nodup) {x k:List Int} (hx:rows[i]?=some x) (hk:ks[i]?=some k) (hin:InN N k):∃ (r j:Nat) (row:Rows),k=[(r:Int),(j:Int)]/\D[r]?=some row/\row[j]?=some none/\Plcd N rows ks (i+1) (D.set r (row.set j (some x))):=by
 obtain⟨r,j,xs,rfl,hN,hj⟩:=hin;have hi:=(Yab.mp hk).1
 have htk:ks.take (i+1)=ks.take i++[[(r:Int),(j:Int)]]:=by rw[YaQ,hk];rfl
 have htr:rows.take (i+1)=rows.take i++[x]:=by rw[YaQ,hx];rfl
 have hnm:[(r:Int),(j:Int)] ∉ ks.take i:=fun z=>by
  have h1:(ks.take (i+1)).Nodup:=hnd.sublist (Yd3 _ _);rw[htk] at h1;exact (Yce.mp h1).2.2 _ z _ (Yaj.mpr rfl) rfl
 obtain⟨row,hr,hc⟩:=h.free r j xs hN hj hnm;have hrl:=(Yab.mp hr).1
 have hWW:(N++[[]])[r]?=some xs:=by rw[Yaz (Yab.mp hN).1];exact hN
 refine⟨r,j,row,rfl,hr,hc,?_,fun r' j' ys h1 h2 h3=>?_,?_,?_,fun hs q hq ys hy=>?_,fun _ _=>?_⟩
 ·rw[YbZ,YcZ,<- h.len];refine YbE (by simp) fun a b c=>?_;rw[List.getElem_set];split
  ·next e=>
   subst e;rw[Yed,(Yab.mp hr).2]
  ·rfl
 ·rw[htk] at h3;have h4:[(r':Int),(j':Int)] ∉ ks.take i:=fun z=>h3 (Ya1 _ z);have h5:¬ (r'=r/\j'=j):=fun z=>h3 (by rw[z.1,z.2];exact YaI _ (Yaj.mpr rfl));obtain⟨row',hr',hc'⟩:=h.free r' j' ys h1 h2 h4;by_cases e:r'=r
  ·subst e;rw[hr] at hr';cases hr';refine⟨row.set j (some x),by rw[YbI hrl],?_⟩;rw[YaO (fun z=>h5 ⟨rfl,z.symm⟩)];exact hc'
  ·exact⟨row',by rw[YaO (Ybn e)];exact hr',hc'⟩
 ·rw[htr,Ybk];refine (ZfV hr hc).trans ?_;refine (YbK x h.all).trans ?_;refine YbD.trans ?_;simp
 ·have hw:=Yac hj;rw[ZgY hr hc hWW hw,h.pt,htr,htk,Yai];unfold ZaQ;have hrl:(rows.take i).length=(ks.take i).length:=by
   have h1:=(Yab.mp hx).1
   rw[Yav,Yav];omega
  rw[Yfc (by rw[Yaa];exact hrl),Ydx];congr 1;show _=(((x.length:Int)*numV N [(r:Int),(j:Int)])::[]).sum;unfold numV;simp only[YdL,YdM,YaK];rw[Yak,Yak,hN,Yfk,hw];simp
 ·rcases Ybb hq with hq | rfl
  ·exact h.srt hs q hq ys hy
  ·rcases Ybb hy with hy | hy
   ·exact h.srt hs row (Yam hr) ys hy
   ·cases hy;exact hs _ (Yam hx)
 ·refine⟨row.set j (some x),Yam (i:=r) (by rw[YbI hrl]),x,?_⟩;exact Yam (i:=j) (by rw[YbI (Yab.mp hc).1])
theorem ZkE {p n:Nat} (hp:2<=p) {rows ks:List (List Int)}{D:List Rows} (hk:ks.length=rows.length) (h:Plcd (num p n) rows ks rows.length D) (h1:1<=rows.length) (hs:∀ r∈rows,r.Pairwise (·<=·)) (hz:SzD D):Pls D (phL p 0 n)/\(plR D (phL p 0 n)).flatten=[some (srt rows.flatten)]/\((rdR D (phL p 0 n)).map Yem).sum=(ZaQ (num p n) (rows.map fun r=>(r.length:Int)) ks).sum:=by
 have hA:Alike (opr D) (rot (0 % (p+1)) (Lm p n)):=by
  unfold Alike;rw[ZiX,Nat.zero_mod,h.len];unfold rot Lm;rw[Yde,YbR,Ya4]
 obtain⟨i1,i2,i3,i4,i5,i6⟩:=ZlJ hp n 0 _ hA;obtain⟨_,_,hperm,_,_⟩:=Zgr i1 hz;have hall:=h.all;rw[YaM] at hall;refine⟨i1,?_,?_⟩
 ·rw[Zov hp i2 (i4 (h.srt hs)) (i5 (h.has h1 h1))];congr 2;exact ZcV ((Za8 _).trans (hperm.trans hall)) (Zdr _)
 ·have hpt:=h.pt;rw[YaM,YaY (by omega)] at hpt;have e2:rot (0 % (p+1)) (Lm p n)=num p n++[[]]:=by rw[Nat.zero_mod];unfold rot Lm;rw[Yde,YbR,Ya4]
  rw[e2,hpt,end0] at i3;omega
end Lv
namespace L2
open PySem PySem.Spec PyProof.Rows PySem.SeqAt
end L2
namespace Lv
open PySem L2
theorem Same.sqB {b:Bool}{K:Yad}{H H':Hp}{a:Addr}{xs:List V} (e:Same H H') (h:SqB b K H a xs):SqB b K H' a xs:=by
 cases b with
 | true=>exact e.seq h
 | false=>exact e.tup h
theorem ZbP {b:Bool}{K:Yad}{own:List Str}{js:List Nat}{g:TG}{te:TE}{σ:L2.St}{H1:Hp}{Q:VK}{a:Addr}{xs:List V} (ys:List V) (hq:SqB b K H1 a xs) (hl:xs.length=ys.length) (hlen:xs.length<=20000)
  (hs:∀ (i:Nat) x y,xs[i]?=some x->ys[i]?=some y->∀ H,Same H1 H->∀ R:VK,(∀ H',Same H H'->R y H')->g x (blkσ own js σ) H fun τ H4=>te τ H4 R)
  (hd:∀ acc H,H1 acc=none->Same H1 H->H acc=some (.lst ys)->Q (.ref acc) H):Zbg own js g Zcn te σ (ItlB b K a) H1 Q:=by
 refine Za0 (b:=b) (K:=K) (a:=a) (xs:=xs) (fun acc i H=>Same H1 H/\H acc=some (.lst (ys.take i))) (fun acc h0=>⟨Same.new h0,Zab⟩) (fun acc i H h0 _ z=>?_) ?_ ?_
 ·exact Same.sqB z.1 hq
 ·rintro acc i x H h0 hx ⟨s1,hacc⟩;have hi:=(Yab.mp hx).1
  have hy:=Yac (l:=ys) (i:=i) (by omega);refine (cast ?_ (hs i x _ hx hy H s1 (fun y H6=>∃ zs,H6 acc=some (.lst zs)/\zs.length<sizeLine/\(i+1<=xs.length/\(Same H1 (upd H6 acc (.lst (zs++[y])))/\upd H6 acc (.lst (zs++[y])) acc=some (.lst (ys.take (i+1)))))) fun H' s'=>?_))
  ·unfold Zcn;simp only[if_true]
  ·refine⟨_,s' _ _ hacc,?_,hi,(s1.trans s').put h0,?_⟩
   ·rw[sizeLine_eq,Yav];omega
   ·rw[Zab,YaQ,hy];simp
 ·rintro acc H h0 ⟨s1,hacc⟩;rw[hl,YaM] at hacc;exact hd acc H h0 s1 hacc
end Lv
namespace Lv
open PySem L2
section
variable {K:Yad}
theorem Zh5 (K:Yad) {X:Cx} (hc:X.calm=true) (hK:X.K=K:=by rfl):Zbf X (.builtin "sum") (fun xs H Q=>∃ (a:Addr) (ns:List Int),xs=[.ref a]/\SqL K H a (ns.map V.int)/\Q (.int ns.sum) H):=by subst hK;exact Zbr hc
theorem ZiD:∀ (ps:List (Int × Int)) (D:List Rows),(rdR D ps).length=ps.length
 | [],_=>rfl
 | (o,m)::ps,D=>by rw[rdR,YaH,ZiD ps,YaH]
theorem Zn5 {H:Hp}{qs:List Addr}{p n:Nat} (h:TuM H qs (phs p n n)):TTs H qs ((phL p 0 n).map prT):=by
 rw[Zmt] at h;refine⟨h.len,fun j r xs a b=>?_⟩;obtain⟨k,e1,e2⟩:=h.at a;rw[b] at e1;cases e1;exact e2
theorem Zm7 {own:List Str}{js:List Nat}{g:TG}{te:TE}{σ:L2.St}{H1:Hp}{Q:VK}{a:Addr}{es:List Addr}{W:List (List Int)} (ha:H1 a=some (.lst (es.map V.ref))) (hL:LLs H1 es W) (hn:es.length<=1000)
  (hs:∀ (i:Nat) (q:Addr) (xs:List Int) Hc,∀ R:VK,(∀ Hd,Same Hc Hd->R (.int xs.sum) Hd)->Hc q=some (.lst (xs.map V.int))->es[i]?=some q->g (.ref q) (blkσ own js σ) Hc fun τ H4=>te τ H4 R)
  (hd:∀ acc H,H1 acc=none->H acc=some (.lst ((W.map Yem).map V.int))->Same H1 H->Q (.ref acc) H):Zbg own js g Zcn te σ (ItlB true K a) H1 Q:=by
 refine Za0 (b:=true) (K:=K) (a:=a) (xs:=es.map V.ref) (fun acc i Hc=>Hc acc=some (.lst (((W.take i).map Yem).map V.int))/\Same H1 Hc) (fun acc h0=>⟨Zab,Same.new h0⟩) (fun acc i Hc _ _ q=>SqL.of (q.2 _ _ ha)) ?_ ?_
 ·rintro acc i x Hc h0 hx ⟨hac,sc'⟩;obtain⟨q,hq,rfl⟩:=ZaG hx;have hi:=(Yab.mp hq).1
  have hiW:i<W.length:=by rw[<- hL.1];exact hi
  have eW:=Yac hiW;refine (cast ?_ (hs i q W[i] Hc (fun y H6=>∃ zs,H6 acc=some (.lst zs)/\zs.length<sizeLine/\(i+1<=(es.map V.ref).length/\upd H6 acc (.lst (zs++[y])) acc=some (.lst (((W.take (i+1)).map Yem).map V.int))/\Same H1 (upd H6 acc (.lst (zs++[y]))))) (fun Hd sd=>?_) (sc' _ _ (hL.2 i q _ hq eW)) hq))
  ·unfold Zcn;simp only[if_true]
  ·refine⟨_,sd _ _ hac,Zbd (by rw[Yaa,Yaa,Yav];omega),by rw[Yaa];exact hi,?_,(sc'.trans sd).put h0⟩;rw[Zab,YaQ,eW,Ybp,Yai,Yai];rfl
 ·rintro acc H h0 ⟨hac,s1⟩;rw[Yaa,hL.1,YaM] at hac;exact hd acc H h0 hac s1
end
theorem ZdZ {α:Type}{l:List α}{i:Nat}{a:α} (h:l[i]?=some a):l.set i a=l:=by
 obtain⟨h1,h2⟩:=Yab.mp h;rw[<- h2,List.set_getElem_self]
def NonL (H:Hp) (as:List Addr) (N:List (List Int)):Prop:=as.length=N.length/\∀ (j:Nat) a xs,as[j]?=some a->N[j]?=some xs->H a=some (.lst (Yan xs.length V.non))
theorem NonL.same {H H':Hp}{as:List Addr}{N:List (List Int)} (h:NonL H as N) (s:Same H H'):NonL H' as N:=⟨h.1,fun j r xs a b=>s _ _ (h.2 j r xs a b)⟩
theorem NonL.lst {H:Hp}{as:List Addr}{N:List (List Int)}{acc:Addr}{ys:List V} (h:NonL H as N) (e:acc ∉ as):NonL (upd H acc (.lst ys)) as N:=⟨h.1,fun j r xs a b=>by
 rw[Zai fun z=>e (by rw[<- z];exact Yam a)];exact h.2 j r xs a b⟩
theorem NonL.snoc {H:Hp}{as:List Addr}{N:List (List Int)}{r:Addr}{x:List Int} (h:NonL H as N) (e:H r=some (.lst (Yan x.length V.non))):NonL H (as++[r]) (N++[x]):=⟨by simp[h.1],fun j q xs a b=>by
 rcases Ybt j as.length with hj | hj
 ·rw[Yaz hj] at a;rw[Yaz (by rw[<- h.1];exact hj)] at b;exact h.2 j q xs a b
 ·rw[YaG hj] at a;rw[YaG (by rw[<- h.1];exact hj),<- h.1] at b
  cases e3:j - as.length with
  | zero=>rw[e3] at a b;cases a;cases b;exact e
  | succ n=>rw[e3] at a;cases a⟩
theorem NonL.reels {H:Hp}{e:Addr} (he:H e=some (.lst [])):∀ {as:List Addr}{N:List (List Int)},NonL H as N->∃ T:List Reel,T.map (·.1)=as++[e]/\NRL H T/\datT T=ZeU N++[[]]/\∀ t∈T,t.2.flatMap cA=[]
 | [],[],_=>⟨[(e,[])],rfl,fun t ht=>by rw[Yaj.mp ht];exact⟨he,fun c hc=>nomatch hc⟩,rfl,fun t ht=>by rw[Yaj.mp ht];rfl⟩
 | [],_::_,h=>by have:=h.1;simp at this
 | _::_,[],h=>by have:=h.1;simp at this
 | a::as,x::N,h=>by
  obtain⟨T,h1,h2,h3,h4⟩:=NonL.reels he (as:=as) (N:=N) ⟨by simpa using h.1,fun j r xs p q=>h.2 (j+1) r xs (by simpa using p) (by simpa using q)⟩;have h0:=h.2 0 a x rfl rfl;have hc:∀ c∈Yan x.length (none:Cell),c=none:=fun c hc=>YeL hc;refine⟨(a,Yan x.length none)::T,by rw[YaJ,h1];rfl,fun t ht=>?_,?_,fun t ht=>?_⟩
  ·rcases YaD.mp ht with rfl | ht
   ·refine⟨by rw[h0];simp[cV],fun c hc'=>?_⟩;rw[hc c hc'];trivial
   ·exact h2 t ht
  ·show (Yan x.length (none:Cell)).map cD::datT T=_;rw[h3];simp[ZeU,cD]
  ·rcases YaD.mp ht with rfl | ht
   ·rw[List.flatMap_eq_nil_iff];intro c hc';rw[hc c hc'];rfl
   ·exact h4 t ht
theorem Zkn {H0 H:Hp}{T:List Reel}{D:List Rows}{r j:Nat}{row:Rows}{q:Addr}{x:List Int} (hN:NRL H T) (hD:datT T=D) (hr:D[r]?=some row) (hc:row[j]?=some none) (hnd:(T.map (·.1)).Nodup) (hh:∀ t∈T,H0 t.1=none) (hca:∀ t∈T,∀ a∈t.2.flatMap cA,H0 a≠none) (hq:H0 q≠none) (hqx:H q=some (.lst (x.map V.int))) :
  ∃ (t:Reel) (T':List Reel),T[r]?=some t/\H t.1=some (.lst (t.2.map cV))/\j<t.2.length/\H0 t.1=none/\refT T'=refT T/\T'.map (·.1)=T.map (·.1)/\NRL (upd H t.1 (.lst ((t.2.map cV).set j (.ref q)))) T'/\datT T'=D.set r (row.set j (some x))/\(∀ t∈T',H0 t.1=none)/\∀ t∈T',∀ a∈t.2.flatMap cA,H0 a≠none:=by
 subst hD;unfold datT at hr;rw[Yaf] at hr;obtain⟨t,ht,e⟩:=YcJ.mp hr;subst e;have htm:=Yam ht;have hrl:=(Yab.mp ht).1
 have hjl:j<t.2.length:=by have:=(Yab.mp hc).1;simpa using this
 have hset:∀ t'∈T.set r (t.1,t.2.set j (some (q,x))),t'=(t.1,t.2.set j (some (q,x)))∨(t'∈T/\t'.1≠t.1):=fun t' h=>by
  obtain⟨i,hi⟩:=YbS h;by_cases e:i=r
  ·subst e;rw[YbI hrl] at hi;exact .inl (YaB hi).symm
  ·rw[YaO (Ybn e)] at hi;refine .inr ⟨Yam hi,fun z=>e ?_⟩;have h1:(T.map (·.1))[i]?=some t'.1:=by rw[Yaf,hi];rfl
   have h2:(T.map (·.1))[r]?=some t.1:=by rw[Yaf,ht];rfl
   rw[z] at h1;have hi':=(Yab.mp h1).1
   exact (List.getElem?_inj hi' hnd).mp (h1.trans h2.symm)
 have hcell:∀ c:Cell,(∀ a∈cA c,H0 a≠none)->cOk H c->cOk (upd H t.1 (.lst ((t.2.map cV).set j (.ref q)))) c:=fun c h1 h2=>h2.off fun z=>h1 _ z (hh t htm);refine⟨t,T.set r (t.1,t.2.set j (some (q,x))),ht,(hN t htm).1,hjl,hh t htm,?_,?_,fun t' h'=>?_,?_,fun t' h'=>?_,fun t' h' a ha=>?_⟩
 ·unfold refT;rw[YbZ];refine ZdZ ?_;rw[Yaf,ht];rfl
 ·rw[YbZ];refine ZdZ ?_;rw[Yaf,ht];rfl
 ·rcases hset t' h' with rfl | ⟨h1,h2⟩
  ·refine⟨?_,fun c hc'=>?_⟩
   ·show upd H t.1 _ t.1=_;rw[Zab,YbZ];rfl
   ·rcases Ybb hc' with h | rfl
    ·exact hcell c (fun a ha=>hca t htm a (YaL.mpr ⟨c,h,ha⟩)) ((hN t htm).2 c h)
    ·refine hcell _ (fun a ha=>?_) hqx;have:a=q:=by simpa[cA] using ha
     rw[this];exact hq
  ·refine⟨by rw[Zai h2];exact (hN t' h1).1,fun c hc'=>hcell c (fun a ha=>hca t' h1 a (YaL.mpr ⟨c,hc',ha⟩)) ((hN t' h1).2 c hc')⟩
 ·unfold datT;rw[YbZ,YbZ];rfl
 ·rcases hset t' h' with rfl | ⟨h1,h2⟩
  ·exact hh t htm
  ·exact hh t' h1
 ·rcases hset t' h' with rfl | ⟨h1,h2⟩
  ·obtain⟨c,hc',hac⟩:=YaL.mp ha;rcases Ybb hc' with h | rfl
   ·exact hca t htm a (YaL.mpr ⟨c,h,hac⟩)
   ·have:a=q:=by simpa[cA] using hac
    rw[this];exact hq
  ·exact hca t' h1 a ha
end Lv
namespace Fw
open PySem L2
def val (ns:List Int) (p:Int):Int:=ns.getD p.toNat 0
def upto (n:Nat):List Int:=(YaE n).map fun (i:Nat)=>(i:Int)
def there (n:Nat) (r:Int) (w:List Int):List Int:=(upto (min n (w.length+r.toNat))).filter fun p=>!w.contains p
def fits (ns w:List Int) (p:Int):Bool:=w.isEmpty || decide (val ns (w.getLast?.getD 0)<=val ns p)
def cand (ns hs w:List Int):List Int:=if (hs.filter (fits ns w)).isEmpty then hs else hs.filter (fits ns w)
def pick (ns:List Int):List Int->Int
 | []=>0
 | b::c=>(b::c).foldl (fun b p=>if val ns p<val ns b then p else b) b
def writ (ns:List Int) (r:Int):Nat->List Int
 | 0=>[]
 | t+1=>writ ns r t++[pick ns (cand ns (there ns.length r (writ ns r t)) (writ ns r t))]
theorem writ_len (ns:List Int) (r:Int):∀ t,(writ ns r t).length=t
 | 0=>rfl
 | t+1=>by unfold writ;rw[Yag,writ_len ns r t];rfl
theorem upto_lt {n:Nat}{p:Int}:p∈upto n↔0<=p/\p<n:=by
 unfold upto;rw[YaS];constructor
 ·rintro⟨i,hi,rfl⟩;have:=Ybu.mp hi;omega
 ·rintro⟨h0,h1⟩;exact⟨p.toNat,Ybu.mpr (by omega),by omega⟩
theorem Zbl (n:Nat):upto (n+1)=upto n++[(n:Int)]:=by
 unfold upto;rw[Yb2,Yai];rfl
theorem Zbu:∀ n,(upto n).Pairwise (·<·)
 | 0=>Yb4
 | n+1=>by
  rw[Zbl];refine Ya0.mpr ⟨Zbu n,Ydl _ _,fun a ha b hb=>?_⟩;have:=(upto_lt.mp ha).2
  rw[Yaj] at hb;omega
theorem ZaV (n:Nat):(upto n).length=n:=by unfold upto;simp
theorem ZbH (n:Nat) (r:Int) (w:List Int):(there n r w).Pairwise (·<·):=(Zbu _).filter _
theorem mem_there {n:Nat}{r:Int}{w:List Int}{p:Int}:p∈there n r w↔(0<=p/\p<(min n (w.length+r.toNat):Nat))/\p ∉ w:=by
 unfold there;rw[Ydy,upto_lt];simp
theorem Zey:∀ {a b:List Int},a.Nodup->(∀ x∈a,x∈b)->a.length<=b.length
 | [],_,_,_=>Ya2 _
 | x::a,b,nd,h=>by
  obtain⟨h1,h2⟩:=YbY.mp nd;have hx:=h x Yay;have:=Zey (a:=a) (b:=b.erase x) h2 fun y hy=>by
   have ne:y≠x:=by rintro rfl;exact h1 hy
   exact (List.mem_erase_of_ne ne).mpr (h y (Yas _ hy))
  rw[YeJ hx] at this;have:0<b.length:=Ydt hx;rw[YaH];omega
theorem Zcd {l:List Int} (h:l.Pairwise (·<·)):l.Nodup:=h.imp fun {a b} hab=>Int.ne_of_lt hab
structure Good (n:Nat) (r:Int) (w:List Int):Prop where
 nd:w.Nodup
 lt:∀ q∈w,0<=q/\q<n/\q+1<w.length+r
theorem Good.nil (n:Nat) (r:Int):Good n r []:=⟨Ycm,fun q h=>nomatch h⟩
theorem Good.le {n:Nat}{r:Int}{w:List Int} (g:Good n r w):w.length<=n:=by
 have:=Zey (b:=upto n) g.nd fun q hq=>upto_lt.mpr ⟨(g.lt q hq).1,(g.lt q hq).2.1⟩
 rwa [ZaV] at this
theorem Good.some {n:Nat}{r:Int}{w:List Int} (g:Good n r w) (hr:1<=r) (h:w.length<n):there n r w≠[]:=by
 intro e;have:(upto (min n (w.length+r.toNat))).length<=w.length:=Zey (Zcd (Zbu _)) fun q hq=>by
  refine Ybq fun hn=>?_;have:q∈there n r w:=mem_there.mpr ⟨upto_lt.mp hq,hn⟩;rw[e] at this;cases this
 rw[ZaV] at this;omega
theorem Good.snoc {n:Nat}{r:Int}{w:List Int}{p:Int} (g:Good n r w) (hr:1<=r) (h:p∈there n r w):Good n r (w++[p]):=by
 obtain⟨⟨h0,h1⟩,h2⟩:=mem_there.mp h;refine⟨?_,fun q hq=>?_⟩
 ·rw[Yce];refine⟨g.nd,YbY.mpr ⟨by simp,Ycm⟩,fun a ha b hb=>?_⟩;rw[Yaj] at hb;rintro rfl;rw[hb] at ha;exact h2 ha
 ·rw[Yag,Yb8];rcases Yah.mp hq with z | z
  ·have:=g.lt q z;refine⟨this.1,this.2.1,?_⟩;omega
  ·rw[Yaj] at z;subst z;refine⟨h0,by omega,?_⟩;omega
theorem Good.full {n:Nat}{r:Int}{w:List Int} (g:Good n r w) (hr:1<=r) (h:there n r w≠[]):w.length<n:=by
 cases e:there n r w with
 | nil=>exact absurd e h
 | cons p rest=>
  have:=(g.snoc hr (by rw[e];exact Yay:p∈there n r w)).le;rw[Yag,Yb8] at this;omega
theorem Zc4:∀ {l:List Int}{p:Int}{f:Int->Bool},l.Nodup->(∀ q∈l,q≠p->f q=true)->f p=false->l.filter f=l.erase p
 | [],_,_,_,_,_=>rfl
 | x::l,p,f,nd,h,hp=>by
  obtain⟨h1,h2⟩:=YbY.mp nd;by_cases e:x=p
  ·subst e;rw[Yee,hp,List.erase_cons_head];simp only[YaT,if_false];rw[Yfh];intro q hq;exact h q (Yas _ hq) (by rintro rfl;exact h1 hq)
  ·rw[Yee,h x Yay e];simp only[if_true];rw[List.erase_cons,if_neg (by simpa using e)];rw[Zc4 h2 (fun q hq=>h q (Yas _ hq)) hp]
theorem Zhx {n:Nat}{r:Int}{w:List Int}{p:Int} (g:Good n r w) (hr:1<=r) (hp:p∈there n r w) :
  there n r (w++[p])=(there n r w).erase p++(if (w.length:Int)+r<n then [(w.length:Int)+r] else []):=by
 obtain⟨⟨h0,h1⟩,h2⟩:=mem_there.mp hp;have e1:(there n r w).erase p=(upto (min n (w.length+r.toNat))).filter fun q=>!(w++[p]).contains q:=by
  rw[<- Zc4 (f:=fun q=>!(w++[p]).contains q) (Zcd (ZbH n r w)) ?_ (by simp)]
  ·unfold there;rw[List.filter_filter];congr 1
   funext q
   by_cases a:q∈w <;> by_cases b:q=p <;> simp[a,b]
  ·intro q hq hne;have:=(mem_there.mp hq).2
   simp[this,hne]
 rw[e1];unfold there;rw[Yag,Yb8];by_cases hlt:(w.length:Int)+r<n
 ·rw[if_pos hlt,show min n (w.length+1+r.toNat)=min n (w.length+r.toNat)+1 by omega,Zbl,YcH];congr 1;have e2:((min n (w.length+r.toNat):Nat):Int)=(w.length:Int)+r:=by omega
  rw[e2];have nw:(w.length:Int)+r ∉ w++[p]:=by
   intro z;rcases Yah.mp z with z | z
   ·have:=(g.lt _ z).2.2
    omega
   ·rw[Yaj] at z;omega
  rw[Yee];rw[if_pos (by simpa using nw)];rfl
 ·rw[if_neg hlt,Ya4,show min n (w.length+1+r.toNat)=min n (w.length+r.toNat) by omega]
theorem Zf1 (n:Nat) (r:Int):there n r []=(upto n).filter fun p=>decide (p<r):=by
 unfold there;rw[YcF,YbT];rw[show (upto (min n r.toNat)).filter (fun p=>!([]:List Int).contains p)=upto (min n r.toNat) by rw[Yfh];simp]
 induction n with
 | zero=>rw[Nat.zero_min];rfl
 | succ n ih=>
  rw[Zbl,YcH,<- ih];by_cases h:(n:Int)<r
  ·rw[show min (n+1) r.toNat=min n r.toNat+1 by omega,Zbl,show min n r.toNat=n by omega];simp[h]
  ·rw[show min (n+1) r.toNat=min n r.toNat by omega];simp[h]
def btOf (ns c:List Int):Nat->Nat->Bool:=fun i j=>HT.lexLt ((c.map fun p=>[val ns p,p]).getD i []) ((c.map fun p=>[val ns p,p]).getD j [])
def better (ns:List Int) (b p:Int):Int:=if val ns p<val ns b then p else b
theorem Zow {ns c:List Int}{i j:Nat}{x y:Int} (hi:c[i]?=some x) (hj:c[j]?=some y) (h:y<x):btOf ns c i j=decide (val ns x<val ns y):=by
 unfold btOf;rw[Yak,Yak,Yaf,Yaf,hi,hj];show HT.lexLt [val ns x,x] [val ns y,y]=_;rw[HT.lexLt_cons];by_cases e:val ns x=val ns y
 ·rw[if_pos e,HT.lexLt_cons,if_neg (by omega),e];have:¬ x<y:=by omega
  simp[this]
 ·rw[if_neg e]
theorem ZfD {ns:List Int}{c:List Int} (hs:c.Pairwise (·<·)) {b:Int} (hb:c[0]?=some b):∀ k,k<c.length->∃ j,argBest (btOf ns c) k=j/\j<=k/\c[j]?=some ((c.take (k+1)).foldl (better ns) b)
 | 0,hk=>by
  refine⟨0,rfl,Yap _,?_⟩
  cases c with
  | nil=>simp at hk
  | cons x c=>
   have e:x=b:=by simpa using hb
   subst e;simp[better]
 | k+1,hk=>by
  obtain⟨j,ej,h2,h3⟩:=ZfD hs hb k (by omega);have hk':c[k+1]?=some c[k+1]:=Yac hk;have hj:j<c.length:=by omega
  have hlt:c[j]<c[k+1]:=Ydd.mp hs j (k+1) hj hk (by omega);have ex:c[j]=(c.take (k+1)).foldl (better ns) b:=by
   rw[Yac hj] at h3;exact YaB h3
  have lex:=Zow (ns:=ns) hk' (Yac hj) hlt;have tk:c.take (k+1+1)=c.take (k+1)++[c[k+1]]:=by rw[YcK hk]
  have fo:(c.take (k+1+1)).foldl (better ns) b=better ns c[j] c[k+1]:=by rw[tk,Yfv,<- ex];rfl
  rw[fo];unfold argBest better;rw[ej,lex];by_cases hv:val ns c[k+1]<val ns c[j]
  ·exact⟨k+1,by simp[hv],Yap _,by rw[if_pos hv];exact hk'⟩
  ·exact⟨j,by simp[hv],by omega,by rw[if_neg hv];exact Yac hj⟩
theorem Zfp (ns:List Int) (b:Int) (c:List Int):pick ns (b::c)=(b::c).foldl (better ns) b:=rfl
theorem ZhV {ns c:List Int} (hs:c.Pairwise (·<·)) (h:c≠[]):c[ZeX (c.map fun p=>[val ns p,p])]?=some (pick ns c):=by
 cases c with
 | nil=>exact absurd rfl h
 | cons b c=>
  obtain⟨j,h1,_,h3⟩:=ZfD (ns:=ns) hs (b:=b) rfl c.length (by simp);have e:ZeX ((b::c).map fun p=>[val ns p,p])=j:=by
   unfold ZeX;rw[Yaa,YaH,Nat.add_sub_cancel];exact h1
  rw[e,h3,Zfp,YaY (by simp)]
theorem Zg1 {ns:List Int}:∀ {c:List Int},c≠[]->pick ns c∈c
 | [],h=>absurd rfl h
 | b::c,_=>by
  have:∀ (l:List Int) (z:Int),l.foldl (better ns) z=z∨l.foldl (better ns) z∈l:=by
   intro l
   induction l with
   | nil=>intro z;exact .inl rfl
   | cons x l ih=>
    intro z;rw[Yc2];rcases ih (better ns z x) with e | e
    ·rw[e];unfold better;split
     ·exact .inr Yay
     ·exact .inl rfl
    ·exact .inr (Yas _ e)
  rw[Zfp];rcases this (b::c) b with e | e
  ·rw[e];exact Yay
  ·exact e
theorem Ze3 {ns hs w:List Int}{p:Int} (h:p∈cand ns hs w):p∈hs:=by
 unfold cand at h;split at h
 ·exact h
 ·exact (Ydy.mp h).1
theorem ZgK {ns hs w:List Int} (h:hs≠[]):cand ns hs w≠[]:=by
 unfold cand;split
 ·exact h
 ·rename_i e;simpa using e
theorem ZgJ {ns hs w:List Int} (h:hs.Pairwise (·<·)):(cand ns hs w).Pairwise (·<·):=by
 unfold cand;split
 ·exact h
 ·exact h.filter _
theorem ZbF {ns:List Int}{r:Int} (hr:1<=r):∀ t,t<=ns.length->Good ns.length r (writ ns r t)
 | 0,_=>Good.nil _ _
 | t+1,h=>by
  have g:=ZbF (ns:=ns) hr t (by omega);refine g.snoc hr (Ze3 (Zg1 (ZgK (g.some hr ?_))));rw[writ_len];omega
end Fw
namespace Fw
open PySem L2
end Fw
namespace Fw
open PySem L2
abbrev Key2:=Nat × Int
def kle (a b:Key2):Prop:=a.1<b.1∨(a.1=b.1/\a.2<=b.2)
def nxtK (k:Option Key2) (v:Int):Key2:=match k with | none=>(0,v) | some (r,l)=>(if v<l then r+1 else r,v)
def Zhb:Option Key2->List Int->List Key2
 | _,[]=>[]
 | k,v::vs=>nxtK k v::Zhb (some (nxtK k v)) vs
noncomputable def wk (ns:List Int) (r:Int) (t:Nat):List Key2:=Zhb none ((writ ns r t).map (val ns))
def lk (ns:List Int) (r:Int) (t:Nat):Option Key2:=(wk ns r t).getLast?
def pk (ns:List Int) (r:Int) (t:Nat):Int:=pick ns (cand ns (there ns.length r (writ ns r t)) (writ ns r t))
structure Holds (n:Nat) (r:Int) (v:List Int):Prop where
 nd:v.Nodup
 lt:∀ (i:Nat) p,v[i]?=some p->0<=p/\p<n/\p<i+r
end Fw
namespace Lv
open PySem L2 Fw
def ZeI:Sp:=fun vs H Q _=>∃ i,vs=[.int i]/\1<=i/\i<=60/\Q .non H
def Sq (K:Yad) (H:Hp) (a:Addr) (xs:List V):Prop:=SqL K H a xs∨SqT K H a xs
theorem _root_.L2.Same.sq {K:Yad}{H H':Hp}{a:Addr}{xs:List V} (e:Same H H') (h:Sq K H a xs):Sq K H' a xs:=h.imp e.seq e.tup
def rIxQ (K:Yad):R2:=fun x y H Q=>∃ p xs i v,x=.ref p/\y=.int i/\Sq K H p xs/\atI xs i=some v/\Q v H
theorem ZnK {X:Cx}:IxR X (rIxQ X.K):=by
 intro value slice pins s σ H x y v u Q I rx ry q hs;obtain⟨p,xs,i,v',e1,e2,hq,e3,q⟩:=q;refine (ix_list.or Zb3) value slice pins s σ H x y v u Q I rx ry ?_ hs;rcases hq with h | h
 ·exact .inl ⟨p,xs,i,v',e1,e2,h,e3,q⟩
 ·exact .inr ⟨p,xs,i,v',e1,e2,h,e3,q⟩
theorem ZjC (K:Yad) {X:Cx} (hK:X.K=K:=by rfl):IxR X (rIxQ K):=by subst hK;exact ZnK
theorem ZiH (K:Yad) {X:Cx}{a:Expr}{ta:TE} (ha:PE X a ta) (he:∀ whole,isTrue a X.env whole=(do let v <- whole;standAt a.pos;holding [v] (truthy v))) (hK:X.K=K:=by rfl) :
  PT X a (fun σ H Q=>ta σ H fun x H'=>∃ k,TruV K x H' k/\Q k H'):=by subst hK;exact Zde ha he
def Zl6 (K:Yad):Sp:=fun vs H Q _=>∃ (a h wl:Addr) (ns hs ws:List Int),vs=[.ref a,.ref h,.ref wl]/\Sq K H a (ns.map V.int)/\SqL K H h (hs.map V.int)/\SqL K H wl (ws.map V.int)/\hs.length<=300/\hs.Pairwise (·<·)/\hs≠[] /\
 (∀ p∈hs,0<=p/\p<ns.length)/\(∀ p∈ws,0<=p/\p<ns.length)/\∀ H',Same H H'->Q (.int (pick ns (cand ns hs ws))) H'
def Zcp (K:Yad):Sp:=fun vs H Q _=>∃ (a:Addr) (ns:List Int) (r:Int),vs=[.ref a,.int r]/\Sq K H a (ns.map V.int)/\ns.length<=300/\1<=r/\r<=60 /\
 ∀ (l:Addr) H',H l=none->H' l=some (.lst ((writ ns r ns.length).map V.int))->Same H H'->Q (.ref l) H'
end Lv
namespace L2
open PySem PySem.Spec PyProof.Rows PySem.SeqAt
end L2
namespace Lv
open PySem L2 Fw
noncomputable def ZbI (R:List (List Int)) (z:Int):List (List Int):=match R.getLast? with
 | none=>[[z]]
 | some r=>if z<r.getLast?.getD z then R++[[z]] else R.dropLast++[r++[z]]
def Zbx (zs:List Int):List (List Int):=zs.foldl ZbI []
theorem Zff (z:Int):ZbI [] z=[[z]]:=rfl
theorem Zbm (R:List (List Int)) (ys:List Int) (lv z:Int):ZbI (R++[ys++[lv]]) z=if z<lv then (R++[ys++[lv]])++[[z]] else R++[ys++[lv]++[z]]:=by
 unfold ZbI;rw[List.getLast?_concat];simp
theorem ZhI {zs:List Int}{i:Nat}{z:Int} (h:zs[i]?=some z):Zbx (zs.take (i+1))=ZbI (Zbx (zs.take i)) z:=by
 unfold Zbx;rw[YaQ,h,Ybp,Yfv];rfl
theorem ZeM:∀ (zs:List Int),(∀ r∈Zbx zs,r≠[])/\(Zbx zs).flatten.length=zs.length:=by
 have go:∀ (zs:List Int) (R:List (List Int)),(∀ r∈R,r≠[])->(∀ r∈zs.foldl ZbI R,r≠[])/\(zs.foldl ZbI R).flatten.length=R.flatten.length+zs.length:=by
  intro zs
  induction zs with
  | nil=>intro R h;exact⟨h,by simp⟩
  | cons z zs ih=>
   intro R h;rw[Yc2];have h2:(∀ r∈ZbI R z,r≠[])/\(ZbI R z).flatten.length=R.flatten.length+1:=by
    rcases Ycb R with rfl | ⟨R',r,rfl⟩
    ·rw[Zff];exact⟨by simp,by simp⟩
    ·have hr:r≠[]:=h r (by simp);obtain⟨ys,lv,rfl⟩:∃ ys lv,r=ys++[lv]:=⟨r.dropLast,r.getLast hr,(YbP hr).symm⟩
     rw[Yb0] at h ⊢;rw[Zbm];split
     ·refine⟨fun q hq=>?_,by simp;omega⟩;rcases Yah.mp hq with hq | hq
      ·exact h q hq
      ·rw[Yaj.mp hq];simp
     ·refine⟨fun q hq=>?_,by simp;omega⟩;rcases Yah.mp hq with hq | hq
      ·exact h q (Ya1 _ hq)
      ·rw[Yaj.mp hq];simp
   obtain⟨i1,i2⟩:=ih (ZbI R z) h2.1;exact⟨i1,by rw[i2,h2.2,YaH];omega⟩
 intro zs;have:=go zs [] (fun r hr=>nomatch hr);exact⟨this.1,this.2.trans (by simp)⟩
theorem Zfl (zs:List Int):(Zbx zs).length<=zs.length:=by
 have h:=ZeM zs;have:∀ (R:List (List Int)),(∀ r∈R,r≠[])->R.length<=R.flatten.length:=by
  intro R
  induction R with
  | nil=>intro _;simp
  | cons r R ih=>
   intro h;have h1:=ih fun q hq=>h q (Yas _ hq);have h2:1<=r.length:=Yc0.mpr (h r Yay);simp only[YaH,YaF,Yag];omega
 rw[<- h.2];exact this _ h.1
structure Rws3 (H0 H:Hp) (l:Addr) (rf:List Addr) (R:List (List Int)):Prop where
 top:H l=some (.lst (rf.map V.ref))
 rows:LLs H rf R
 own:∀ q∈rf,H0 q=none/\q≠l
 nd:rf.Nodup
def ZeB (K:Yad):Sp:=fun vs H Q _=>∃ (a wl:Addr) (b:Bool) (ns ws:List Int),vs=[.ref a,.ref wl]/\Sq K H a (ns.map V.int)/\SqB b K H wl (ws.map V.int)/\ws.length<=300/\(∀ p∈ws,0<=p/\p<ns.length) /\
 ∀ (l:Addr) (rf:List Addr) H',H l=none->Rws3 H H' l rf (Zbx (ws.map (val ns)))->Same H H'->Q (.ref l) H'
theorem SqB.same {b:Bool}{K:Yad}{H H':Hp}{a:Addr}{xs:List V} (e:Same H H') (h:SqB b K H a xs):SqB b K H' a xs:=by
 cases b
 ·exact e.tup h
 ·exact e.seq h
theorem Rws3.fresh {H0 H:Hp}{l q:Addr}{rf:List Addr}{R:List (List Int)}{z:Int} (h:Rws3 H0 H l rf R) (s:Same H0 H) (hl:H0 l=none) (hq:H q=none):Rws3 H0 (upd (upd (upd H q (.lst [])) l (.lst (rf.map V.ref++[.ref q]))) q (.lst [.int z])) l (rf++[q]) (R++[[z]]):=by
 have lq:l≠q:=Zae h.top hq;have hqs:q ∉ rf:=fun hm=>by
  obtain⟨i,hi⟩:=Ycq.mp hm;have hil:=(Yab.mp hi).1
  have:=h.rows.2 i q _ hi (Yac (by rw[<- h.rows.1];exact hil));rw[hq] at this;cases this
 refine⟨by rw[Zai lq,Zab,Yai];rfl,⟨by rw[Yag,Yag,h.rows.1];rfl,fun j r xs e1 e2=>?_⟩,fun p hp=>?_,?_⟩
 ·rcases Ybt j rf.length with hj | hj
  ·rw[Yaz hj] at e1;rw[Yaz (by rw[<- h.rows.1];exact hj)] at e2;have hm:=Yam e1;have hrq:r≠q:=fun z=>hqs (by rw[<- z];exact hm);rw[Zai hrq,Zai (h.own r hm).2,Zai hrq];exact h.rows.2 j r xs e1 e2
  ·rw[YaG hj] at e1;rw[YaG (by rw[<- h.rows.1];exact hj),<- h.rows.1] at e2
   cases e3:j - rf.length with
   | zero=>rw[e3] at e1 e2;cases e1;cases e2;rw[Zab];rfl
   | succ n=>rw[e3] at e1;cases e1
 ·rcases Yah.mp hp with hp | hp
  ·exact h.own p hp
  ·rw[Yaj.mp hp];exact⟨s.free hq,Ybn lq⟩
 ·exact Yce.mpr ⟨h.nd,YbY.mpr ⟨YbL,Ycm⟩,fun x hx y hy z=>hqs (by rw[Yaj.mp hy] at z;rw[<- z];exact hx)⟩
theorem Rws3.more {H0 H:Hp}{l x:Addr}{rf:List Addr}{R:List (List Int)}{ys:List Int}{z:Int} (h:Rws3 H0 H l (rf++[x]) (R++[ys])):Rws3 H0 (upd H x (.lst (ys.map V.int++[.int z]))) l (rf++[x]) (R++[ys++[z]]):=by
 have hlen:rf.length=R.length:=by have:=h.rows.1;simpa using this
 have hx:=h.own x (by simp);refine⟨by rw[Zai (Ybn hx.2)];exact h.top,⟨by simp[hlen],fun j r xs e1 e2=>?_⟩,h.own,h.nd⟩;rcases Ybt j rf.length with hj | hj
 ·have e1':(rf++[x])[j]?=some r:=e1;rw[Yaz hj] at e1;rw[Yaz (by omega)] at e2;have hne:r≠x:=fun z=>by
   subst z;have:=Yce.mp h.nd;exact this.2.2 r (Yam e1) r (by simp) rfl
  rw[Zai hne];exact h.rows.2 j r xs e1' (by rw[Yaz (by omega)];exact e2)
 ·rw[YaG hj] at e1;rw[YaG (by omega),<- hlen] at e2
  cases e3:j - rf.length with
  | zero=>rw[e3] at e1 e2;cases e1;cases e2;rw[Zab];simp
  | succ n=>rw[e3] at e1;cases e1
theorem Rws3.last {H0 H:Hp}{l:Addr}{rf:List Addr}{R:List (List Int)}{ys:List Int} (h:Rws3 H0 H l rf (R++[ys])):∃ rf0 x,rf=rf0++[x]/\rf0.length=R.length/\H x=some (.lst (ys.map V.int)):=by
 have hl:=h.rows.1;rw[Yag] at hl;rcases Ycb rf with rfl | ⟨rf0,x,rfl⟩
 ·simp at hl
 ·rw[Yb0] at h hl ⊢;have hl2:rf0.length=R.length:=by simpa using hl
  refine⟨rf0,x,rfl,hl2,h.rows.2 rf0.length x ys (by simp) (by rw[hl2];simp)⟩
def Zdv (K:Yad):Sp:=fun vs H Q _=>∃ (a:Addr) (ns:List Int) (r:Int),vs=[.ref a,.int r]/\Sq K H a (ns.map V.int)/\ns.length<=300/\1<=r/\r<=60/\∀ H',Same H H'->Q (.int (Zbx ((writ ns r ns.length).map (val ns))).length) H'
end Lv
namespace L2
open PySem PySem.Spec PyProof.Rows PySem.SeqAt
section
variable {X:Cx}
theorem Zh4:Zbf X (.builtin "sorted") (fun xs H Q=>∃ (a:Addr) (b:Bool) (ns:List Int),xs=[.ref a]/\SqB b X.K H a (ns.map V.int)/\∀ (l:Addr) (ms:List Int),H l=none->ms.Perm ns->ms.Pairwise (·<=·)->Q (.ref l) (upd H l (.lst (ms.map V.int)))):=by
 intro pins s σ H xs us Q I r h;obtain⟨a,b,ns,e,hq,q⟩:=h
 cases b with
 | true=>exact Zbb pins s σ H xs us Q I r ⟨a,ns,e,hq,q⟩
 | false=>exact ZgL pins s σ H xs us Q I r ⟨a,ns,e,hq,q⟩
end
end L2
namespace Lv
open PySem L2 Fw
structure HoldsP (n:Nat) (r:Int) (ws:List Int):Prop where
 len:ws.length=n
 nd:ws.Nodup
 rg:∀ p∈ws,0<=p/\p<(n:Int)
 bd:∀ (i:Nat) (p:Int),ws[i]?=some p->p<i+r
theorem Ziz:∀ (ms:List Int) (lo:Int),ms.Pairwise (·<·)->(∀ p∈ms,lo<=p)->∀ (i:Nat) (p:Int),ms[i]?=some p->lo+i<=p
 | [],_,_,_,i,p,h=>by cases h
 | x::r,lo,hs,hb,0,p,h=>by cases h;have:=hb x Yay;omega
 | x::r,lo,hs,hb,i+1,p,h=>by
  have hx:=hb x Yay;have h2:=Ybf.mp hs;have:=Ziz r (lo+1) h2.2 (fun q hq=>by have:=h2.1 q hq;omega) i p h;omega
theorem Zgp:∀ (ms:List Int) (hi:Int),ms.Pairwise (·<·)->(∀ p∈ms,p<hi)->∀ (i:Nat) (p:Int),ms[i]?=some p->p+ms.length<=hi+i
 | [],_,_,_,i,p,h=>by cases h
 | [x],hi,hs,hb,0,p,h=>by cases h;have:=hb x Yay;simp;omega
 | x::y::r,hi,hs,hb,0,p,h=>by
  cases h;have h2:=Ybf.mp hs;have h3:=Zgp (y::r) hi h2.2 (fun q hq=>hb q (Yas _ hq)) 0 y rfl;have:=h2.1 y Yay;simp only[YaH] at h3 ⊢;omega
 | x::r,hi,hs,hb,i+1,p,h=>by
  have h2:=Ybf.mp hs;have h3:=Zgp r hi h2.2 (fun q hq=>hb q (Yas _ hq)) i p h;simp only[YaH];omega
theorem Ziy {ms:List Int}{n:Nat} (hs:ms.Pairwise (·<·)) (hb:∀ p∈ms,0<=p/\p<(n:Int)) (hl:ms.length=n):ms=upto n:=by
 refine YbE (by rw[ZaV,hl]) fun i h1 h2=>?_;have a:=Ziz ms 0 hs (fun p hp=>(hb p hp).1) i _ (Yac h1);have b:=Zgp ms n hs (fun p hp=>(hb p hp).2) i _ (Yac h1);have hin:i<n:=by omega
 have c:(upto n)[i]?=some (i:Int):=by unfold upto;rw[Yaf,Yc1 hin];rfl
 have c2:(upto n)[i]=(i:Int):=(Yab.mp c).2
 rw[c2];omega
theorem Zfi {ms ws:List Int}{n:Nat} (hp:ms.Perm ws) (hs:ms.Pairwise (·<=·)) (hb:∀ p∈ws,0<=p/\p<(n:Int)):ms=upto n↔ws.length=n/\ws.Nodup:=by
 refine⟨fun e=>?_,fun ⟨hl,nd⟩=>?_⟩
 ·subst e;exact⟨by rw[<- hp.length_eq,ZaV],hp.nodup_iff.mp ((Zbu n).imp fun h=>Int.ne_of_lt h)⟩
 ·have nm:=hp.nodup_iff.mpr nd;have hs2:ms.Pairwise (·<·):=(hs.and nm).imp fun ⟨a,b⟩=>by omega
  exact Ziy hs2 (fun p hm=>hb p (hp.mem_iff.mp hm)) (by rw[hp.length_eq,hl])
def inB (n:Nat) (p:Int):Bool:=decide (0<=p/\p<(n:Int))
def bdB (r:Int) (ws:List Int) (i:Nat):List Bool:=(YaE i).map fun (j:Nat)=>decide (ws.getD j 0<(j:Int)+r)
theorem bdB_all {r:Int}{ws:List Int}:(bdB r ws ws.length).all id=true↔∀ (i:Nat) (p:Int),ws[i]?=some p->p<i+r:=by
 unfold bdB;rw[List.all_map,Ycl];refine⟨fun h i p e=>?_,fun h j hj=>?_⟩
 ·have:=h i (Ybu.mpr (Yab.mp e).1);have:ws.getD i 0<(i:Int)+r:=of_decide_eq_true this;rw[Yak,e] at this;exact this
 ·have hj:=Ybu.mp hj;refine decide_eq_true ?_;rw[Yak,Yac hj];exact h j _ (Yac hj)
theorem Zls {r:Int}{ws:List Int}{i:Nat}{p:Int} (h:ws[i]?=some p):bdB r ws (i+1)=bdB r ws i++[decide (p<(i:Int)+r)]:=by
 unfold bdB;rw[Yb2,Yai,YaJ,Yc9,Yak,h];rfl
theorem inB_all {n:Nat}{ws:List Int}:(ws.map (inB n)).all id=true↔∀ p∈ws,0<=p/\p<(n:Int):=by
 rw[List.all_map,Ycl];exact⟨fun h p hp=>of_decide_eq_true (h p hp),fun h p hp=>decide_eq_true (h p hp)⟩
structure HoldsT (n:Nat) (r:Int) (ws:List Int) (t:Nat):Prop where
 nd:(ws.take t).Nodup
 rg:∀ p∈ws.take t,0<=p/\p<(n:Int)
 bd:∀ (i:Nat) (p:Int),(ws.take t)[i]?=some p->p<i+r
def ZeG (K:Yad):Sp:=fun vs H Q _=>∃ (a wl:Addr) (b:Bool) (ns ws:List Int) (r:Int),vs=[.ref a,.int r,.ref wl]/\Sq K H a (ns.map V.int)/\SqB b K H wl (ws.map V.int)/\ns.length<=300/\ws.length<=400/\1<=r/\r<=60 /\
 ∀ (c:Bool) H',(c=true↔HoldsP ns.length r ws)->Same H H'->Q (.bl c) H'
end Lv
namespace Lv
open PySem L2 Fw
theorem Zkm {R:List (List Int)} (z:Int) (h:∀ r∈R,r≠[]):∀ r∈ZbI R z,r≠[]:=by
 rcases Ycb R with rfl | ⟨R',r,rfl⟩
 ·rw[Zff];simp
 ·rw[Yb0] at h ⊢;have hr:r≠[]:=h r (by simp);obtain⟨ys,lv,rfl⟩:∃ ys lv,r=ys++[lv]:=⟨r.dropLast,r.getLast hr,(YbP hr).symm⟩
  rw[Zbm];split
  ·intro q hq;rcases Yah.mp hq with hq | hq
   ·exact h q hq
   ·rw[Yaj.mp hq];simp
  ·intro q hq;rcases Yah.mp hq with hq | hq
   ·exact h q (Ya1 _ hq)
   ·rw[Yaj.mp hq];simp
theorem ZfF:∀ (zs:List Int) (R:List (List Int)),(∀ r∈R,r≠[])->(zs.foldl ZbI R).flatten=R.flatten++zs
 | [],R,_=>by simp
 | z::zs,R,h=>by
  rw[Yc2,ZfF zs _ (Zkm z h)];have:(ZbI R z).flatten=R.flatten++[z]:=by
   rcases Ycb R with rfl | ⟨R',r,rfl⟩
   ·rfl
   ·rw[Yb0] at h ⊢;have hr:r≠[]:=h r (by simp);obtain⟨ys,lv,rfl⟩:∃ ys lv,r=ys++[lv]:=⟨r.dropLast,r.getLast hr,(YbP hr).symm⟩
    rw[Zbm];split <;> simp
  rw[this,Yax];rfl
theorem ZhJ (zs:List Int):(Zbx zs).flatten=zs:=by
 have:=ZfF zs [] (fun r hr=>nomatch hr);unfold Zbx;rw[this];rfl
theorem Zh9 (ns:List Int):(upto ns.length).map (val ns)=ns:=by
 refine YbE (by rw[Yaa,ZaV]) fun i h1 h2=>?_;have c:(upto ns.length)[i]?=some (i:Int):=by unfold upto;rw[Yaf,Yc1 h2];rfl
 have c2:((upto ns.length).map (val ns))[i]?=some (val ns i):=by rw[Yaf,c];rfl
 have:=(Yab.mp c2).2
 rw[this];unfold val;simp[h2]
theorem ZiR {n:Nat}{ws:List Int} (hl:ws.length=n) (nd:ws.Nodup) (rg:∀ p∈ws,0<=p/\p<(n:Int)):ws.Perm (upto n):=by
 have sub:∀ x∈ws,x∈upto n:=fun x hx=>upto_lt.mpr (rg x hx);have hp:=Yfd ws (fun a b=>decide (a<=b));have hs:(ws.mergeSort (fun a b=>decide (a<=b))).Pairwise (·<=·):=by
  have:=YeM (le:=fun a b:Int=>decide (a<=b)) (fun a b c h1 h2=>by simp at *;omega) (fun a b=>by simp;omega) ws;exact this.imp fun h=>by simpa using h
 have:=(Zfi hp hs rg).mpr ⟨hl,nd⟩;rw[<- this];exact hp.symm
theorem Zia {ns ws:List Int}{r:Int} (h:HoldsP ns.length r ws):(ws.map (val ns)).Perm ns:=by
 have:=(ZiR h.len h.nd h.rg).map (val ns)
 rwa [Zh9] at this
theorem Zhr {ns:List Int}{r:Int} (hr:1<=r):HoldsP ns.length r (writ ns r ns.length):=by
 have g:=ZbF (ns:=ns) hr ns.length (Yap _);refine⟨writ_len _ _ _,g.nd,fun p hp=>⟨(g.lt p hp).1,(g.lt p hp).2.1⟩,fun i p e=>?_⟩;have pre:∀ t:Nat,t<=ns.length->∀ (i:Nat) (p:Int),(writ ns r t)[i]?=some p->p<i+r:=by
  intro t
  induction t with
  | zero=>intro _ i p h;cases i <;> cases h
  | succ t ih=>
   intro ht i p h;have g2:=ZbF (ns:=ns) hr (t+1) ht;have hil:=(Yab.mp h).1
   rw[writ_len] at hil;by_cases hi:i<t
   ·refine ih (by omega) i p ?_;have h:(writ ns r t++[pick ns (cand ns (there ns.length r (writ ns r t)) (writ ns r t))])[i]?=some p:=h
    rwa [Yaz (by rw[writ_len];exact hi)] at h
   ·have:=(g2.lt p (Yam h)).2.2
    rw[writ_len] at this;omega
 exact pre _ (Yap _) i p e
end Lv
namespace Lv
open PySem L2 Fw
structure HI (n:Nat) (r:Int) (ly fs:List Int) (c:Nat):Prop where
 pm:(fs++ly).Perm (upto c)
 bd:∀ (i:Nat) (p:Int),fs[i]?=some p->p<i+r
 cn:c=min n (fs.length+r.toNat)
end Lv
namespace Lv
open PySem L2 Fw
end Lv
namespace Lv
open PySem L2 Fw
end Lv
namespace Lv
open PySem L2
theorem Zdn {α:Type}{c:List α}{i:Nat}{x:α} (h:c[i]?=some x):c.take (i+1)=c.take i++[x]:=by rw[YaQ,h];rfl
def nfR (ks:List (Int × Int)) (i:Nat) (x:Int):List Bool:=(YaE x.toNat).map fun (j:Nat)=>decide (((i:Int),(j:Int))∈ks)
def nf (ks:List (Int × Int)):Nat->List Int->List (List Bool)
 | _,[]=>[]
 | i,x::c=>nfR ks i x::nf ks (i+1) c
def dP (ks:List (Int × Int)):List (List Key × V):=ks.map fun z=>([YdQ z.1,YdQ z.2],V.bl true)
end Lv
namespace L2
open PySem PySem.Spec PyProof.Rows PySem.W
section
variable {X:Cx}
end
end L2
namespace L2
open PySem PySem.Spec PyProof.Rows PySem.SeqAt Lv
end L2
namespace L2
open PySem PySem.Spec PyProof.Rows PySem.W
end L2
namespace Lv
open PySem L2
end Lv
namespace Lv
open PySem L2
def Zop (r:List (List Int)):List Int:=r.getLastD []
def wr (L:List (List (List Int))):List Int:=(L.map Zop).flatten
end Lv
namespace Lv
open PySem L2
theorem Zlo (xs:List V) (c:Nat):cutV xs none (some (c:Int))=xs.take c:=by
 unfold cutV;show (xs.drop 0).take (HT.sIx xs.length xs.length (some (c:Int)) - 0)=_;rw[HT.sIx_nat,Ye3,Yde];by_cases h:c<=xs.length
 ·rw[Yb3 h]
 ·rw[YcW (by omega),YaM,YaY (by omega)]
theorem Zlp (xs:List V) (c:Nat):cutV xs (some (c:Int)) none=xs.drop c:=by
 unfold cutV;rw[HT.sIx_nat];show (xs.drop (min c xs.length)).take (xs.length - min c xs.length)=_;by_cases h:c<=xs.length
 ·rw[Yb3 h,YaY (by simp)]
 ·rw[YcW (by omega),List.drop_length,YeR (by omega)];simp
end Lv
namespace Fj89
open PySem L2 Lv
def top (i:Nat):Stmt:=PySem.Challenge.pw_fewreels_k89_whole_from_store_to_one_row.main.body.getD i (.Pass ⟨0,0,0,0⟩)
abbrev Zd1:Stmt:=top 9
abbrev ZcX:Stmt:=top 10
abbrev Zd2:Stmt:=top 11
abbrev ZhB:Stmt:=top 17
abbrev Zd7:Stmt:=top 18
abbrev Zd9:Stmt:=top 19
abbrev Zgm:Stmt:=top 20
abbrev ZcI:Stmt:=top 21
abbrev Zd3:Stmt:=top 22
abbrev sOf:Stmt:=top 23
abbrev ZhE:Stmt:=top 25
abbrev ZcE:Stmt:=top 27
abbrev ZhG:Stmt:=top 29
abbrev Zgl:Stmt:=top 30
abbrev Zgn:Stmt:=top 31
abbrev Zgk:Stmt:=top 32
abbrev ZdO:Stmt:=top 33
abbrev Zfk:Stmt:=top 34
abbrev sLPh:Stmt:=top 35
abbrev ZhF:Stmt:=top 37
abbrev Zcs:Stmt:=top 38
abbrev sTot:Stmt:=top 41
abbrev ZcD:Stmt:=top 42
abbrev ZcG:Stmt:=top 43
abbrev ZcZ:Stmt:=top 44
abbrev Zeb:Stmt:=top 45
abbrev Zd6:Stmt:=top 46
abbrev Zbn:Stmt:=top 47
abbrev ZhC:Stmt:=top 48
abbrev sLN:Stmt:=top 49
abbrev ZcF:Stmt:=top 50
abbrev Zb9:Stmt:=top 52
abbrev ZbW:Stmt:=top 53
abbrev ZhD:Stmt:=top 54
abbrev ZcJ:Stmt:=top 55
abbrev sBPl:Stmt:=top 56
abbrev Zea:Stmt:=top 59
abbrev ZcY:Stmt:=top 60
abbrev Zbv:Stmt:=top 61
abbrev Zbw:Stmt:=top 62
abbrev Zd5:Stmt:=top 63
abbrev ZcH:Stmt:=top 64
abbrev Zd8:Stmt:=top 66
abbrev ZcK:Stmt:=top 67
abbrev Zd4:Stmt:=top 68
abbrev Zd0:Stmt:=top 69
abbrev ZcC:Stmt:=top 70
abbrev Zdy:Stmt:=top 71
abbrev ZcW:Stmt:=top 72
abbrev sLaw:Stmt:=top 73
end Fj89
namespace Fj89
open PySem L2 Lv
section
variable {P:Program}{w:World}{K:Yad}{mg:Str->Option Value}{base:Heap}
theorem Zma:FnScope ["thing"] ["thing"] (Zac Zd1):=⟨rfl,rfl,rfl,by decide +kernel,rfl,by decide +kernel,by decide +kernel⟩
theorem ZkN {f:Addr}{fd:FuncData} (F:Fun K "is_whole" "is_whole" Zd1 f fd) (T:Txt mg):FnOk P w K mg base CX0 1 f fd ["thing"] ZbJ:=by
 refine F.ok Zma (fun vs H Q E h=>?_) (fun cdv A outer s H vs Q E hr h=>?_)
 ·obtain⟨i,rfl,_⟩:=h;rfl
 ·obtain⟨i,rfl,k⟩:=h;refine⟨_,Zak (Zas (Zfs (Zaj Zcg rfl T.isinstance ZbR (Zaa (pv 0) (Zaa (Zmu rfl T.int Zox) Zad)))
   (Zfr (Zno (Zaj Zcg rfl T.isinstance ZbR (Zaa (pv 0) (Zaa (Zmu rfl T.bool Zn0) Zad))))))),?_⟩
  refine⟨_,rfl,.int i,"int",_,true,rfl,.int i,Zgz,true,rfl,iteT ?_⟩;exact⟨_,rfl,.int i,"bool",_,false,rfl,.int i,Zfy,false,rfl,k⟩
theorem Zna:FnScope ["p"] ["p"] (Zac ZhB):=⟨rfl,rfl,rfl,by decide +kernel,rfl,by decide +kernel,by decide +kernel⟩
theorem ZmB {f fW:Addr}{fd dW:FuncData}{t2 t7:Tok} (F:Fun K "check_ways" "check_ways" ZhB f fd) (T:Txt mg) (hL:mg "LEAST_WAYS"=some (.int 2 t2)) (hM:mg "MOST_WAYS"=some (.int 7 t7)) (CW:Cal P w K mg base 1 "is_whole" ["thing"] ZbJ fW dW) :
  FnOk P w K mg base CX0 2 f fd ["p"] Zds:=by
 refine F.ok Zna (fun vs H Q E h=>?_) (fun cdv A outer s H vs Q E hr h=>?_)
 ·obtain⟨i,rfl,_⟩:=h;rfl
 ·obtain⟨i,rfl,h1,h2,k⟩:=h;refine⟨_,Zak (Zbo (PW.pt (ZdP (ZbB (ZdA (Zam CW hr rfl (Zaa (pv 0) Zad))))
   (Zb2 (ZbB (ZeN ZdC ZdC (ZcM rfl hL) (pv 0) (ZcM rfl hM)))))) ZaK ZaH),?_⟩
  refine⟨_,rfl,i,rfl,true,rfl,iteF ?_⟩;refine⟨_,rfl,2,i,rfl,rfl,_,rfl,?_⟩;rw[decide_eq_true h1];refine iteT ⟨i,7,rfl,rfl,_,rfl,?_⟩;rw[decide_eq_true h2];exact iteF k
theorem Zmf:FnScope ["n","last"] ["n","last"] (Zac Zd7):=⟨rfl,rfl,rfl,by decide +kernel,rfl,by decide +kernel,by decide +kernel⟩
theorem Zk3 {f fW da:Addr}{fd dW:FuncData} (F:FunD K "check_level" "check_level" Zd7 f da fd) (T:Txt mg) (CW:Cal P w K mg base 1 "is_whole" ["thing"] ZbJ fW dW) :
  FnOk P w K mg base CX0 2 f fd ["n","last"] Zdc:=by
 refine F.ok Zmf (fun vs H Q E h=>?_) (fun cdv A outer s H vs Q E hr h=>?_)
 ·obtain⟨i,m,rfl,_⟩:=h;rfl
 ·obtain⟨i,m,rfl,h1,h2,k⟩:=h;refine⟨_,Zak (Zbo (PW.pt (ZdP (ZbB (ZdA (Zam CW hr rfl (Zaa (pv 0) Zad))))
   (Zb2 (ZbB (ZeN ZdC ZdC Zag (pv 0) (pv 1)))))) ZaK ZaH),?_⟩
  refine⟨_,rfl,i,rfl,true,rfl,iteF ?_⟩;refine⟨_,rfl,0,i,rfl,rfl,_,rfl,?_⟩;rw[decide_eq_true h1];refine iteT ⟨_,rfl,i,m,rfl,rfl,_,rfl,?_⟩;rw[decide_eq_true h2];exact iteF k
theorem Zmg:FnScope ["p"] ["p"] (Zac Zd9):=⟨rfl,rfl,rfl,by decide +kernel,rfl,by decide +kernel,by decide +kernel⟩
theorem Zk8 {f:Addr}{fd:FuncData} (F:Fun K "first_counts" "first_counts" Zd9 f fd) (T:Txt mg):FnOk P w K mg base CX0 1 f fd ["p"] Zdu:=by
 refine F.ok Zmg (fun vs H Q E h=>?_) (fun cdv A outer s H vs Q E hr h=>?_)
 ·obtain⟨p,rfl,_⟩:=h;rfl
 ·obtain⟨p,rfl,h1,h2,k⟩:=h;refine⟨_,Zak (Zas (ZaZ ZaP rfl T.tuple Zch (Zaa (Zaw Zef (ZaM (Zaa Zag Zad)) (Zaw Zft (ZaM (Zaa Zag Zad)) (Zaw ZbD (pv 0) Zag))) Zad))),?_⟩;refine⟨(by show 1<=sizeLine;decide),fun p1 e1=>⟨(by show 1<=sizeLine;decide),fun p2 e2=>⟨_,rfl,_,_,rfl,rfl,?_⟩⟩⟩;have z2:(upd (upd H p1 (.lst [.int 1])) p2 (.lst [.int 0])) p1=some (.lst [.int 1]):=by rw[Zai (Zae Zab e2)];exact Zab
  refine⟨p2,(p:Int) - 1,_,rfl,rfl,Zab,by omega,by omega,?_,fun p3 e3=>?_⟩
  ·exact Ybv (Zaz (by show 1*((p:Int) - 1).toNat<=1000;omega))
  have z3:=(Same.new (o:=.lst (Yan ((p:Int) - 1).toNat [V.int 0]).flatten) e3) p1 _ z2;have ez:(Yan ((p:Int) - 1).toNat [V.int 0]).flatten=Yan (p - 1) (V.int 0):=by
   rw[show ((p:Int) - 1).toNat=p - 1 by omega];exact YcL
  rw[ez] at z3 ⊢;refine⟨p1,p3,_,_,rfl,rfl,z3,Zab,?_,fun p4 e4=>?_⟩
  ·exact Ybv (Zaz (by rw[Ycr];show 1+(p - 1)<=1000;omega))
  refine⟨p4,_,rfl,.inl ⟨SqL.of Zab,fun l hl=>?_⟩⟩;have s4:=(((Same.new (o:=.lst [.int 1]) e1).trans (Same.new (o:=.lst [.int 0]) e2)).trans (Same.new (o:=.lst (Yan (p - 1) (V.int 0))) e3)).trans (Same.new (o:=.lst ([.int 1]++Yan (p - 1) (V.int 0))) e4);refine k l _ (s4.free hl) ?_ (s4.trans (Same.new hl));rw[Zab];simp[Zen]
theorem scNext:FnScope ["counts","first"] ["counts"] (Zac Zgm):=⟨rfl,rfl,rfl,by decide +kernel,rfl,by decide +kernel,by decide +kernel⟩
theorem ZmD {f:Addr}{fd:FuncData} (F:Fun K "next_counts" "next_counts" Zgm f fd) (T:Txt mg):FnOk P w K mg base CX0 1 f fd ["counts"] (Zfh K):=by
 refine F.ok scNext (fun vs H Q E h=>?_) (fun cdv A outer s H vs Q E hr h=>?_)
 ·obtain⟨a,c,rfl,_⟩:=h;rfl
 ·obtain⟨a,c,rfl,hA,h1,h2,k⟩:=h;refine⟨_,Zaf (Zat (i:=1) scNext.nd rfl (Yd2 rfl) (ZaS Zb3 (pv 0) Zag (fun _ _=>rfl)))
   (Zak (Zas (ZaZ ZaP rfl T.tuple Zch (Zaa (Zaw Zef
    (ZaE (own:=["count"]) (js:=[1]) (CompOk.by (sc:=Zac Zgm) (N:=["counts","first"]) rfl rfl (by decide +kernel)) rfl (Zg2 (Zby ZlB (pv 0) (ZbL Zag) Zcc)) Zau
     (fun _ _ _ _ _=>Zah (i:=0) (by show (["count","first"]:List Str).Nodup;decide +kernel) rfl (YaN rfl) (.inr rfl)) (fun _ _ _ _ _=>Zay) (fun _ _ _ _ _=>Zaw Za4 (pv 1) (pv 0)))
    (ZaM (Zaa (pv 1) Zad))) Zad)))),?_⟩
  obtain⟨c0,cr,rfl⟩:∃ c0 cr,c=c0::cr:=by
   cases c with
   | nil=>simp at h1
   | cons x y=>exact⟨x,y,rfl⟩
  have hcr:cr.length<=6:=by simpa using h2
  refine⟨_,rfl,a,_,0,.int c0,rfl,rfl,hA,Zlu,?_⟩;refine⟨_,rfl,1,rfl,a,_,rfl,hA,?_,fun p1 e1=>⟨p1,rfl,⟨_,SqT.of Zab⟩,?_⟩⟩
  ·rintro⟨z,_⟩;have:HT.sIx ((c0::cr).map V.int).length 0 (some ((1:Nat):Int))=0:=z;rw[HT.sIx_nat] at this;simp at this
  have ecut:cutV ((c0::cr).map V.int) (some 1) none=cr.map V.int:=by
   unfold cutV;show (((c0::cr).map V.int).drop (HT.sIx ((c0::cr).map V.int).length 0 (some ((1:Nat):Int)))).take (HT.sIx ((c0::cr).map V.int).length ((c0::cr).map V.int).length none - HT.sIx ((c0::cr).map V.int).length 0 (some ((1:Nat):Int)))=_;rw[HT.sIx_nat];rw[show min 1 ((c0::cr).map V.int).length=1 by simp];show (cr.map V.int).take (((c0::cr).map V.int).length - 1)=_;rw[YaY (by simp)]
  rw[ecut];refine Zdi (xs:=cr.map V.int) (fun acc i H2=>Same (upd H p1 (.tup (cr.map V.int))) H2/\H2 acc=some (.lst (((cr.take i).map (c0+·)).map V.int))) (fun acc h0=>⟨Same.new h0,Zab⟩) (fun acc i H2 h0 _ p=>p.1.tup (SqT.of Zab)) ?_ ?_
  ·rintro acc i x H2 h0 hx ⟨s2,hacc⟩;obtain⟨z,hz,rfl⟩:=ZaR hx;have hi:=(Yab.mp hz).1
   refine⟨_,rfl,_,rfl,_,_,rfl,rfl,_,hacc,?_,by rw[Yaa];exact hi,s2.put h0,?_⟩
   ·exact Zaz (by simp;omega)
   ·rw[Zab,YaQ,hz];simp
  ·rintro acc H2 h0 ⟨s2,hacc⟩;rw[Yaa,YaM] at hacc;refine⟨_,rfl,(by show 1<=sizeLine;decide),fun p2 e2=>?_⟩;refine⟨acc,p2,_,_,rfl,rfl,(Same.new e2) acc _ hacc,Zab,?_,fun p3 e3=>⟨p3,_,rfl,.inl ⟨SqL.of Zab,fun l hl=>?_⟩⟩⟩
   ·exact Ybv (Zaz (by simp;omega))
   have s3:=(((Same.new (o:=.tup (cr.map V.int)) e1).trans s2).trans (Same.new (o:=.lst [.int c0]) e2)).trans (Same.new (o:=.lst (((cr.map (c0+·)).map V.int)++[.int c0])) e3);refine k l _ (s3.free hl) ?_ (s3.trans (Same.new hl));rw[Zab];simp[ZbN]
theorem scCounts:FnScope ["p","n","counts","level"] ["p","n"] (Zac ZcI):=⟨rfl,rfl,rfl,by decide +kernel,rfl,by decide +kernel,by decide +kernel⟩
theorem Zja {f fA fB fC fD:Addr}{fd dA dB dC dD:FuncData} (F:Fun K "level_counts" "level_counts" ZcI f fd) (T:Txt mg) (CA:Cal P w K mg base 2 "check_ways" ["p"] Zds fA dA) (CB:CalD P w K mg base 2 "check_level" ["n","last"] [.int 300] Zdc fB dB) (CC:Cal P w K mg base 1 "first_counts" ["p"] Zdu fC dC) (CD:Cal P w K mg base 1 "next_counts" ["counts"] (Zfh K) fD dD) :
  FnOk P w K mg base CX0 3 f fd ["p","n"] ZeH:=by
 refine F.ok scCounts (fun vs H Q E h=>?_) (fun cdv A outer s H vs Q E hr h=>?_)
 ·obtain⟨p,n,rfl,_⟩:=h;rfl
 ·obtain⟨p,n,rfl,h1,h2,h3,k⟩:=h;have hr1:Room 1 _:=hr.mono (by decide);refine⟨_,Zaf (ZaD (Zam CA hr rfl (Zaa (pv 0) Zad))) (Zaf (ZaD (ZiW CB hr rfl (Zaa (pv 1) Zad)))
   (Zaf (Zat (i:=2) scCounts.nd rfl (YaN rfl) (Zam CC hr1 rfl (Zaa (pv 0) Zad)))
   (Zaf (Zbp Ybi rfl (Za3 rfl T.range (Zaa (pv 1) Zad)) (Zah (i:=3) scCounts.nd rfl (YaN rfl))
    (Zak (Zat (i:=2) scCounts.nd rfl (YaN rfl) (Zam CD hr1 rfl (Zaa (pv 2) Zad)))))
   (Zak (Zas (pv 2)))))),?_⟩
  refine⟨_,rfl,p,rfl,by omega,by omega,?_⟩;refine⟨_,rfl,n,300,rfl,by omega,by omega,?_⟩;refine⟨_,rfl,p,rfl,h1,h2,fun l H1 hl0 hl1 s1=>?_⟩;refine⟨_,rfl,n,rfl,by omega,by omega,ZbO (fun i σ H2=>∃ (l:Addr) (o:Option V),σ=[some (.int p),some (.int n),some (.ref l),o]/\H l=none/\H2 l=some (.tup ((cnt p i).map V.int))/\Same H H2)
   ⟨l,none,rfl,hl0,hl1,s1⟩ ?_ ?_⟩
  ·rintro i σ H2 hi ⟨l,o,rfl,hl0,hl2,s2⟩;have hlen:=ZcT (p:=p) (by omega) i;refine⟨_,rfl,l,cnt p i,rfl,SqT.of hl2,by omega,by omega,fun l3 H3 h30 h3 s3=>?_⟩;exact⟨l3,_,rfl,s2.free h30,h3,s2.trans s3⟩
  ·rintro σ H2 ⟨l,o,rfl,hl0,hl2,s2⟩;refine⟨_,rfl,k l H2 hl0 ?_ s2⟩;simpa using hl2
theorem Zmc:FnScope ["p","n"] ["p","n"] (Zac Zd3):=⟨rfl,rfl,rfl,by decide +kernel,rfl,by decide +kernel,by decide +kernel⟩
theorem ZkP {f fA:Addr}{fd dA:FuncData} (F:Fun K "level_total" "level_total" Zd3 f fd) (T:Txt mg) (CA:Cal P w K mg base 3 "level_counts" ["p","n"] ZeH fA dA):FnOk P w K mg base CX0 4 f fd ["p","n"] Zf4:=by
 refine F.ok Zmc (fun vs H Q E h=>?_) (fun cdv A outer s H vs Q E hr h=>?_)
 ·obtain⟨p,n,rfl,_⟩:=h;rfl
 ·obtain⟨p,n,rfl,h1,h2,h3,k⟩:=h;refine⟨_,Zak (Zas (Zaj (ZfN rfl) rfl T.sum ZfU (Zaa (Zam CA hr rfl (Zaa (pv 0) (Zaa (pv 1) Zad))) Zad))),?_⟩;exact⟨_,rfl,_,rfl,p,n,rfl,h1,h2,h3,fun l H1 hl0 hl1 s1=>⟨l,_,rfl,SqT.of hl1,k H1 s1⟩⟩
theorem scOf:FnScope ["p","rows","level","counts"] ["p","rows"] (Zac sOf):=⟨rfl,rfl,rfl,by decide +kernel,rfl,by decide +kernel,by decide +kernel⟩
theorem Zoj {f fA fC fD:Addr}{fd dA dC dD:FuncData}{tR:Tok}{M:Int} (F:Fun K "level_of" "level_of" sOf f fd) (T:Txt mg) (hM:mg "MOST_ROWS"=some (.int M tR)) (CA:Cal P w K mg base 2 "check_ways" ["p"] Zds fA dA) (CC:Cal P w K mg base 1 "first_counts" ["p"] Zdu fC dC) (CD:Cal P w K mg base 1 "next_counts" ["counts"] (Zfh K) fD dD) :
  FnOk P w K mg base CX0 3 f fd ["p","rows"] (spOf M):=by
 refine F.ok scOf (fun vs H Q E h=>?_) (fun cdv A outer s H vs Q E hr h=>?_)
 ·obtain⟨p,rows,rfl,_⟩:=h;rfl
 ·obtain⟨p,rows,rfl,h1,h2,r1,r2,k⟩:=h;have hr1:Room 1 _:=hr.mono (by decide);refine⟨_,Zaf (ZaD (Zam CA hr rfl (Zaa (pv 0) Zad))) (Zaf (Zbo (Zax Zc8 (pv 1) Zag (ZaA _)) ZaK ZaH) (Zaf (Zbo (Zax ZeS (pv 1) (ZcM rfl hM) (ZaA _)) ZaK ZaH)
   (Zaf (Zat (i:=2) scOf.nd rfl (YaN rfl) Zag)
   (Zaf (Zat (i:=3) scOf.nd rfl (YaN rfl) (Zam CC hr1 rfl (Zaa (pv 0) Zad)))
   (Zaf (Zdf Ybi (Zax Zc8 (Zaj (ZfN rfl) rfl T.sum ZfU (Zaa (pv 3) Zad)) (pv 1) (ZaA _))
    (Zaf (Zat (i:=3) scOf.nd rfl (YaN rfl) (Zam CD hr1 rfl (Zaa (pv 3) Zad))) (Zak (ZlI (i:=2) scOf.nd rfl (YaN rfl) Zag ZlS))))
   (Zak (Zas (pv 2)))))))),?_⟩
  refine⟨_,rfl,p,rfl,by omega,by omega,?_⟩;refine⟨_,rfl,rows,1,rfl,rfl,_,rfl,?_⟩;rw[decide_eq_false (by omega)];refine iteF ⟨_,rfl,rows,M,rfl,rfl,_,rfl,?_⟩;rw[decide_eq_false (by omega)];refine iteF ⟨_,rfl,p,rfl,h1,h2,fun l H1 hl0 hl1 s1=>?_⟩;refine⟨fun m σ H2=>∃ (n:Nat) (l:Addr),σ=[some (.int p),some (.int rows),some (.int n),some (.ref l)]/\H2 l=some (.tup ((cnt p n).map V.int))/\Same H H2/\(∀ k,k<n->tot p k<rows)/\m=(rows - tot p n).toNat,⟨_,0,l,rfl,hl1,s1,fun k hk=>absurd hk (Ycv _),rfl⟩,?_⟩;rintro m σ H2 ⟨n,l,rfl,hl2,s2,hk,rfl⟩;have hlen:=ZcT (p:=p) (by omega) n;refine⟨_,rfl,l,_,rfl,SqT.of hl2,_,rfl,_,_,rfl,rfl,_,rfl,?_⟩;refine ite2 (fun hc=>?_) (fun hc=>?_)
  ·have hc':tot p n<rows:=of_decide_eq_true hc;refine⟨fun σ H2=>∃ l:Addr,σ=[some (.int p),some (.int rows),some (.int ((n+1:Nat):Int)),some (.ref l)]/\H2 l=some (.tup ((cnt p (n+1)).map V.int))/\Same H H2,?_,?_⟩
   ·rintro σ' H' ⟨l',rfl,hl',s'⟩;have:=Zii h1 n;exact⟨_,(by omega),n+1,l',rfl,hl',s',LevOf.step h1 hk hc',rfl⟩
   ·refine⟨_,rfl,l,cnt p n,rfl,SqT.of hl2,by omega,by omega,fun l3 H3 h30 h3 s3=>?_⟩;exact⟨_,rfl,_,_,rfl,rfl,l3,rfl,h3,s2.trans s3⟩
  ·have hc':¬ tot p n<rows:=fun z=>hc (decide_eq_true z);exact⟨_,rfl,k n H2 ⟨by omega,hk⟩ s2⟩
theorem Zoc:FnScope ["total"] ["total"] (Zac sTot):=⟨rfl,rfl,rfl,by decide +kernel,rfl,by decide +kernel,by decide +kernel⟩
theorem Znw {f:Addr}{fd:FuncData}{tM:Tok} (F:Fun K "check_total" "check_total" sTot f fd) (T:Txt mg) (hM:mg "MOST_PLACES"=some (.int 4000 tM)):FnOk P w K mg base CX0 1 f fd ["total"] Zl5:=by
 refine F.ok Zoc (fun vs H Q E h=>?_) (fun cdv A outer s H vs Q E hr h=>?_)
 ·obtain⟨i,rfl,_⟩:=h;rfl
 ·obtain⟨i,rfl,h4,k⟩:=h;refine⟨_,Zak (Zbo (Zax ZeS (pv 0) (ZcM rfl hM) (ZaA _)) ZaK ZaH),?_⟩;refine⟨_,rfl,_,_,rfl,rfl,_,rfl,?_⟩;rw[decide_eq_false (by omega)];exact iteF k
theorem Zku:FnScope ["p"] ["p"] (Zac ZcG):=⟨rfl,rfl,rfl,by decide +kernel,rfl,by decide +kernel,by decide +kernel⟩
theorem Zi9 {f:Addr}{fd:FuncData} (F:Fun K "first_numbers" "first_numbers" ZcG f fd) (T:Txt mg):FnOk P w K mg base CX0 1 f fd ["p"] Zdd:=by
 refine F.ok Zku (fun vs H Q E h=>?_) (fun cdv A outer s H vs Q E hr h=>?_)
 ·obtain⟨p,rfl,_⟩:=h;rfl
 ·obtain⟨p,rfl,h1,h2,k⟩:=h;refine⟨_,Zak (Zas (ZaZ ZaP rfl T.tuple Zch (Zaa (Zaw Zef (ZaM (Zaa (Za6 (Zaa Zag Zad)) Zad)) (Zaw Zft (ZaM (Zaa (Za6 Zad) Zad)) (Zaw ZbD (pv 0) Zag))) Zad))),?_⟩;refine⟨(by show 1<=sizeLine;decide),fun q0 e0=>⟨(by show 1<=sizeLine;decide),fun p1 e1=>⟨Ya2 _,fun q1 f1=>⟨(by show 1<=sizeLine;decide),fun p2 e2=>⟨_,rfl,_,_,rfl,rfl,?_⟩⟩⟩⟩⟩;have t0:Same H (upd H q0 (.tup [.int 0])):=Same.new e0;have t1:=t0.trans (Same.new (o:=.lst [.ref q0]) e1);have t2:=t1.trans (Same.new (o:=.tup []) f1);have t3:=t2.trans (Same.new (o:=.lst [.ref q1]) e2);have a0:(upd (upd (upd (upd H q0 (.tup [.int 0])) p1 (.lst [.ref q0])) q1 (.tup [])) p2 (.lst [.ref q1])) q0=some (.tup [.int 0]):=((Same.new e1).trans ((Same.new f1).trans (Same.new e2))) q0 _ Zab;have a1:(upd (upd (upd (upd H q0 (.tup [.int 0])) p1 (.lst [.ref q0])) q1 (.tup [])) p2 (.lst [.ref q1])) p1=some (.lst [.ref q0]):=((Same.new f1).trans (Same.new e2)) p1 _ Zab;have a2:(upd (upd (upd (upd H q0 (.tup [.int 0])) p1 (.lst [.ref q0])) q1 (.tup [])) p2 (.lst [.ref q1])) q1=some (.tup []):=(Same.new e2) q1 _ Zab;have a3:(upd (upd (upd (upd H q0 (.tup [.int 0])) p1 (.lst [.ref q0])) q1 (.tup [])) p2 (.lst [.ref q1])) p2=some (.lst [.ref q1]):=Zab;generalize (upd (upd (upd (upd H q0 (.tup [.int 0])) p1 (.lst [.ref q0])) q1 (.tup [])) p2 (.lst [.ref q1]))=H1 at t3 a0 a1 a2 a3 ⊢;refine⟨p2,(p:Int) - 1,_,rfl,rfl,a3,by omega,by omega,?_,fun p3 e3=>?_⟩
  ·exact Ybv (Zaz (by show 1*((p:Int) - 1).toNat<=1000;omega))
  have ez:(Yan ((p:Int) - 1).toNat [V.ref q1]).flatten=Yan (p - 1) (V.ref q1):=by
   rw[show ((p:Int) - 1).toNat=p - 1 by omega];exact YcL
  rw[ez];have s3:=Same.new (o:=.lst (Yan (p - 1) (V.ref q1))) e3;refine⟨p1,p3,_,_,rfl,rfl,s3 p1 _ a1,Zab,?_,fun p4 e4=>⟨p4,_,rfl,.inl ⟨SqL.of Zab,fun l hl=>?_⟩⟩⟩
  ·exact Ybv (Zaz (by rw[Ycr];show 1+(p - 1)<=1000;omega))
  have s4:=s3.trans (Same.new (o:=.lst ([.ref q0]++Yan (p - 1) (V.ref q1))) e4);have s5:=s4.trans (Same.new (o:=.tup ([.ref q0]++Yan (p - 1) (V.ref q1))) hl);have hl0:H l=none:=(t3.trans s4).free hl;refine k l (q0::Yan (p - 1) q1) _ hl0 (by rw[Zab];simp) ⟨by simp[num0],fun j r xs ha hb=>?_⟩ (t3.trans s5)
  cases j with
  | zero=>
   have:r=q0:=by simpa using ha.symm
   have:xs=[0]:=by simpa[num0] using hb.symm
   subst r xs;exact s5 q0 _ a0
  | succ j=>
   have:r=q1:=ZiB (j:=j) (by simpa using ha);have:xs=[]:=ZiB (j:=j) (by simpa[num0] using hb);subst r xs;exact s5 q1 _ a2
theorem Zkq:FnScope ["p","n"] ["p","n"] (Zac ZcD):=⟨rfl,rfl,rfl,by decide +kernel,rfl,by decide +kernel,by decide +kernel⟩
theorem Zi3 {f fA fB:Addr}{fd dA dB:FuncData} (F:Fun K "check_places" "check_places" ZcD f fd) (T:Txt mg) (CA:Cal P w K mg base 4 "level_total" ["p","n"] Zf4 fA dA) (CB:Cal P w K mg base 1 "check_total" ["total"] Zl5 fB dB):FnOk P w K mg base CX0 5 f fd ["p","n"] ZeC:=by
 refine F.ok Zkq (fun vs H Q E h=>?_) (fun cdv A outer s H vs Q E hr h=>?_)
 ·obtain⟨p,n,rfl,_⟩:=h;rfl
 ·obtain⟨p,n,rfl,h1,h2,h3,h4,k⟩:=h;have hr1:Room 1 _:=hr.mono (by decide);refine⟨_,Zak (ZaD (Zam CB hr1 rfl (Zaa (Zam CA hr rfl (Zaa (pv 0) (Zaa (pv 1) Zad))) Zad))),?_⟩;exact⟨_,rfl,_,rfl,p,n,rfl,h1,h2,h3,fun H1 s1=>⟨_,rfl,h4,k H1 s1⟩⟩
theorem scNextN:FnScope ["numbers","first"] ["numbers"] (Zac ZcZ):=⟨rfl,rfl,rfl,by decide +kernel,rfl,by decide +kernel,by decide +kernel⟩
theorem Zk1 {f:Addr}{fd:FuncData} (F:Fun K "next_numbers" "next_numbers" ZcZ f fd) (T:Txt mg):FnOk P w K mg base CX0 1 f fd ["numbers"] ZcB:=by
 refine F.ok scNextN (fun vs H Q E h=>?_) (fun cdv A outer s H vs Q E hr h=>?_)
 ·obtain⟨a,rs,N,rfl,_⟩:=h;rfl
 ·obtain⟨a,rs,N,rfl,hA,hT,h1,h2,hne,hz,k⟩:=h;refine⟨_,Zaf (Zat (i:=1) scNextN.nd rfl (Yd2 rfl) (ZaZ ZaP rfl T.tuple Zch (Zaa (ZaE (own:=["number"]) (js:=[]) (CompOk.by (sc:=Zac ZcZ) (N:=["numbers","first"]) rfl rfl (by decide +kernel)) rfl (Zg2 (ZaS Zb3 (pv 0) Zag (fun _ _=>rfl))) Zau
     (fun _ _ _ _ _=>Zah (i:=0) (by show (["number"]:List Str).Nodup;decide +kernel) rfl (YaN rfl) (.inr rfl)) (fun _ _ _ _ _=>Zay) (fun _ _ _ _ _=>Zaw Za4 (pv 0) Zag)) Zad)))
   (Zak (Zas (ZaZ ZaP rfl T.tuple Zch (Zaa (Zaw Zef
    (ZaE (own:=["reel"]) (js:=[1]) (CompOk.by (sc:=Zac ZcZ) (N:=["numbers","first"]) rfl rfl (by decide +kernel)) rfl (Zg2 (Zby ZlB (pv 0) (ZbL Zag) Zcc)) Zau
     (fun _ _ _ _ _=>Zah (i:=0) (by show (["reel","first"]:List Str).Nodup;decide +kernel) rfl (YaN rfl) (.inr rfl)) (fun _ _ _ _ _=>Zay) (fun _ _ _ _ _=>Zaw (ZkL K) (pv 1) (pv 0)))
    (ZaM (Zaa (pv 1) Zad))) Zad)))),?_⟩
  obtain⟨x0,xr,rfl⟩:∃ x0 xr,N=x0::xr:=by
   cases N with
   | nil=>simp at h1
   | cons x y=>exact⟨x,y,rfl⟩
  obtain⟨r0,rr,rfl⟩:∃ r0 rr,rs=r0::rr:=by
   cases rs with
   | nil=>have:=hT.1;simp at this
   | cons x y=>exact⟨x,y,rfl⟩
  have hr0:H r0=some (.tup (x0.map V.int)):=hT.2 0 r0 x0 rfl rfl;have hrl:rr.length=xr.length:=by have:=hT.1;simpa using this
  have hxr:xr.length<=6:=by simpa using h2
  have hx0:x0.length<=4000:=hz x0 (by simp);have ef:fstN (x0::xr)=x0.map (·+1):=rfl;refine⟨_,rfl,a,_,0,.ref r0,rfl,rfl,SqT.of hA,ZbS (j:=0) rfl,r0,rfl,⟨_,SqT.of hr0⟩,?_⟩;refine Zdi (xs:=x0.map V.int) (fun acc i H2=>Same H H2/\H2 acc=some (.lst (((x0.take i).map (·+1)).map V.int))) (fun acc h0=>⟨Same.new h0,Zab⟩) (fun acc i H2 h0 _ p=>p.1.tup (SqT.of hr0)) ?_ ?_
  ·rintro acc i x H2 h0 hx ⟨s2,hacc⟩;obtain⟨z,hz',rfl⟩:=ZaR hx;have hi:=(Yab.mp hz').1
   refine⟨_,rfl,z,1,rfl,rfl,_,hacc,?_,by rw[Yaa];exact hi,s2.put h0,?_⟩
   ·exact ZbK (by simp;omega)
   ·rw[Zab,YaQ,hz',Ybp,Yai,Yai];rfl
  rintro acc H2 h0 ⟨s2,hacc⟩;rw[Yaa,YaM] at hacc;refine⟨acc,_,rfl,.inl ⟨SqL.of hacc,fun fl hfl=>?_⟩⟩;have s3:=s2.trans (Same.new (o:=.tup ((x0.map (·+1)).map V.int)) hfl);have hfl3:(upd H2 fl (.tup ((x0.map (·+1)).map V.int))) fl=some (.tup ((x0.map (·+1)).map V.int)):=Zab;generalize (upd H2 fl (.tup ((x0.map (·+1)).map V.int)))=H3 at s3 hfl3 ⊢;have hfl0:H fl=none:=s2.free hfl;refine⟨_,rfl,1,rfl,a,_,rfl,SqT.of (s3 a _ hA),?_,fun p1 e1=>⟨p1,rfl,⟨_,SqT.of Zab⟩,?_⟩⟩
  ·rintro⟨z,_⟩;have:HT.sIx ((r0::rr).map V.ref).length 0 (some ((1:Nat):Int))=0:=z;rw[HT.sIx_nat] at this;simp at this
  have ecut:cutV ((r0::rr).map V.ref) (some 1) none=rr.map V.ref:=by
   unfold cutV;show (((r0::rr).map V.ref).drop (HT.sIx ((r0::rr).map V.ref).length 0 (some ((1:Nat):Int)))).take (HT.sIx ((r0::rr).map V.ref).length ((r0::rr).map V.ref).length none - HT.sIx ((r0::rr).map V.ref).length 0 (some ((1:Nat):Int)))=_;rw[HT.sIx_nat];rw[show min 1 ((r0::rr).map V.ref).length=1 by simp];show (rr.map V.ref).take (((r0::rr).map V.ref).length - 1)=_;rw[YaY (by simp)]
  rw[ecut];have s4:=s3.trans (Same.new (o:=.tup (rr.map V.ref)) e1);have hfl4:=(Same.new (o:=.tup (rr.map V.ref)) e1) fl _ hfl3;have hp14:(upd H3 p1 (.tup (rr.map V.ref))) p1=some (.tup (rr.map V.ref)):=Zab;generalize (upd H3 p1 (.tup (rr.map V.ref)))=H4 at s4 hfl4 hp14 ⊢;have hr:∀ (j:Nat) r xs,rr[j]?=some r->xr[j]?=some xs->H r=some (.tup (xs.map V.int)):=fun j r xs a b=>hT.2 (j+1) r xs a b;have hxz:∀ xs∈xr,xs.length<=4000:=fun xs hx=>hz xs (by simp[hx]);have hx0ne:x0≠[]:=hne;refine Zdi (xs:=rr.map V.ref) (fun acc i H5=>Same H4 H5/\∃ qs:List Addr,H5 acc=some (.lst (qs.map V.ref))/\TTs H5 qs ((xr.take i).map (x0.map (·+1)++·))) (fun acc h0=>⟨Same.new h0,[],Zab,rfl,fun j r xs a b=>by simp at a⟩) (fun acc i H5 h0 _ p=>p.1.tup (SqT.of hp14)) ?_ ?_
  ·rintro acc i x H5 h0 hx ⟨s5,qs,hacc,hq⟩;obtain⟨r,hr',rfl⟩:=ZaG hx;have hi:=(Yab.mp hr').1
   have hix:i<xr.length:=by omega
   have hrx:H5 r=some (.tup (xr[i].map V.int)):=(s4.trans s5) r _ (hr i r _ hr' (Yac hix));have hfl5:=s5 fl _ hfl4;have hxi:xr[i].length<=4000:=hxz _ (Yby hix);have hqs:qs.length<=6:=by have:=hq.1;simp at this;omega
   have e2:(xr.take (i+1)).map (x0.map (·+1)++·)=(xr.take i).map (x0.map (·+1)++·)++[x0.map (·+1)++xr[i]]:=by
    rw[YcK hix,Yai];rfl
   rw[e2];refine⟨_,rfl,_,rfl,fl,r,_,_,rfl,rfl,SqT.of hfl5,SqT.of hrx,by simpa using hx0ne,?_,fun hemp=>?_,fun hemp pn en=>?_⟩
   ·exact Ybv (ZbK (by simp;omega))
   ·have hemp':xr[i]=[]:=by simpa using hemp
    refine⟨_,hacc,ZbK (by simp;omega),by rw[Yaa];exact hi,s5.put h0,qs++[fl],by rw[Zab];simp,?_⟩;refine (hq.lst hacc).snoc ?_;rw[hemp',Ya4,Zai (by intro z;subst z;rw[hacc] at hfl5;cases hfl5)];exact hfl5
   ·have hacc6:=(Same.new (o:=.tup ((x0.map (·+1)).map V.int++xr[i].map V.int)) en) acc _ hacc;refine⟨_,hacc6,ZbK (by simp;omega),by rw[Yaa];exact hi,(s5.trans (Same.new en)).put h0,qs++[pn],by rw[Zab];simp,?_⟩;refine ((hq.same (Same.new en)).lst hacc6).snoc ?_;rw[Zai (by intro z;subst z;rw[hacc] at en;cases en),Zab];simp
  ·rintro acc H5 h0 ⟨s5,qs,hacc,hq⟩;rw[Yaa,hrl,YaM] at hq;have hfl5:=s5 fl _ hfl4;have hqs:qs.length<=6:=by have:=hq.1;simp at this;omega
   refine⟨_,rfl,(by show 1<=sizeLine;decide),fun p2 e2=>?_⟩;refine⟨acc,p2,_,_,rfl,rfl,(Same.new e2) acc _ hacc,Zab,?_,fun p3 e3=>⟨p3,_,rfl,.inl ⟨SqL.of Zab,fun l hl=>?_⟩⟩⟩
   ·exact Ybv (ZbK (by simp;omega))
   have sz:=((Same.new (o:=.lst [V.ref fl]) e2).trans (Same.new (o:=.lst (qs.map V.ref++[V.ref fl])) e3)).trans (Same.new (o:=.tup (qs.map V.ref++[V.ref fl])) hl);have s6:=(s4.trans s5).trans sz;refine k l (qs++[fl]) _ ?_ (by rw[Zab];simp) ?_ s6
   ·exact ((s4.trans s5).trans ((Same.new (o:=.lst [V.ref fl]) e2).trans (Same.new (o:=.lst (qs.map V.ref++[V.ref fl])) e3))).free hl
   ·exact (hq.same sz).snoc (sz fl _ hfl5)
theorem scAfter:FnScope ["p","n","following","numbers","level"] ["p","n","following"] (Zac Zeb):=⟨rfl,rfl,rfl,by decide +kernel,rfl,by decide +kernel,by decide +kernel⟩
theorem Zlb {f fA fB:Addr}{fd dA dB:FuncData} (F:Fun K "numbers_after" "numbers_after" Zeb f fd) (T:Txt mg) (CB:Cal P w K mg base 1 "first_numbers" ["p"] Zdd fB dB) (CA:Cal P w K mg base 1 "next_numbers" ["numbers"] ZcB fA dA):FnOk P w K mg base CX0 2 f fd ["p","n","following"] (Zgi fA):=by
 refine F.ok scAfter (fun vs H Q E h=>?_) (fun cdv A outer s H vs Q E hr h=>?_)
 ·obtain⟨p,n,rfl,_⟩:=h;rfl
 ·obtain⟨p,n,rfl,h1,h2,h3,h4,k⟩:=h;refine⟨_,Zaf (Zat (i:=3) scAfter.nd rfl (YaN rfl) (Zam CB hr rfl (Zaa (pv 0) Zad)))
   (Zaf (Zbp Ybi rfl (Za3 rfl T.range (Zaa (pv 1) Zad)) (Zah (i:=4) scAfter.nd rfl (YaN rfl)) (Zak (Zat (i:=3) scAfter.nd rfl (YaN rfl) (ZiV 2 CA hr (Zaa (pv 3) Zad)))))
   (Zak (Zas (pv 3)))),?_⟩
  refine⟨_,rfl,p,rfl,h1,h2,fun l qs H1 hl0 hl1 hq1 s1=>?_⟩;refine⟨_,rfl,n,rfl,by omega,by omega,ZbO (fun i σ H2=>∃ (l:Addr) (qs:List Addr) (o:Option V),σ=[some (.int p),some (.int n),some (.ref fA),some (.ref l),o]/\H l=none/\H2 l=some (.tup (qs.map V.ref))/\TTs H2 qs (num p i)/\Same H H2)
   ⟨l,qs,none,rfl,hl0,hl1,hq1,s1⟩ ?_ ?_⟩
  ·rintro i σ H2 hi ⟨l,qs,o,rfl,hl0,hl2,hq,s2⟩;have hlen:=Za5 (p:=p) (by omega) i;have htot:=Zev (p:=p) h1 (show i<=n by omega);refine⟨rfl,_,rfl,l,qs,num p i,rfl,hl2,hq,by omega,by omega,?_,fun xs hx=>?_,fun l3 qs3 H3 h30 h3 hq3 s3=>?_⟩
   ·obtain⟨a,r,e,ha,_⟩:=ZeT h1 i;rw[e];exact ha
   ·have:=Zg8 hx;omega
   ·exact⟨l3,qs3,_,rfl,s2.free h30,h3,hq3,s2.trans s3⟩
  ·rintro σ H2 ⟨l,qs,o,rfl,hl0,hl2,hq,s2⟩;refine⟨_,rfl,k l qs H2 hl0 hl2 ?_ s2⟩;simpa using hq
theorem Zme:FnScope ["p","n"] ["p","n"] (Zac Zd6):=⟨rfl,rfl,rfl,by decide +kernel,rfl,by decide +kernel,by decide +kernel⟩
theorem ZkZ {f fA fB:Addr}{fd dA dB:FuncData} (F:Fun K "numbers_of" "numbers_of" Zd6 f fd) (T:Txt mg) (CA:Cal P w K mg base 1 "next_numbers" ["numbers"] ZcB fA dA) (CB:Cal P w K mg base 2 "numbers_after" ["p","n","following"] (Zgi fA) fB dB):FnOk P w K mg base CX0 3 f fd ["p","n"] Zgc:=by
 refine F.ok Zme (fun vs H Q E h=>?_) (fun cdv A outer s H vs Q E hr h=>?_)
 ·obtain⟨p,n,rfl,_⟩:=h;rfl
 ·obtain⟨p,n,rfl,h1,h2,h3,h4,k⟩:=h;refine⟨_,Zak (Zas (Zam CB hr rfl (Zaa (pv 0) (Zaa (pv 1) (Zaa (ZlL CA rfl) Zad))))),?_⟩;exact⟨_,rfl,_,rfl,p,n,rfl,h1,h2,h3,h4,k⟩
theorem scLN:FnScope ["p","n"] ["p","n"] (Zac sLN):=⟨rfl,rfl,rfl,by decide +kernel,rfl,by decide +kernel,by decide +kernel⟩
theorem Zok {f fA fB:Addr}{fd dA dB:FuncData} (F:Fun K "level_numbers" "level_numbers" sLN f fd) (T:Txt mg) (CA:Cal P w K mg base 5 "check_places" ["p","n"] ZeC fA dA) (CB:Cal P w K mg base 3 "numbers_of" ["p","n"] Zgc fB dB):FnOk P w K mg base CX0 6 f fd ["p","n"] Zgc:=by
 refine F.ok scLN (fun vs H Q E h=>?_) (fun cdv A outer s H vs Q E hr h=>?_)
 ·obtain⟨p,n,rfl,_⟩:=h;rfl
 ·obtain⟨p,n,rfl,h1,h2,h3,h4,k⟩:=h;have hr2:Room 3 _:=hr.mono (by decide);refine⟨_,Zaf (ZaD (Zam CA hr rfl (Zaa (pv 0) (Zaa (pv 1) Zad)))) (Zak (Zas (Zam CB hr2 rfl (Zaa (pv 0) (Zaa (pv 1) Zad))))),?_⟩;refine⟨_,rfl,_,rfl,p,n,rfl,h1,h2,h3,h4,fun H1 s1=>?_⟩;exact⟨_,rfl,_,rfl,p,n,rfl,h1,h2,h3,h4,fun l qs H2 hl0 hl hq s2=>k l qs H2 (s1.free hl0) hl hq (s1.trans s2)⟩
theorem Zmb:FnScope ["thing","many"] ["thing","many"] (Zac Zd2):=⟨rfl,rfl,rfl,by decide +kernel,rfl,by decide +kernel,by decide +kernel⟩
theorem ZkO {f:Addr}{fd:FuncData} (F:Fun K "is_tuple_of" "is_tuple_of" Zd2 f fd) (T:Txt mg):FnOk P w K mg base CX0 1 f fd ["thing","many"] Zf3:=by
 refine F.ok Zmb (fun vs H Q E h=>?_) (fun cdv A outer s H vs Q E hr h=>?_)
 ·obtain⟨a,xs,n,rfl,_⟩:=h;rfl
 ·obtain⟨a,xs,n,rfl,hA,hn,k⟩:=h;refine⟨_,Zak (Zas (Zfs (Zaj Zcg rfl T.isinstance ZbR (Zaa (pv 0) (Zaa (Zmu rfl T.tuple Zch) Zad))) (Zfr (ZiT ZkK (Zaj Zap rfl T.len YaV (Zaa (pv 0) Zad)) (pv 1) (ZaA _))))),?_⟩;refine⟨_,rfl,.ref a,"tuple",_,true,rfl,.tup hA,ZdG,true,rfl,iteT ⟨_,rfl,a,_,rfl,.inr (SqT.of hA),_,rfl,rfl,?_⟩⟩;rw[hn];simpa using k
end
end Fj89
namespace Fj89
open PySem L2 Lv
section
variable {P:Program}{w:World}{K:Yad}{mg:Str->Option Value}{base:Heap}
theorem Zne:FnScope ["p","rows"] ["p","rows"] (Zac ZhF):=⟨rfl,rfl,rfl,by decide +kernel,rfl,by decide +kernel,by decide +kernel⟩
def Ziq:Sp:=fun vs H Q _=>∃ (p n:Int),vs=[.int p,.int n]/\2<=p/\Q (.int ((n - 2) % (p - 1)+2)) H
theorem ZmE {f:Addr}{fd:FuncData} (F:Fun K "first_many" "first_many" ZhF f fd) :FnOk P w K mg base CX0 1 f fd ["p","rows"] Ziq:=by
 refine F.ok Zne (fun vs H Q E h=>?_) (fun cdv A outer s H vs Q E hr h=>?_)
 ·obtain⟨p,n,rfl,_⟩:=h;rfl
 ·obtain⟨p,n,rfl,hp,k⟩:=h;refine⟨_,(Zak (Zas (Zaw Za4 (Zaw ZbM (Zaw ZbD (pv 1) Zag) (Zaw ZbD (pv 0) Zag)) Zag))),?_⟩;exact⟨_,rfl,_,_,rfl,rfl,_,rfl,_,_,rfl,rfl,_,_,rfl,rfl,by show (0:Int)<p - 1;omega,_,_,rfl,rfl,k⟩
theorem scLJoin:FnScope ["p","lengths","there","many","reading","log","taken","made"] ["p","lengths"] (Zac Zcs):=⟨rfl,rfl,rfl,by decide +kernel,rfl,by decide +kernel,by decide +kernel⟩
def prJ (ls:List Int):List (List Int):=ls.mapIdx fun j l=>[l,(j:Int)]
theorem ZkD {ls:List Int}{j:Nat}{l:Int} (h:ls[j]?=some l):prJ (ls.take (j+1))=prJ (ls.take j)++[[l,(j:Int)]]:=by
 have hl:=(Yab.mp h).1
 unfold prJ;rw[YaQ,h,Ybp,YdV];simp[Yav,Yb3 (Ybv hl)]
theorem ZiJ (ls:List Int):(prJ ls).length=ls.length:=by unfold prJ;simp
theorem Zms (ls:List Int):(prJ ls).map (fun k=>k.getD 0 0)=ls:=by
 unfold prJ;exact YbE (by simp) fun i h1 h2=>by simp
theorem Zlx {H:Hp}{ps:List Addr}{ks:List (List Int)} (h:TuM H ps ks):∀ p∈ps,kf H p≠[]/\H p=some (.tup ((kf H p).map V.int)):=by
 intro p hp;obtain⟨k',hk,e⟩:=h.1 p hp;rw[Zfz e];exact⟨hk,e⟩
theorem SqB.sameJ {b:Bool}{H H':Hp}{a:Addr}{xs:List V} (e:Same H H') (h:SqB b K H a xs):SqB b K H' a xs:=by
 cases b
 ·exact e.tup h
 ·exact e.seq h
theorem SqB.orJ {b:Bool}{H:Hp}{a:Addr}{xs:List V} (h:SqB b K H a xs):SqL K H a xs∨SqT K H a xs:=by
 cases b
 ·exact .inr h
 ·exact .inl h
theorem ZnO {ks:List (List Int)} (h2:∀ k∈ks,k.length=2) (h:ks.Pairwise (fun p q=>lxB q p=false)):(ks.map fun k=>k.getD 0 0).Pairwise (·<=·):=by
 refine Ybz.mpr ?_;refine h.imp_of_mem fun {p q} hp hq z=>?_
 match p,q,h2 p hp,h2 q hq,z with
 | [a,b],[c,d],_,_,z=>exact ZmI z
theorem Zkg {H:Hp}{qs:List Addr}{ks:List (List Int)} (h:TuM H qs ks) (m:Nat):TuM H (qs.take m) (ks.take m):=⟨fun p hp=>h.1 p (Yba hp),by rw[<- h.2,Yb7]⟩
theorem Zkh {H:Hp}{qs:List Addr}{ks:List (List Int)} (h:TuM H qs ks) (m:Nat):TuM H (qs.drop m) (ks.drop m):=⟨fun p hp=>h.1 p (Ya3 hp),by rw[<- h.2,Ycj]⟩
theorem Zmx {H:Hp}{qs:List Addr}{ks:List (List Int)} (h:TuM H qs ks) (h2:∀ k∈ks,k.length=2) {j:Nat}{x y:V} (hx:(qs.map V.ref)[j]?=some x) (hy:((ks.map fun k=>k.getD 0 0).map V.int)[j]?=some y):∃ z a b,H z=some (.tup [.int a,.int b])/\x=.ref z/\y=.int a:=by
 obtain⟨z,hz,rfl⟩:=ZaG hx;obtain⟨k,hk,e⟩:=h.at hz;obtain⟨y',hy',rfl⟩:=ZaR hy;rw[Yaf,hk] at hy';cases hy'
 match k,h2 k (Yam hk),e with
 | [a,b],_,e=>exact⟨z,a,b,e,rfl,rfl⟩
theorem ZkI {H:Hp}{qs:List Addr}{ks:List (List Int)} (h:TuM H qs ks) (h2:∀ k∈ks,k.length=2) {j:Nat}{x y:V} (hx:(qs.map V.ref)[j]?=some x) (hy:((ks.map fun k=>k.getD 1 0).map V.int)[j]?=some y):∃ z a b,H z=some (.tup [.int a,.int b])/\x=.ref z/\y=.int b:=by
 obtain⟨z,hz,rfl⟩:=ZaG hx;obtain⟨k,hk,e⟩:=h.at hz;obtain⟨y',hy',rfl⟩:=ZaR hy;rw[Yaf,hk] at hy';cases hy'
 match k,h2 k (Yam hk),e with
 | [a,b],_,e=>exact⟨z,a,b,e,rfl,rfl⟩
def Zgd (K:Yad):Sp:=fun vs H Q _=>∃ (p:Nat) (ll:Addr) (b:Bool) (ls:List Int),vs=[.int p,.ref ll]/\2<=p/\p<=7/\SqB b K H ll (ls.map V.int)/\ls.length<=500/\∀ (t lg:Addr) (rs:List Addr) H',H t=none->H' t=some (.tup [.int (hf p ls),.ref lg])->H' lg=some (.lst (rs.map V.ref))->Same H H'->Q (.ref t) H'
theorem Zk2 {f f1 f2:Addr}{fd d1 d2:FuncData} (F:Fun K "least_join" "least_join" Zcs f fd) (T:Txt mg) (Te:mg "enumerate"=none) (CW:Cal P w K mg base 2 "check_ways" ["p"] Zds f1 d1) (CM:Cal P w K mg base 1 "first_many" ["p","rows"] Ziq f2 d2):FnOk P w K mg base CX0 3 f fd ["p","lengths"] (Zgd K):=by
 refine okW F scLJoin (fun vs H Q E h=>?_) (fun cdv A outer s H vs Q E hr h=>?_)
 ·obtain⟨p,ll,b,ls,rfl,_⟩:=h;rfl
 ·obtain⟨p,ll,b,ls,rfl,p2,p7,hL,hl5,k⟩:=h;have hr1:Room 1 _:=hr.mono (by decide);have hr2:Room 2 _:=hr.mono (by decide);refine⟨_,(Zaq (ws (ZaD (Zam CW hr2 rfl (Zaa (pv 0) Zad))))
   (Zaq (ws (Zat (i:=2) scLJoin.nd rfl (YaN rfl) (Zaj ZbA rfl T.sorted Za2 (Zaa (ZaE (own:=["number","length"]) (js:=[]) (CompOk.by (sc:=Zac Zcs) (N:=["p","lengths","there","many","reading","log","taken","made"]) rfl rfl (by decide +kernel)) rfl (Za9 rfl Te (Zaa (pv 1) Zad)) (Zbq (i:=0) (k:=1) (K:=K)) (fun _ _ _ _ _=>(Zbj K rfl (Zan (Zah (i:=0) (by show (["number","length"]:List Str).Nodup;decide +kernel) rfl (YaN rfl) (.inr rfl)) (Zan (Zah (i:=1) (by show (["number","length"]:List Str).Nodup;decide +kernel) rfl (YaN rfl) (.inr rfl)) ZaC)))) (fun _ _ _ _ _=>Zay) (fun _ _ _ _ _=>(Za6 (Zaa (pv 1) (Zaa (pv 0) Zad))))) Zad))))
   (Zaq (ws (Zat (i:=3) scLJoin.nd rfl (YaN rfl) (Zam CM hr1 rfl (Zaa (pv 0) (Zaa (Zaj Zap rfl T.len YaV (Zaa (pv 1) Zad)) Zad)))))
   (Zaq (ws (Zat (i:=4) scLJoin.nd rfl (YaN rfl) Zag))
   (Zaq (ws (Zat (i:=5) scLJoin.nd rfl (YaN rfl) (ZaM Zad)))
   (Zaq (ws (Zdf Ybi (Zax ZeS (Zaj Zap rfl T.len YaV (Zaa (pv 2) Zad)) Zag (ZaA _))
   (WSs.out (Zaq (ws (Zat (i:=6) scLJoin.nd rfl (YaN rfl) (Zby ZeL (pv 2) Zcc (ZbL (pv 3)))))
    (Zaq (ws (Zat (i:=7) scLJoin.nd rfl (YaN rfl) (Zaj (Zbr rfl) rfl T.sum ZfU (Zaa (ZaE (own:=["length","number"]) (js:=[]) (CompOk.by (sc:=Zac Zcs) (N:=["p","lengths","there","many","reading","log","taken","made"]) rfl rfl (by decide +kernel)) rfl (ZaL (pv 6)) (Zbq (i:=0) (k:=1) (K:=K)) (fun _ _ _ _ _=>(Zbj K rfl (Zan (Zah (i:=0) (by show (["length","number"]:List Str).Nodup;decide +kernel) rfl (YaN rfl) (.inr rfl)) (Zan (Zah (i:=1) (by show (["length","number"]:List Str).Nodup;decide +kernel) rfl (YaN rfl) (.inr rfl)) ZaC)))) (fun _ _ _ _ _=>Zay) (fun _ _ _ _ _=>(pv 0))) Zad))))
    (Zaq (ws (Zat (i:=2) scLJoin.nd rfl (YaN rfl) (Zaj ZbA rfl T.sorted Za2 (Zaa (Zaw Zef (Zby ZeL (pv 2) (ZbL (pv 3)) Zcc) (ZaM (Zaa (Za6 (Zaa (pv 7) (Zaa (Zaw Za4 (Zaj Zap rfl T.len YaV (Zaa (pv 1) Zad)) (Zaj Zap rfl T.len YaV (Zaa (pv 5) Zad))) Zad))) Zad))) Zad))))
    (Zaq (ws (ZlI (i:=4) scLJoin.nd rfl (YaN rfl) (pv 7) ZlS))
    (Zaq (ws (ZaD (Zc7 Ya9 YbC YbB ZaT (pv 5) (Zaa (ZaZ ZaP rfl T.tuple Zch (Zaa (Zaj Zbb rfl T.sorted Za2 (Zaa (ZaE (own:=["length","number"]) (js:=[]) (CompOk.by (sc:=Zac Zcs) (N:=["p","lengths","there","many","reading","log","taken","made"]) rfl rfl (by decide +kernel)) rfl (ZaL (pv 6)) (Zbq (i:=0) (k:=1) (K:=K)) (fun _ _ _ _ _=>(Zbj K rfl (Zan (Zah (i:=0) (by show (["length","number"]:List Str).Nodup;decide +kernel) rfl (YaN rfl) (.inr rfl)) (Zan (Zah (i:=1) (by show (["length","number"]:List Str).Nodup;decide +kernel) rfl (YaN rfl) (.inr rfl)) ZaC)))) (fun _ _ _ _ _=>Zay) (fun _ _ _ _ _=>(pv 1))) Zad)) Zad)) Zad))))
    (ZaU (ws (Zat (i:=3) scLJoin.nd rfl (YaN rfl) (pv 0))))))))))))
   (ZaU (ws (Zas (Za6 (Zaa (pv 4) (Zaa (pv 5) Zad)))))))))))),?_⟩
  have hz:20000<sizeLine:=by decide
  refine⟨_,rfl,p,rfl,by omega,by omega,?_⟩;refine⟨_,rfl,ll,b,rfl,⟨_,hL⟩,?_⟩;refine Zb0 (xs:=ls.map V.int) (fun acc i H2=>Same H H2/\∃ ps,H2 acc=some (.lst (ps.map V.ref))/\(∀ p∈ps,p≠acc)/\TuM H2 ps (prJ (ls.take i))) (fun acc h0=>⟨Same.new h0,[],Zab,(fun p hp=>nomatch hp),TuM.nil⟩) (fun acc i H2 h0 _ p=>SqB.sameJ p.1 hL) ?_ ?_
  ·rintro acc i x q H2 h0 hx ⟨s2,ps,hacc,hne,hpr⟩ hq;obtain⟨l,hl,rfl⟩:=ZaR hx;have hi:=(Yab.mp hl).1
   have s3:Same H2 (upd H2 q (.tup [.int i,.int l])):=Same.new hq;have hq3:upd H2 q (.tup [.int i,.int l]) q=some (.tup [.int i,.int l]):=Zab;generalize upd H2 q (.tup [.int i,.int l])=H3 at s3 hq3 ⊢;have hpl:ps.length=i:=by rw[hpr.len,ZiJ,Yav];omega
   refine⟨q,_,rfl,SqT.of hq3,rfl,_,_,rfl,_,_,rfl,rfl,?_⟩;refine⟨_,rfl,_,rfl,(by show 2<=sizeLine;decide),fun t ht=>?_⟩;have hacc3:=s3 _ _ hacc;have hta:t≠acc:=Ybn (Zae hacc3 ht);have s45:Same H3 (upd H3 t (.tup [.int l,.int i])):=Same.new ht;have ht5:upd H3 t (.tup [.int l,.int i]) t=some (.tup (([l,(i:Int)]:List Int).map V.int)):=Zab;generalize upd H3 t (.tup [.int l,.int i])=H5 at s45 ht5 ⊢;refine⟨_,s45 _ _ hacc3,by rw[Yaa];omega,by rw[Yaa];exact hi,(s2.trans (s3.trans s45)).put h0,ps++[t],by rw[Zab,Yai];rfl,fun p hp=>?_,?_⟩
   ·rcases Yah.mp hp with hp | hp
    ·exact hne p hp
    ·rw[Yaj.mp hp];exact hta
   ·have:=(hpr.same (s3.trans s45)).snoc ht5 (by simp);rw[<- ZkD hl] at this;refine this.keep fun p hp=>Zai ?_;rcases Yah.mp hp with hp | hp
    ·exact hne p hp
    ·rw[Yaj.mp hp];exact hta
  rintro acc H2 h0 ⟨s2,ps,hacc,hne,hpr⟩;rw[Yaa,YaM] at hpr;refine⟨acc,ps,kf H2,rfl,SqL.of hacc,Zlx hpr,fun fl fs nfl pm up=>?_⟩;have s23:Same H2 (upd H2 fl (.lst (fs.map V.ref))):=Same.new nfl;have hfl:upd H2 fl (.lst (fs.map V.ref)) fl=some (.lst (fs.map V.ref)):=Zab;have hlf2:TuM H2 fs (fs.map (kf H2)):=⟨fun p hp=>hpr.1 p (pm.mem_iff.mp hp),rfl⟩
  have lfp:(fs.map (kf H2)).Perm (prJ ls):=by rw[<- hpr.2];exact pm.map _
  have lfu:(fs.map (kf H2)).Pairwise (fun p q=>lxB q p=false):=Ybz.mpr up;have hlf3:=hlf2.same s23;generalize upd H2 fl (.lst (fs.map V.ref))=H3 at s23 hfl hlf3 ⊢;generalize fs.map (kf H2)=ks at hlf3 lfp lfu;have sH3:=s2.trans s23;refine⟨_,rfl,_,rfl,ll,_,rfl,SqB.orJ (SqB.sameJ sH3 hL),p,_,rfl,by omega,?_⟩;rw[Yaa];refine⟨Ya2 _,fun lg nlg=>?_⟩;have x4:upd H3 lg (.lst []) lg=some (.lst (([]:List Addr).map V.ref)):=Zab;have u4:Same H3 (upd H3 lg (.lst [])):=Same.new nlg;have flg:fl≠lg:=Zae hfl nlg;have nlgH:H lg=none:=sH3.free nlg;generalize upd H3 lg (.lst [])=H4 at x4 u4 ⊢;have hk2:∀ k∈ks,k.length=2:=fun k hk=>by
   obtain⟨j,hj⟩:=YbS (lfp.subset hk);unfold prJ at hj;rw[YcX] at hj
   cases e:ls[j]? with
   | none=>rw[e] at hj;cases hj
   | some l=>rw[e] at hj;cases hj;rfl
  have hfs:(ks.map fun k=>k.getD 0 0).Perm ls:=by
   have:=lfp.map fun k:List Int=>k.getD 0 0
   rwa [Zms] at this
  have hksl:ks.length=ls.length:=by rw[lfp.length_eq,ZiJ]
  refine⟨fun m σ Hx=>∃ (l:Addr) (qs:List Addr) (ks:List (List Int)) (rs:List Addr) (mm R:Int) (o6 o7:Option V),m=ks.length/\σ=[some (.int p),some (.ref ll),some (.ref l),some (.int mm),some (.int R),some (.ref lg),o6,o7]/\Hx l=some (.lst (qs.map V.ref))/\l≠lg/\TuM Hx qs ks/\(∀ k∈ks,k.length=2)/\ks.Pairwise (fun p q=>lxB q p=false)/\R+hf p (ks.map fun k=>k.getD 0 0)=hf p ls/\(2<=ks.length->mm=fmJ p ks.length)/\Hx lg=some (.lst (rs.map V.ref))/\rs.length+ks.length<=ls.length/\Same H Hx,
   ⟨ks.length,fl,fs,ks,[],_,0,_,_,rfl,rfl,u4 _ _ hfl,flg,hlf3.same u4,hk2,lfu,by rw[ZgA hfs];omega,fun h=>?_,x4,by simp;omega,sH3.trans u4⟩,?_⟩
  ·have h1:=ZcQ (p:=(p:Int)) (by omega) h;unfold fmJ at h1 ⊢;rw[hksl] at h1 h ⊢;have h2:=Ych ((ls.length:Int) - 2) (show (p:Int) - 1≠0 by omega);omega
  rintro m σ Hx ⟨l,qs,ks,rs,mm,R,o6,o7,rfl,rfl,hl,llg,hTu,hk2,hup,hR,hmm,hlg,hrs,sx⟩;clear x4 u4 flg hfs hksl lfp lfu hlf3 hlf2 hfl s23 pm up;have hql:qs.length=ks.length:=hTu.len;refine⟨_,rfl,l,_,rfl,.inl (SqL.of hl),_,_,rfl,rfl,_,rfl,?_⟩;rw[Yaa,hql];refine ite2 (fun hgt=>?_) (fun hle=>?_)
  ·have hgt:((ks.length:Nat):Int) > 1:=of_decide_eq_true hgt;have h2:2<=ks.length:=by (clear hql hrs hmm hR llg hz hl5 p7 p2;omega)
   have hmf:=hmm h2;subst hmf;obtain⟨f1,f2,f3,q,hq,f4⟩:=ZcQ (p:=(p:Int)) (by (clear hmm h2 hgt hql hrs hR llg hz hl5 p7;omega)) h2;have hwup:(ks.map fun k=>k.getD 0 0).Pairwise (·<=·):=ZnO hk2 hup;have hst:=ZjI (p:=(p:Int)) (by (clear f4 hq f3 f2 f1 hmm h2 hgt hql hrs hR llg hz hl5 p7;omega)) hwup (by rw[Yaa];exact h2);rw[Yaa] at hst;have hnx:=ZmS (p:=(p:Int)) (by (clear hst f4 hq f3 f2 f1 hmm h2 hgt hql hrs hR llg hz hl5 p7;omega)) h2;generalize fmJ p ks.length=F at *;refine⟨fun σ' H'=>∃ (m:Nat) (l:Addr) (qs:List Addr) (ks':List (List Int)) (rs:List Addr) (mm R:Int) (o6 o7:Option V),m=ks'.length/\m<ks.length/\σ'=[some (.int p),some (.ref ll),some (.ref l),some (.int mm),some (.int R),some (.ref lg),o6,o7]/\H' l=some (.lst (qs.map V.ref))/\l≠lg/\TuM H' qs ks'/\(∀ k∈ks',k.length=2)/\ks'.Pairwise (fun p q=>lxB q p=false)/\R+hf p (ks'.map fun k=>k.getD 0 0)=hf p ls/\(2<=ks'.length->mm=fmJ p ks'.length)/\H' lg=some (.lst (rs.map V.ref))/\rs.length+ks'.length<=ls.length/\Same H H',fun σ' H' ⟨m,l,qs,ks',rs,mm,R,o6,o7,e1,e2,r⟩=>⟨m,e2,l,qs,ks',rs,mm,R,o6,o7,e1,r⟩,?_⟩;refine⟨_,rfl,_,rfl,_,rfl,l,_,rfl,SqL.of hl,fun tk ntk=>?_⟩;rw[Zlo];have s1:Same Hx (upd Hx tk (.lst ((qs.map V.ref).take F))):=Same.new ntk;have e1:upd Hx tk (.lst ((qs.map V.ref).take F)) tk=some (.lst ((qs.take F).map V.ref)):=by rw[Zab,Yb7]
   generalize upd Hx tk (.lst ((qs.map V.ref).take F))=G1 at s1 e1 ⊢;have hTk:TuM G1 (qs.take F) (ks.take F):=Zkg (hTu.same s1) F;refine⟨_,rfl,tk,true,rfl,⟨_,SqL.of e1⟩,?_⟩;refine ZbP ((((ks.take F).map fun k=>k.getD 0 0)).map V.int) (show SqB true K G1 tk ((qs.take F).map V.ref) from SqL.of e1) (by rw[Yaa,Yaa,Yaa,Yav,Yav,hql]) (by rw[Yaa,Yav];(clear hnx hst f4 f3 f2 f1 hmm hq h2 hgt hR llg hz p7 p2;omega)) (fun j x y hx hy Hc sc' Rr hRr=>?_) fun ac G2 nac s2 hac=>?_
   ·obtain⟨z,a,b,hz,rfl,rfl⟩:=Zmx hTk (fun k hk=>hk2 k (Yba hk)) hx hy;exact⟨z,_,rfl,SqT.of (sc' _ _ hz),rfl,_,_,rfl,_,_,rfl,rfl,_,rfl,hRr Hc (Same.refl _)⟩
   refine⟨ac,_,rfl,SqL.of hac,?_⟩;have hl2:=s2 _ _ (s1 _ _ hl);have hTu2:=(hTu.same s1).same s2;have hlg2:=s2 _ _ (s1 _ _ hlg);have sx2:=(sx.trans s1).trans s2;have htk2:=s2 _ _ e1;have hTk2:=hTk.same s2;generalize hmd:((ks.take F).map fun k=>k.getD 0 0).sum=made;refine⟨_,rfl,_,rfl,_,rfl,l,_,rfl,SqL.of hl2,fun u1 nu1=>?_⟩;rw[Zlp];have s3:Same G2 (upd G2 u1 (.lst ((qs.map V.ref).drop F))):=Same.new nu1;have e3:upd G2 u1 (.lst ((qs.map V.ref).drop F)) u1=some (.lst ((qs.drop F).map V.ref)):=by rw[Zab,Ycj]
   generalize upd G2 u1 (.lst ((qs.map V.ref).drop F))=G3 at s3 e3 ⊢;refine⟨_,rfl,_,rfl,ll,_,rfl,SqB.orJ (SqB.sameJ (sx2.trans s3) hL),_,rfl,lg,_,rfl,.inl (SqL.of (s3 _ _ hlg2)),_,_,rfl,rfl,(by show 2<=sizeLine;decide),fun t nt=>?_⟩;have s4:Same G3 (upd G3 t (.tup [.int made,.int (((ls.map V.int).length:Int)+((rs.map V.ref).length:Int))])):=Same.new nt;have e4:upd G3 t (.tup [.int made,.int (((ls.map V.int).length:Int)+((rs.map V.ref).length:Int))]) t=some (.tup (([made,((ls.map V.int).length:Int)+((rs.map V.ref).length:Int)]:List Int).map V.int)):=Zab;generalize upd G3 t (.tup [.int made,.int (((ls.map V.int).length:Int)+((rs.map V.ref).length:Int))])=G4 at s4 e4 ⊢;generalize ((ls.map V.int).length:Int)+((rs.map V.ref).length:Int)=id9 at e4;refine⟨(by show 1<=sizeLine;decide),fun u2 nu2=>?_⟩;have s5:Same G4 (upd G4 u2 (.lst [.ref t])):=Same.new nu2;have e5:upd G4 u2 (.lst [.ref t]) u2=some (.lst (([t]:List Addr).map V.ref)):=Zab;generalize upd G4 u2 (.lst [.ref t])=G5 at s5 e5 ⊢;refine⟨u1,u2,_,_,rfl,rfl,s5 _ _ (s4 _ _ e3),e5,by rw[sizeLine_eq,Yaa,Yaa,YaX];simp;(clear hmd hnx hst f4 f3 f2 f1 hmm hq h2 hgt hR llg hz p7 p2;omega),fun u3 nu3=>?_⟩;rw[<- Yai];have s6:Same G5 (upd G5 u3 (.lst ((qs.drop F++[t]).map V.ref))):=Same.new nu3;have e6:upd G5 u3 (.lst ((qs.drop F++[t]).map V.ref)) u3=some (.lst ((qs.drop F++[t]).map V.ref)):=Zab;generalize upd G5 u3 (.lst ((qs.drop F++[t]).map V.ref))=G6 at s6 e6 ⊢;have s26:=(s3.trans s4).trans (s5.trans s6);have hT6:TuM G6 (qs.drop F++[t]) (ks.drop F++[[made,id9]]):=((Zkh hTu2 F).same s26).snoc (s6 _ _ (s5 _ _ e4)) (by simp);refine⟨u3,_,kf G6,rfl,SqL.of e6,Zlx hT6,fun fl2 fs2 nfl2 pm2 up2=>?_⟩;have s7:Same G6 (upd G6 fl2 (.lst (fs2.map V.ref))):=Same.new nfl2;have e7:upd G6 fl2 (.lst (fs2.map V.ref)) fl2=some (.lst (fs2.map V.ref)):=Zab;have hT7:TuM G6 fs2 (fs2.map (kf G6)):=⟨fun p hp=>hT6.1 p (pm2.mem_iff.mp hp),rfl⟩
   have pk:(fs2.map (kf G6)).Perm (ks.drop F++[[made,id9]]):=by rw[<- hT6.2];exact pm2.map _
   have uk:(fs2.map (kf G6)).Pairwise (fun p q=>lxB q p=false):=Ybz.mpr up2;have hT7':=hT7.same s7;have nfl2lg:fl2≠lg:=(Zae (s26 _ _ hlg2) nfl2).symm;generalize upd G6 fl2 (.lst (fs2.map V.ref))=G7 at s7 e7 hT7' ⊢;generalize fs2.map (kf G6)=ks2 at hT7' pk uk;have s27:=s26.trans s7;have hlg7:=s27 _ _ hlg2;have htk7:=s27 _ _ htk2;have hTk7:=hTk2.same s27;have sx7:=sx2.trans s27;refine⟨_,rfl,_,rfl,R,made,rfl,rfl,?_⟩;refine⟨_,rfl,.inl ⟨rfl,_,SqL.of hlg7⟩,_,rfl,tk,true,rfl,⟨_,SqL.of htk7⟩,?_⟩;refine ZbP ((((ks.take F).map fun k=>k.getD 1 0)).map V.int) (show SqB true K G7 tk ((qs.take F).map V.ref) from SqL.of htk7) (by rw[Yaa,Yaa,Yaa,Yav,Yav,hql]) (by rw[Yaa,Yav];(clear nfl2lg hmd hnx hst f4 f3 f2 f1 hmm hq h2 hgt hR llg hz p7 p2;omega)) (fun j x y hx hy Hc sc' Rr hRr=>?_) fun ac8 G8 nac8 s8 hac8=>?_
   ·obtain⟨z,a,b,hz,rfl,rfl⟩:=ZkI hTk7 (fun k hk=>hk2 k (Yba hk)) hx hy;exact⟨z,_,rfl,SqT.of (sc' _ _ hz),rfl,_,_,rfl,_,_,rfl,rfl,_,rfl,hRr Hc (Same.refl _)⟩
   refine⟨ac8,_,rfl,SqL.of hac8,fun l9 ms nl9 hpm hup9=>?_⟩;have s9:Same G8 (upd G8 l9 (.lst (ms.map V.int))):=Same.new nl9;have e9:upd G8 l9 (.lst (ms.map V.int)) l9=some (.lst (ms.map V.int)):=Zab;generalize upd G8 l9 (.lst (ms.map V.int))=G9 at s9 e9 ⊢;refine⟨l9,_,rfl,.inl ⟨SqL.of e9,fun tt ntt=>?_⟩⟩;have s10:Same G9 (upd G9 tt (.tup (ms.map V.int))):=Same.new ntt;generalize upd G9 tt (.tup (ms.map V.int))=G10 at s10 ⊢;have s710:=(s8.trans s9).trans s10;have hlg10:=s710 _ _ hlg7;have hks2l:ks2.length=ks.length - F+1:=by rw[pk.length_eq,Yag,YaX];rfl
   refine⟨lg,_,_,rfl,rfl,hlg10,by rw[Yaa];(clear hks2l nfl2lg hmd hnx hst f4 f3 f2 f1 hmm hq h2 hgt hql hR llg p7 p2;omega),?_⟩;have hk22:∀ k∈ks2,k.length=2:=fun k hk=>by
    rcases Yah.mp (pk.subset hk) with z | z
    ·exact hk2 k (Ya3 z)
    ·rw[Yaj.mp z];rfl
   have hws:(ks2.map fun k=>k.getD 0 0).Perm (made::(ks.map fun k=>k.getD 0 0).drop F):=by
    refine (pk.map _).trans ?_;rw[Yai,Ycj];exact YbD
   have hRn:R+made+hf p (ks2.map fun k=>k.getD 0 0)=hf p ls:=by
    rw[ZgA hws];rw[<- Yb7,hmd] at hst
    (clear hks2l nfl2lg hmd hnx f4 f3 f2 f1 hmm hq h2 hgt hql hrs llg hz hl5 p7 p2;omega)
   refine⟨_,rfl,ks2.length,fl2,fs2,ks2,rs++[tt],p,R+made,_,_,rfl,by (clear hRn nfl2lg hmd hnx hst f4 f3 f2 hmm hq h2 hql hrs hR llg hz hl5 p7 p2;omega),rfl,?_,nfl2lg,?_,hk22,uk,hRn,fun h=>?_,by rw[Zab,Yai];rfl,by rw[Yag,hks2l];simp;(clear hRn hks2l nfl2lg hmd hnx hst f4 f3 f2 hmm hq h2 hql hR llg hz hl5 p7 p2;omega),(sx7.trans s710).put nlgH⟩
   ·rw[Zai nfl2lg];exact s710 _ _ e7
   ·refine (hT7'.same s710).keep fun z hz=>Zai fun e=>?_;obtain⟨k',_,hk'⟩:=(hT7'.same s710).1 z hz;rw[e,hlg10] at hk';cases hk'
   ·rw[hks2l] at h ⊢;exact (hnx h).symm
  ·have hle:¬ ((ks.length:Nat):Int) > 1:=fun z=>hle (decide_eq_true z);have h0:hf p (ks.map fun k=>k.getD 0 0)=0:=Zhg (by rw[Yaa];(clear hql hrs hmm hR llg hz hl5 p7 p2;omega));refine⟨_,rfl,_,rfl,(by show 2<=sizeLine;decide),fun t nt=>?_⟩;have hRe:R=hf p ls:=by (clear hle hql hrs hmm llg hz hl5 p7 p2;omega)
   rw[hRe];exact k t lg rs _ (sx.free nt) Zab ((Same.new nt) _ _ hlg) (sx.trans (Same.new nt))
end
end Fj89
namespace Fj89
open PySem L2 Lv
section
variable {P:Program}{w:World}{K:Yad}{mg:Str->Option Value}{base:Heap}
theorem scTold:FnScope ["p","following","told","numbers"] ["p","following"] (Zac ZhC):=⟨rfl,rfl,rfl,by decide +kernel,rfl,by decide +kernel,by decide +kernel⟩
theorem ZkQ {f fA fB fC:Addr}{fd dA dB dC:FuncData}{t4:Tok} (F:Fun K "numbers_told" "numbers_told" ZhC f fd) (T:Txt mg) (hM:mg "MOST_PLACES"=some (.int 4000 t4)) (CB:Cal P w K mg base 1 "first_numbers" ["p"] Zdd fB dB) (CP:Cal P w K mg base 1 "places_in" ["numbers"] ZbT fC dC) (CA:Cal P w K mg base 1 "next_numbers" ["numbers"] ZcB fA dA):FnOk P w K mg base CX0 2 f fd ["p","following"] (Zf5 fA):=by
 refine F.ok scTold (fun vs H Q E h=>?_) (fun cdv A outer s H vs Q E hr h=>?_)
 ·obtain⟨p,rfl,_⟩:=h;rfl
 ·obtain⟨p,rfl,h2,h7,k⟩:=h;refine⟨_,Zaf (Zat (i:=2) scTold.nd rfl (YaN rfl) (ZaM Zad))
   (Zaf (Zat (i:=3) scTold.nd rfl (YaN rfl) (Zam CB hr rfl (Zaa (pv 0) Zad)))
   (Zaf (Zdf Ybi (Zax ZdC (Zam CP hr rfl (Zaa (pv 3) Zad)) (ZcM rfl hM) (ZaA _))
    (Zaf (ZaD (Zc7 Ya9 YbC YbB ZaT (pv 2) (Zaa (pv 3) Zad)))
    (Zak (Zat (i:=3) scTold.nd rfl (YaN rfl) (ZiV 1 CA hr (Zaa (pv 3) Zad))))))
   (Zak (Zas (pv 2))))),?_⟩
  have hz:5000<sizeLine:=by decide
  refine⟨Ya2 _,fun l nl=>?_⟩;have x1:upd H l (.lst []) l=some (.lst (([]:List Addr).map V.ref)):=Zab;have u1:Same H (upd H l (.lst [])):=Same.new nl;generalize upd H l (.lst [])=H1 at x1 u1 ⊢;refine⟨_,rfl,p,rfl,h2,h7,fun q qs H2 nq hq hTT s2=>?_⟩;refine⟨fun m σ Hx=>∃ (i:Nat) (as:List Addr) (q:Addr) (qs:List Addr),m=4001 - i/\σ=[some (.int p),some (.ref fA),some (.ref l),some (.ref q)]/\Hx l=some (.lst (as.map V.ref))/\LvsT Hx as (Zcm p i)/\(∀ j,j<i->(num p j).flatten.length<=4000)/\Hx q=some (.tup (qs.map V.ref))/\TTs Hx qs (num p i)/\Same H Hx,
   ⟨4001,0,[],q,qs,rfl,rfl,s2 _ _ x1,⟨rfl,fun j x N a=>(nomatch a)⟩,fun j hj=>absurd hj (Ycv _),hq,hTT,u1.trans s2⟩,?_⟩
  rintro m σ Hx ⟨i,as,q,qs,rfl,rfl,hl,hLv,hall,hq,hTT,sx⟩;have hlen:=Za5 (p:=p) (by omega) i;have hg:=Zf0 h2 i;have hfl:=Zbi p i;refine⟨_,rfl,q,qs,num p i,rfl,hq,hTT,by omega,fun H3 s3=>?_⟩;refine⟨_,_,rfl,rfl,_,rfl,?_⟩;have sx3:=sx.trans s3;refine ite2 (fun hle=>?_) (fun hgt=>?_)
  ·have hle:((num p i).flatten.length:Int)<=4000:=of_decide_eq_true hle;have asl:as.length=i:=by rw[hLv.1,Zfd]
   have hl3:=s3 _ _ hl;refine⟨fun σ' H'=>∃ (i':Nat) (as:List Addr) (q:Addr) (qs:List Addr),i'=i+1/\σ'=[some (.int p),some (.ref fA),some (.ref l),some (.ref q)]/\H' l=some (.lst (as.map V.ref))/\LvsT H' as (Zcm p i')/\(∀ j,j<i'->(num p j).flatten.length<=4000)/\H' q=some (.tup (qs.map V.ref))/\TTs H' qs (num p i')/\Same H H',fun σ' H' ⟨i',as,q,qs,e,r⟩=>⟨4001 - i',by omega,i',as,q,qs,rfl,r⟩,?_⟩;refine⟨_,rfl,.inl ⟨rfl,_,SqL.of hl3⟩,_,rfl,l,_,_,rfl,rfl,hl3,by rw[Yaa];omega,?_⟩;have hq4:upd H3 l (.lst (as.map V.ref++[.ref q])) q=some (.tup (qs.map V.ref)):=by
    rw[Zai fun z=>by have:=s3 _ _ hq;rw[z,hl3] at this;cases this];exact s3 _ _ hq
   have hT4:TTs (upd H3 l (.lst (as.map V.ref++[.ref q]))) qs (num p i):=TTs.lst (hTT.same s3) hl3;have hLv4:=((hLv.same s3).lst (ys:=as.map V.ref++[.ref q]) hl3).snoc hq4 hT4;rw[<- Zhw] at hLv4;have hl4:upd H3 l (.lst (as.map V.ref++[.ref q])) l=some (.lst ((as++[q]).map V.ref)):=by rw[Zab,Yai];rfl
   have sx4:Same H (upd H3 l (.lst (as.map V.ref++[.ref q]))):=sx3.put nl;generalize upd H3 l (.lst (as.map V.ref++[.ref q]))=H4 at hq4 hT4 hLv4 hl4 sx4 ⊢;refine⟨rfl,_,rfl,q,qs,num p i,rfl,hq4,hT4,by omega,by omega,?_,fun xs hx=>?_,fun l3 qs3 H5 h30 h3 hq3 s5=>?_⟩
   ·obtain⟨x,r,e,hx,_⟩:=ZeT h2 i;rw[e];exact hx
   ·have:=Zg8 hx;omega
   ·exact⟨i+1,as++[q],l3,qs3,rfl,rfl,s5 _ _ hl4,hLv4.same s5,fun j hj=>by
     by_cases e:j=i
     ·subst e;omega
     ·exact hall j (by omega),h3,hq3,sx4.trans s5⟩
  ·have hgt:¬ ((num p i).flatten.length:Int)<=4000:=fun z=>hgt (decide_eq_true z);exact⟨_,rfl,k l as i H3 nl (s3 _ _ hl) (hLv.same s3) hall (by omega) sx3⟩
theorem scBestBy:FnScope ["levels","lengths","best","n","numbers","reading","placing"] ["levels","lengths"] (Zac ZcJ):=⟨rfl,rfl,rfl,by decide +kernel,rfl,by decide +kernel,by decide +kernel⟩
theorem SqB.sameB {b:Bool}{H H':Hp}{a:Addr}{xs:List V} (e:Same H H') (h:SqB b K H a xs):SqB b K H' a xs:=by
 cases b
 ·exact e.tup h
 ·exact e.seq h
theorem SqB.orB {b:Bool}{H:Hp}{a:Addr}{xs:List V} (h:SqB b K H a xs):SqL K H a xs∨SqT K H a xs:=by
 cases b
 ·exact .inr h
 ·exact .inl h
theorem ZhT {f f1 f2:Addr}{fd d1 d2:FuncData} (F:Fun K "best_by" "best_by" ZcJ f fd) (T:Txt mg) (Te:mg "enumerate"=none) (CP:Cal P w K mg base 1 "places_in" ["numbers"] ZbT f1 d1) (CL:Cal P w K mg base 2 "least_by" ["numbers","lengths"] (Zdt K) f2 d2):FnOk P w K mg base CX0 3 f fd ["levels","lengths"] (Zdw K):=by
 refine F.ok scBestBy (fun vs H Q E h=>?_) (fun cdv A outer s H vs Q E hr h=>?_)
 ·obtain⟨lv,ll,b,as,L,ls,rfl,_⟩:=h;rfl
 ·obtain⟨lv,ll,b,as,L,ls,rfl,hV,hLv,hL,hN,hb1,k⟩:=h;have hr1:Room 1 _:=hr.mono (by decide);refine⟨_,Zaf (Zat (i:=2) scBestBy.nd rfl (YaN rfl) Zc2)
   (Zaf (Zbp Ybi rfl (Za9 rfl Te (Zaa (pv 0) Zad)) (Zbh rfl (Zan (Zah (i:=3) scBestBy.nd rfl (YaN rfl)) (Zan (Zah (i:=4) scBestBy.nd rfl (YaN rfl)) ZaC)))
    (Zak (Zbo (Zax Zmz (Zam CP hr1 rfl (Zaa (pv 4) Zad)) (Zaj Zap rfl T.len YaV (Zaa (pv 1) Zad)) (ZaA _))
     (Zaf (ZbC (Zam CL hr rfl (Zaa (pv 4) (Zaa (pv 1) Zad))) (Zbh rfl (Zan (Zah (i:=5) scBestBy.nd rfl (YaN rfl)) (Zan (Zah (i:=6) scBestBy.nd rfl (YaN rfl)) ZaC))))
     (Zak (Zbo (PW.pt (ZdP (Znk (Znq (pv 2))) (Zb2 (Zax Zc8 (pv 5) (ZaS Zb3 (pv 2) Zag (fun _ _=>rfl)) (ZaA _))))) (Zak (Zat (i:=2) scBestBy.nd rfl (YaN rfl) (Za6 (Zaa (pv 5) (Zaa (pv 3) (Zaa (pv 6) Zad)))))) ZaH))) ZaH)))
   (Zak (Zas (pv 2)))),?_⟩
  refine⟨_,rfl,lv,true,rfl,⟨_,SqL.of hV⟩,?_⟩;refine ZdK (b:=true) (xs:=as.map V.ref) (fun i σ H2=>∃ (o:Option (Int × Nat)) (v:V) (o3 o4 o5 o6:Option V),σ=[some (.ref lv),some (.ref ll),some v,o3,o4,o5,o6]/\BestOf ls L i o/\BestVP ls L H2 o v/\Same H H2)
   ⟨none,.non,_,_,_,_,rfl,fun j N hj=>absurd hj (Ycv _),rfl,Same.refl _⟩ (fun i σ H2 _ ⟨_,_,_,_,_,_,_,_,_,s2⟩=>SqL.of (s2 _ _ hV)) ?_ ?_
  ·rintro i x u σ H2 hx ⟨o,v,o3,o4,o5,o6,rfl,hO,hBv,s2⟩ nu;obtain⟨q,hq,rfl⟩:=ZcP hx;have hi:=(Yab.mp hq).1
   obtain⟨N,hNi⟩:∃ N,L[i]?=some N:=⟨_,Yac (by rw[<- hLv.1];exact hi)⟩
   obtain⟨n7,n9,nb⟩:=hN N (Yam hNi);obtain⟨rs,hqa,hTT⟩:=hLv.2 i q N hq hNi;have su:Same H2 (upd H2 u (.tup [.int i,.ref q])):=Same.new nu;have hu3:upd H2 u (.tup [.int i,.ref q]) u=some (.tup [.int i,.ref q]):=Zab;generalize upd H2 u (.tup [.int i,.ref q])=H3 at su hu3 ⊢;have s3:=s2.trans su;refine⟨u,_,rfl,SqT.of hu3,rfl,_,_,rfl,_,_,rfl,rfl,?_⟩;refine⟨_,rfl,q,rs,N,rfl,s3 _ _ hqa,hTT.same s3,n7,fun H4 s4=>?_⟩;have s04:=s3.trans s4;have hBv4:=hBv.same (su.trans s4);refine⟨_,rfl,ll,_,rfl,SqB.orB (SqB.sameB s04 hL),_,_,rfl,rfl,_,rfl,?_⟩;rw[Yaa];refine ite2 (fun hf=>?_) (fun hf=>?_)
   ·have hf:(ls.length:Int)<=(N.flatten.length:Int):=of_decide_eq_true hf;have hfit:Fit ls N:=by unfold Fit;omega
    refine⟨_,rfl,_,rfl,q,ll,b,rs,N,ls,rfl,s04 _ _ hqa,hTT.same s04,n7,n9,SqB.sameB s04 hL,hfit,hb1,nb,fun t pl qs ks lf lp H5 nt ht npl hpl hM hin hst s5=>?_⟩;have s05:=s04.trans s5;have hBv5:=hBv4.same s5;have hrd:Zeq ls N (ZaQ N ls ks).sum:=⟨ks,lf,lp,hst,hin,rfl⟩
    generalize hR:(ZaQ N ls ks).sum=R at ht hrd;refine⟨t,_,rfl,SqT.of ht,rfl,_,_,rfl,_,_,rfl,rfl,?_⟩
    match o,hO,hBv5 with
    | none,hO,hBv5=>
     have hv:v=.non:=hBv5;subst hv;refine⟨_,rfl,true,rfl,iteT ?_⟩;refine iteT ⟨_,rfl,_,rfl,_,rfl,(by show 3<=sizeLine;decide),fun bt nbt=>?_⟩;exact⟨some (R,i),.ref bt,_,_,_,_,rfl,hO.first hNi hfit hrd,⟨bt,pl,qs,N,ks,lf,lp,rfl,Zab,(Same.new nbt) _ _ hpl,hM.same (Same.new nbt),hNi,hst,hin,hfit,hR.symm⟩,s05.trans (Same.new nbt)⟩
    | some (R',n),hO,⟨bt0,pl0,qs0,N0,ks0,lf0,lp0,hv,hbt0,hrest⟩=>
     subst hv;refine⟨_,rfl,false,rfl,iteF ?_⟩;refine⟨_,rfl,_,rfl,bt0,_,0,.int R',rfl,rfl,SqT.of hbt0,rfl,R,R',rfl,rfl,_,rfl,?_⟩;refine ite2 (fun hlt=>?_) (fun hge=>?_)
     ·have hlt:R<R':=of_decide_eq_true hlt;refine⟨_,rfl,_,rfl,_,rfl,(by show 3<=sizeLine;decide),fun bt nbt=>?_⟩;exact⟨some (R,i),.ref bt,_,_,_,_,rfl,hO.better hNi hfit hrd hlt,⟨bt,pl,qs,N,ks,lf,lp,rfl,Zab,(Same.new nbt) _ _ hpl,hM.same (Same.new nbt),hNi,hst,hin,hfit,hR.symm⟩,s05.trans (Same.new nbt)⟩
     ·have hge:¬ R<R':=fun z=>hge (decide_eq_true z);exact⟨some (R',n),.ref bt0,_,_,_,_,rfl,hO.worse hNi hfit hrd hge,⟨bt0,pl0,qs0,N0,ks0,lf0,lp0,rfl,hbt0,hrest⟩,s05⟩
   ·have hf:¬ (ls.length:Int)<=(N.flatten.length:Int):=fun z=>hf (decide_eq_true z);exact⟨o,v,_,_,_,_,rfl,hO.skip hNi (fun z=>hf (by unfold Fit at z;omega)),hBv4,s04⟩
  ·rintro σ H2 ⟨o,v,o3,o4,o5,o6,rfl,hO,hBv,s2⟩;rw[Yaa,hLv.1] at hO;exact⟨_,rfl,k o v H2 hO hBv s2⟩
theorem Zod:FnScope ["p","lengths"] ["p","lengths"] (Zac sBPl):=⟨rfl,rfl,rfl,by decide +kernel,rfl,by decide +kernel,by decide +kernel⟩
theorem Zny {f f1 f2 f3 f4:Addr}{fd d1 d2 d3 d4:FuncData} (F:Fun K "best_placing" "best_placing" sBPl f fd) (T:Txt mg) (CW:Cal P w K mg base 2 "check_ways" ["p"] Zds f1 d1) (CN:Cal P w K mg base 1 "next_numbers" ["numbers"] ZcB f2 d2) (CT:Cal P w K mg base 2 "numbers_told" ["p","following"] (Zf5 f2) f3 d3) (CB:Cal P w K mg base 3 "best_by" ["levels","lengths"] (Zdw K) f4 d4):FnOk P w K mg base CX0 4 f fd ["p","lengths"] (Zl8 K):=by
 refine F.ok Zod (fun vs H Q E h=>?_) (fun cdv A outer s H vs Q E hr h=>?_)
 ·obtain⟨p,ll,b,ls,rfl,_⟩:=h;rfl
 ·obtain⟨p,ll,b,ls,rfl,h2,h7,hL,hl5,hb,k⟩:=h;have hr2:Room 2 _:=hr.mono (by decide);have hr3:Room 3 _:=hr.mono (by decide);refine⟨_,(Zaf (ZaD (Zam CW hr2 rfl (Zaa (pv 0) Zad)))
   (Zak (Zas (Zam CB hr3 rfl (Zaa (Zam CT hr2 rfl (Zaa (pv 0) (Zaa (ZlL CN rfl) Zad))) (Zaa (pv 1) Zad)))))),?_⟩
  refine⟨_,rfl,p,rfl,by omega,by omega,?_⟩;refine⟨_,rfl,p,rfl,h2,h7,fun l as m H1 nl hl hLv hall hmore s1=>?_⟩;obtain⟨hm1,hm5⟩:=Zhv h2 h7 hmore;have hm9:∀ i,i<m->tot p i<=4000:=fun i hi=>by
   have:=hall i hi;have:=Zbi p i;omega
  have hN:∀ N∈Zcm p m,N.length<=7/\N.flatten.length<=100000/\∀ xs∈N,∀ z∈xs,YaR z<=8000:=fun N hm=>by
   unfold Zcm at hm;obtain⟨i,hi,rfl⟩:=YaS.mp hm;have hi:=Ybu.mp hi;have ht:=hall i hi;have hg:=Zf0 h2 i;have hfl:=Zbi p i;refine⟨by rw[Za5 (by (clear hfl hg ht hi hm5 hm1 hmore hl5 h7;omega))];exact h7,by (clear hfl hg hi hm5 hm1 hmore hl5 h7 h2;omega),fun xs hx z hz=>?_⟩;have h8:((p:Int))*i<=7*i:=YbG (by (clear hfl hg ht hi hm5 hm1 hmore hl5 h2;omega)) (by (clear hfl hg ht hi hm5 hm1 hmore hl5 h7 h2;omega));have:=Zeo p i xs hx z hz;exact Zbs (by (clear h8 hfl hg ht hi hm5 hm1 hmore hl5 h7 h2;omega)) (by omega)
  refine⟨_,rfl,l,ll,b,as,Zcm p m,ls,rfl,hl,hLv,SqB.sameJ s1 hL,hN,hb,fun o v H2 hO hV s2=>?_⟩;rw[Zfd] at hO
  match o,hO,hV with
  | none,hO,hV=>
   exfalso;exact hO (m - 1) _ (by omega) (Zfe (by omega)) (by unfold Fit;omega)
  | some (R,n),hO,⟨t,pl,qs,N,ks,lf,lp,hv,ht,hpl,hM,hNn,hst,hin,hfit,hR⟩=>
   subst hv;have hn:n<m:=hO.1;rw[Zfe hn] at hNn;cases hNn;subst hR;have:=Zbi p m;exact k t pl qs ks lf lp n m H2 (.inr trivial) ht hpl hM hst hin hfit (hm9 n hn) hn hO hm9 (by omega) (s1.trans s2)
theorem Znd:FnScope ["p","n","lengths","placing"] ["p","n","lengths","placing"] (Zac ZhD):=⟨rfl,rfl,rfl,by decide +kernel,rfl,by decide +kernel,by decide +kernel⟩
def Zio (K:Yad):Sp:=fun vs H Q _=>∃ (p n:Nat) (ll pl:Addr) (b:Bool) (qs:List Addr) (ls:List Int) (ks:List (List Int)),vs=[.int p,.int n,.ref ll,.ref pl]/\2<=p/\p<=7/\n<=300/\tot p n<=4000/\SqB b K H ll (ls.map V.int)/\H pl=some (.lst (qs.map V.ref))/\TuM H qs ks/\(∀ k∈ks,InN (num p n) k)/\(ls.length=ks.length/\ls.length<=100000)/\(∀ l∈ls,YaR l<=8000)/\∀ H',Same H H'->Q (.int (ZaQ (num p n) ls ks).sum) H'
theorem ZmC {f f1 f2:Addr}{fd d1 d2:FuncData} (F:Fun K "placing_reading" "placing_reading" ZhD f fd) (T:Txt mg) (CR:Cal P w K mg base 1 "reading_by" ["numbers","lengths","placing"] (Zda K) f1 d1) (CN:Cal P w K mg base 6 "level_numbers" ["p","n"] Zgc f2 d2):FnOk P w K mg base CX0 7 f fd ["p","n","lengths","placing"] (Zio K):=by
 refine F.ok Znd (fun vs H Q E h=>?_) (fun cdv A outer s H vs Q E hr h=>?_)
 ·obtain⟨p,n,ll,pl,b,qs,ls,ks,rfl,_⟩:=h;rfl
 ·obtain⟨p,n,ll,pl,b,qs,ls,ks,rfl,p2,p7,hn,h4,hL,hpl,hM,hin,hlen0,hb,k⟩:=h;have hr1:Room 1 _:=hr.mono (by decide);have hr6:Room 6 _:=hr.mono (by decide);refine⟨_,(Zak (Zas (Zam CR hr1 rfl (Zaa (Zam CN hr6 rfl (Zaa (pv 0) (Zaa (pv 1) Zad))) (Zaa (pv 2) (Zaa (pv 3) Zad)))))),?_⟩;refine⟨_,rfl,_,rfl,p,n,rfl,p2,p7,hn,h4,fun na ns H1 nna hna hNs s1=>?_⟩;refine⟨_,rfl,_,rfl,na,ll,pl,b,ns,qs,num p n,ls,ks,rfl,hna,hNs,SqB.sameJ s1 hL,s1 _ _ hpl,hM.same s1,hin,hlen0.1,hlen0.2,hb,fun xs hx z hz=>?_,fun H2 s2=>k H2 (s1.trans s2)⟩
  ·have:=Zeo p n xs hx z hz;exact Zbs (by omega) (by omega)
end
end Fj89
namespace Fj89
open PySem L2 Lv
section
variable {P:Program}{w:World}{K:Yad}{mg:Str->Option Value}{base:Heap}
theorem scLPh:FnScope ["p","n","greatest","counts","level"] ["p","n"] (Zac sLPh):=⟨rfl,rfl,rfl,by decide +kernel,rfl,by decide +kernel,by decide +kernel⟩
def Zl7:Sp:=fun vs H Q _=>∃ p n:Nat,vs=[.int p,.int n]/\2<=p/\p<=7/\n<=300/\∀ (l:Addr) (qs:List Addr) H',H l=none->H' l=some (.lst (qs.map V.ref))->(∀ q∈qs,q≠l)->TuM H' qs (phs p n n)->Same H H'->Q (.ref l) H'
theorem Znx {f f1 f2 f3 f4:Addr}{fd d1 d2 d3 d4:FuncData} (F:Fun K "level_phases" "level_phases" sLPh f fd) (T:Txt mg) (Te:mg "enumerate"=none) (CW:Cal P w K mg base 2 "check_ways" ["p"] Zds f1 d1) (CV:CalD P w K mg base 2 "check_level" ["n","last"] [.int 300] Zdc f2 d2) (CA:Cal P w K mg base 1 "first_counts" ["p"] Zdu f3 d3) (CN:Cal P w K mg base 1 "next_counts" ["counts"] (Zfh K) f4 d4):FnOk P w K mg base CX0 3 f fd ["p","n"] Zl7:=by
 refine F.ok scLPh (fun vs H Q E h=>?_) (fun cdv A outer s H vs Q E hr2 h=>?_)
 ·obtain⟨p,n,rfl,_⟩:=h;rfl
 ·obtain⟨p,n,rfl,h2,h7,h3,k⟩:=h;have hr1:Room 1 _:=hr2.mono (by decide);refine⟨_,(Zaf (ZaD (Zam CW hr2 rfl (Zaa (pv 0) Zad)))
   (Zaf (ZaD (ZiW CV hr2 rfl (Zaa (pv 1) Zad)))
   (Zaf (Zat (i:=2) scLPh.nd rfl (YaN rfl) (ZaM Zad))
   (Zaf (Zat (i:=3) scLPh.nd rfl (YaN rfl) (Zam CA hr1 rfl (Zaa (pv 0) Zad)))
   (Zaf (Zbp Ybi rfl (Za3 rfl T.range (Zaa (pv 1) Zad)) (Zah (i:=4) scLPh.nd rfl (YaN rfl))
   (Zaf (ZaD (Zc7 Ya9 YbC YbB ZaT (pv 2) (Zaa (ZaS Zb3 (pv 3) Zag (fun _ _=>rfl)) Zad)))
    (Zak (Zat (i:=3) scLPh.nd rfl (YaN rfl) (Zam CN hr1 rfl (Zaa (pv 3) Zad))))))
   (Zak (Zas (ZaE (own:=["at","many"]) (js:=[0]) (CompOk.by (sc:=Zac sLPh) (N:=["p","n","greatest","counts","level"]) rfl rfl (by decide +kernel)) rfl (Za9 rfl Te (Zaa (Znm (pv 2) (ZbL (ZhO ZdU Zag))) Zad)) (Zbq (i:=0) (k:=1) (K:=K)) (fun _ _ _ _ _=>(Zbj K rfl (Zan (Zah (i:=0) (by show (["at","many","p"]:List Str).Nodup;decide +kernel) rfl (YaN rfl) (.inr rfl)) (Zan (Zah (i:=1) (by show (["at","many","p"]:List Str).Nodup;decide +kernel) rfl (YaN rfl) (.inr rfl)) ZaC)))) (fun _ _ _ _ _=>Zay) (fun _ _ _ _ _=>(Za6 (Zaa (Zaw ZbM (Zaw ZbD (pv 2) (pv 0)) (Zaw Za4 (pv 2) Zag)) (Zaa (pv 1) Zad)))))))))))),?_⟩
  have hzz:1000<sizeLine:=by decide
  refine⟨_,rfl,p,rfl,by omega,by omega,_,rfl,n,300,rfl,by omega,by omega,Ya2 _,fun gl ngl=>?_⟩;have s0:Same H (upd H gl (.lst [])):=Same.new ngl;refine⟨_,rfl,p,rfl,h2,h7,fun l H1 hl0 hl1 s1=>?_⟩;refine⟨_,rfl,n,rfl,by omega,by omega,ZbO (fun i σ Hx=>∃ (l:Addr) (o4:Option V),σ=[some (.int p),some (.int n),some (.ref gl),some (.ref l),o4]/\Hx gl=some (.lst (((YaE i).map fun t=>hd p t).map V.int))/\Hx l=some (.tup ((cnt p i).map V.int))/\Same H Hx)
   ⟨l,none,rfl,s1 _ _ Zab,hl1,s0.trans s1⟩ ?_ ?_⟩
  ·rintro i σ Hx hi ⟨l,o4,rfl,hgl,hl,sx⟩;have hlen:=ZcT (p:=p) (by omega) i;refine⟨_,rfl,.inl ⟨rfl,_,SqL.of hgl⟩,_,rfl,l,_,0,.int (hd p i),rfl,rfl,SqT.of hl,?_,gl,_,_,rfl,rfl,hgl,by rw[Yaa,Yaa,Ycf];omega,?_⟩
   ·obtain⟨x,y,r,e,_⟩:=Zdj h2 i;unfold hd;rw[e];exact ZbS (j:=0) rfl
   have hlg:l≠gl:=fun z=>by rw[z,hgl] at hl;cases hl
   have hl2:upd Hx gl (.lst (((YaE i).map fun t=>hd p t).map V.int++[.int (hd p i)])) l=some (.tup ((cnt p i).map V.int)):=by rw[Zai hlg];exact hl
   refine⟨_,rfl,l,cnt p i,rfl,SqT.of hl2,by omega,by omega,fun l3 H3 h30 h3' s3=>?_⟩;refine⟨l3,_,rfl,s3 _ _ ?_,h3',(sx.put ngl).trans s3⟩;rw[Zab,Yb2,Yai,Yai];rfl
  ·rintro σ Hx ⟨l,o4,rfl,hgl,hl,sx⟩;rw[YaK] at hgl;refine⟨_,rfl,1,rfl,_,rfl,rfl,gl,_,rfl,SqL.of hgl,fun q hq=>?_⟩;have hglq:Same Hx (upd Hx q (.lst ((((YaE n).map fun t=>hd p t).map V.int).reverse))):=Same.new hq;have hqq:upd Hx q (.lst ((((YaE n).map fun t=>hd p t).map V.int).reverse)) q=some (.lst ((((YaE n).map fun t=>hd p t).map V.int).reverse)):=Zab;generalize upd Hx q (.lst ((((YaE n).map fun t=>hd p t).map V.int).reverse))=H5 at hglq hqq ⊢;refine⟨q,true,rfl,⟨_,SqL.of hqq⟩,?_⟩;have hrl:((((YaE n).map fun t=>hd p t).map V.int).reverse).length=n:=by simp
   refine Zb0 (b:=true) (xs:=(((YaE n).map fun t=>hd p t).map V.int).reverse) (fun acc i H2=>Same H5 H2/\∃ ps,H2 acc=some (.lst (ps.map V.ref))/\(∀ p∈ps,p≠acc)/\TuM H2 ps (phs p n i)) (fun acc h0=>⟨Same.new h0,[],Zab,(fun p hp=>nomatch hp),TuM.nil⟩) (fun acc i H2 h0 _ p=>SqL.of (p.1 _ _ hqq)) ?_ ?_
   ·rintro acc i x u H2 h0 hx ⟨s2,ps,hacc,hne,hpr⟩ hu;have hi:i<n:=by have:=(Yab.mp hx).1;rwa [hrl] at this
    obtain rfl:x=.int (hd p (n - 1 - i)):=by
     rw[YeU (by simpa using hi)] at hx;simp only[Yaa,Ycf] at hx;rw[Yaf,Yaf,Yc1 (by omega)] at hx;exact (YaB hx).symm
    have s3:Same H2 (upd H2 u (.tup [.int i,.int (hd p (n - 1 - i))])):=Same.new hu;have hu3:upd H2 u (.tup [.int i,.int (hd p (n - 1 - i))]) u=some (.tup [.int i,.int (hd p (n - 1 - i))]):=Zab;generalize upd H2 u (.tup [.int i,.int (hd p (n - 1 - i))])=H3 at s3 hu3 ⊢;have hpl:ps.length=i:=by rw[hpr.len,ZiO]
    refine⟨u,_,rfl,SqT.of hu3,rfl,_,_,rfl,_,_,rfl,rfl,?_⟩;refine⟨_,rfl,_,rfl,_,_,rfl,rfl,_,rfl,_,_,rfl,rfl,_,_,rfl,rfl,(by show (0:Int)<(p:Int)+1;omega),_,rfl,(by show 2<=sizeLine;decide),fun t ht=>?_⟩;have hacc3:=s3 _ _ hacc;have hta:t≠acc:=Ybn (Zae hacc3 ht);have s45:Same H3 (upd H3 t (.tup [.int (((p:Int) - (i:Int)) % ((p:Int)+1)),.int (hd p (n - 1 - i))])):=Same.new ht;have ht5:upd H3 t (.tup [.int (((p:Int) - (i:Int)) % ((p:Int)+1)),.int (hd p (n - 1 - i))]) t=some (.tup (([phO p i,hd p (n - 1 - i)]:List Int).map V.int)):=Zab;generalize upd H3 t (.tup [.int (((p:Int) - (i:Int)) % ((p:Int)+1)),.int (hd p (n - 1 - i))])=H6 at s45 ht5 ⊢;refine⟨_,s45 _ _ hacc3,by rw[Yaa];omega,by rw[hrl];exact hi,(s2.trans (s3.trans s45)).put h0,ps++[t],by rw[Zab,Yai];rfl,fun p hp=>?_,?_⟩
    ·rcases Yah.mp hp with hp | hp
     ·exact hne p hp
     ·rw[Yaj.mp hp];exact hta
    ·have:=(hpr.same (s3.trans s45)).snoc ht5 (by simp);refine this.keep fun p hp=>Zai ?_;rcases Yah.mp hp with hp | hp
     ·exact hne p hp
     ·rw[Yaj.mp hp];exact hta
   ·rintro acc H2 h0 ⟨s2,ps,hacc,hne,hpr⟩;rw[hrl] at hpr;exact k acc ps H2 ((sx.trans hglq).free h0) hacc hne hpr (sx.trans (hglq.trans s2))
end
end Fj89
namespace Fj89
open PySem L2 Lv
section
variable {P:Program}{w:World}{K:Yad}{mg:Str->Option Value}{base:Heap}
theorem scPld89:FnScope ["p","n","rows","placing","reels","row","pair","there","read","left","reel"] ["p","n","rows","placing"] (Zac ZcW):=⟨rfl,rfl,rfl,by decide +kernel,rfl,by decide +kernel,by decide +kernel⟩
theorem ZiA (n:Nat):(Yan n [V.non]).flatten=Yan n V.non:=by
 induction n with
 | zero=>rfl
 | succ n ih=>rw[Ybj,YaF,ih,Ybj];rfl
theorem ZjB {n j:Nat} (h:j<n):ixN n (j:Int)=some j:=by
 unfold ixN;rw[if_pos (by omega),if_pos (by omega)];simp
def Zf9:Sp:=fun vs H Q _=>∃ (p n:Nat) (ra pl:Addr) (rs:List Addr) (rows:List (List Int)) (qs:List Addr) (ks:List (List Int)),vs=[.int p,.int n,.ref ra,.ref pl]/\2<=p/\p<=7/\n<=300/\tot p n<=4000/\H ra=some (.lst (rs.map V.ref))/\LLs H rs rows/\H pl=some (.lst (qs.map V.ref))/\TuM H qs ks/\(∀ k∈ks,InN (num p n) k)/\ks.Nodup/\ks.length=rows.length/\1<=rows.length/\(∀ r∈rows,r.Pairwise (·<=·))/\rows.flatten.length<=15000 /\
 ∀ (t lf r:Addr) H',H' t=some (.tup [.ref lf,.int (ZaQ (num p n) (rows.map fun r=>(r.length:Int)) ks).sum])->H' lf=some (.lst [.ref r])->H' r=some (.lst ((srt rows.flatten).map V.int))->Same H H'->Q (.ref t) H'
theorem ZkW {f f1 f2 f3:Addr}{fd d1 d2 d3:FuncData} (F:Fun K "_law_played" "_law_played" ZcW f fd) (T:Txt mg) (CN:Cal P w K mg base 6 "level_numbers" ["p","n"] Zgc f1 d1) (CR:Cal P w K mg base 5 "play_rows" ["reels","phases"] Zga f2 d2) (CH:Cal P w K mg base 3 "level_phases" ["p","n"] Zl7 f3 d3):FnOk P w K mg base CX0 7 f fd ["p","n","rows","placing"] Zf9:=by
 refine okW F scPld89 (fun vs H Q E h=>?_) (fun cdv A outer s H vs Q E hr h=>?_)
 ·obtain⟨p,n,ra,pl,rs,rows,qs,ks,rfl,_⟩:=h;rfl
 ·obtain⟨p,n,ra,pl,rs,rows,qs,ks,rfl,p2,p7,hn,h4,hra,hL,hpl,hTu,hin,hnd,hkl,h1,hso,hz5,k⟩:=h;have hr3:Room 3 _:=hr.mono (by decide);have hr5:Room 5 _:=hr.mono (by decide);have hr6:Room 6 _:=hr.mono (by decide);refine⟨_,(Zaq (ws (Zat (i:=4) scPld89.nd rfl (YaN rfl) (Zaw Zef (ZaE (own:=["reel"]) (js:=[]) (CompOk.by (sc:=Zac ZcW) (N:=["p","n","rows","placing","reels","row","pair","there","read","left","reel"]) rfl rfl (by decide +kernel)) rfl (ZaL (Zam CN hr6 rfl (Zaa (pv 0) (Zaa (pv 1) Zad)))) Zau (fun _ _ _ _ _=>(Zah (i:=0) (by show (["reel"]:List Str).Nodup;decide +kernel) rfl (YaN rfl) (.inr rfl))) (fun _ _ _ _ _=>Zay) (fun _ _ _ _ _=>(Zaw Zft (ZaM (Zaa Zc2 Zad)) (Zaj (Zbe K) rfl T.len YaV (Zaa (pv 0) Zad))))) (ZaM (Zaa (ZaM Zad) Zad)))))
   (Zaq (ws (Zbp Ybi rfl (Zgs rfl T.zip (Zaa (pv 2) (Zaa (pv 3) Zad))) (Zbh rfl (Zan (Zah (i:=5) scPld89.nd rfl (YaN rfl)) (Zan (Zah (i:=6) scPld89.nd rfl (YaN rfl)) ZaC)))
   (WSs.out (ZaU (ws (ZbC (pv 5) (Zed (ZaS ix_list (pv 4) (ZaS Zb3 (pv 6) Zag (fun _ _=>rfl)) (fun _ _=>rfl)) (ZaS Zb3 (pv 6) Zag (fun _ _=>rfl)) ZbV)))))))
   (Zaq (ws (ZbC (Zam CR hr5 rfl (Zaa (pv 4) (Zaa (Zam CH hr3 rfl (Zaa (pv 0) (Zaa (pv 1) Zad))) Zad))) (Zbh rfl (Zan (Zah (i:=7) scPld89.nd rfl (YaN rfl)) (Zan (Zah (i:=8) scPld89.nd rfl (YaN rfl)) ZaC)))))
   (Zaq (ws (Zat (i:=9) scPld89.nd rfl (YaN rfl) (ZaM Zad)))
   (Zaq (ws (Zbp Ybi rfl (ZaL (pv 7)) (Zah (i:=10) scPld89.nd rfl (YaN rfl))
   (WSs.out (ZaU (ws (ZaD (Zc7 Ya9 PySem.F.slot_list_extend PySem.F.type_list_extend Zji (pv 9) (Zaa (pv 10) Zad))))))))
   (ZaU (ws (Zas (Za6 (Zaa (pv 9) (Zaa (Zaj (Zbr rfl) rfl T.sum ZfU (Zaa (ZaE (own:=["sums"]) (js:=[]) (CompOk.by (sc:=Zac ZcW) (N:=["p","n","rows","placing","reels","row","pair","there","read","left","reel"]) rfl rfl (by decide +kernel)) rfl (ZaL (pv 8)) Zau (fun _ _ _ _ _=>(Zah (i:=0) (by show (["sums"]:List Str).Nodup;decide +kernel) rfl (YaN rfl) (.inr rfl))) (fun _ _ _ _ _=>Zay) (fun _ _ _ _ _=>(Zaj (Zh5 K rfl) rfl T.sum ZfU (Zaa (pv 0) Zad)))) Zad)) Zad))))))))))),?_⟩
  have hsl:30000<sizeLine:=by decide
  refine⟨_,rfl,_,rfl,p,n,rfl,p2,p7,hn,h4,fun na ns H1 nna hna hNs s1=>?_⟩;have hNl:=Za5 (p:=p) (by omega) n;refine⟨na,false,rfl,⟨_,SqT.of hna⟩,?_⟩;refine Za0 (b:=false) (K:=K) (a:=na) (xs:=ns.map V.ref) (fun acc j Hc=>∃ as:List Addr,Hc acc=some (.lst (as.map V.ref))/\NonL Hc as ((num p n).take j)/\(∀ a∈as,H1 a=none)/\acc ∉ as/\as.Nodup/\Same H1 Hc) (fun acc h0=>⟨[],Zab,⟨rfl,fun j r bs a=>(nomatch a)⟩,by simp,by simp,Ycm,Same.new h0⟩) (fun acc j Hc h0 _ ⟨_,_,_,_,_,_,sc'⟩=>SqT.of (sc' _ _ hna)) ?_ ?_
  ·rintro acc j x Hc h0 hx ⟨as,hacc,hNL,hfr,hna',hnd',sc'⟩;obtain⟨q,hq,rfl⟩:=ZaG hx;have hi:=(Yab.mp hq).1
   have hiN:j<(num p n).length:=by rw[<- hNs.1];exact hi
   have eN:=Yac hiN;have hqc:=sc' _ _ (hNs.2 j q _ hq eN);have hle:=Zg8 (Yby hiN);have hal:as.length=j:=by
    rw[hNL.1,Yav]
    (clear hle hi hna' hNl hsl hz5 h1 hkl h4 hn p7 p2;omega)
   unfold Zcn;simp only[if_true];refine⟨(by show 1<=sizeLine;decide),fun t nt=>?_⟩;have t2:Same Hc (upd Hc t (.lst [.non])):=Same.new nt;have e2:upd Hc t (.lst [.non]) t=some (.lst [.non]):=Zab;generalize upd Hc t (.lst [.non])=H2 at t2 e2 ⊢;refine⟨_,rfl,q,_,rfl,.inr (SqT.of (t2 _ _ hqc)),t,_,[.non],rfl,rfl,e2,by (clear hal hle hi hna' hNl hsl hz5 h1 hkl h4 hn p7 p2;omega),by rw[Yaa];(clear hal hi hna' hNl hsl hz5 h1 hkl hn p7 p2;omega),by simp;(clear hal hi hna' hNl hz5 h1 hkl hn p7 p2;omega),fun a na2=>?_⟩;have t3:Same H2 (upd H2 a (.lst (Yan (((num p n)[j].map V.int).length:Int).toNat [V.non]).flatten)):=Same.new na2;have e3:upd H2 a (.lst (Yan (((num p n)[j].map V.int).length:Int).toNat [V.non]).flatten) a=some (.lst (Yan (num p n)[j].length V.non)):=by rw[Zab,YaK,Yaa,ZiA]
   generalize upd H2 a (.lst (Yan (((num p n)[j].map V.int).length:Int).toNat [V.non]).flatten)=H3 at t3 e3 ⊢;have had:=t3 _ _ (t2 _ _ hacc);have aacc:a≠acc:=(Zae (t2 _ _ hacc) na2).symm;have naH:H1 a=none:=(sc'.trans t2).free na2;have aas:a ∉ as:=fun z=>by
    obtain⟨i,hi'⟩:=YbS z;have hil:=(Yab.mp hi').1
    have:=t2 _ _ (hNL.2 i a _ hi' (Yac (by rw[<- hNL.1];exact hil)));rw[na2] at this;cases this
   have hna2:acc ∉ as++[a]:=fun z=>by
    rcases Yah.mp z with z | z
    ·exact hna' z
    ·exact aacc (Yaj.mp z).symm
   refine⟨_,had,Zbd (by rw[Yaa];(clear hna2 aas aacc hle hi hna' hsl hz5 h1 hkl h4 hn p2;omega)),by rw[Yaa];exact hi,as++[a],by rw[Zab,Yai];rfl,?_,fun z hz=>?_,hna2,?_,(sc'.trans (t2.trans t3)).put h0⟩
   ·rw[YaQ,eN,Ybp];exact ((hNL.same (t2.trans t3)).snoc e3).lst hna2
   ·rcases Yah.mp hz with z | z
    ·exact hfr _ z
    ·rw[Yaj.mp z];exact naH
   ·exact Yce.mpr ⟨hnd',YbY.mpr ⟨YbL,Ycm⟩,fun x hx y hy z=>aas (by rw[Yaj.mp hy] at z;rw[<- z];exact hx)⟩
  rintro acc H2 nacc ⟨as,hacc,hNL,hfr,hna',hnd',s2⟩;rw[Yaa,hNs.1,YaM] at hNL;have hasl:as.length=p:=by rw[hNL.1,hNl]
  refine⟨Ya2 _,fun e ne=>⟨(by show 1<=sizeLine;decide),fun u2 nu2=>?_⟩⟩;have t3:Same H2 (upd H2 e (.lst [])):=Same.new ne;have e3:upd H2 e (.lst []) e=some (.lst []):=Zab;have neH:H1 e=none:=s2.free ne;have eas:e ∉ as:=fun z=>by
   obtain⟨i,hi'⟩:=YbS z;have hil:=(Yab.mp hi').1
   have:=hNL.2 i e _ hi' (Yac (by rw[<- hNL.1];exact hil));rw[ne] at this;cases this
  generalize upd H2 e (.lst [])=H3 at t3 e3 nu2 ⊢;have t4:Same H3 (upd H3 u2 (.lst [.ref e])):=Same.new nu2;have e4:upd H3 u2 (.lst [.ref e]) u2=some (.lst (([e]:List Addr).map V.ref)):=Zab;generalize upd H3 u2 (.lst [.ref e])=H4 at t4 e4 ⊢;refine⟨acc,u2,_,_,rfl,rfl,t4 _ _ (t3 _ _ hacc),e4,by rw[sizeLine_eq,Yaa,Yaa];simp;(clear eas hna' hNl hsl hz5 h1 hkl h4 hn p2;omega),fun rl nrl=>?_⟩;rw[<- Yai];have t5:Same H4 (upd H4 rl (.lst ((as++[e]).map V.ref))):=Same.new nrl;have e5:upd H4 rl (.lst ((as++[e]).map V.ref)) rl=some (.lst ((as++[e]).map V.ref)):=Zab;have nrlH:H rl=none:=(s1.trans ((s2.trans t3).trans t4)).free nrl;generalize upd H4 rl (.lst ((as++[e]).map V.ref))=H5 at t5 e5 ⊢;have s25:=(t3.trans t4).trans t5;obtain⟨T0,hT1,hT2,hT3,hT4⟩:=NonL.reels (t5 _ _ (t4 _ _ e3)) (hNL.same s25);have sH5:=s1.trans (s2.trans s25);have hrl0:rl ∉ as++[e]:=fun z=>by
   rcases Yah.mp z with z | z
   ·obtain⟨i,hi'⟩:=YbS z;have hil:=(Yab.mp hi').1
    have:=t4 _ _ (t3 _ _ (hNL.2 i rl _ hi' (Yac (by rw[<- hNL.1];exact hil))));rw[nrl] at this;cases this
   ·have:=t4 _ _ e3;rw[Yaj.mp z] at nrl;rw[nrl] at this;cases this
  have hnd0:(as++[e]).Nodup:=Yce.mpr ⟨hnd',YbY.mpr ⟨YbL,Ycm⟩,fun x hx y hy z=>eas (by rw[Yaj.mp hy] at z;rw[<- z];exact hx)⟩;have hfr0:∀ a∈as++[e],H a=none:=fun a ha=>by
   rcases Yah.mp ha with z | z
   ·exact s1.free (hfr a z)
   ·rw[Yaj.mp z];exact s1.free neH
  have hrq:rs.length=qs.length:=by rw[hL.1,hTu.len,hkl]
  have qA:SqB true K H5 ra (rs.map V.ref):=SqL.of (sH5 _ _ hra);have qB:SqB true K H5 pl (qs.map V.ref):=SqL.of (sH5 _ _ hpl);have hrf:refT T0=(as++[e]).map V.ref:=by unfold refT;rw[<- hT1,Ybh];rfl
  refine⟨_,rfl,_,rfl,true,true,ra,pl,rfl,⟨_,qA⟩,⟨_,qB⟩,ZjJ (xs:=rs.map V.ref) (ys:=qs.map V.ref) (by rw[Yaa,Yaa,hrq];exact Yap _) (fun i σ Hx=>∃ (T:List Reel) (D:List Rows) (o5 o6:Option V),σ=[some (.int p),some (.int n),some (.ref ra),some (.ref pl),some (.ref rl),o5,o6,none,none,none,none]/\Hx rl=some (.lst (refT T))/\NRL Hx T/\datT T=D/\Plcd (num p n) rows ks i D/\T.map (·.1)=as++[e]/\(∀ t∈T,H t.1=none)/\(∀ t∈T,∀ a∈t.2.flatMap cA,H a≠none)/\Same H Hx) ⟨T0,_,_,_,rfl,by rw[hrf];exact e5,hT2,hT3,Plcd.zero _ _ _,hT1,fun t ht=>hfr0 _ (by rw[<- hT1];exact YaS.mpr ⟨t,ht,rfl⟩),(fun t ht a ha=>by rw[hT4 t ht] at ha;cases ha),sH5⟩ (fun i σ Hx _ ⟨_,_,_,_,_,_,_,_,_,_,_,_,sx⟩=>⟨SqL.of (sx _ _ hra),SqL.of (sx _ _ hpl)⟩) ?_ ?_⟩
  ·rintro i x y pa σ Hx hx hy ⟨T,D,o5,o6,rfl,hrlx,hN,hD,hP,hTm,hh,hca,sx⟩ hpa;obtain⟨q,hq',rfl⟩:=ZaG hx;obtain⟨r',hr',rfl⟩:=ZaG hy;have hi:=(Yab.mp hq').1
   obtain⟨xr,eR⟩:∃ xr,rows[i]?=some xr:=⟨_,Yac (by rw[<- hL.1];exact hi)⟩
   have hqH:=hL.2 i q _ hq' eR;obtain⟨k',hk',hpk⟩:=hTu.at hr';obtain⟨r,j,row,rfl,hDr,hrow,hP'⟩:=hP.step hnd eR hk' (hin k' (Yam hk'));have s9:=Same.new (o:=.tup [V.ref q,.ref r']) hpa;have hp9:(upd Hx pa (.tup [V.ref q,.ref r'])) pa=some (.tup [V.ref q,.ref r']):=Zab;generalize (upd Hx pa (.tup [V.ref q,.ref r']))=H9 at s9 hp9 ⊢;have hpk9:=s9 _ _ (sx _ _ hpk);obtain⟨t,T',g1,g2,g3,g4,g5,g6,g7,g8,g9,g10⟩:=Zkn (H0:=H) (H:=H9) (q:=q) (x:=xr) (hN.same s9) hD hDr hrow (by rw[hTm];exact hnd0) hh hca (fun z=>by rw[z] at hqH;cases hqH) (s9 _ _ (sx _ _ hqH));have trl:rl≠t.1:=fun z=>hrl0 (by rw[<- hTm,z];exact YaS.mpr ⟨t,Yam g1,rfl⟩);refine⟨pa,_,rfl,SqT.of hp9,rfl,_,_,rfl,_,_,rfl,rfl,?_⟩;refine⟨_,rfl,_,rfl,_,rfl,r',_,0,.int (r:Int),rfl,rfl,SqT.of hpk9,rfl,rl,_,(r:Int),.ref t.1,rfl,rfl,SqL.of (s9 _ _ hrlx),ZbS (by unfold refT;rw[Yaf,g1];rfl),?_⟩;refine⟨_,rfl,r',_,1,.int (j:Int),rfl,rfl,SqT.of hpk9,rfl,t.1,_,(j:Int),j,rfl,rfl,g2,ZjB (by rw[Yaa];exact g3),?_⟩;exact⟨T',_,_,_,rfl,by rw[Zai trl,g5];exact s9 _ _ hrlx,g7,g8,hP',by rw[g6];exact hTm,g9,g10,(sx.trans s9).put g4⟩
  rintro σ Hx ⟨T,D,o5,o6,rfl,hrlx,hN,hD,hP,hTm,hh,hca,sx⟩;rw[Yaa,hL.1] at hP;have hDlen:D.length=p+1:=by
   have:=congrArg Ya8 hP.len;rw[Yaa,Yaa,Yag,hNl] at this;exact this
  have hz:SzD D:=by
   refine⟨by (clear hrq hrl0 eas hasl hna' hNl hsl hz5 h1 hkl h4 hn p2;omega),fun r hr=>?_,by rw[hP.all.length_eq,YaM];exact hz5⟩;have h6:r.length∈(num p n++[[]]).map Ya8:=by rw[<- hP.len];exact YaS.mpr ⟨r,hr,rfl⟩
   obtain⟨xs,hx,e6⟩:=YaS.mp h6;rcases Yah.mp hx with h7 | h7
   ·have:=Zg8 h7
    (clear hDlen hrq hrl0 eas hasl hna' hNl hsl hz5 h1 hkl hn p7 p2;omega)
   ·have:xs=[]:=by simpa using h7
    rw[<- e6,this];simp
  obtain⟨hPls,hLeft,hRead⟩:=ZkE p2 hkl hP h1 hso hz;refine⟨_,rfl,_,rfl,_,rfl,p,n,rfl,p2,p7,hn,fun l2 qs2 H6 l20 hl2 hql hTu6 q6=>?_⟩;have hTT:=Zn5 hTu6;refine⟨rl,l2,T,qs2,phL p 0 n,rfl,q6 _ _ hrlx,hN.same q6,hl2,hTT,by rw[hTT.1,Yaa,Zgt];(clear hRead hDlen hrq hrl0 eas hasl hna' hNl hsl hz5 h1 hkl h4 p7 p2;omega),fun z=>by rw[z] at hD;rw[<- hD] at hDlen;simp[datT] at hDlen,by rw[hD];exact hz,by rw[hD];exact hPls,fun t bl rd T' es G4 ht hbl hN' hD' hrd hLL hnew' s7=>?_⟩;rw[hD] at hD' hLL;refine⟨t,_,rfl,SqT.of ht,rfl,_,_,rfl,_,_,rfl,rfl,?_⟩;have sx4:=(sx.trans q6).trans s7;refine⟨Ya2 _,fun lf nlf=>?_⟩;have w5:Same G4 (upd G4 lf (.lst [])):=Same.new nlf;have v5:upd G4 lf (.lst []) lf=some (.lst []):=Zab;have lfT:lf ∉ adr T':=fun z=>by
   obtain⟨t',ht',hx⟩:=YaL.mp z;exact (hN' t' ht').has lf hx nlf
  have hM5:=hN'.same w5;have hbM5:=w5 _ _ hbl;have lfb:bl≠lf:=Zae hbl nlf;have lfr:rd≠lf:=Zae hrd nlf;have hrM5:=w5 _ _ hrd;have hLM5:=hLL.same w5;have lfes:∀ r∈es,r≠lf:=fun r hr z=>by
   obtain⟨j,hj⟩:=YbS hr;have hxs:=hLL.2 j r _ hj (Yac (by rw[<- hLL.1];exact (Yab.mp hj).1));exact Zae hxs nlf z
  have wH5:=sx4.trans w5;generalize upd G4 lf (.lst [])=G5 at w5 v5 hM5 hbM5 hrM5 hLM5 wH5 ⊢;refine⟨_,rfl,bl,true,rfl,⟨_,SqL.of hbM5⟩,?_⟩;have hT'l:T'.length<=20:=by
   have h1:(datT T').length=T'.length:=by unfold datT;rw[Yaa]
   obtain⟨q1,_⟩:=Zgr hPls hz;have:=q1.1;rw[<- hD'] at this
   (clear lfr lfb lfT hRead hDlen hrq hrl0 eas hasl hna' hNl hsl hz5 hkl h4 hn p7 p2;omega)
  have hflf:(T'.flatMap (·.2)).map cD=[some (srt rows.flatten)]:=by rw[<- ZfK,hD'];exact hLeft
  have hfl1:(T'.flatMap (·.2)).length=1:=by have:=congrArg Ya8 hflf;rwa [Yaa] at this
  have hsplit:∀ j,((T'.take j).flatMap (·.2)).length<=1:=fun j=>by
   have h1:T'.flatMap (·.2)=(T'.take j).flatMap (·.2)++(T'.drop j).flatMap (·.2):=by rw[<- YbM,YaU]
   rw[h1,Yag] at hfl1
   (clear hT'l lfr lfb lfT hRead hDlen hrq hrl0 eas hasl hna' hNl hsl hz5 hkl h4 hn p7 p2;omega)
  refine Ze0 (b:=true) (xs:=refT T') (fun j σ Hy=>∃ o10:Option V,σ=[some (.int p),some (.int n),some (.ref ra),some (.ref pl),some (.ref rl),o5,o6,some (.ref bl),some (.ref rd),some (.ref lf),o10]/\Hy lf=some (.lst (((T'.take j).flatMap (·.2)).map cV))/\Sm lf G5 Hy)
   ⟨_,rfl,by rw[YbR];exact v5,Sm.refl _ _⟩ (fun j σ Hy _ ⟨_,_,_,sy⟩=>SqL.of (sy _ _ hbM5 lfb)) ?_ ?_
  ·rintro j x σ Hy hx ⟨o14,rfl,hlf,smy⟩;rw[Yaf] at hx;obtain⟨t',ht',rfl⟩:=YcJ.mp hx;have htm:=Yam ht';have hts:=smy _ _ (hM5 t' htm).1 (fun z=>lfT (YaL.mpr ⟨t',htm,by rw[<- z];exact Yay⟩));have etk:(T'.take (j+1)).flatMap (·.2)=(T'.take j).flatMap (·.2)++t'.2:=by
    rw[YaQ,ht',YbM];simp
   have hle:=hsplit (j+1);rw[etk,Yag] at hle;refine⟨_,rfl,.inl ⟨rfl,_,SqL.of hlf⟩,_,rfl,lf,t'.1,_,_,rfl,rfl,hlf,hts,by rw[Yaa,Yaa,sizeLine_eq];(clear hfl1 hT'l lfr lfb lfT hRead hDlen hrq hrl0 eas hasl hna' hNl hsl hz5 h1 hkl h4 hn p7 p2;omega),?_⟩;exact⟨_,rfl,by rw[Zab,etk,Yai],fun x o hx hn=>by rw[Zai hn];exact smy x o hx hn⟩
  rintro σ Hy ⟨o10,rfl,hlf,smy⟩;rw[Yaa,YaM] at hlf;obtain⟨cc,hcc⟩:=YeQ.mp hfl1;rw[hcc] at hlf hflf;have hcD:cD cc=some (srt rows.flatten):=by injection hflf
  have hcm:cc∈T'.flatMap (·.2):=by rw[hcc];exact Yaj.mpr rfl
  obtain⟨t',ht',hct⟩:=YaL.mp hcm;have hcok:=(hM5 t' ht').2 cc hct;obtain⟨r,rfl⟩:∃ r,cc=some (r,srt rows.flatten):=by
   cases cc with
   | none=>cases hcD
   | some q=>obtain⟨r,ys⟩:=q;injection hcD with h;exact⟨r,by rw[<- h]⟩
  have hrf:r≠lf:=fun z=>lfT (YaL.mpr ⟨t',ht',by rw[<- z];exact Yas _ (YaL.mpr ⟨_,hct,by simp[cA]⟩)⟩);have hry:Hy r=some (.lst ((srt rows.flatten).map V.int)):=smy _ _ hcok hrf;have hrdy:=smy _ _ hrM5 lfr;have hLLy:LLs Hy es (rdR D (phL p 0 n)):=⟨hLM5.1,fun j q xs a b=>smy _ _ (hLM5.2 j q xs a b) (lfes q (Yam a))⟩
  have sHy:Same H Hy:=fun x o e=>smy x o (wH5 x o e) (Zae (sx4 x o e) nlf);have hesl:es.length=n:=by rw[hLLy.1,ZiD,Zgt]
  refine⟨_,rfl,_,rfl,rd,true,rfl,⟨_,SqL.of hrdy⟩,?_⟩;refine Zm7 (W:=rdR D (phL p 0 n)) hrdy hLLy (by (clear hrf hfl1 hT'l lfr lfb lfT hRead hDlen hrq hrl0 eas hasl hna' hNl hsl hz5 h1 hkl h4 p7 p2;omega)) (fun i q xs Hc R hR hq9 hi=>⟨_,rfl,q,xs,rfl,SqL.of hq9,hR Hc (Same.refl _)⟩) fun acc2 G6 h6 hac2 w6=>?_;refine⟨acc2,_,rfl,SqL.of hac2,(by show 2<=sizeLine;decide),fun t9 nt9=>?_⟩;rw[hRead];have w7:=Same.new (o:=.tup [V.ref lf,.int (ZaQ (num p n) (rows.map fun r=>(r.length:Int)) ks).sum]) nt9;exact k t9 lf r _ Zab (w7 _ _ (w6 _ _ hlf)) (w7 _ _ (w6 _ _ hry)) ((sHy.trans w6).trans w7)
end
end Fj89
namespace Fj89
open PySem L2 Lv
section
variable {P:Program}{w:World}{K:Yad}{mg:Str->Option Value}{base:Heap}
theorem scThs89:FnScope ["pot","kind","found","turn"] ["pot"] (Zac Zdy):=⟨rfl,rfl,rfl,by decide +kernel,rfl,by decide +kernel,by decide +kernel⟩
theorem ZjX {own:List Str}{js:List Nat}{g:TG}{te:TE}{σ:L2.St}{H1:Hp}{Q:VK}{lo:Int}{n:Nat}{pl:Addr}{c0 per:Int}{P:Int->Prop} (hp:PotC H1 pl c0) (hn:n<=15000)
  (hs:∀ (i:Nat) H c,i<n->c<=c0+per*i->PotC H pl c->Sm pl H1 H->∀ R:VK,(∀ d H' c',P d->c'<=c+per->PotC H' pl c'->Sm pl H H'->R (.int d) H')->g (.int (lo+(i:Int))) (blkσ own js σ) H fun τ H4=>te τ H4 R)
  (hd:∀ acc (ns:List Int) H c,acc≠pl->H1 acc=none->H acc=some (.lst (ns.map V.int))->ns.length=n->(∀ x∈ns,P x)->PotC H pl c->c<=c0+per*n->Sm pl H1 H->Q (.ref acc) H):Zbg own js g Zcn te σ (Itr lo n) H1 Q:=by
 refine ZcS (fun acc i H=>∃ (ns:List Int) (c:Int),H acc=some (.lst (ns.map V.int))/\ns.length=i/\(∀ x∈ns,P x)/\PotC H pl c/\c<=c0+per*i/\Sm pl H1 H) (fun acc h0=>⟨[],c0,Zab,rfl,by simp,hp.put h0,by simp,Sm.new h0⟩) ?_ ?_
 ·rintro acc i H h0 hi ⟨ns,c,hacc,hl,hP,hp2,hc,s2⟩;have ha:acc≠pl:=hp.ne h0;refine (cast ?_ (hs i H c hi hc hp2 s2 (fun y H6=>∃ zs,H6 acc=some (.lst zs)/\zs.length<sizeLine/\(i+1<=n/\∃ (ns:List Int) (c:Int),upd H6 acc (.lst (zs++[y])) acc=some (.lst (ns.map V.int))/\ns.length=i+1/\(∀ x∈ns,P x)/\PotC (upd H6 acc (.lst (zs++[y]))) pl c/\c<=c0+per*((i+1:Nat):Int)/\Sm pl H1 (upd H6 acc (.lst (zs++[y]))))) fun d H6 c6 d0 hc6 hp6 s6=>?_))
  ·unfold Zcn;simp only[if_true]
  ·refine⟨_,s6 _ _ hacc ha,Zbd (by rw[Yaa];omega),hi,ns++[d],c6,by rw[Zab,Yai];rfl,by rw[Yag,hl];rfl,fun x hx=>?_,hp6.off ha,?_,(s2.trans s6).putC h0⟩
   ·rcases Yah.mp hx with z | z
    ·exact hP x z
    ·rw[Yaj.mp z];exact d0
   ·have:per*((i+1:Nat):Int)=per*(i:Int)+per:=by rw[Int.natCast_add,YcP];simp
    omega
 ·rintro acc H h0 ⟨ns,c,hacc,hl,hP,hp2,hc,s2⟩;exact hd acc ns H c (hp.ne h0) h0 hacc hl hP hp2 hc s2
theorem Zl9 {n j:Nat} (h:j<n):seqIndex? (j:Int) n=some j:=by
 unfold seqIndex?;simp;omega
theorem insE {xs:List Int}{k:Nat} (hk:k<xs.length) (i:Int) (hi:0<=i):∃ ys:List Int,(((xs.map V.int).eraseIdx k).take (if i<0 then (i+(((xs.map V.int).eraseIdx k).length:Int)).toNat else min i.toNat ((xs.map V.int).eraseIdx k).length)++V.int xs[k]::((xs.map V.int).eraseIdx k).drop (if i<0 then (i+(((xs.map V.int).eraseIdx k).length:Int)).toNat else min i.toNat ((xs.map V.int).eraseIdx k).length))=ys.map V.int/\ys.length=xs.length/\∀ y∈ys,y∈xs:=by
 rw[if_neg (by omega)];generalize hm:min i.toNat ((xs.map V.int).eraseIdx k).length=m;have e:(xs.map V.int).eraseIdx k=(xs.eraseIdx k).map V.int:=by rw[Yd4,Yd4,Yai,Yb7,Ycj]
 have hl:(xs.eraseIdx k).length=xs.length - 1:=by rw[Ye7,if_pos hk]
 have hml:m<=(xs.eraseIdx k).length:=by rw[e,Yaa] at hm;omega
 refine⟨(xs.eraseIdx k).take m++xs[k]::(xs.eraseIdx k).drop m,by rw[e,Yai,YaJ,Yb7,Ycj],by rw[Yag,YaH,Yav,YaX];omega,fun y hy=>?_⟩;rcases Yah.mp hy with h | h
 ·exact (YeW xs k).subset (Yba h)
 ·rcases YaD.mp h with rfl | h
  ·exact Yby hk
  ·exact (YeW xs k).subset (Ya3 h)
def Zf7:Sp:=fun vs H Q _=>∃ (p:Addr) (c:Int),vs=[.ref p]/\PotC H p c/\c<=1000/\∀ l (xs:List Int) H' c',H l=none->H' l=some (.lst (xs.map V.int))->xs.length<=60->(∀ x∈xs,-Zba<x/\x<Zba)->PotC H' p c'->Sm p H H'->Q (.ref l) H'
theorem ZkS {f f1 f2:Addr}{fd d1 d2:FuncData} (F:Fun K "_law_things" "_law_things" Zdy f fd) (T:Txt mg) (CK:Cal P w K mg base 1 "_law_take" ["pot","size"] Zb8 f1 d1) (CT:Cal P w K mg base 3 "_law_thing" ["pot","kind"] ZeA f2 d2):FnOk P w K mg base CX0 4 f fd ["pot"] Zf7:=by
 refine okW F scThs89 (fun vs H Q E h=>?_) (fun cdv A outer s H vs Q E hr h=>?_)
 ·obtain⟨p,c,rfl,_⟩:=h;rfl
 ·obtain⟨p,c,rfl,hP,hc,k⟩:=h;have hr1:Room 1 _:=hr.mono (by decide);have hr3:Room 3 _:=hr.mono (by decide);refine⟨_,(Zaq (ws (Zat (i:=1) scThs89.nd rfl (Yd2 rfl) (Zam CK hr1 rfl (Zaa (pv 0) (Zaa Zag Zad)))))
   (Zaq (ws (Zca (i:=2) scThs89.nd rfl rfl (own:=["turn"]) (js:=[0,1]) (CompOk.by (sc:=Zac Zdy) (N:=["pot","kind","found","turn"]) rfl rfl (by decide +kernel)) rfl (Za3 rfl T.range (Zaa (Zam CK hr1 rfl (Zaa (pv 0) (Zaa Zag Zad))) Zad)) Zau (fun _ _ _ _ _=>(Zah (i:=0) (by show (["turn","pot","kind"]:List Str).Nodup;decide +kernel) rfl (YaN rfl) (.inr rfl))) (fun _ _ _ _ _=>Zay) (fun _ _ _ _ _=>(Zam CT hr3 rfl (Zaa (pv 1) (Zaa (pv 2) Zad))))))
   (Zaq (Zet (Zax ZkK (Zam CK hr1 rfl (Zaa (pv 0) (Zaa Zag Zad))) Zag (ZaA _))
   (Zaq (ws (Zat (i:=2) scThs89.nd rfl (YaN rfl) (Zaj Zbb rfl T.sorted Za2 (Zaa (pv 2) Zad))))
    (ZaU (ws (Zbp Ybi rfl (Za3 rfl T.range (Zaa (Zam CK hr1 rfl (Zaa (pv 0) (Zaa Zag Zad))) Zad)) (Zah (i:=3) scThs89.nd rfl (YaN rfl))
    (WSs.out (ZaU (Zet (Zax ZeS (Zaj Zap rfl T.len YaV (Zaa (pv 2) Zad)) Zag (ZaA _))
     (ZaU (ws (ZaD (Zc7 Ya9 PySem.F.slot_list_insert PySem.F.type_list_insert Zjh (pv 2) (Zaa (Zam CK hr1 rfl (Zaa (pv 0) (Zaa (Zaj Zap rfl T.len YaV (Zaa (pv 2) Zad)) Zad))) (Zaa (Zc7 Ya9 PySem.F.slot_list_pop PySem.F.type_list_pop Zld (pv 2) (Zaa (Zam CK hr1 rfl (Zaa (pv 0) (Zaa (Zaj Zap rfl T.len YaV (Zaa (pv 2) Zad)) Zad))) Zad)) Zad))))))
     Zbt)))))))
   Zbt)
   (ZaU (ws (Zas (pv 2))))))),?_⟩
  have hsl:30000<sizeLine:=by decide
  refine⟨_,rfl,p,4,c,rfl,hP,by omega,by decide,by decide,fun kd H1 k0 k1 hP1 sm1=>?_⟩;refine⟨_,rfl,p,61,c+1,rfl,hP1,by omega,by decide,by decide,fun d H2 d0 d1 hP2 sm2=>?_⟩;obtain⟨d,rfl⟩:∃ m:Nat,d=(m:Int):=⟨d.toNat,by omega⟩
  refine⟨_,rfl,by omega,by omega,?_⟩;rw[YaK];refine ZjX (P:=fun d=>-Zba<d/\d<Zba) (per:=510) hP2 (by omega) (fun i Hx cx hi hcx hPx smx R hR=>?_) fun fl ns H3 cx hap h0 hfl hnl hnb hP3 hcx smx=>?_
  ·exact⟨_,rfl,_,rfl,p,kd,cx,rfl,hPx,by omega,k0,k1,fun x H3 x1 x2 hP3 sm3=>hR x H3 (cx+510) ⟨x1,x2⟩ (by (clear x2 x1 hcx hi d1 d0 k1 k0 hsl hc;omega)) hP3 sm3⟩
  have smF:=(sm1.trans sm2).trans smx;have nfl:H fl=none:=(sm1.trans sm2).free hap h0;refine⟨_,rfl,p,3,cx,rfl,hP3,by omega,by decide,by decide,fun e H4 e0 e1 hP4 sm4=>⟨rfl,_,rfl,?_⟩⟩;have hfl4:=sm4 _ _ hfl hap;by_cases he:e=0
  ·subst he;refine iteT ?_;refine⟨_,rfl,fl,_,rfl,SqL.of hfl4,fun l ms nl hpm hup=>?_⟩;have lp:l≠p:=hP4.ne nl;have smL:Sm p H (upd H4 l (.lst (ms.map V.int))):=(smF.trans sm4).trans (Sm.new nl);have nlH:H l=none:=(smF.trans sm4).free lp nl;have hl5:upd H4 l (.lst (ms.map V.int)) l=some (.lst (ms.map V.int)):=Zab;have hP5:=hP4.put (o:=.lst (ms.map V.int)) nl;have hml:ms.length=d:=by rw[hpm.length_eq,hnl]
   have hmb:∀ x∈ms,-Zba<x/\x<Zba:=fun x hx=>hnb x (hpm.subset hx);generalize upd H4 l (.lst (ms.map V.int))=H5 at smL hl5 hP5 ⊢;refine⟨_,rfl,p,6,cx+1,rfl,hP5,by (clear hml lp e1 e0 hnl hap d0 k1 k0 hsl;omega),by decide,by decide,fun tn H6 t0 t1 hP6 sm6=>?_⟩;refine⟨tn,rfl,by (clear t1 hml lp e1 e0 hcx hnl hap d1 d0 k1 k0 hsl hc;omega),by (clear t0 hml lp e1 e0 hcx hnl hap d1 d0 k1 k0 hsl hc;omega),ZbO (fun i σ Hx=>∃ (xs:List Int) (o3:Option V),σ=[some (.ref p),some (.int kd),some (.ref l),o3]/\Hx l=some (.lst (xs.map V.int))/\xs.length=d/\(∀ x∈xs,-Zba<x/\x<Zba)/\PotC Hx p (cx+2+2*i)/\Sm p H Hx) ⟨ms,_,rfl,sm6 _ _ hl5 lp,hml,hmb,hP6.up (by (clear t1 t0 hml lp e1 e0 hcx hnl hap d1 d0 k1 k0 hsl hc;omega)),smL.trans sm6⟩ ?_ ?_⟩
   ·rintro i σ Hx hi ⟨xs,o3,rfl,hlx,hxl,hxb,hPx,smx2⟩;have hi6:(i:Int)<6:=by (clear hxl t0 hml lp e1 e0 hcx hnl hap d1 d0 k1 k0 hsl hc;omega)
    refine⟨_,rfl,l,_,rfl,.inl (SqL.of hlx),_,_,rfl,rfl,_,rfl,?_⟩;rw[Yaa,hxl];refine ite2 (fun hgt=>?_) (fun hle=>?_)
    ·have hgt:((d:Nat):Int) > 0:=of_decide_eq_true hgt;refine⟨_,rfl,.inl ⟨rfl,_,SqL.of hlx⟩,_,rfl,_,rfl,l,_,rfl,.inl (SqL.of hlx),p,_,_,rfl,hPx,by (clear hgt hi6 hxl t0 hml lp e1 e0 hnl hap d0 k1 k0 hsl;omega),by rw[Yaa,hxl];exact hgt,Zbs (by rw[Yaa,hxl];(clear hgt hi6 hxl hi t1 t0 hml lp e1 e0 hcx hnl hap d1 d0 k1 k0 hsl hc;omega)) (by rw[Yaa,hxl];(clear hgt hi6 hxl hi t1 t0 hml lp e1 e0 hcx hnl hap d0 k1 k0 hsl hc;omega)),fun i1 H7 a0 a1 hP7 sm7=>?_⟩;rw[Yaa,hxl] at a1;have hl7:=sm7 _ _ hlx lp;refine⟨_,rfl,.inl ⟨rfl,_,SqL.of hl7⟩,_,rfl,_,rfl,l,_,rfl,.inl (SqL.of hl7),p,_,_,rfl,hP7,by (clear a1 a0 hgt hi6 hxl t0 hml lp e1 e0 hnl hap d0 k1 k0 hsl;omega),by rw[Yaa,hxl];exact hgt,Zbs (by rw[Yaa,hxl];(clear a1 a0 hgt hi6 hxl hi t1 t0 hml lp e1 e0 hcx hnl hap d1 d0 k1 k0 hsl hc;omega)) (by rw[Yaa,hxl];(clear a1 a0 hgt hi6 hxl hi t1 t0 hml lp e1 e0 hcx hnl hap d0 k1 k0 hsl hc;omega)),fun i2 H8 b0 b1 hP8 sm8=>?_⟩;rw[Yaa,hxl] at b1;have hl8:=sm8 _ _ hl7 lp;obtain⟨i1,rfl⟩:∃ m:Nat,i1=(m:Int):=⟨i1.toNat,by (clear b1 b0 a1 hgt hi6 hxl hi t1 t0 hml lp e1 e0 hcx hnl hap d1 d0 k1 k0 hsl hc;omega)⟩
     obtain⟨i2,rfl⟩:∃ m:Nat,i2=(m:Int):=⟨i2.toNat,by (clear a1 a0 b1 hgt hi6 hxl hi t1 t0 hml lp e1 e0 hcx hnl hap d1 d0 k1 k0 hsl hc;omega)⟩
     have hx2:i2<xs.length:=by (clear b0 a1 a0 hgt hi6 hi t1 t0 hml lp e1 e0 hcx hnl hap d1 d0 k1 k0 hsl hc;omega)
     refine⟨l,_,(i2:Int),i2,.int xs[i2],rfl,rfl,hl8,by (clear hx2 b1 b0 a1 a0 hgt hi6 hxl hi t1 t0 hml lp e1 e0 hcx hnl hap d1 d0 k1 k0 hsl hc;omega),by (clear hx2 b0 a1 a0 hgt hi6 hxl hi t1 t0 hml lp e1 e0 hcx hnl hap d0 k1 k0 hsl hc;omega),Zl9 (by rw[Yaa];exact hx2),by rw[Yaf,Yac hx2];rfl,?_⟩;obtain⟨ys,y1,y2,y3⟩:=insE hx2 (i1:Int) (by (clear hx2 b1 b0 a1 a0 hgt hi6 hxl hi t1 t0 hml lp e1 e0 hcx hnl hap d1 d0 k1 k0 hsl hc;omega));refine⟨l,_,(i1:Int),_,rfl,rfl,Zab,by (clear y2 b1 b0 a1 a0 hgt hi6 hxl hi t1 t0 hml lp e1 e0 hcx hnl hap d1 d0 k1 k0 hsl hc;omega),by (clear y2 b1 b0 a0 hgt hi6 hxl hi t1 t0 hml lp e1 e0 hcx hnl hap d0 k1 k0 hsl hc;omega),by rw[Ye7,Yaa];split <;> (clear y2 b1 b0 a1 a0 hgt hi6 hi t1 t0 hml lp e1 e0 hcx hnl hap d0 k1 k0 hc;omega),?_⟩;rw[y1];exact⟨ys,_,rfl,Zab,by (clear b1 b0 a1 a0 hgt hi6 hi t1 t0 hml lp e1 e0 hcx hnl hap d1 d0 k1 k0 hsl hc;omega),fun x hx=>hxb x (y3 x hx),((hP8.off lp).off lp).up (by (clear y2 b1 b0 a1 a0 hgt hi6 hxl hi t1 t0 hml lp e1 e0 hcx hnl hap d1 d0 k1 k0 hsl hc;omega)),fun b o e hb=>by
      have h8:=(smx2.trans (sm7.trans sm8)) b o e hb;have hbl:b≠l:=Zae e nlH;rw[Zai hbl,Zai hbl];exact h8⟩
    ·exact⟨xs,_,rfl,hlx,hxl,hxb,hPx.up (by (clear hle hi6 hxl hi t1 t0 hml lp e1 e0 hcx hnl hap d1 d0 k1 k0 hsl hc;omega)),smx2⟩
   ·rintro σ Hx ⟨xs,o3,rfl,hlx,hxl,hxb,hPx,smx2⟩;exact⟨_,rfl,k l xs Hx _ nlH hlx (by (clear t1 t0 hml lp e1 e0 hcx hnl hap d0 k1 k0 hsl hc;omega)) hxb hPx smx2⟩
  ·rw[decide_eq_false (show ¬ V.int e=V.int 0 from fun z=>he (V.int.inj z))];exact iteF ⟨_,rfl,k fl ns H4 _ nfl hfl4 (by (clear he e1 e0 hcx hap d0 k1 k0 hsl hc;omega)) hnb hP4 (smF.trans sm4)⟩
end
end Fj89
namespace Fj89
open PySem L2 Lv Fw
section
variable {P:Program}{w:World}{K:Yad}{mg:Str->Option Value}{base:Heap}
theorem Zns {K:Yad}{i j:Nat}{σ:St}{H:Hp}{Q:VK}{a b:Addr}{xs:List V} (hi:σ[i]?=some (some (.ref a))) (hj:σ[j]?=some (some (.ref b))) (ha:SqL K H a xs) (h:∀ L,(L=a/\xs≠[]∨L=b/\xs=[])->Q (.ref L) H):tOrT K (tVar i) (tVar j) σ H Q:=by
 refine⟨_,hi,!xs.isEmpty,.inl ⟨xs,ha,rfl⟩,?_⟩
 cases xs with
 | nil=>exact iteF ⟨_,hj,h b (.inr ⟨rfl,rfl⟩)⟩
 | cons x r=>exact iteT (h a (.inl ⟨rfl,by simp⟩))
theorem Zhp {ns:List Int}{p:Int} (h:0<=p/\p<ns.length):atI (ns.map V.int) p=some (.int (val ns p)):=Zka h.1 h.2
theorem ZjK {f:Int->Bool}{xs:List Int}{i:Nat}{p:Int} (h:xs[i]?=some p):(xs.take (i+1)).filter f=(xs.take i).filter f++(if f p then [p] else []):=by
 rw[YaQ,h,YcH];cases e:f p <;> simp[e]
theorem scNextO:FnScope ["things","held","writing","fitting","least"] ["things","held","writing"] (Zac ZcY):=⟨rfl,rfl,rfl,by decide +kernel,rfl,by decide +kernel,by decide +kernel⟩
theorem Zk0 {f:Addr}{fd:FuncData} (F:Fun K "next_out" "next_out" ZcY f fd) (T:Txt mg):FnOk P w K mg base CX0 1 f fd ["things","held","writing"] (Zl6 K):=by
 refine F.ok scNextO (fun vs H Q E h=>?_) (fun cdv A outer s H vs Q E hr h=>?_)
 ·obtain⟨a,h,wl,ns,hs,ws,rfl,_⟩:=h;rfl
 ·obtain⟨a,h,wl,ns,hs,ws,rfl,hA,hH,hW,hl,hso,hne,hb,hbw,k⟩:=h;have hu:=Zou hr;refine⟨_,Zaf (Zca (i:=3) (own:=["place"]) (js:=[0,2]) scNextO.nd rfl rfl (CompOk.by (sc:=Zac ZcY) (N:=["things","held","writing","fitting","least"]) rfl rfl (by decide +kernel)) rfl (ZiL (pv 1)) Zau
    (fun _ _ _ _ _=>Zah (i:=0) (by show (["place","things","writing"]:List Str).Nodup;decide +kernel) rfl (YaN rfl) (.inr rfl))
    (fun _ _ _ _ _=>Zdz (PW.pt (ZdP (ZbB (ZiH K (pv 2) (fun _=>rfl))) (Zb2 (Zax Zmz (ZaS (ZjC K) (pv 1) (pv 0) (fun _ _=>rfl)) (ZaS (ZjC K) (pv 1) (ZaS (Zhe K) (pv 2) (ZhO ZdU Zag) (fun _ _=>rfl)) (fun _ _=>rfl)) (ZaA _))))))
    (fun _ _ _ _ _=>pv 0))
   (Zaf (Zat (i:=4) scNextO.nd rfl (YaN rfl) (Zaj (Zj3 rfl hu) rfl T.min ZnY (Zaa (ZaE (own:=["place"]) (js:=[0]) (CompOk.by (sc:=Zac ZcY) (N:=["things","held","writing","fitting","least"]) rfl rfl (by decide +kernel)) rfl (ZiL (Znn (pv 3) (pv 1))) Zau
     (fun _ _ _ _ _=>Zah (i:=0) (by show (["place","things"]:List Str).Nodup;decide +kernel) rfl (YaN rfl) (.inr rfl)) (fun _ _ _ _ _=>Zay)
     (fun _ _ _ _ _=>Za6 (Zaa (ZaS (ZjC K) (pv 1) (pv 0) (fun _ _=>rfl)) (Zaa (pv 0) Zad)))) Zad)))
   (Zak (Zas (ZaS Zb3 (pv 4) Zag (fun _ _=>rfl))))),?_⟩
  refine⟨_,rfl,h,rfl,⟨_,hH⟩,ZfL (xs:=hs.map V.int) (fun acc i H2=>Same H H2/\H2 acc=some (.lst (((hs.take i).filter (fits ns ws)).map V.int))) (fun acc h0=>⟨Same.new h0,Zab⟩) (fun acc i H2 h0 _ p=>p.1.seq hH) ?_ ?_⟩
  ·rintro acc i x H2 h0 hx ⟨s2,hacc⟩;obtain⟨p,hp,rfl⟩:=ZaR hx;have hpm:p∈hs:=Yam hp;have hi:i+1<=(hs.map V.int).length:=by rw[Yaa];exact (Yab.mp hp).1
   have fin:∀ c:Bool,c=fits ns ws p->(if c=true then tVar 0 ((blkσ ["place"] [0,2] (L2.start ["things","held","writing","fitting","least"] [.ref a,.ref h,.ref wl])).set 0 (some (.int p))) H2 (fun y H6=>∃ ys,H6 acc=some (.lst ys)/\ys.length<sizeLine/\(i+1<=(hs.map V.int).length/\(Same H (upd H6 acc (.lst (ys++[y])))/\(upd H6 acc (.lst (ys++[y]))) acc=some (.lst (((hs.take (i+1)).filter (fits ns ws)).map V.int)))))
     else (i+1<=(hs.map V.int).length/\(Same H H2/\H2 acc=some (.lst (((hs.take (i+1)).filter (fits ns ws)).map V.int))))):=by
    rintro c rfl;rw[ZjK hp]
    cases e:fits ns ws p with
    | true=>
     refine iteT ⟨_,rfl,_,hacc,?_,hi,s2.put h0,?_⟩
     ·rw[Yaa];exact Zaz (Ybm (Ydz _ _) (by rw[Yav];omega))
     ·rw[Zab];simp
    | false=>
     refine iteF ⟨hi,s2,?_⟩;rw[hacc];simp
   by_cases hw:ws=[]
   ·subst hw;refine⟨_,rfl,false,.inl ⟨_,s2.seq hW,rfl⟩,iteT ?_⟩;exact fin true rfl
   ·obtain⟨w0,z,rfl⟩:∃ w0 z,ws=w0++[z]:=⟨ws.dropLast,ws.getLast hw,(YbP hw).symm⟩
    refine⟨_,rfl,true,.inl ⟨_,s2.seq hW,by simp⟩,iteF ?_⟩;refine⟨_,rfl,_,rfl,a,_,p,_,rfl,rfl,s2.sq hA,Zhp (hb p hpm),_,rfl,_,rfl,1,rfl,wl,_,-1,.int z,rfl,rfl,s2.seq hW,?_,a,_,_,_,rfl,rfl,s2.sq hA,Zhp (hbw z (by simp)),_,_,rfl,rfl,_,rfl,?_⟩
    ·rw[Yai];exact Zdl _ _
    ·refine fin _ ?_;unfold fits;simp
  ·rintro acc H2 h0 ⟨s2,hacc⟩;rw[Yaa,YaM] at hacc;refine Zns (a:=acc) (b:=h) rfl rfl (SqL.of hacc) fun L hL=>?_;have hLs:SqL K H2 L ((cand ns hs ws).map V.int):=by
    unfold cand;rcases hL with ⟨rfl,e⟩ | ⟨rfl,e⟩
    ·rw[if_neg (by simpa using e)];exact SqL.of hacc
    ·rw[if_pos (by simpa using e)];exact s2.seq hH
   have cs:=ZgJ (ns:=ns) (w:=ws) hso;have cn:=ZgK (ns:=ns) (w:=ws) hne;have cl:(cand ns hs ws).length<=300:=by
    unfold cand;split
    ·exact hl
    ·exact Ybm (Ydz _ _) hl
   have cb:∀ p∈cand ns hs ws,0<=p/\p<ns.length:=fun p hp=>hb p (Ze3 hp);generalize ec:cand ns hs ws=c at *;refine⟨L,rfl,⟨_,hLs⟩,ZfL (xs:=c.map V.int) (fun acc i H3=>Same H2 H3/\∃ ts:List Addr,ts.length=i/\H3 acc=some (.lst (ts.map V.ref))/\∀ (j:Nat) t p,ts[j]?=some t->c[j]?=some p->H3 t=some (.tup [.int (val ns p),.int p]))
    (fun acc h0=>⟨Same.new h0,[],rfl,Zab,fun j t p e=>by simp at e⟩) (fun acc i H3 h0 _ p=>p.1.seq hLs) ?_ ?_⟩
   ·rintro acc i x H3 h3 hx ⟨s3,ts,ht,hac,htup⟩;obtain⟨p,hp,rfl⟩:=ZaR hx;have hic:i<c.length:=(Yab.mp hp).1
    refine⟨_,rfl,_,rfl,a,_,p,_,rfl,rfl,(s2.trans s3).sq hA,Zhp (cb p (Yam hp)),_,rfl,(by show 2<=sizeLine;decide),fun q hq=>?_⟩;have naq:acc≠q:=Zae hac hq;refine⟨ts.map V.ref,by rw[Zai naq];exact hac,?_,by rw[Yaa];exact hic,(s3.trans (Same.new hq)).put h3,ts++[q],by simp[ht],by rw[Zab];simp,fun j t p' e1 e2=>?_⟩
    ·rw[Yaa];exact Zaz (by omega)
    ·by_cases hj:j<ts.length
     ·rw[Yaz hj] at e1;have e3:=htup j t p' e1 e2;rw[Zai (Zom e3 hac (by intro z;cases z)),Zai (Zae e3 hq)];exact e3
     ·have hj2:j<(ts++[q]).length:=(Yab.mp e1).1
      rw[Yag,Yb8] at hj2;have ej:j=i:=by omega
      subst ej;rw[YaG (by omega),ht,Ydc] at e1;have eq:q=t:=by simpa using e1
      subst eq;rw[hp] at e2;cases e2;rw[Zai (Ybn naq),Zab]
   ·rintro acc H3 h3 ⟨s3,ts,ht,hac,htup⟩;rw[Yaa] at ht;refine⟨acc,ts,c.map fun p=>[val ns p,p],rfl,SqL.of hac,by rw[Yaa,ht],by rw[Yaa];exact Yc0.mpr cn,fun i t r e1 e2=>?_,fun t e1=>?_⟩
    ·rw[Yaf] at e2
     cases e3:c[i]? with
     | none=>rw[e3] at e2;cases e2
     | some p=>
      rw[e3] at e2;have e4:r=[val ns p,p]:=(YaB e2).symm;subst e4;exact SqT.of (htup i t p e1 e3)
    ·have e2:=htup _ t _ e1 (ZhV (ns:=ns) cs cn);refine⟨_,rfl,t,_,1,.int (pick ns c),rfl,rfl,SqT.of e2,rfl,?_⟩;exact k H3 (s2.trans s3)
end
end Fj89
namespace Fj89
open PySem L2 Lv Fw
section
variable {P:Program}{w:World}{K:Yad}{mg:Str->Option Value}{base:Heap}
theorem Zmh:FnScope ["room"] ["room"] (Zac Zea):=⟨rfl,rfl,rfl,by decide +kernel,rfl,by decide +kernel,by decide +kernel⟩
theorem Zla {f fW:Addr}{fd fdW:FuncData}{t60:Tok} (F:Fun K "check_room" "check_room" Zea f fd) (T:Txt mg) (hM:mg "MOST_ROOM"=some (.int 60 t60)) (CW:Cal P w K mg base 1 "is_whole" ["thing"] ZbJ fW fdW) :
  FnOk P w K mg base CX0 2 f fd ["room"] ZeI:=by
 refine F.ok Zmh (fun vs H Q E h=>?_) (fun cdv A outer s H vs Q E hr h=>?_)
 ·obtain⟨i,rfl,_⟩:=h;rfl
 ·obtain⟨i,rfl,h1,h2,k⟩:=h;refine⟨_,Zak (Zbo (PW.pt (ZdP (ZbB (ZdA (Zam CW hr rfl (Zaa (pv 0) Zad))))
   (Zb2 (ZbB (ZeN ZdC ZdC Zag (pv 0) (ZcM rfl hM)))))) ZaK ZaH),?_⟩
  refine⟨_,rfl,i,rfl,true,rfl,iteF ?_⟩;refine⟨_,rfl,1,i,rfl,rfl,_,rfl,?_⟩;rw[decide_eq_true h1];refine iteT ⟨i,60,rfl,rfl,_,rfl,?_⟩;rw[decide_eq_true h2];exact iteF k
end
end Fj89
namespace Fj89
open PySem L2 Lv Fw
section
variable {P:Program}{w:World}{K:Yad}{mg:Str->Option Value}{base:Heap}
theorem scWriting:FnScope ["things","room","held","writing","place","coming"] ["things","room"] (Zac Zbv):=⟨rfl,rfl,rfl,by decide +kernel,rfl,by decide +kernel,by decide +kernel⟩
theorem ZhQ {f fC fN:Addr}{fd fdC fdN:FuncData} (F:Fun K "writing_of" "writing_of" Zbv f fd) (T:Txt mg) (CC:Cal P w K mg base 2 "check_room" ["room"] ZeI fC fdC) (CN:Cal P w K mg base 1 "next_out" ["things","held","writing"] (Zl6 K) fN fdN) :
  FnOk P w K mg base CX0 3 f fd ["things","room"] (Zcp K):=by
 refine F.ok scWriting (fun vs H Q E h=>?_) (fun cdv A outer s H vs Q E hr h=>?_)
 ·obtain⟨a,ns,r,rfl,_⟩:=h;rfl
 ·obtain⟨a,ns,r,rfl,hA,hl,r1,r60,k⟩:=h;have hr1:Room 1 _:=hr.mono (by decide);refine⟨_,Zaf (ZaD (Zam CC hr rfl (Zaa (pv 1) Zad)))
   (Zaf (Zca (i:=2) (own:=["place"]) (js:=[1]) scWriting.nd rfl rfl (CompOk.by (sc:=Zac Zbv) (N:=["things","room","held","writing","place","coming"]) rfl rfl (by decide +kernel)) rfl
     (Za3 rfl T.range (Zaa (Zaj Zap rfl T.len YaV (Zaa (pv 0) Zad)) Zad)) Zau
     (fun _ _ _ _ _=>Zah (i:=0) (by show (["place","room"]:List Str).Nodup;decide +kernel) rfl (YaN rfl) (.inr rfl)) (fun _ _ _ _ _=>Zdz (Zax Zc8 (pv 0) (pv 1) (ZaA _))) (fun _ _ _ _ _=>pv 0))
   (Zaf (Zat (i:=3) scWriting.nd rfl (YaN rfl) (ZaM Zad))
   (Zaf (Zdf Ybi (Zde (pv 2) (fun _=>rfl))
    (Zaf (Zat (i:=4) scWriting.nd rfl (YaN rfl) (Zam CN hr1 rfl (Zaa (pv 0) (Zaa (pv 2) (Zaa (pv 3) Zad)))))
    (Zaf (ZaD (Zc7 Ya9 PySem.F.slot_list_remove PySem.F.type_list_remove Zjg (pv 2) (Zaa (pv 4) Zad)))
    (Zaf (ZaD (Zc7 Ya9 YbC YbB ZaT (pv 3) (Zaa (pv 4) Zad)))
    (Zaf (Zat (i:=5) scWriting.nd rfl (YaN rfl) (Zaw ZbD (Zaw Za4 (Zaj Zap rfl T.len YaV (Zaa (pv 3) Zad)) (pv 1)) Zag))
    (Zak (Zbo (Zax Zc8 (pv 5) (Zaj Zap rfl T.len YaV (Zaa (pv 0) Zad)) (ZaA _)) (Zak (ZaD (Zc7 Ya9 YbC YbB ZaT (pv 2) (Zaa (pv 5) Zad)))) ZaH)))))))
   (Zak (Zas (pv 3)))))),?_⟩
  refine⟨_,rfl,r,rfl,r1,r60,?_⟩;refine⟨_,rfl,a,_,rfl,hA,_,rfl,by omega,by rw[Yaa];omega,?_⟩;have en:(((ns.map V.int).length:Nat):Int).toNat=ns.length:=by rw[Yaa];omega
  rw[en];refine ZcS (fun acc i H2=>Same H H2/\H2 acc=some (.lst (((upto i).filter fun p=>decide (p<r)).map V.int))) (fun acc h0=>⟨Same.new h0,Zab⟩) ?_ ?_
  ·rintro acc i H2 h0 hi ⟨s2,hacc⟩;refine⟨_,rfl,_,rfl,_,_,rfl,rfl,_,rfl,?_⟩;have ez:(0:Int)+(i:Int)=i:=by omega
   rw[ez];refine ite2 (fun hc=>?_) (fun hc=>?_)
   ·have hc':(i:Int)<r:=of_decide_eq_true hc;refine⟨_,rfl,_,hacc,?_,hi,s2.put h0,?_⟩
    ·rw[Yaa];exact Zaz (Ybm (Ydz _ _) (by rw[ZaV];omega))
    ·rw[Zab,Zbl,YcH,Yai];simp[hc']
   ·have hc':¬ (i:Int)<r:=fun z=>hc (decide_eq_true z);refine⟨hi,s2,?_⟩;rw[hacc,Zbl,YcH,Yai];simp[hc']
  ·rintro h H2 h0 ⟨s2,hh⟩;rw[<- Zf1] at hh;refine⟨Ya2 _,fun wl hwl=>?_⟩;have hhw:h≠wl:=Zae hh hwl;have wl0:H wl=none:=s2.free hwl;refine⟨fun m σ H3=>∃ (t:Nat) (pl co:Option V),m=ns.length - t/\t<=ns.length/\σ=[some (.ref a),some (.int r),some (.ref h),some (.ref wl),pl,co]/\Same H H3/\H3 h=some (.lst ((there ns.length r (writ ns r t)).map V.int))/\H3 wl=some (.lst ((writ ns r t).map V.int)),
    ⟨_,0,none,none,rfl,Ya2 _,rfl,s2.trans (Same.new hwl),by rw[Zai hhw];exact hh,Zab⟩,?_⟩
   rintro m σ H3 ⟨t,pl,co,rfl,ht,rfl,s3,h3,w3⟩;have g:=ZbF (ns:=ns) r1 t ht;have wlen:=writ_len ns r t;refine⟨_,rfl,!((there ns.length r (writ ns r t)).map V.int).isEmpty,.inl ⟨_,SqL.of h3,rfl⟩,?_⟩;by_cases e:there ns.length r (writ ns r t)=[]
   ·rw[e];refine iteF ⟨_,rfl,?_⟩;have htn:t=ns.length:=Nat.le_antisymm ht (Yel fun z=>g.some r1 (by rw[wlen];exact z) e);exact k wl H3 wl0 (by rw[<- htn];exact w3) s3
   ·have htn:t<ns.length:=by have:=g.full r1 e;rwa [wlen] at this
    have eE:(!((there ns.length r (writ ns r t)).map V.int).isEmpty)=true:=by simpa using e
    rw[eE];refine iteT ⟨fun σ' H'=>∃ m',m'<ns.length - t/\∃ (t:Nat) (pl co:Option V),m'=ns.length - t/\t<=ns.length/\σ'=[some (.ref a),some (.int r),some (.ref h),some (.ref wl),pl,co]/\Same H H'/\H' h=some (.lst ((there ns.length r (writ ns r t)).map V.int))/\H' wl=some (.lst ((writ ns r t).map V.int)),fun _ _ z=>z,?_⟩;have hin:∀ p∈there ns.length r (writ ns r t),0<=p/\p<ns.length:=fun p hp=>by have:=(mem_there.mp hp).1;(clear htn e wlen ht hhw en r60 r1 hl;omega)
    have thl:(there ns.length r (writ ns r t)).length<=300:=by
     have:=Zey (b:=upto ns.length) (Zcd (ZbH ns.length r (writ ns r t))) fun p hp=>upto_lt.mpr (hin p hp);rw[ZaV] at this;omega
    refine⟨_,rfl,_,rfl,_,rfl,a,h,wl,ns,_,_,rfl,s3.sq hA,SqL.of h3,SqL.of w3,thl,ZbH _ _ _,e,hin,fun p hp=>⟨(g.lt p hp).1,(g.lt p hp).2.1⟩,fun H4 s4=>?_⟩;have hp:pick ns (cand ns (there ns.length r (writ ns r t)) (writ ns r t))∈there ns.length r (writ ns r t):=Ze3 (Zg1 (ZgK e));have nx:=Zhx g r1 hp;have wx:writ ns r (t+1)=writ ns r t++[pick ns (cand ns (there ns.length r (writ ns r t)) (writ ns r t))]:=rfl;rw[<- wx,wlen] at nx;generalize pick ns (cand ns (there ns.length r (writ ns r t)) (writ ns r t))=p at hp nx wx;have h4:=s4 h _ h3;have w4:=s4 wl _ w3;refine⟨_,rfl,.inl ⟨rfl,_,SqL.of h4⟩,_,rfl,h,_,p,rfl,rfl,h4,hp,?_⟩;refine⟨_,rfl,.inl ⟨rfl,_,SqL.of (show upd H4 h _ wl=_ by rw[Zai (Ybn hhw)];exact w4)⟩,_,rfl,wl,_,_,rfl,rfl,(by rw[Zai (Ybn hhw)];exact w4),(by rw[Yaa,wlen];exact Zaz (by omega)),?_⟩;have h0':H h=none:=h0;have s5:Same H (upd (upd H4 h (.lst (((there ns.length r (writ ns r t)).erase p).map V.int))) wl (.lst ((writ ns r t).map V.int++[.int p]))):=((s3.trans s4).put h0').put wl0;refine⟨_,rfl,wl,_,rfl,.inl (SqL.of Zab),_,rfl,_,_,rfl,rfl,_,1,rfl,rfl,?_⟩;refine⟨_,rfl,_,rfl,a,_,rfl,s5.sq hA,_,_,rfl,rfl,_,rfl,?_⟩;have ec:(((writ ns r t).map V.int++[V.int p]).length:Int)+r - 1=(t:Int)+r:=by
     rw[Yag,Yaa,wlen,Yb8]
     (clear thl htn e wlen ht hhw en r60 r1 hl;omega)
    rw[ec,Yaa];refine ite2 (fun hc=>?_) (fun hc=>?_)
    ·have hc':(t:Int)+r<ns.length:=of_decide_eq_true hc;rw[if_pos hc'] at nx;have h5:(upd (upd H4 h (.lst (((there ns.length r (writ ns r t)).erase p).map V.int))) wl (.lst ((writ ns r t).map V.int++[.int p]))) h=some (.lst (((there ns.length r (writ ns r t)).erase p).map V.int)):=by rw[Zai hhw,Zab]
     refine⟨_,rfl,.inl ⟨rfl,_,SqL.of h5⟩,_,rfl,h,_,_,rfl,rfl,h5,?_,?_⟩
     ·rw[Yaa];exact Zaz (Ybm (List.length_erase_le ..) (by (clear hc' ec htn e wlen ht hhw en r60 r1 hl;omega)))
     ·refine⟨_,?_,t+1,_,_,rfl,htn,rfl,s5.put h0',?_,?_⟩
      ·(clear hc' ec thl e wlen ht hhw en r60 r1 hl;omega)
      ·rw[Zab,nx,Yai];dsimp only;rw[ec];rfl
      ·rw[Zai (Ybn hhw),Zab,wx,Yai];rfl
    ·have hc':¬ (t:Int)+r<ns.length:=fun z=>hc (decide_eq_true z);rw[if_neg hc',Ya4] at nx;refine⟨_,?_,t+1,_,_,rfl,htn,rfl,s5,?_,?_⟩
     ·(clear hc' hc ec thl e wlen ht hhw en r60 r1 hl;omega)
     ·rw[Zai hhw,Zab,nx]
     ·rw[Zab,wx,Yai];rfl
end
end Fj89
namespace Fj89
open PySem L2 Lv Fw
section
variable {P:Program}{w:World}{K:Yad}{mg:Str->Option Value}{base:Heap}
theorem scRowsW:FnScope ["things","writing","rows","place","thing"] ["things","writing"] (Zac Zd5):=⟨rfl,rfl,rfl,by decide +kernel,rfl,by decide +kernel,by decide +kernel⟩
theorem ZkV {f:Addr}{fd:FuncData} (F:Fun K "rows_written" "rows_written" Zd5 f fd) (T:Txt mg):FnOk P w K mg base CX0 1 f fd ["things","writing"] (ZeB K):=by
 refine F.ok scRowsW (fun vs H Q E h=>?_) (fun cdv A outer s H vs Q E hr h=>?_)
 ·obtain⟨a,wl,b,ns,ws,rfl,_⟩:=h;rfl
 ·obtain⟨a,wl,b,ns,ws,rfl,hA,hW,hl,hb,k⟩:=h;refine⟨_,Zaf (Zat (i:=2) scRowsW.nd rfl (YaN rfl) (ZaM Zad))
   (Zaf (Zbp Ybi rfl (ZaL (pv 1)) (Zah (i:=3) scRowsW.nd rfl (YaN rfl))
    (Zaf (Zat (i:=4) scRowsW.nd rfl (YaN rfl) (ZaS ZnK (pv 0) (pv 3) (fun _ _=>rfl)))
    (Zaf (Zbo (PW.pt (ZdP (ZbB (Zde (pv 2) (fun _=>rfl))) (Zb2 (Zax Zc8 (pv 4) (ZaS ix_list (ZaS ix_list (pv 2) (ZhO ZdU Zag) (fun _ _=>rfl)) (ZhO ZdU Zag) (fun _ _=>rfl)) (ZaA _)))))
     (Zak (ZaD (Zc7 Ya9 YbC YbB ZaT (pv 2) (Zaa (ZaM Zad) Zad)))) ZaH)
    (Zak (ZaD (Zc7 Ya9 YbC YbB ZaT (ZaS ix_list (pv 2) (ZhO ZdU Zag) (fun _ _=>rfl)) (Zaa (pv 4) Zad)))))))
   (Zak (Zas (pv 2)))),?_⟩
  refine⟨Ya2 _,fun l hl0=>?_⟩;have sn:=Same.new (o:=HO.lst []) hl0;refine⟨_,rfl,wl,b,rfl,⟨_,SqB.same sn hW⟩,?_⟩;refine Ze0 (b:=b) (K:=K) (a:=wl) (xs:=ws.map V.int) (fun i σ H2=>∃ (rf:List Addr) (pl th:Option V),σ=[some (.ref a),some (.ref wl),some (.ref l),pl,th]/\Rws3 H H2 l rf (Zbx ((ws.map (val ns)).take i))/\Same H H2)
   ⟨[],none,none,rfl,⟨Zab,⟨rfl,fun j r xs e=>nomatch e⟩,(fun q hq=>nomatch hq),Ycm⟩,sn⟩ (fun i σ H2 _ ⟨_,_,_,_,_,s2⟩=>SqB.same s2 hW) ?_ ?_
  ·rintro i x σ H2 hx ⟨rf,pl,th,rfl,hR,s2⟩;obtain⟨p,hp,rfl⟩:=ZaR hx;have hi:i<ws.length:=(Yab.mp hp).1
   have hpb:=hb p (Yam hp);have hz:(ws.map (val ns))[i]?=some (val ns p):=by rw[Yaf,hp];rfl
   have hnx:=ZhI hz;have hrl:rf.length<=300:=by
    rw[hR.rows.1];have:=Zfl ((ws.map (val ns)).take i);rw[Yav,Yaa] at this;omega
   refine⟨_,rfl,_,rfl,a,_,p,_,rfl,rfl,s2.sq hA,Zhp hpb,?_⟩;have hsz:(rf.map V.ref).length<sizeLine:=by rw[Yaa];exact Zaz (by omega)
   have hne:=(ZeM ((ws.map (val ns)).take i)).1
   have hfl:=(ZeM ((ws.map (val ns)).take i)).2
   rw[Yav,Yaa] at hfl;generalize Zbx ((ws.map (val ns)).take i)=R at hR hnx hne hfl;have fresh:ZbI R (val ns p)=R++[[val ns p]]->∀ (q:Addr),H2 q=none ->
     Zm4 (tBM K "list" ZiF (tOp (rIxL K) (tVar 2) (tUn (rU fun i=>.int (-i)) (tC (.int 1)))) (Zkj (tVar 4) tNil))
      { nx:=fun σ H2=>∃ (rf:List Addr) (pl th:Option V),σ=[some (.ref a),some (.ref wl),some (.ref l),pl,th]/\Rws3 H H2 l rf (Zbx ((ws.map (val ns)).take (i+1)))/\Same H H2,rt:=Q }
      [some (.ref a),some (.ref wl),some (.ref l),some (.int p),some (.int (val ns p))] (upd (upd H2 q (.lst [])) l (.lst (rf.map V.ref++[.ref q]))):=by
    intro he q hq;have lq:l≠q:=Zae hR.top hq;have hqv:(upd (upd H2 q (.lst [])) l (.lst (rf.map V.ref++[.ref q]))) q=some (.lst []):=by rw[Zai (Ybn lq),Zab]
    refine⟨_,rfl,1,rfl,l,_,-1,.ref q,rfl,rfl,SqL.of Zab,Zdl _ _,.inl ⟨rfl,_,SqL.of hqv⟩,_,rfl,q,_,_,rfl,rfl,hqv,(by show 0<sizeLine;decide),?_⟩;refine⟨rf++[q],_,_,rfl,?_,((s2.trans (Same.new hq)).put hl0).put (s2.free hq)⟩;rw[hnx,he];exact hR.fresh s2 hl0 hq
   rcases Ycb R with rfl | ⟨R0,ys,rfl⟩
   ·have e0:rf=[]:=YbF.mp hR.rows.1;subst e0;refine⟨_,rfl,false,.inl ⟨_,SqL.of hR.top,rfl⟩,iteT ?_⟩;refine⟨_,rfl,.inl ⟨rfl,_,SqL.of hR.top⟩,Ya2 _,fun q hq=>?_⟩;have lq:l≠q:=Zae hR.top hq;refine⟨l,_,_,rfl,rfl,(by rw[Zai lq];exact hR.top),hsz,?_⟩;exact fresh rfl q hq
   ·rw[Yb0] at hR hnx hne hfl;obtain⟨rf0,x,rfl,hlen0,hx2⟩:=hR.last;have hys:ys≠[]:=hne ys (by simp);obtain⟨ys0,lv,rfl⟩:∃ ys0 lv,ys=ys0++[lv]:=⟨ys.dropLast,ys.getLast hys,(YbP hys).symm⟩
    rw[Yb0] at fresh;rw[Yai] at hx2;have hyl:(ys0++[lv]).length<=300:=by
     rw[Ybk,Yag] at hfl;simp only[YaF,List.flatten_nil,Ya4] at hfl;omega
    refine⟨_,rfl,true,.inl ⟨_,SqL.of hR.top,by simp⟩,iteF ?_⟩;have e1:atI ((rf0++[x]).map V.ref) (-1)=some (.ref x):=by rw[Yai];exact Zdl _ _
    refine⟨_,rfl,_,rfl,1,rfl,l,_,-1,.ref x,rfl,rfl,SqL.of hR.top,e1,1,rfl,x,_,-1,.int lv,rfl,rfl,SqL.of hx2,Zdl _ _,_,_,rfl,rfl,_,rfl,?_⟩;refine ite2 (fun hc=>?_) (fun hc=>?_)
    ·have hc':val ns p<lv:=of_decide_eq_true hc;refine⟨_,rfl,.inl ⟨rfl,_,SqL.of hR.top⟩,Ya2 _,fun q hq=>?_⟩;have lq:l≠q:=Zae hR.top hq;refine⟨l,_,_,rfl,rfl,(by rw[Zai lq];exact hR.top),hsz,?_⟩;exact fresh (by rw[Zbm,if_pos hc']) q hq
    ·have hc':¬ val ns p<lv:=fun z=>hc (decide_eq_true z);refine⟨_,rfl,1,rfl,l,_,-1,.ref x,rfl,rfl,SqL.of hR.top,e1,.inl ⟨rfl,_,SqL.of hx2⟩,_,rfl,x,_,_,rfl,rfl,hx2,?_,?_⟩
     ·rw[<- Yai,Yaa];exact Zaz (by (clear hc' hc fresh hfl hlen0 hsz hrl hpb hi hl;omega))
     ·refine⟨rf0++[x],_,_,rfl,?_,s2.put (hR.own x (by simp)).1⟩;rw[hnx,Zbm,if_neg hc'];have:=hR.more (z:=val ns p);rw[Yai] at this;exact this
  ·rintro σ H2 ⟨rf,pl,th,rfl,hR,s2⟩;rw[YaY (by simp)] at hR;exact⟨_,rfl,k l rf H2 hl0 hR s2⟩
end
end Fj89
namespace Fj89
open PySem L2 Lv Fw
section
variable {P:Program}{w:World}{K:Yad}{mg:Str->Option Value}{base:Heap}
theorem Zkv:FnScope ["things","room"] ["things","room"] (Zac ZcH):=⟨rfl,rfl,rfl,by decide +kernel,rfl,by decide +kernel,by decide +kernel⟩
theorem ZhS {f fR fW:Addr}{fd dR dW:FuncData} (F:Fun K "fewest_rows" "fewest_rows" ZcH f fd) (T:Txt mg) (CR:Cal P w K mg base 1 "rows_written" ["things","writing"] (ZeB K) fR dR) (CW:Cal P w K mg base 3 "writing_of" ["things","room"] (Zcp K) fW dW) :
  FnOk P w K mg base CX0 4 f fd ["things","room"] (Zdv K):=by
 refine F.ok Zkv (fun vs H Q E h=>?_) (fun cdv A outer s H vs Q E hr h=>?_)
 ·obtain⟨a,ns,r,rfl,_⟩:=h;rfl
 ·obtain⟨a,ns,r,rfl,hA,hl,r1,r60,k⟩:=h;have hr1:Room 1 _:=hr.mono (by decide);refine⟨_,Zak (Zas (Zaj Zap rfl T.len YaV (Zaa (Zam CR hr1 rfl (Zaa (pv 0) (Zaa (Zam CW hr rfl (Zaa (pv 0) (Zaa (pv 1) Zad))) Zad))) Zad))),?_⟩;have g:=ZbF (ns:=ns) r1 ns.length (Yap _);refine⟨_,rfl,_,rfl,_,rfl,a,ns,r,rfl,hA,hl,r1,r60,fun wl H1 w0 hw s1=>?_⟩;refine⟨a,wl,true,ns,_,rfl,s1.sq hA,SqL.of hw,by rw[writ_len];exact hl,fun p hp=>⟨(g.lt p hp).1,(g.lt p hp).2.1⟩,fun l rf H2 l0 hR s2=>?_⟩;refine⟨l,_,rfl,.inl (SqL.of hR.top),?_⟩;rw[Yaa,hR.rows.1];exact k H2 (s1.trans s2)
end
end Fj89
namespace Fj89
open PySem L2 Lv Fw
section
variable {P:Program}{w:World}{K:Yad}{mg:Str->Option Value}{base:Heap}
theorem Zkr:FnScope ["thing","many"] ["thing","many"] (Zac ZcX):=⟨rfl,rfl,rfl,by decide +kernel,rfl,by decide +kernel,by decide +kernel⟩
def ZeE:Sp:=fun vs H Q _=>∃ i n:Int,vs=[.int i,.int n]/\Q (.bl (decide (0<=i/\i<n))) H
theorem Zi5 {f fW:Addr}{fd dW:FuncData} (F:Fun K "is_place" "is_place" ZcX f fd) (T:Txt mg) (CW:Cal P w K mg base 1 "is_whole" ["thing"] ZbJ fW dW):FnOk P w K mg base CX0 2 f fd ["thing","many"] ZeE:=by
 refine F.ok Zkr (fun vs H Q E h=>?_) (fun cdv A outer s H vs Q E hr h=>?_)
 ·obtain⟨i,n,rfl,_⟩:=h;rfl
 ·obtain⟨i,n,rfl,k⟩:=h;refine⟨_,Zak (Zas (Zfs (Zam CW hr rfl (Zaa (pv 0) Zad)) (Zfr (ZeR ZdC Zc8 Zag (pv 0) (pv 1))))),?_⟩;refine⟨_,rfl,i,rfl,true,rfl,iteT ⟨_,rfl,0,i,rfl,rfl,_,rfl,?_⟩⟩;by_cases h1:0<=i
  ·rw[decide_eq_true h1];refine iteT ⟨_,rfl,i,n,rfl,rfl,?_⟩;show Q (.bl (decide (i<n))) H;rw[show decide (i<n)=decide (0<=i/\i<n) from decide_eq_decide.mpr ⟨fun h=>⟨h1,h⟩,fun h=>h.2⟩];exact k
  ·rw[decide_eq_false h1];rw[decide_eq_false (fun h=>h1 h.1)] at k;exact iteF k
theorem Zkt:FnScope ["things","room","writing"] ["things","room","writing"] (Zac Zbw):=⟨rfl,rfl,rfl,by decide +kernel,rfl,by decide +kernel,by decide +kernel⟩
theorem Zlt:bootBuiltins "range"=some (.type "range"):=by decide +kernel
theorem Zi8 {f fC fP:Addr}{fd dC dP:FuncData} (F:Fun K "writing_holds" "writing_holds" Zbw f fd) (T:Txt mg) (Te:mg "enumerate"=none) (CC:Cal P w K mg base 2 "check_room" ["room"] ZeI fC dC) (CP:Cal P w K mg base 2 "is_place" ["thing","many"] ZeE fP dP) :
  FnOk P w K mg base CX0 3 f fd ["things","room","writing"] (ZeG K):=by
 refine F.ok Zkt (fun vs H Q E h=>?_) (fun cdv A outer s H vs Q E hr h=>?_)
 ·obtain⟨a,wl,b,ns,ws,r,rfl,_⟩:=h;rfl
 ·obtain⟨a,wl,b,ns,ws,r,rfl,hA,hW,hl,hwl,r1,r60,k⟩:=h;have hu:(A.deeper (Ydk "writing_holds" (Zac Zbw) s.heap.objs.size f cdv)).units<cLine:=by have:=hr.un;omega
  refine⟨_,Zaf (ZaD (Zam CC hr rfl (Zaa (pv 1) Zad)))
   (Zaf (Zbo (ZbB (ZdA (Zaj (Zhm rfl) rfl T.all Zn1 (Zaa (ZaE (own:=["place"]) (js:=[0]) (CompOk.by (sc:=Zac Zbw) (N:=["things","room","writing"]) rfl rfl (by decide +kernel)) rfl (ZaL (pv 2)) Zau
     (fun _ _ _ _ _=>Zah (i:=0) (by show (["place","things"]:List Str).Nodup;decide +kernel) rfl (YaN rfl) (.inr rfl)) (fun _ _ _ _ _=>Zay) (fun _ _ _ _ _=>Zam CP hr rfl (Zaa (pv 0) (Zaa (Zaj (Zbe K) rfl T.len YaV (Zaa (pv 1) Zad)) Zad)))) Zad)))) (Zak (Zas ZhP)) ZaH)
   (Zaf (Zbo (Zax (ZlN hu) (Zaj Zh4 rfl T.sorted Za2 (Zaa (pv 2) Zad)) (ZaZ (Ze4 rfl) rfl T.list ZlY (Zaa (ZaZ Zlr rfl T.range Zlt (Zaa (Zaj Zap rfl T.len YaV (Zaa (pv 0) Zad)) Zad)) Zad)) (ZaA _)) (Zak (Zas ZhP)) ZaH)
   (Zak (Zas (Zaj (Zhm rfl) rfl T.all Zn1 (Zaa (ZaE (own:=["at","place"]) (js:=[1]) (CompOk.by (sc:=Zac Zbw) (N:=["things","room","writing"]) rfl rfl (by decide +kernel)) rfl (Za9 rfl Te (Zaa (pv 2) Zad)) Zbq
     (fun _ _ _ _ _=>Zbj K rfl (Zan (Zah (i:=0) (by show (["at","place","room"]:List Str).Nodup;decide +kernel) rfl (YaN rfl) (.inr rfl)) (Zan (Zah (i:=1) (by show (["at","place","room"]:List Str).Nodup;decide +kernel) rfl (YaN rfl) (.inr rfl)) ZaC))) (fun _ _ _ _ _=>Zay)
     (fun _ _ _ _ _=>ZiT Zc8 (pv 1) (Zaw Za4 (pv 0) (pv 2)) (ZaA _))) Zad)))))),?_⟩
  refine⟨_,rfl,r,rfl,r1,r60,?_⟩;refine⟨_,rfl,wl,b,rfl,⟨_,hW⟩,Za0 (xs:=ws.map V.int) (fun acc i H2=>Same H H2/\H2 acc=some (.lst (((ws.take i).map (inB ns.length)).map V.bl))) (fun acc h0=>⟨Same.new h0,Zab⟩) (fun acc i H2 h0 _ p=>SqB.same p.1 hW) ?_ ?_⟩
  ·rintro acc i x H2 h0 hx ⟨s2,hacc⟩;obtain⟨p,hp',rfl⟩:=ZaR hx;have hi:=(Yab.mp hp').1
   refine⟨_,rfl,_,rfl,a,_,rfl,s2.sq hA,p,_,rfl,_,hacc,?_,by rw[Yaa];exact hi,s2.put h0,?_⟩
   ·rw[Yaa,Yaa,Yav];exact Zaz (by omega)
   ·rw[Zab,YaQ,hp',Ybp,Yai,Yai];simp[inB]
  ·rintro acc H2 h0 ⟨s2,hacc⟩;rw[Yaa,YaM] at hacc;refine⟨acc,_,rfl,SqL.of hacc,?_⟩;refine⟨_,rfl,?_⟩
   cases hall:(ws.map (inB ns.length)).all id with
   | false=>
    refine iteT (k false H2 ⟨(fun z=>nomatch z),fun hh=>?_⟩ s2);rw[inB_all.mpr hh.rg] at hall;cases hall
   | true=>
   have hrg:=inB_all.mp hall;refine iteF ?_;refine⟨_,rfl,wl,b,ws,rfl,SqB.same s2 hW,fun l1 ms h1 hperm hsort=>?_⟩;have s3:=s2.trans (Same.new (o:=.lst (ms.map V.int)) h1);refine⟨_,rfl,a,_,rfl,s3.sq hA,_,rfl,fun p2 h2=>⟨p2,_,rfl,Zab,by omega,by rw[Yaa];omega,fun l3 h3=>?_⟩⟩;have s4:=s3.trans (Same.new (o:=.rng 0 ((ns.map V.int).length:Int)) h2);have en:(((ns.map V.int).length:Nat):Int).toNat=ns.length:=by rw[Yaa];omega
   have q1:=((Same.new (o:=.rng 0 ((ns.map V.int).length:Int)) h2).trans (Same.new (o:=.lst (((YaE (((ns.map V.int).length:Nat):Int).toNat).map fun (i:Nat)=>(i:Int)).map V.int)) h3)) l1 _ Zab;have s5:=s4.trans (Same.new (o:=.lst (((YaE (((ns.map V.int).length:Nat):Int).toNat).map fun (i:Nat)=>(i:Int)).map V.int)) h3);refine⟨l1,l3,ms,_,rfl,rfl,SqL.of q1,SqL.of Zab,_,rfl,?_⟩;have hup:=Zfi hperm hsort hrg;have eu:((YaE (((ns.map V.int).length:Nat):Int).toNat).map fun (i:Nat)=>(i:Int))=upto ns.length:=by rw[en];rfl
   by_cases he:ms=upto ns.length
   ·refine ZnL (by rw[eu];exact he) ?_;obtain⟨wln,wnd⟩:=hup.mp he;generalize upd (upd (upd H2 l1 (.lst (ms.map V.int))) p2 (.rng 0 ((ns.map V.int).length:Int))) l3 _=H5 at s5 ⊢;refine⟨_,rfl,wl,b,rfl,⟨_,SqB.same s5 hW⟩,Zb0 (xs:=ws.map V.int) (fun acc i H6=>Same H H6/\H6 acc=some (.lst ((bdB r ws i).map V.bl))) (fun acc h0=>⟨s5.trans (Same.new h0),Zab⟩) (fun acc i H6 h0 _ p=>SqB.same p.1 hW) ?_ ?_⟩
    ·rintro acc i x q H6 h0 hx ⟨s6,hacc6⟩ hq;obtain⟨p,hp',rfl⟩:=ZaR hx;have hi:=(Yab.mp hp').1
     have hacc7:(upd H6 q (.tup [.int i,.int p])) acc=some (.lst ((bdB r ws i).map V.bl)):=by rw[Zai (Zae hacc6 hq)];exact hacc6
     refine⟨q,_,rfl,SqT.of Zab,rfl,_,_,rfl,_,_,rfl,rfl,_,rfl,_,rfl,_,rfl,_,_,rfl,rfl,_,_,rfl,rfl,_,hacc7,?_,by rw[Yaa];exact hi,(s6.trans (Same.new hq)).put (s5.free h0),?_⟩
     ·rw[Yaa];exact Zaz (by unfold bdB;rw[Yaa,Ycf];omega)
     ·rw[Zab,Zls hp',Yai];rfl
    ·rintro acc H6 h0 ⟨s6,hacc6⟩;rw[Yaa] at hacc6;refine⟨acc,_,rfl,SqL.of hacc6,?_⟩;exact k _ H6 ⟨fun z=>⟨wln,wnd,hrg,bdB_all.mp z⟩,fun hh=>bdB_all.mpr hh.bd⟩ s6
   ·refine ite2 (fun _=>?_) (fun z=>absurd (by rw[eu,decide_eq_false he];rfl) z);exact k false _ ⟨(fun z=>nomatch z),fun hh=>absurd (hup.mpr ⟨hh.len,hh.nd⟩) he⟩ s5
end
end Fj89
namespace Fj89
open PySem L2 Lv
section
variable {P:Program}{w:World}{K:Yad}{mg:Str->Option Value}{base:Heap}
theorem scLaw:FnScope ["script","cell","pot","p","room","things","writing","rows","lengths","reading","n","placing"] ["script"] (Zac sLaw):=⟨rfl,rfl,rfl,by decide +kernel,rfl,by decide +kernel,by decide +kernel⟩
theorem Zkw (zs:List Int):∀ r∈Zbx zs,r.Pairwise (·<=·):=by
 have go:∀ (zs:List Int) (R:List (List Int)),(∀ r∈R,r.Pairwise (·<=·))->∀ r∈zs.foldl ZbI R,r.Pairwise (·<=·):=by
  intro zs
  induction zs with
  | nil=>intro R h;exact h
  | cons z zs ih=>
   intro R h;refine ih (ZbI R z) ?_;unfold ZbI
   cases e:R.getLast? with
   | none=>
    intro r hr;rw[Yaj.mp hr];simp
   | some q=>
    have hq:=h q (List.mem_of_getLast? e);dsimp only;split
    ·intro r hr;rcases Yah.mp hr with hr | hr
     ·exact h r hr
     ·rw[Yaj.mp hr];simp
    ·next hge=>
     intro r hr;rcases Yah.mp hr with hr | hr
     ·exact h r ((List.dropLast_sublist R).subset hr)
     ·rw[Yaj.mp hr];refine Ya0.mpr ⟨hq,by simp,fun x hx y hy=>?_⟩;rw[Yaj.mp hy];rcases Ycb q with e2 | ⟨q',v,e2⟩
      ·rw[e2] at hx;cases hx
      ·rw[Yb0] at e2;subst e2;simp at hge;have h3:x<=v:=by
        rcases Yah.mp hx with hx | hx
        ·exact (Ya0.mp hq).2.2 x hx v (Yaj.mpr rfl)
        ·rw[Yaj.mp hx];exact YbO _
       omega
 exact go zs [] fun r hr=>by cases hr
def Zip (K:Yad):Sp:=fun vs H Q _=>∃ (a:Addr) (ns:List Int),vs=[.ref a]/\SqL K H a (ns.map V.int)/\ns.length<=63/\∀ H',Q (.bl true) H'
theorem Zk4 {f f1 f2 f3 f4 f5 f6 f7 f8 f9 f10 f11 f12 f13 f14:Addr}{fd d1 d2 d3 d4 d5 d6 d7 d8 d9 d10 d11 d12 d13 d14:FuncData} (F:Fun K "law" "law" sLaw f fd) {MX:Int} (hMX:60<=MX) (T:Txt mg) (CL:Cal P w K mg base 1 "_law_folded" ["cells","many"] (Zir K) f1 d1) (CB:Cal P w K mg base 1 "_law_begun" ["cell"] Zgh f2 d2) (CK:Cal P w K mg base 1 "_law_take" ["pot","size"] Zb8 f3 d3) (CG:Cal P w K mg base 4 "_law_things" ["pot"] Zf7 f4 d4) (CV:Cal P w K mg base 3 "writing_of" ["things","room"] (Zcp K) f5 d5) (CX:Cal P w K mg base 1 "rows_written" ["things","writing"] (ZeB K) f6 d6) (CE:Cal P w K mg base 3 "writing_holds" ["things","room","writing"] (ZeG K) f7 d7) (CF:Cal P w K mg base 4 "fewest_rows" ["things","room"] (Zdv K) f8 d8) (CI:Cal P w K mg base 1 "merged_row" ["rows"] Zdb f9 d9) (CQ:Cal P w K mg base 4 "best_placing" ["p","lengths"] (Zl8 K) f10 d10) (CP:Cal P w K mg base 7 "_law_played" ["p","n","rows","placing"] Zf9 f11 d11) (CS:Cal P w K mg base 7 "placing_reading" ["p","n","lengths","placing"] (Zio K) f12 d12) (CJ:Cal P w K mg base 3 "least_join" ["p","lengths"] (Zgd K) f13 d13) (CO:Cal P w K mg base 3 "level_of" ["p","rows"] (spOf MX) f14 d14):FnOk P w K mg base CX0 8 f fd ["script"] (Zip K):=by
 refine okW F scLaw (fun vs H Q E h=>?_) (fun cdv A outer s H vs Q E hr h=>?_)
 ·obtain⟨a,ns,rfl,_⟩:=h;rfl
 ·obtain⟨a,ns,rfl,hS,hns,k⟩:=h;have hr1:Room 1 _:=hr.mono (by decide);have hr3:Room 3 _:=hr.mono (by decide);have hr4:Room 4 _:=hr.mono (by decide);have hr7:Room 7 _:=hr.mono (by decide);have hu0:(A.deeper (Ydk "law" (Zac sLaw) s.heap.objs.size f cdv)).units<cLine:=by have:=hr.un;omega
  have hu1:(A.deeper (Ydk "law" (Zac sLaw) s.heap.objs.size f cdv)).units+12<cLine:=by have:=hr.un;omega
  refine⟨_,(Zaq (ws (Zbp Ybi rfl (ZaL (Zam CL hr1 rfl (Zaa (pv 0) (Zaa Zag Zad)))) (Zah (i:=1) scLaw.nd rfl (YaN rfl))
   (WSs.out (Zaq (ws (Zat (i:=2) scLaw.nd rfl (YaN rfl) (Zam CB hr1 rfl (Zaa (pv 1) Zad))))
    (Zaq (ws (Zat (i:=3) scLaw.nd rfl (YaN rfl) (Zaw Za4 Zag (Zam CK hr1 rfl (Zaa (pv 2) (Zaa Zag Zad))))))
    (Zaq (ws (Zat (i:=4) scLaw.nd rfl (YaN rfl) (Zaw Za4 Zag (Zam CK hr1 rfl (Zaa (pv 2) (Zaa Zag Zad))))))
    (Zaq (ws (Zat (i:=5) scLaw.nd rfl (YaN rfl) (Zam CG hr4 rfl (Zaa (pv 2) Zad))))
    (Zaq (ws (Zat (i:=6) scLaw.nd rfl (YaN rfl) (Zam CV hr3 rfl (Zaa (pv 5) (Zaa (pv 4) Zad)))))
    (Zaq (ws (Zat (i:=7) scLaw.nd rfl (YaN rfl) (Zam CX hr1 rfl (Zaa (pv 5) (Zaa (pv 6) Zad)))))
    (Zaq (Zet (PW.pt (ZdP (Zax ZiZ (Zam CE hr3 rfl (Zaa (pv 5) (Zaa (pv 4) (Zaa (pv 6) Zad)))) ZhP (ZaA _)) (Zb2 (Zax Znu (Zaj Zap rfl T.len YaV (Zaa (pv 7) Zad)) (Zam CF hr4 rfl (Zaa (pv 5) (Zaa (pv 4) Zad))) (ZaA _)))))
    (wss ZaK)
    Zbt)
    (Zaq (Zet (Zax (ZlN hu0) (Zam CI hr1 rfl (Zaa (pv 7) Zad)) (Zaj Zbb rfl T.sorted Za2 (Zaa (pv 5) Zad)) (ZaA _))
    (wss ZaK)
    Zbt)
    (ZaU (Zet (Zax ZeS (Zaj Zap rfl T.len YaV (Zaa (pv 7) Zad)) Zag (ZaA _))
    (Zaq (ws (Zca (i:=8) scLaw.nd rfl rfl (own:=["row"]) (js:=[]) (CompOk.by (sc:=Zac sLaw) (N:=["script","cell","pot","p","room","things","writing","rows","lengths","reading","n","placing"]) rfl rfl (by decide +kernel)) rfl (ZaL (pv 7)) Zau (fun _ _ _ _ _=>(Zah (i:=0) (by show (["row"]:List Str).Nodup;decide +kernel) rfl (YaN rfl) (.inr rfl))) (fun _ _ _ _ _=>Zay) (fun _ _ _ _ _=>(Zaj (Zbe K) rfl T.len YaV (Zaa (pv 0) Zad)))))
     (Zaq (ws (ZbC (Zam CQ hr4 rfl (Zaa (pv 3) (Zaa (pv 8) Zad))) (Zbh rfl (Zan (Zah (i:=9) scLaw.nd rfl (YaN rfl)) (Zan (Zah (i:=10) scLaw.nd rfl (YaN rfl)) (Zan (Zah (i:=11) scLaw.nd rfl (YaN rfl)) ZaC))))))
     (Zaq (Zet (Zax (Znt hu1) (Zam CP hr7 rfl (Zaa (pv 3) (Zaa (pv 10) (Zaa (pv 7) (Zaa (pv 11) Zad))))) (Za6 (Zaa (ZaM (Zaa (Zaj Zbb rfl T.sorted Za2 (Zaa (pv 5) Zad)) Zad)) (Zaa (pv 9) Zad))) (ZaA _))
     (wss ZaK)
     Zbt)
     (Zaq (Zet (PW.pt (ZdP (Zax Znu (Zam CS hr7 rfl (Zaa (pv 3) (Zaa (pv 10) (Zaa (pv 8) (Zaa (pv 11) Zad))))) (pv 9) (ZaA _)) (Zb2 (Zax ZeS (ZaS Zb3 (Zam CJ hr3 rfl (Zaa (pv 3) (Zaa (pv 8) Zad))) Zag (fun _ _=>rfl)) (pv 9) (ZaA _)))))
     (wss ZaK)
     Zbt)
     (ZaU (Zet (Zax Zc8 (pv 10) (Zam CO hr3 rfl (Zaa (pv 3) (Zaa (Zaj Zap rfl T.len YaV (Zaa (pv 7) Zad)) Zad))) (ZaA _))
     (wss ZaK)
     Zbt))))))
    Zbt)))))))))))))
   (ZaU (ws (Zas ZhP)))),?_⟩
  refine⟨_,rfl,a,ns,3,rfl,hS,hns,by decide,by decide,fun l fs H1 nl hl hfs s1=>?_⟩;refine⟨l,true,rfl,⟨_,SqL.of hl⟩,?_⟩;refine Ze0 (b:=true) (xs:=fs.map V.int) (fun i σ Hx=>∃ o1 o2 o3 o4 o5 o6 o7 o8 o9 o10 o11:Option V,σ=[some (.ref a),o1,o2,o3,o4,o5,o6,o7,o8,o9,o10,o11]/\Hx l=some (.lst (fs.map V.int))) ⟨_,_,_,_,_,_,_,_,_,_,_,rfl,hl⟩ (fun i σ Hx _ ⟨_,_,_,_,_,_,_,_,_,_,_,_,h⟩=>SqL.of h) ?_ ?_
  ·rintro i x σ Hx hx ⟨o1,o2,o3,o4,o5,o6,o7,o8,o9,o10,o11,rfl,hlx⟩;rw[Yaf] at hx;obtain⟨z,hz1,rfl⟩:=YcJ.mp hx;clear hx hz1;refine⟨_,rfl,z,rfl,fun po H2 npo hP2 s2=>?_⟩;have lp:l≠po:=Zae hlx npo;have hl2:=s2 _ _ hlx;refine⟨_,rfl,po,6,0,rfl,hP2,by decide,by decide,by decide,fun d H3 d0 d1 hP3 sm3=>⟨_,_,rfl,rfl,?_⟩⟩;obtain⟨d,rfl⟩:∃ m:Nat,d=(m:Int):=⟨d.toNat,by omega⟩
   obtain⟨p,hpd⟩:∃ p:Nat,2+(d:Int)=p:=⟨2+d,by omega⟩
   have p2:2<=p:=by omega
   have p7:p<=7:=by omega
   have hl3:=sm3 _ _ hl2 lp;refine⟨_,rfl,po,20,1,rfl,hP3,by decide,by decide,by decide,fun e H4 e0 e1 hP4 sm4=>⟨_,_,rfl,rfl,?_⟩⟩;have hl4:=sm4 _ _ hl3 lp;obtain⟨room,hrm⟩:∃ room:Int,1+e=room:=⟨_,rfl⟩
   have r1:1<=room:=by (clear e1 p7 p2 hpd d1 d0 lp hfs hu1 hu0 hns hMX;omega)
   have r60:room<=60:=by (clear r1 e0 p7 p2 hpd d1 d0 lp hfs hu1 hu0 hns hMX;omega)
   refine⟨_,rfl,po,2,rfl,hP4,by decide,fun tl ts H5 c5 ntl htl hts htb hP5 sm5=>?_⟩;have hl5:=sm5 _ _ hl4 lp;clear hP2 hP3 hP4 hl2 hl3 hl4 sm3 sm4 sm5 hP5;refine⟨_,rfl,_,rfl,tl,ts,room,by rw[<- hrm];rfl,.inl (SqL.of htl),by (clear r60 r1 hrm e1 e0 p7 p2 hpd d1 d0 lp hfs hu1 hu0 hns hMX;omega),r1,r60,fun wl H6 nwl hwl s6=>?_⟩;have hw:=Zhr (ns:=ts) (r:=room) r1;generalize hws:Fw.writ ts room ts.length=ws at hwl hw;have hwl':ws.length=ts.length:=by rw[<- hws,Fw.writ_len]
   have htl6:=s6 _ _ htl;refine⟨_,rfl,_,rfl,tl,wl,true,ts,ws,rfl,.inl (SqL.of htl6),SqL.of hwl,by (clear r60 r1 hrm e1 e0 p7 p2 hpd d1 d0 lp hfs hu1 hu0 hns hMX;omega),fun q hq=>hw.rg q hq,fun ra rs H7 nra hR s7=>?_⟩;have hperm:(Zbx (ws.map (Fw.val ts))).flatten.Perm ts:=by rw[ZhJ];exact Zia hw
   have hup:=Zkw (ws.map (Fw.val ts));have hfew:Zbx ((Fw.writ ts room ts.length).map (Fw.val ts))=Zbx (ws.map (Fw.val ts)):=by rw[hws]
   have hRl:(Zbx (ws.map (Fw.val ts))).length<=60:=by
    have:=Zfl (ws.map (Fw.val ts));rw[Yaa] at this
    (clear r60 r1 hrm e1 e0 p7 p2 hpd d1 d0 lp hfs hu1 hu0 hns hMX;omega)
   generalize Zbx (ws.map (Fw.val ts))=rows at hR hperm hup hfew hRl;have hra:=hR.top;have hL:=hR.rows;have htl7:=s7 _ _ htl6;have hl7:=s7 _ _ (s6 _ _ hl5);refine⟨_,rfl,_,rfl,_,rfl,tl,wl,true,ts,ws,room,by rw[<- hrm];rfl,.inl (SqL.of htl7),SqL.of (s7 _ _ hwl),by (clear hRl hwl' r60 r1 hrm e1 e0 p7 p2 hpd d1 d0 lp hfs hu1 hu0 hns hMX;omega),by (clear hRl r60 r1 hrm e1 e0 p7 p2 hpd d1 d0 lp hfs hu1 hu0 hns hMX;omega),r1,r60,fun c H8 hc s8=>?_⟩;rw[show c=true from hc.mpr hw];refine⟨true,true,rfl,rfl,_,rfl,iteF ?_⟩;have hra8:=s8 _ _ hra;refine⟨_,rfl,ra,_,rfl,.inl (SqL.of hra8),_,rfl,_,rfl,tl,ts,room,by rw[<- hrm];rfl,.inl (SqL.of (s8 _ _ htl7)),by (clear hc hRl hwl' r60 r1 hrm e1 e0 p7 p2 hpd d1 d0 lp hfs hu1 hu0 hns hMX;omega),r1,r60,fun H9 s9=>⟨rfl,_,rfl,?_⟩⟩;rw[hfew,show (!decide (V.int (((rs.map V.ref).length:Nat):Int)=V.int ((rows.length:Nat):Int)))=false from by rw[Yaa,hL.1,decide_eq_true rfl];rfl];refine iteF ?_;have s79:=s8.trans s9;have hra9:=s79 _ _ hra;have hL9:=hL.same s79;have htl9:=s79 _ _ htl7;have hl9:=s79 _ _ hl7;clear hR hra hL hra8 s6 s7 hl5 hl7 htl6 htl7 htl hwl;have hfl:rows.flatten.length=ts.length:=hperm.length_eq;refine⟨_,rfl,ra,rs,rows,rfl,RwS.of hra9 hL9,?_,fun l3 ms H10 nl3 hms pm up s10=>?_⟩
   ·have:(lenN rows).sum=rows.flatten.length:=by unfold lenN;rw[YcD]
    (clear hc hRl hwl' r60 r1 hrm e1 e0 p7 p2 hpd d1 d0 lp hfs hu1 hu0 hns hMX;omega)
   refine⟨_,rfl,tl,ts,rfl,SqL.of (s10 _ _ htl9),fun l4 ms2 nl4 pm2 up2=>?_⟩;have em:ms=ms2:=(ZcV (pm.trans hperm) up).trans (ZcV pm2 up2).symm;have s11:Same H10 (upd H10 l4 (.lst (ms2.map V.int))):=Same.new nl4;refine⟨l3,l4,ms,ms2,rfl,rfl,SqL.of (s11 _ _ hms),SqL.of Zab,_,rfl,?_⟩;refine ZnL em ?_;generalize upd H10 l4 (.lst (ms2.map V.int))=H11 at s11;clear hms nl4 pm2 up2 em;have s911:=s10.trans s11;have hra11:=s911 _ _ hra9;have hL11:=hL9.same s911;have htl11:=s911 _ _ htl9;have hl11:=s911 _ _ hl9;refine⟨_,rfl,ra,_,rfl,.inl (SqL.of hra11),_,_,rfl,rfl,_,rfl,?_⟩;refine ite2 (fun hgt=>?_) (fun hle=>?_)
   ·have hgt:(((rs.map V.ref).length:Nat):Int) > 0:=of_decide_eq_true hgt;rw[Yaa,hL11.1] at hgt;have h1:1<=rows.length:=by (clear hfl hc hRl hwl' hts r60 r1 hrm e1 e0 p7 p2 hpd d1 d0 lp hfs hu1 hu0 hns hMX;omega)
    refine⟨_,rfl,ra,true,rfl,⟨_,SqL.of hra11⟩,?_⟩;refine ZbP ((rows.map fun r=>(r.length:Int)).map V.int) (show SqB true K H11 ra (rs.map V.ref) from SqL.of hra11) (by rw[Yaa,Yaa,Yaa,hL11.1]) (by rw[Yaa,hL11.1];(clear h1 hgt hfl hc hwl' hts r60 r1 hrm e1 e0 p7 p2 hpd d1 d0 lp hfs hu1 hu0 hns hMX;omega)) (fun j x y hx hy Hc sc' R hR=>?_) fun ll H12 nll s12 hll=>?_
    ·obtain⟨q,hq,rfl⟩:=ZaG hx;obtain⟨y',hy',rfl⟩:=ZaR hy;rw[Yaf] at hy';obtain⟨xs,hxs,rfl⟩:=YcJ.mp hy';refine⟨_,rfl,q,_,rfl,.inl (SqL.of (sc' _ _ (hL11.2 j q xs hq hxs))),?_⟩;rw[Yaa];exact hR Hc (Same.refl _)
    have hlb:∀ l∈rows.map (fun r=>(r.length:Int)),YaR l<=8000:=fun l hl=>by
     obtain⟨r,hr,rfl⟩:=YaS.mp hl;have:r.length<=rows.flatten.length:=(List.sublist_flatten_of_mem hr).length_le;exact Zbs (by (clear this h1 hgt hfl hc hRl hwl' hts r60 r1 hrm e1 e0 p7 p2 hpd d1 d0 lp hfs hu1 hu0 hns hMX;omega)) (by (clear h1 hgt hc hRl hwl' r60 r1 hrm e1 e0 p7 p2 hpd d1 d0 lp hfs hu1 hu0 hns hMX;omega))
    refine⟨_,rfl,_,rfl,p,ll,true,rows.map (fun r=>(r.length:Int)),by rw[<- hpd];rfl,p2,p7,SqL.of hll,by rw[Yaa];(clear h1 hgt hfl hc hwl' hts r60 r1 hrm e1 e0 p7 p2 hpd d1 d0 lp hfs hu1 hu0 hns hMX;omega),hlb,fun t pl qs ks lf lp n m H13 _ ht hpl hTu hst hin hfit ht4 hnm hbo _ _ s13=>?_⟩;have hn20:n<20:=by
     refine Ybq fun z=>?_;have h20:=Zn6 p2 p7;have:=Zev p2 (show 20<=n by (clear h20 hnm ht4 h1 hgt hfl hc hRl hwl' hts r60 r1 hrm e1 e0 p7 p2 hpd d1 d0 hfs hu1 hu0 hns hMX;omega))
     (clear z hnm h1 hgt hfl hc hRl hwl' hts r60 r1 hrm e1 e0 p7 p2 hpd d1 d0 hfs hu1 hu0 hns hMX;omega)
    refine⟨t,_,rfl,SqT.of ht,rfl,_,_,rfl,_,_,rfl,_,_,rfl,rfl,?_⟩;have hnd:=Zfg hst hfit;have hkl:ks.length=rows.length:=by have:=hst.1;rwa [Yaa] at this
    have hjl:=ZmK p2 (fun l hl=>by obtain⟨r,hr,rfl⟩:=YaS.mp hl;(clear hkl hn20 hnm ht4 h1 hgt hfl hc hRl hwl' hts r60 r1 hrm e1 e0 p7 p2 hpd d1 d0 hfs hu1 hu0 hns hMX;omega)) hst hfit;have s1113:=s12.trans s13;refine⟨_,rfl,_,rfl,_,rfl,_,rfl,p,n,ra,pl,rs,rows,qs,ks,by rw[<- hpd];rfl,p2,p7,by (clear hjl hkl hnm ht4 h1 hgt hfl hc hRl hwl' hts r60 r1 hrm e1 e0 p7 p2 hpd d1 d0 hfs hu1 hu0 hns hMX;omega),ht4,s1113 _ _ hra11,hL11.same s1113,hpl,hTu,hin,hnd,hkl,h1,hup,by (clear hjl hkl hn20 hnm ht4 h1 hgt hc hRl hwl' r60 r1 hrm e1 e0 p7 p2 hpd d1 d0 hfs hu1 hu0 hns hMX;omega),fun t2 lf2 r2 H14 ht2 hlf2 hr2 s14=>?_⟩;have s1114:=s1113.trans s14;refine⟨_,rfl,tl,ts,rfl,SqL.of (s1114 _ _ htl11),fun l5 ms5 nl5 pm5 up5=>⟨(by show 1<=sizeLine;decide),fun l6 nl6=>⟨_,rfl,(by show 2<=sizeLine;decide),fun t6 nt6=>?_⟩⟩⟩;have ems:ms5=srt rows.flatten:=ZcV (pm5.trans hperm.symm) up5;subst ems;have w1:Same H14 (upd H14 l5 (.lst ((srt rows.flatten).map V.int))):=Same.new nl5;have e1:upd H14 l5 (.lst ((srt rows.flatten).map V.int)) l5=some (.lst ((srt rows.flatten).map V.int)):=Zab;generalize upd H14 l5 (.lst ((srt rows.flatten).map V.int))=G1 at *;have w2:Same G1 (upd G1 l6 (.lst [.ref l5])):=Same.new nl6;have e2:upd G1 l6 (.lst [.ref l5]) l6=some (.lst [.ref l5]):=Zab;generalize upd G1 l6 (.lst [.ref l5])=G2 at *;have w3:=Same.new (o:=.tup [V.ref l6,.int (ZaQ (num p n) (rows.map fun r=>(r.length:Int)) ks).sum]) nt6;have e3:upd G2 t6 (.tup [V.ref l6,.int (ZaQ (num p n) (rows.map fun r=>(r.length:Int)) ks).sum]) t6=some (.tup [V.ref l6,.int (ZaQ (num p n) (rows.map fun r=>(r.length:Int)) ks).sum]):=Zab;generalize upd G2 t6 (.tup [V.ref l6,.int (ZaQ (num p n) (rows.map fun r=>(r.length:Int)) ks).sum])=G3 at w3 e3 ⊢;have w13:=(w1.trans w2).trans w3;refine⟨t2,t6,.tuple [Zkx [some (srt rows.flatten)],.int (ZaQ (num p n) (rows.map fun r=>(r.length:Int)) ks).sum],rfl,rfl,.tup (w13 _ _ ht2) (.cons (.lst (w13 _ _ hlf2) (Zdk (cs:=[some (r2,srt rows.flatten)]) fun c hc=>?_)) (.cons (.int _) .nil)),.tup e3 (.cons (.lst (w3 _ _ e2) (Zdk (cs:=[some (l5,srt rows.flatten)]) fun c hc=>?_)) (.cons (.int _) .nil)),?_,_,rfl,iteF ?_⟩
    ·rw[Yaj.mp hc];exact w13 _ _ hr2
    ·rw[Yaj.mp hc];exact w3 _ _ (w2 _ _ e1)
    ·have:=ZhL [some (srt rows.flatten)];simp only[Yds,Ybs]
     (clear hjl hkl hn20 hnm ht4 h1 hgt hfl hc hRl hwl' hts r60 r1 hrm e0 p7 p2 hpd d1 d0 hfs hu1 hu0 hns hMX;omega)
    have s11G:=s1114.trans w13;have s13G:=s14.trans w13;have hllG:=s13G _ _ (s13 _ _ hll);refine⟨_,rfl,_,rfl,_,rfl,_,rfl,p,n,ll,pl,true,qs,_,ks,by rw[<- hpd];rfl,p2,p7,by (clear hjl hkl hnm ht4 h1 hgt hfl hc hRl hwl' hts r60 r1 hrm e0 p7 p2 hpd d1 d0 hfs hu1 hu0 hns hMX;omega),ht4,SqL.of hllG,s13G _ _ hpl,hTu.same s13G,hin,⟨by rw[Yaa];exact hkl.symm,by rw[Yaa];(clear hjl hkl hn20 hnm ht4 h1 hgt hfl hc hwl' hts r60 r1 hrm e0 p7 p2 hpd d1 d0 hfs hu1 hu0 hns hMX;omega)⟩,hlb,fun H15 s15=>⟨_,rfl,rfl,_,rfl,?_⟩⟩;rw[show (!decide (V.int (ZaQ (num p n) (rows.map fun r=>(r.length:Int)) ks).sum=V.int (ZaQ (num p n) (rows.map fun r=>(r.length:Int)) ks).sum))=false from by rw[decide_eq_true rfl];rfl];refine iteF ?_;refine⟨_,rfl,_,rfl,p,ll,true,_,by rw[<- hpd];rfl,p2,p7,SqL.of (s15 _ _ hllG),by rw[Yaa];(clear hjl hkl hn20 hnm ht4 h1 hgt hfl hc hwl' hts r60 r1 hrm e0 p7 p2 hpd d1 d0 hfs hu1 hu0 hns hMX;omega),fun t7 lg rs7 H16 nt7 ht7 hlg7 s16=>?_⟩;refine⟨t7,_,0,.int (hf p (rows.map fun r=>(r.length:Int))),rfl,rfl,SqT.of ht7,rfl,_,rfl,_,_,rfl,rfl,_,rfl,?_⟩;rw[decide_eq_false (show ¬ (ZaQ (num p n) (rows.map fun r=>(r.length:Int)) ks).sum<hf p (rows.map fun r=>(r.length:Int)) by (clear hkl hn20 hnm ht4 h1 hgt hfl hc hRl hwl' hts r60 r1 hrm e0 p7 p2 hpd d1 d0 hfs hu1 hu0 hns hMX;omega))];refine iteF ?_;have s11F:=s11G.trans (s15.trans s16);refine⟨_,rfl,_,rfl,_,rfl,ra,_,rfl,.inl (SqL.of (s11F _ _ hra11)),p,_,by rw[<- hpd];rfl,p2,p7,by rw[Yaa,hL11.1];(clear hjl hkl hn20 hnm ht4 h1 hfl hc hRl hwl' hts r60 r1 hrm e0 p7 p2 hpd d1 d0 hfs hu1 hu0 hns hMX;omega),by rw[Yaa,hL11.1];(clear hjl hkl hn20 hnm ht4 h1 hgt hfl hc hwl' hts r60 r1 hrm e0 p7 p2 hpd d1 d0 hfs hu1 hu0 hns;omega),fun N H17 hlev s17=>⟨_,_,rfl,rfl,_,rfl,?_⟩⟩;have hge:¬ (n:Int)<N:=fun z=>by
     have h3:=hlev.2 n (by (clear hjl hkl hn20 hnm ht4 h1 hgt hfl hc hRl hwl' hts r60 r1 hrm e0 p7 p2 hpd d1 d0 hfs hu1 hu0 hns hMX;omega));rw[Yaa,hL11.1] at h3;have h4:=Zbi p n;have h5:(rows.map fun r=>(r.length:Int)).length<=(num p n).flatten.length:=hfit;rw[Yaa] at h5
     (clear z hjl hkl hn20 hnm ht4 h1 hgt hfl hc hRl hwl' hts r60 r1 hrm e0 p7 p2 hpd d1 d0 hfs hu1 hu0 hns hMX;omega)
    rw[decide_eq_false hge];exact iteF ⟨_,_,_,_,_,_,_,_,_,_,_,rfl,s17 _ _ (s11F _ _ hl11)⟩
   ·exact⟨_,_,_,_,_,_,_,_,_,_,_,rfl,hl11⟩
  ·rintro σ Hx ⟨o1,o2,o3,o4,o5,o6,o7,o8,o9,o10,o11,rfl,hlx⟩;exact k Hx
end
end Fj89
namespace Fj89
open PySem L2 Lv
section
variable {P:Program}{w:World}{K:Yad}{mg:Str->Option Value}{base:Heap}
theorem Zks:FnScope ["rows"] ["rows"] (Zac ZcE):=⟨rfl,rfl,rfl,by decide +kernel,rfl,by decide +kernel,by decide +kernel⟩
theorem Zi6 {f:Addr}{fd:FuncData} (F:Fun K "merged_row" "merged_row" ZcE f fd) (T:Txt mg):FnOk P w K mg base CX0 1 f fd ["rows"] Zdb:=by
 refine F.ok Zks (fun vs H Q E h=>?_) (fun cdv A outer s H vs Q E hr h=>?_)
 ·obtain⟨a,rs,N,rfl,_⟩:=h;rfl
 ·obtain⟨a,rs,N,rfl,hR,hT,k⟩:=h;refine⟨_,Zak (Zas (Zaj Zbb rfl T.sorted Za2 (Zaa (ZkH (own:=["row","thing"]) (js:=[]) (fr:=[1]) (CompOk.bare (by decide +kernel)) rfl (ZaL (pv 0)) (ZgC (i:=0)) ZgB
    (fun _ _ _ _ _=>Zah (i:=0) (by show (["row","thing"]:List Str).Nodup;decide +kernel) rfl (YaN rfl) (.inr rfl)) (fun _ _ _ _ _=>Zay) (fun _ _ _ _ _=>ZeQ K (pv 0))
    (fun _ _ _ _ _=>Zah (i:=1) (by show (["row","thing"]:List Str).Nodup;decide +kernel) rfl (YaN rfl) (.inr rfl)) (fun _ _ _ _ _=>Zay) (fun _ _ _ _ _=>pv 1)) Zad))),?_⟩
  obtain⟨b,hb⟩:=hR.top.both;refine⟨_,rfl,a,b,rfl,⟨_,hb K H (Same.refl _)⟩,?_⟩;refine Zh3 (xs:=rs.map V.ref) (fun acc i H2=>Same H H2/\H2 acc=some (.lst (((N.take i).flatten).map V.int))) (fun acc h0=>⟨Same.new h0,Zab⟩) (fun acc i H2 h0 _ p=>hb K H2 p.1) ?_ ?_
  ·rintro acc i x H2 h0 hx ⟨s2,hacc⟩;have hi:=(Yab.mp hx).1
   obtain⟨r,xs,rfl,e1,e2,hrow⟩:=hR.get hx;obtain⟨b2,hb2⟩:=hrow.both;refine⟨_,rfl,r,b2,rfl,⟨_,hb2 K H2 s2⟩,?_⟩;refine ZmO (xs:=xs.map V.int) (fun j H3=>Same H H3/\H3 acc=some (.lst (((N.take i).flatten++xs.take j).map V.int))) ⟨s2,by simpa using hacc⟩ (fun j H3 _ p=>hb2 K H3 p.1) ?_ ?_
   ·rintro j y H3 hy ⟨s3,hac3⟩;obtain⟨z,hz,rfl⟩:=ZaR hy;have hj:=(Yab.mp hz).1
    have hle:=Zlm e2 (Ybv hj);refine⟨_,rfl,_,hac3,Zbd (by rw[Yaa,Yag,Yav];omega),by rw[Yaa];exact hj,s3.put h0,?_⟩;rw[Zab,YaQ,hz];simp
   ·rintro H3 ⟨s3,hac3⟩;refine⟨hi,s3,?_⟩;rw[hac3,ZfE e2,Yaa,YaM]
  ·rintro acc H2 h0 ⟨s2,hacc⟩;rw[Yaa,hR.len,YaM] at hacc;refine⟨acc,_,rfl,SqL.of hacc,fun l ms nl pm up=>?_⟩;have:=Zae hacc nl;exact k l ms _ (s2.free nl) Zab pm up (s2.trans (Same.new nl))
theorem Znf:FnScope ["row"] ["row"] (Zac ZhG):=⟨rfl,rfl,rfl,by decide +kernel,rfl,by decide +kernel,by decide +kernel⟩
theorem Zk9 {f:Addr}{fd:FuncData} (F:Fun K "copied_row" "copied_row" ZhG f fd) (T:Txt mg):FnOk P w K mg base CX0 1 f fd ["row"] Zgg:=by
 refine F.ok Znf (fun vs H Q E h=>?_) (fun cdv A outer s H vs Q E hr h=>?_)
 ·obtain⟨c,rfl,_⟩:=h;rfl
 ·obtain⟨c,rfl,hc,k⟩:=h;refine⟨_,(Zak (Zas (Zg6 (Zax Znv (pv 0) Zc2 (ZaA _)) Zc2 (ZaZ ZfO rfl T.list ZlY (Zaa (pv 0) Zad))))),?_⟩;refine⟨_,rfl,rfl,_,rfl,?_⟩
  cases c with
  | none=>exact iteT (k none H rfl trivial (fun r hr=>by simp[cA] at hr) (Same.refl _))
  | some q=>
   have h':H q.1=some (.lst (q.2.map V.int)):=hc;exact iteF ⟨_,rfl,q.1,_,rfl,.inl (SqL.of h'),fun l nl=>k (some (l,q.2)) _ rfl Zab (fun r hr=>by
    have:r=l:=by simpa[cA] using hr
    rw[this];exact nl) (Same.new nl)⟩
theorem Znc:FnScope ["rows"] ["rows"] (Zac Zgl):=⟨rfl,rfl,rfl,by decide +kernel,rfl,by decide +kernel,by decide +kernel⟩
theorem ZkT {f:Addr}{fd:FuncData} (F:Fun K "things_in" "things_in" Zgl f fd) (T:Txt mg):FnOk P w K mg base CX0 1 f fd ["rows"] Zf8:=by
 refine F.ok Znc (fun vs H Q E h=>?_) (fun cdv A outer s H vs Q E hr h=>?_)
 ·obtain⟨l,cs,rfl,_⟩:=h;rfl
 ·obtain⟨l,cs,rfl,hT,hl,k⟩:=h;refine⟨_,(Zak (Zas (Zaj (Zbr rfl) rfl T.sum ZfU (Zaa (ZaE (own:=["row"]) (js:=[]) (CompOk.by (sc:=Zac Zgl) (N:=["rows"]) rfl rfl (by decide +kernel)) rfl (ZaL (pv 0)) Zau (fun _ _ _ _ _=>(Zah (i:=0) (by show (["row"]:List Str).Nodup;decide +kernel) rfl (YaN rfl) (.inr rfl))) (fun _ _ _ _ _=>(Zdz (Zax ZiY (pv 0) Zc2 (ZaA _)))) (fun _ _ _ _ _=>(Zaj (Zbe K) rfl T.len YaV (Zaa (pv 0) Zad)))) Zad)))),?_⟩;refine⟨_,rfl,l,true,rfl,⟨_,SqL.of hT.1⟩,?_⟩;refine Za0 (b:=true) (xs:=cs.map cV) (fun acc i H2=>Same H H2/\H2 acc=some (.lst (((rl90 ((cs.take i).map cD)).map fun xs=>(xs.length:Int)).map V.int))) (fun acc h0=>⟨Same.new h0,Zab⟩) (fun acc i H2 h0 _ p=>SqL.of (p.1 _ _ hT.1)) ?_ ?_
  ·rintro acc i x H2 h0 hx ⟨s2,hacc⟩;rw[Yaf] at hx;obtain⟨c,hc,rfl⟩:∃ c,cs[i]?=some c/\x=cV c:=by
    cases e:cs[i]? with
    | none=>rw[e] at hx;cases hx
    | some c=>rw[e] at hx;exact⟨c,rfl,(YaB hx).symm⟩
   have hi:=(Yab.mp hc).1
   have ok:=hT.2 c (Yam hc);have et:(cs.take (i+1)).map cD=(cs.take i).map cD++[cD c]:=by rw[YaQ,hc,Yai];rfl
   refine⟨_,rfl,rfl,_,rfl,?_⟩
   cases c with
   | none=>
    refine iteF ⟨by rw[Yaa];exact hi,s2,?_⟩;rw[hacc,et,Zc0];simp[rl90,cD]
   | some q=>
    have h':H q.1=some (.lst (q.2.map V.int)):=ok;refine iteT ⟨_,rfl,q.1,_,rfl,.inl (SqL.of (s2 _ _ h')),_,hacc,?_,by rw[Yaa];exact hi,s2.put h0,?_⟩
    ·refine Zbd ?_;rw[Yaa,Yaa];refine Ybm (Ydh _ _) ?_;rw[Yaa,Yav];omega
    ·rw[Zab,et,Zc0];simp[rl90,cD]
  ·rintro acc H2 h0 ⟨s2,hacc⟩;rw[Yaa,YaM] at hacc;exact⟨acc,_,rfl,SqL.of hacc,k H2 s2⟩
theorem scIdle:FnScope ["rows","real"] ["rows"] (Zac Zgn):=⟨rfl,rfl,rfl,by decide +kernel,rfl,by decide +kernel,by decide +kernel⟩
theorem Zk6 {f f1:Addr}{fd d1:FuncData} (F:Fun K "merged_or_idle" "merged_or_idle" Zgn f fd) (T:Txt mg) (CM:Cal P w K mg base 1 "merged_row" ["rows"] Zdb f1 d1):FnOk P w K mg base CX0 2 f fd ["rows"] Zgf:=by
 refine F.ok scIdle (fun vs H Q E h=>?_) (fun cdv A outer s H vs Q E hr h=>?_)
 ·obtain⟨l,cs,rfl,_⟩:=h;rfl
 ·obtain⟨l,cs,rfl,hT,hl,hf,k⟩:=h;have hr1:Room 1 _:=hr.mono (by decide);refine⟨_,(Zaf (Zca (i:=1) scIdle.nd rfl rfl (own:=["row"]) (js:=[]) (CompOk.by (sc:=Zac Zgn) (N:=["rows","real"]) rfl rfl (by decide +kernel)) rfl (ZaL (pv 0)) Zau (fun _ _ _ _ _=>(Zah (i:=0) (by show (["row"]:List Str).Nodup;decide +kernel) rfl (YaN rfl) (.inr rfl))) (fun _ _ _ _ _=>(Zdz (Zax ZiY (pv 0) Zc2 (ZaA _)))) (fun _ _ _ _ _=>(pv 0)))
   (Zak (Zas (Zg6 (Zde (pv 1) (fun _=>rfl)) (Zam CM hr1 rfl (Zaa (pv 1) Zad)) Zc2)))),?_⟩
  refine⟨_,rfl,l,true,rfl,⟨_,SqL.of hT.1⟩,?_⟩;refine Za0 (b:=true) (xs:=cs.map cV) (fun acc i H2=>Same H H2/\∃ rs:List Addr,H2 acc=some (.lst (rs.map V.ref))/\LLs H2 rs (rl90 ((cs.take i).map cD))/\acc ∉ rs) (fun acc h0=>⟨Same.new h0,[],Zab,⟨rfl,fun j r xs a _=>by simp at a⟩,by simp⟩) (fun acc i H2 h0 _ p=>SqL.of (p.1 _ _ hT.1)) ?_ ?_
  ·rintro acc i x H2 h0 hx ⟨s2,rs,hacc,hL,hn⟩;rw[Yaf] at hx;obtain⟨c,hc,rfl⟩:∃ c,cs[i]?=some c/\x=cV c:=by
    cases e:cs[i]? with
    | none=>rw[e] at hx;cases hx
    | some c=>rw[e] at hx;exact⟨c,rfl,(YaB hx).symm⟩
   have hi:=(Yab.mp hc).1
   have ok:=hT.2 c (Yam hc);have et:(cs.take (i+1)).map cD=(cs.take i).map cD++[cD c]:=by rw[YaQ,hc,Yai];rfl
   refine⟨_,rfl,rfl,_,rfl,?_⟩
   cases c with
   | none=>
    refine iteF ⟨by rw[Yaa];exact hi,s2,rs,hacc,?_,hn⟩;rw[et,Zc0];simpa[rl90,cD] using hL
   | some q=>
    have h':H q.1=some (.lst (q.2.map V.int)):=ok;have hne:q.1≠acc:=fun z=>by rw[z,h0] at h';cases h'
    have hrl:rs.length<=15000:=by
     rw[hL.1];refine Ybm (Ydh _ _) ?_;rw[Yaa,Yav];omega
    refine iteT ⟨_,rfl,_,hacc,Zbd (by rw[Yaa];omega),by rw[Yaa];exact hi,s2.put h0,rs++[q.1],by rw[Zab];simp[cV],?_,?_⟩
    ·rw[et,Zc0];have hL2:=hL.lst (ys:=rs.map V.ref++[cV (some q)]) hn;refine hL2.snoc ?_;rw[Zai hne];exact s2 _ _ h'
    ·simp[hn,hne.symm]
  ·rintro acc H2 h0 ⟨s2,rs,hacc,hL,hn⟩;rw[Yaa,YaM] at hL;refine⟨_,rfl,!(rs.map V.ref).isEmpty,.inl ⟨_,SqL.of hacc,rfl⟩,?_⟩;by_cases hz:rl90 (cs.map cD)=[]
   ·have hrs:rs=[]:=by have:=hL.1;rw[hz] at this;exact YcT this
    subst hrs;refine iteF ?_;refine k none H2 ?_ trivial (fun r hr=>by simp[cA] at hr) s2;unfold mrg;rw[if_pos hz];rfl
   ·have hrs:(!(rs.map V.ref).isEmpty)=true:=by
     cases rs with
     | nil=>exact absurd (YcT (by have:=hL.1;simpa using this.symm)) hz
     | cons a b=>rfl
    rw[hrs];refine iteT ⟨_,rfl,acc,rs,rl90 (cs.map cD),rfl,RwS.of hacc hL,?_,fun l2 ms H3 hl0 hl2 hp hs s3=>?_⟩
    ·have:(lenN (rl90 (cs.map cD))).sum=((rl90 (cs.map cD)).flatten).length:=by unfold lenN;rw[YcD]
     omega
    ·refine k (some (l2,ms)) H3 ?_ hl2 (fun r hr=>?_) (s2.trans s3)
     ·unfold mrg;rw[if_neg hz,<- ZcV hp hs];rfl
     ·have:r=l2:=by simpa[cA] using hr
      rw[this];exact s2.free hl0
theorem Znb:FnScope ["taken","at"] ["taken","at"] (Zac Zgk):=⟨rfl,rfl,rfl,by decide +kernel,rfl,by decide +kernel,by decide +kernel⟩
theorem ZkR {f:Addr}{fd:FuncData} (F:Fun K "taken_at" "taken_at" Zgk f fd) (T:Txt mg):FnOk P w K mg base CX0 1 f fd ["taken","at"] Zf6:=by
 refine F.ok Znb (fun vs H Q E h=>?_) (fun cdv A outer s H vs Q E hr h=>?_)
 ·obtain⟨l,T0,i0,rfl,_⟩:=h;rfl
 ·obtain⟨l,T0,i0,rfl,hl,hN,h20,k⟩:=h;refine⟨_,(Zak (Zas (ZaE (own:=["rows"]) (js:=[1]) (CompOk.by (sc:=Zac Zgk) (N:=["taken","at"]) rfl rfl (by decide +kernel)) rfl (ZaL (pv 0)) Zau (fun _ _ _ _ _=>(Zah (i:=0) (by show (["rows","at"]:List Str).Nodup;decide +kernel) rfl (YaN rfl) (.inr rfl))) (fun _ _ _ _ _=>(Zdz (Zax Zc8 (pv 1) (Zaj (Zbe K) rfl T.len YaV (Zaa (pv 0) Zad)) (ZaA _)))) (fun _ _ _ _ _=>(ZaS (Zhe K) (pv 0) (pv 1) (fun _ _=>rfl)))))),?_⟩;refine⟨_,rfl,l,true,rfl,⟨_,SqL.of hl⟩,?_⟩;refine Za0 (b:=true) (xs:=refT T0) (fun acc i H2=>Same H H2/\∃ cs:List Cell,H2 acc=some (.lst (cs.map cV))/\(∀ c∈cs,cOk H2 c)/\cs.map cD=(datT (T0.take i)).filterMap (·[i0]?)/\acc ∉ cs.flatMap cA/\cs.length<=i) (fun acc h0=>⟨Same.new h0,[],Zab,fun c hc=>by simp at hc,rfl,by simp,Yap _⟩) (fun acc i H2 h0 _ p=>SqL.of (p.1 _ _ hl)) ?_ ?_
  ·rintro acc i x H2 h0 hx ⟨s2,cs,hacc,hok,hD,hn,hcl⟩;rw[Yaf] at hx;obtain⟨t,ht,rfl⟩:∃ t,T0[i]?=some t/\x=.ref t.1:=by
    cases e:T0[i]? with
    | none=>rw[e] at hx;cases hx
    | some c=>rw[e] at hx;exact⟨c,rfl,(YaB hx).symm⟩
   have hi:=(Yab.mp ht).1
   have ok:=hN t (Yam ht);have et:datT (T0.take (i+1))=datT (T0.take i)++[t.2.map cD]:=by unfold datT;rw[YaQ,ht,Yai];rfl
   refine⟨_,rfl,_,rfl,t.1,_,rfl,.inl (SqL.of (s2 _ _ ok.1)),_,_,rfl,rfl,_,rfl,?_⟩;by_cases hc:(i0:Int)<(t.2.length:Int)
   ·rw[show decide ((i0:Int)<((t.2.map cV).length:Int))=true from decide_eq_true (by rw[Yaa];exact hc)];have hc':i0<t.2.length:=by omega
    have okc:=ok.2 t.2[i0] (Yby hc');have hne:acc ∉ cA t.2[i0]:=fun z=>okc.has acc z h0;refine iteT ⟨_,rfl,_,rfl,t.1,_,_,cV t.2[i0],rfl,rfl,SqL.of (s2 _ _ ok.1),?_,_,hacc,Zbd (by rw[Yaa];omega),by rw[Yaa];exact hi,s2.put h0,cs++[t.2[i0]],by rw[Zab];simp,fun d hd=>?_,?_,?_,by simp;omega⟩
    ·refine ZbS ?_;rw[Yaf,Yac hc'];rfl
    ·rcases Yah.mp hd with hd | hd
     ·exact (hok d hd).off fun z=>hn (YaL.mpr ⟨d,hd,z⟩)
     ·rw[Yaj.mp hd];exact (okc.same s2).off hne
    ·rw[Yai,hD,et,YdB];simp[Yac hc']
    ·rw[YbM];intro z;rcases Yah.mp z with z | z
     ·exact hn z
     ·exact hne (by simpa using z)
   ·rw[show decide ((i0:Int)<((t.2.map cV).length:Int))=false from decide_eq_false (by rw[Yaa];exact hc)];refine iteF ⟨by rw[Yaa];exact hi,s2,cs,hacc,hok,?_,hn,by omega⟩;rw[hD,et,YdB];have:(t.2.map cD)[i0]?=none:=YdA (by rw[Yaa];omega);simp[this]
  ·rintro acc H2 h0 ⟨s2,cs,hacc,hok,hD,hn,hcl⟩;rw[Yaa,YaM] at hD;exact k acc cs H2 h0 ⟨hacc,hok⟩ hD s2
end
end Fj89
namespace Fj89
open PySem L2 Lv
section
variable {P:Program}{w:World}{K:Yad}{mg:Str->Option Value}{base:Heap}
theorem scPhPl:FnScope ["reels","phase","out","many","taken","behind"] ["reels","phase"] (Zac ZdO):=⟨rfl,rfl,rfl,by decide +kernel,rfl,by decide +kernel,by decide +kernel⟩
theorem ZgU (K:Yad) {X:Cx} (hK:X.K=K:=by rfl):SlR X (rSlL K):=by subst hK;exact ZeL
theorem ZjV (cs:List Cell) (m:Nat):cutV (cs.map cV) none (some (m:Int))=(cs.take m).map cV:=by
 unfold cutV;show ((cs.map cV).drop 0).take (HT.sIx (cs.map cV).length (cs.map cV).length (some ((m:Nat):Int)) - 0)=_;rw[HT.sIx_nat,Ye3,Yde,Yb7];rcases Ye4 m (cs.map cV).length with h | h
 ·rw[Yb3 h]
 ·rw[YcW h,YaM,YaY h]
theorem ZjW (cs:List Cell) (m:Nat):cutV (cs.map cV) (some (m:Int)) none=(cs.drop m).map cV:=by
 unfold cutV;show ((cs.map cV).drop (HT.sIx (cs.map cV).length 0 (some ((m:Nat):Int)))).take ((cs.map cV).length - HT.sIx (cs.map cV).length 0 (some ((m:Nat):Int)))=_;rw[HT.sIx_nat,Ycj];rcases Ye4 m (cs.map cV).length with h | h
 ·rw[Yb3 h,YaY (by rw[YaX];exact Yap _)]
 ·rw[YcW h,Ydc,YbR,YeR h]
theorem ZfJ {T:List Reel}{i:Nat}{x:V} (h:(refT T)[i]?=some x):∃ t,T[i]?=some t/\x=.ref t.1/\t∈T/\(datT T)[i]?=some (t.2.map cD):=by
 rw[Yaf] at h
 cases e:T[i]? with
 | none=>rw[e] at h;cases h
 | some t=>rw[e] at h;exact⟨t,rfl,(YaB h).symm,Yam e,by unfold datT;rw[Yaf,e];rfl⟩
theorem Zgx {L:List (List Int)}{x:List Int} (h:x∈L):x.length<=L.flatten.length:=by
 rw[YcD];have:∀ {M:List (List Int)},x∈M->x.length<=(M.map Ya8).sum:=by
  intro M
  induction M with
  | nil=>intro z;simp at z
  | cons y M ih=>
   intro z;rw[YaJ,Ybe];rcases YaD.mp z with rfl | z
   ·omega
   ·have:=ih z;omega
 exact this h
theorem Zct {α β:Type} (D:List α) (d:α) (F:α->β):(YaE D.length).map (fun i=>F (D.getD i d))=D.map F:=by
 refine YbE (by simp) fun i h1 h2=>?_;simp at h1;simp[h1]
theorem ZkY {f f1 f2 f3:Addr}{fd d1 d2 d3:FuncData} (F:Fun K "phase_played" "phase_played" ZdO f fd) (T:Txt mg) (CI:Cal P w K mg base 2 "merged_or_idle" ["rows"] Zgf f1 d1) (CA:Cal P w K mg base 1 "taken_at" ["taken","at"] Zf6 f2 d2) (CT:Cal P w K mg base 1 "things_in" ["rows"] Zf8 f3 d3):FnOk P w K mg base CX0 3 f fd ["reels","phase"] Zgb:=by
 refine okW F scPhPl (fun vs H Q E h=>?_) (fun cdv A outer s H vs Q E hr h=>?_)
 ·obtain⟨l,q,T0,o,m,rfl,_⟩:=h;rfl
 ·obtain⟨l,q,T0,o,m,rfl,hl,hN,hq,ho,hm,⟨z20,zr,zt⟩,k⟩:=h;have hr1:Room 1 _:=hr.mono (by decide);have hr2:Room 2 _:=hr.mono (by decide);refine⟨_,(Zaq (ws (ZbC (pv 1) (Zbh rfl (Zan (Zah (i:=2) scPhPl.nd rfl (YaN rfl)) (Zan (Zah (i:=3) scPhPl.nd rfl (Yd2 rfl)) ZaC)))))
   (Zaq (ws (Zat (i:=4) scPhPl.nd rfl (Yd2 rfl) (ZaE (own:=["reel"]) (js:=[3]) (CompOk.by (sc:=Zac ZdO) (N:=["reels","phase","out","many","taken","behind"]) rfl rfl (by decide +kernel)) rfl (ZaL (pv 0)) Zau (fun _ _ _ _ _=>(Zah (i:=0) (by show (["reel","many"]:List Str).Nodup;decide +kernel) rfl (YaN rfl) (.inr rfl))) (fun _ _ _ _ _=>Zay) (fun _ _ _ _ _=>(Zby (ZgU K) (pv 0) Zcc (ZbL (pv 1)))))))
   (Zaq (ws (Zca (i:=5) scPhPl.nd rfl rfl (own:=["reel"]) (js:=[3]) (CompOk.by (sc:=Zac ZdO) (N:=["reels","phase","out","many","taken","behind"]) rfl rfl (by decide +kernel)) rfl (ZaL (pv 0)) Zau (fun _ _ _ _ _=>(Zah (i:=0) (by show (["reel","many"]:List Str).Nodup;decide +kernel) rfl (YaN rfl) (.inr rfl))) (fun _ _ _ _ _=>Zay) (fun _ _ _ _ _=>(Zby (ZgU K) (pv 0) (ZbL (pv 1)) Zcc))))
   (Zaq (ws (ZbC (ZaE (own:=["at"]) (js:=[4]) (CompOk.by (sc:=Zac ZdO) (N:=["reels","phase","out","many","taken","behind"]) rfl rfl (by decide +kernel)) rfl (Za3 rfl T.range (Zaa (pv 3) Zad)) Zau (fun _ _ _ _ _=>(Zah (i:=0) (by show (["at","taken"]:List Str).Nodup;decide +kernel) rfl (YaN rfl) (.inr rfl))) (fun _ _ _ _ _=>Zay) (fun _ _ _ _ _=>(Zam CI hr2 rfl (Zaa (Zam CA hr1 rfl (Zaa (pv 1) (Zaa (pv 0) Zad))) Zad)))) (Zed (pv 5) (pv 2) ZbV)))
   (ZaU (ws (Zas (Za6 (Zaa (pv 5) (Zaa (ZaE (own:=["rows"]) (js:=[]) (CompOk.by (sc:=Zac ZdO) (N:=["reels","phase","out","many","taken","behind"]) rfl rfl (by decide +kernel)) rfl (ZaL (pv 4)) Zau (fun _ _ _ _ _=>(Zah (i:=0) (by show (["rows"]:List Str).Nodup;decide +kernel) rfl (YaN rfl) (.inr rfl))) (fun _ _ _ _ _=>Zay) (fun _ _ _ _ _=>(Zam CT hr1 rfl (Zaa (pv 0) Zad)))) Zad)))))))))),?_⟩
  have hTl:T0.length=(datT T0).length:=by unfold datT;rw[Yaa]
  refine⟨_,rfl,q,_,rfl,SqT.of hq,rfl,_,_,rfl,_,_,rfl,rfl,?_⟩;refine⟨_,rfl,l,true,rfl,⟨_,SqL.of hl⟩,?_⟩;refine ZcR (b:=true) (fun i=>((datT T0).getD i []).take m) (fun x=>x∈adr T0) (fun x hx=>by obtain⟨t,ht,hz⟩:=YaL.mp hx;exact (hN t ht).has x hz) (show SqB true K H l (refT T0) from SqL.of hl) (by rw[Yaa];omega) (fun i x hx H1 s1 R hR=>?_) fun tk T1 H1 htk0 htk hN1 hD1 hnt hO1 s1=>?_
  ·obtain⟨t,ht,rfl,htm,hd⟩:=ZfJ hx;have ok:=(hN t htm).same s1;refine⟨_,rfl,_,rfl,_,rfl,t.1,_,rfl,SqL.of ok.1,fun p np=>?_⟩;rw[ZjV];refine hR (p,t.2.take m) _ ⟨Zab,fun c hc=>(ok.2 c (Yba hc)).same (Same.new np)⟩ ?_ (fun r hr=>?_) (Same.new np)
   ·rw[Yak,hd,Yb7];rfl
   ·rcases YaD.mp hr with rfl | hr
    ·exact .inl np
    ·obtain⟨c,hc,hrc⟩:=YaL.mp hr;exact .inr (YaL.mpr ⟨t,htm,Yas _ (YaL.mpr ⟨c,Yba hc,hrc⟩)⟩)
  have hD1':datT T1=(datT T0).map (·.take m):=by rw[hD1,Yaa,hTl];exact Zct (datT T0) [] (·.take m)
  have hl1:=s1 _ _ hl;have hN01:NRL H1 T0:=hN.same s1;refine⟨_,rfl,l,true,rfl,⟨_,SqL.of hl1⟩,?_⟩;refine ZcR (b:=true) (fun i=>((datT T0).getD i []).drop m) (fun x=>x∈adr T0) (fun x hx=>by obtain⟨t,ht,hz⟩:=YaL.mp hx;exact (hN01 t ht).has x hz) (show SqB true K H1 l (refT T0) from SqL.of hl1) (by rw[Yaa];omega) (fun i x hx H2 s2 R hR=>?_) fun bh T2 H2 hbh0 hbh hN2 hD2 hnb hO2 s2=>?_
  ·obtain⟨t,ht,rfl,htm,hd⟩:=ZfJ hx;have ok:=(hN01 t htm).same s2;refine⟨_,rfl,_,rfl,_,rfl,t.1,_,rfl,SqL.of ok.1,fun p np=>?_⟩;rw[ZjW];refine hR (p,t.2.drop m) _ ⟨Zab,fun c hc=>(ok.2 c (Ya3 hc)).same (Same.new np)⟩ ?_ (fun r hr=>?_) (Same.new np)
   ·rw[Yak,hd,Ycj];rfl
   ·rcases YaD.mp hr with rfl | hr
    ·exact .inl np
    ·obtain⟨c,hc,hrc⟩:=YaL.mp hr;exact .inr (YaL.mpr ⟨t,htm,Yas _ (YaL.mpr ⟨c,Ya3 hc,hrc⟩)⟩)
  have hD2':datT T2=(datT T0).map (·.drop m):=by rw[hD2,Yaa,hTl];exact Zct (datT T0) [] (·.drop m)
  have hT2l:T2.length=T0.length:=by have:=congrArg Ya8 hD2';simpa[datT] using this
  have hT1l:T1.length=T0.length:=by have:=congrArg Ya8 hD1';simpa[datT] using this
  have htk2:=s2 _ _ htk;have hN12:NRL H2 T1:=hN1.same s2;have tkeq:∀ i,(datT T1).filterMap (·[i]?)=tkA (datT T0) m i:=fun i=>by
   rw[hD1',Yda];rfl
  have few:∀ i,(tkA (datT T0) m i).length<=20:=fun i=>Ybm (Ydh _ _) z20;have tot:∀ i,i<m->((rl90 (tkA (datT T0) m i)).flatten).length<=15000:=fun i hi=>by
   have h1:=(Zew m (datT T0)).flatten.length_eq;have h2:=(ZcA m (datT T0)).length_eq;have h3:((rl90 (tkA (datT T0) m i)).flatten).length<=((((YaE m).map fun i=>rl90 (tkA (datT T0) m i)).flatten).flatten).length:=by
    rw[YdI,Ybh];exact Zgx (YaS.mpr ⟨i,Ybu.mpr hi,rfl⟩)
   rw[Yag] at h2
   (clear hi hT1l hT2l hnb hnt hTl z20 hm ho;omega)
  refine⟨_,rfl,_,rfl,by (clear hT1l hT2l hnb hnt hTl zt z20 hm ho;omega),by omega,?_⟩;rw[YaK];refine ZgH (fun i=>mrg (tkA (datT T0) m i)) (fun _=>False) (fun _ z=>z.elim) hm (fun i hi H3 s3 R hR=>?_) fun ml cs H3 hml0 hml hDm hnm hO3 s3=>?_
  ·refine⟨_,rfl,_,rfl,tk,T1,i,(by rw[Int.zero_add];rfl),s3 _ _ htk2,hN12.same s3,by omega,fun a cs H4 ha hok hDc s4=>?_⟩;have hcl:cs.length<=20:=by
    have:=congrArg Ya8 hDc;rw[Yaa,tkeq] at this;have:=few i
    (clear hi hT1l hT2l hnb hnt hTl zt z20 hm ho;omega)
   refine⟨a,cs,rfl,hok,by (clear hi hT1l hT2l hnb hnt hTl zt z20 hm ho;omega),by rw[hDc,tkeq];exact tot i hi,fun c' H5 hc' okc' hn' s5=>?_⟩;refine hR c' H5 okc' ?_ (fun r hr=>.inl (s4.free (hn' r hr))) (s4.trans s5);rw[hc',hDc,tkeq]
  have hbh3:=s3 _ _ hbh;refine⟨_,rfl,_,rfl,bh,_,_,o,rfl,rfl,hbh3,Zhc (by (clear hnm hT1l hT2l hnb hnt hTl zt z20 hm ho;omega)) (by rw[Yaa];omega),?_⟩;have hN3:NRL H3 T2:=hN2.same s3;have nbm:bh ∉ tA (ml,cs):=fun z=>by
   rcases YaD.mp z with z | z
   ·have z':bh=ml:=z;rw[z'] at hbh;rw[hbh] at hml0;cases hml0
   ·obtain⟨c,hc,hrc⟩:=YaL.mp z
    cases c with
    | none=>simp[cA] at hrc
    | some qq=>
     have e1:H3 qq.1=some (.lst (qq.2.map V.int)):=hml.2 _ hc;have e2:bh=qq.1:=by simpa[cA] using hrc
     rw[<- e2,hbh3] at e1;have e3:refT T2=qq.2.map V.int:=by injection YaB e1
     cases T2 with
     | nil=>simp at hT2l;(clear hnb e2 hnm hT1l hnt hTl zt z20 hm;omega)
     | cons t0 T2=>
      cases h2:qq.2 with
      | nil=>rw[h2] at e3;simp at e3
      | cons z0 zs=>rw[h2] at e3;simp at e3
  have n0:H bh=none:=s1.free hbh0;have hbt:bh ∉ adr T1:=fun z=>by
   obtain⟨t,ht,htz⟩:=YaL.mp z;exact (hN1 t ht).has bh htz hbh0
  have ntk:tk≠bh:=fun z=>by rw[z,hbh0] at htk;cases htk
  have eset:(refT T2).set o (V.ref ml)=refT (T2.set o (ml,cs)):=by
   show _=(T2.set o (ml,cs)).map _;rw[YbZ]
  rw[eset];have e4:upd H3 bh (.lst (refT (T2.set o (ml,cs)))) bh=some (.lst (refT (T2.set o (ml,cs)))):=Zab;have hN4:NRL (upd H3 bh (.lst (refT (T2.set o (ml,cs))))) (T2.set o (ml,cs)):=fun t ht=>by
   rcases Ybb ht with ht | rfl
   ·exact (hN3 t ht).off fun z=>hnb (YaL.mpr ⟨t,ht,z⟩)
   ·exact hml.off nbm
  have hD4:datT (T2.set o (ml,cs))=phR (datT T0) o m:=by
   unfold phR;rw[<- hD2',<- hDm];unfold datT;rw[YbZ]
  have hb4:bh ∉ adr (T2.set o (ml,cs)):=fun z=>by
   obtain⟨t,ht,htz⟩:=YaL.mp z;rcases Ybb ht with ht | rfl
   ·exact hnb (YaL.mpr ⟨t,ht,htz⟩)
   ·exact nbm htz
  have hO4:∀ x∈adr (T2.set o (ml,cs)),H x=none∨x∈adr T0:=fun x z=>by
   obtain⟨t,ht,htz⟩:=YaL.mp z;rcases Ybb ht with ht | rfl
   ·rcases hO2 x (YaL.mpr ⟨t,ht,htz⟩) with y | y
    ·exact .inl (s1.free y)
    ·exact .inr y
   ·rcases YaD.mp htz with y | y
    ·have y':x=ml:=y;rw[y'];exact .inl ((s1.trans s2).free hml0)
    ·rcases hO3 x y with u | u
     ·exact .inl ((s1.trans s2).free u)
     ·exact u.elim
  have htk4:upd H3 bh (.lst (refT (T2.set o (ml,cs)))) tk=some (.lst (refT T1)):=by rw[Zai ntk];exact s3 _ _ htk2
  have hN14:NRL (upd H3 bh (.lst (refT (T2.set o (ml,cs))))) T1:=(hN12.same s3).off hbt;have s04:Same H (upd H3 bh (.lst (refT (T2.set o (ml,cs))))):=((s1.trans s2).trans s3).put n0;generalize upd H3 bh (.lst (refT (T2.set o (ml,cs))))=H4 at e4 hN4 htk4 hN14 s04 ⊢;refine⟨_,rfl,_,rfl,tk,true,rfl,⟨_,SqL.of htk4⟩,?_⟩;refine ZbP ((((datT T0).map fun r=>thg (r.take m))).map V.int) (show SqB true K H4 tk (refT T1) from SqL.of htk4) (by simp[datT,hT1l]) (by rw[Yaa];(clear hb4 ntk hbt nbm hnm hT2l hnb hnt zt hm ho;omega)) (fun i x y hx hy H5 s5 R hR=>?_) fun acc H5 h0 s5 hacc=>?_
  ·obtain⟨t,ht,rfl,htm,hd⟩:=ZfJ hx;have ey:y=.int (thg (t.2.map cD)):=by
    have:(datT T0).map (fun r=>thg (r.take m))=(datT T1).map thg:=by rw[hD1',Ybh];rfl
    rw[this,Ybh,Yaf,hd] at hy;exact (YaB hy).symm
   subst ey;have hlen:t.2.length<=15000:=by
    have h1:t.2.map cD∈datT T1:=Yam hd;rw[hD1'] at h1;obtain⟨r,hr',er⟩:=YaS.mp h1;have h2:=congrArg Ya8 er;rw[Yav,Yaa] at h2;have:=zr r hr'
    (clear this hb4 ntk hbt nbm hnm hT1l hT2l hnb hnt hTl zt z20 ho;omega)
   exact⟨_,rfl,t.1,t.2,rfl,(hN14 t htm).same s5,hlen,fun H6 s6=>hR H6 s6⟩
  ·refine⟨(by show 2<=sizeLine;decide),fun t nt=>?_⟩;have s6:Same H5 (upd H5 t (.tup [.ref bh,.ref acc])):=Same.new nt;exact k t bh acc (T2.set o (ml,cs)) _ Zab (s6 _ _ (s5 _ _ e4)) ((hN4.same s5).same s6) hD4 (s6 _ _ hacc) (s04.free h0) n0 hb4 hO4 ((s04.trans s5).trans s6)
end
end Fj89
namespace Fj89
open PySem L2 Lv
section
variable {P:Program}{w:World}{K:Yad}{mg:Str->Option Value}{base:Heap}
theorem scPlay:FnScope ["reels","phases","behind","read","at","phase","of_each"] ["reels","phases"] (Zac Zfk):=⟨rfl,rfl,rfl,by decide +kernel,rfl,by decide +kernel,by decide +kernel⟩
theorem ZgZ:∀ {D:List Rows}{ps:List (Int × Int)},Pls D ps->∀ i,Pls D (ps.take i)
 | D,ps,h,0=>by rw[YbR];exact trivial
 | D,[],h,i+1=>trivial
 | D,(a,b)::ps,h,i+1=>⟨h.1,ZgZ (D:=phR D a.toNat b.toNat) h.2 i⟩
theorem ZaG {rs:List Addr}{i:Nat}{x:V} (h:(rs.map V.ref)[i]?=some x):∃ r,rs[i]?=some r/\x=.ref r:=by
 rw[Yaf] at h
 cases e:rs[i]? with
 | none=>rw[e] at h;cases h
 | some r=>rw[e] at h;exact⟨r,rfl,(YaB h).symm⟩
theorem ZkX {f f1 f2 f3:Addr}{fd d1 d2 d3:FuncData} (F:Fun K "play_rows" "play_rows" Zfk f fd) (T:Txt mg) (Te:mg "enumerate"=none) (CY:Cal P w K mg base 1 "copied_row" ["row"] Zgg f1 d1) (CF:Cal P w K mg base 3 "is_phase" ["counts","phase"] Zge f2 d2) (CP:Cal P w K mg base 3 "phase_played" ["reels","phase"] Zgb f3 d3):FnOk P w K mg base CX0 4 f fd ["reels","phases"] Zga:=by
 refine okW F scPlay (fun vs H Q E h=>?_) (fun cdv A outer s H vs Q E hr h=>?_)
 ·obtain⟨l,b,T0,rs,ps,rfl,_⟩:=h;rfl
 ·obtain⟨l,b,T0,rs,ps,rfl,hl,hN,hb,hps,h1000,hne,hz,hpl,k⟩:=h;have hr1:Room 1 _:=hr.mono (by decide);have hr3:Room 3 _:=hr.mono (by decide);refine⟨_,(Zaq (ws (Zca (i:=2) scPlay.nd rfl rfl (own:=["reel"]) (js:=[]) (CompOk.by (sc:=Zac Zfk) (N:=["reels","phases","behind","read","at","phase","of_each"]) rfl rfl (by decide +kernel)) rfl (ZaL (pv 0)) Zau (fun _ _ _ _ _=>(Zah (i:=0) (by show (["reel"]:List Str).Nodup;decide +kernel) rfl (YaN rfl) (.inr rfl))) (fun _ _ _ _ _=>Zay) (fun _ _ _ _ _=>(ZaE (own:=["row"]) (js:=[]) (CompOk.bare (by decide +kernel)) rfl (ZeQ K (pv 0)) Zau (fun _ _ _ _ _=>(Zah (i:=0) (by show (["row"]:List Str).Nodup;decide +kernel) rfl (YaN rfl) (.inr rfl))) (fun _ _ _ _ _=>Zay) (fun _ _ _ _ _=>(Zam CY hr1 rfl (Zaa (pv 0) Zad)))))))
   (Zaq (ws (Zat (i:=3) scPlay.nd rfl (YaN rfl) (ZaM Zad)))
   (Zaq (ws (Zbp Ybi rfl (Za9 rfl Te (Zaa (pv 1) Zad)) (Zbh rfl (Zan (Zah (i:=4) scPlay.nd rfl (YaN rfl)) (Zan (Zah (i:=5) scPlay.nd rfl (YaN rfl)) ZaC)))
   (WSs.out (Zaq (Zet (ZbB (ZdA (Zam CF hr3 rfl (Zaa (ZaE (own:=["reel"]) (js:=[]) (CompOk.by (sc:=Zac Zfk) (N:=["reels","phases","behind","read","at","phase","of_each"]) rfl rfl (by decide +kernel)) rfl (ZaL (pv 2)) Zau (fun _ _ _ _ _=>(Zah (i:=0) (by show (["reel"]:List Str).Nodup;decide +kernel) rfl (YaN rfl) (.inr rfl))) (fun _ _ _ _ _=>Zay) (fun _ _ _ _ _=>(Zaj (Zbe K) rfl T.len YaV (Zaa (pv 0) Zad)))) (Zaa (pv 5) Zad)))))
    (wss ZaK)
    Zbt)
    (Zaq (ws (ZbC (Zam CP hr3 rfl (Zaa (pv 2) (Zaa (pv 5) Zad))) (Zbh rfl (Zan (Zah (i:=2) scPlay.nd rfl (YaN rfl)) (Zan (Zah (i:=6) scPlay.nd rfl (YaN rfl)) ZaC)))))
    (ZaU (ws (ZaD (Zc7 Ya9 YbC YbB ZaT (pv 3) (Zaa (pv 6) Zad))))))))))
   (ZaU (ws (Zas (Za6 (Zaa (pv 2) (Zaa (pv 3) Zad))))))))),?_⟩
  have hTl:T0.length=(datT T0).length:=by unfold datT;rw[Yaa]
  have hpsl:rs.length=ps.length:=by have:=hps.1;rwa [Yaa] at this
  refine⟨_,rfl,l,true,rfl,⟨_,SqL.of hl⟩,?_⟩;refine ZcR (b:=true) (fun i=>(datT T0).getD i []) (fun _=>False) (fun _ z=>z.elim) (show SqB true K H l (refT T0) from SqL.of hl) (by rw[Yaa];have:=hz.1;omega) (fun i x hx H1 s1 R hR=>?_) fun bh T1 H1 hbh0 hbh hN1 hD1 hnb hO1 s1=>?_
  ·obtain⟨t,ht,rfl,htm,hd⟩:=ZfJ hx;have ok:=(hN t htm).same s1;have h15:=hz.2.1 _ (Yam hd);rw[Yaa] at h15;refine⟨_,rfl,t.1,true,rfl,⟨_,SqL.of ok.1⟩,?_⟩;refine Zh2 (b:=true) (fun j=>(t.2.map cD).getD j none) (fun _=>False) (fun _ z=>z.elim) (show SqB true K H1 t.1 (t.2.map cV) from SqL.of ok.1) (by rw[Yaa];exact h15) (fun j x hx H2 s2 R2 hR2=>?_) fun acc cs H2 hacc0 hacc hDc hna hOc s2=>?_
   ·rw[Yaf] at hx;obtain⟨c,hc,rfl⟩:∃ c,t.2[j]?=some c/\x=cV c:=by
     cases e:t.2[j]? with
     | none=>rw[e] at hx;cases hx
     | some c=>rw[e] at hx;exact⟨c,rfl,(YaB hx).symm⟩
    refine⟨_,rfl,c,rfl,(ok.2 c (Yam hc)).same s2,fun c' H3 hc' okc hnc s3=>hR2 c' H3 okc ?_ (fun r hr=>.inl (hnc r hr)) s3⟩;rw[hc',Yak,Yaf,hc];rfl
   ·refine hR (acc,cs) H2 hacc ?_ (fun r hr=>?_) s2
    ·rw[hDc,Yaa,Yak,hd,<- Yaa (f:=cD)];show _=t.2.map cD;have:=Zct (t.2.map cD) none id;simpa using this
    ·rcases YaD.mp hr with y | y
     ·have y':r=acc:=y;rw[y'];exact .inl hacc0
     ·rcases hOc r y with u | u
      ·exact .inl u
      ·exact u.elim
  have hD1':datT T1=datT T0:=by
   rw[hD1,Yaa,hTl];have:=Zct (datT T0) [] id;simpa using this
  have hOn:∀ x∈adr T1,H x=none:=fun x hx=>by
   rcases hO1 x hx with u | u
   ·exact u
   ·exact u.elim
  refine⟨Ya2 _,fun rd nrd=>?_⟩;have s2:Same H1 (upd H1 rd (.lst [])):=Same.new nrd;have e2:upd H1 rd (.lst []) rd=some (.lst []):=Zab;have nb:rd≠bh:=fun z=>by rw[z,hbh] at nrd;cases nrd
  have nT:rd ∉ adr T1:=fun z=>by
   obtain⟨t,ht,htz⟩:=YaL.mp z;exact (hN1 t ht).has rd htz nrd
  have n0:H rd=none:=s1.free nrd;have hbh2:=s2 _ _ hbh;have hN2:=hN1.same s2;have s02:=s1.trans s2;generalize upd H1 rd (.lst [])=H2 at s2 e2 hbh2 hN2 s02 ⊢;refine⟨_,rfl,b,true,rfl,⟨_,SqL.of (s02 _ _ hb)⟩,?_⟩;refine ZdK (b:=true) (xs:=rs.map V.ref) (fun i σ Hx=>∃ (bl:Addr) (T':List Reel) (es:List Addr) (o4 o5 o6:Option V),σ=[some (.ref l),some (.ref b),some (.ref bl),some (.ref rd),o4,o5,o6]/\Hx bl=some (.lst (refT T'))/\NRL Hx T'/\datT T'=plR (datT T0) (ps.take i)/\Hx rd=some (.lst (es.map V.ref))/\LLs Hx es (rdR (datT T0) (ps.take i))/\rd ∉ es/\rd≠bl/\rd ∉ adr T'/\(∀ x∈adr T',H x=none)/\Same H Hx/\es.length=i)
   ⟨bh,T1,[],none,none,none,rfl,hbh2,hN2,by rw[hD1'];rfl,e2,⟨rfl,fun j r xs a _=>by simp at a⟩,by simp,nb,nT,hOn,s02,rfl⟩ (fun i σ Hx _ z=>by obtain⟨_,_,_,_,_,_,_,_,_,_,_,_,_,_,_,_,sz,_⟩:=z;exact SqL.of (sz _ _ hb)) ?_ ?_
  ·rintro i x pq σ Hx hx ⟨bl,T',es,o4,o5,o6,rfl,hbl,hN',hD',hrd,hLe,hne',hnbl,hnT',hnew,sx,hel⟩ hpq;obtain⟨q,hq,rfl⟩:=ZaG hx;have hi:i<rs.length:=(Yab.mp hq).1
   obtain⟨o,m,hom⟩:∃ o m,ps[i]?=some (o,m):=⟨_,_,Yac (by (clear hel hnT' hnbl hne' nT nb hnb hTl h1000;omega))⟩
   have hqt:=sx _ _ (hps.2 i q (prT (o,m)) hq (by rw[Yaf,hom];rfl));have hPh:=hpl.at hom;rw[<- hD'] at hPh;have etk:ps.take (i+1)=ps.take i++[(o,m)]:=by rw[YaQ,hom];rfl
   have hplt:Pls (datT T0) (ps.take i):=ZgZ hpl i;obtain⟨zz,zl,_⟩:=Zgr hplt hz;rw[<- hD'] at zz zl;have s3:Same Hx (upd Hx pq (.tup [.int i,.ref q])):=Same.new hpq;have e3:upd Hx pq (.tup [.int i,.ref q]) pq=some (.tup [.int i,.ref q]):=Zab;generalize upd Hx pq (.tup [.int i,.ref q])=H3 at s3 e3 ⊢;refine⟨pq,_,rfl,SqT.of e3,rfl,_,_,rfl,_,_,rfl,rfl,?_⟩;have hbl3:=s3 _ _ hbl;have hN3:=hN'.same s3;refine⟨_,rfl,bl,true,rfl,⟨_,SqL.of hbl3⟩,?_⟩;refine ZbP ((lns (datT T')).map V.int) (show SqB true K H3 bl (refT T') from SqL.of hbl3) (by simp[lns,datT]) (by rw[Yaa];have:=zz.1;unfold datT at this;rw[Yaa] at this;(clear zl hi hel hnT' hnbl hne' nT nb hnb hpsl hTl h1000;omega)) (fun j x y hx hy H4 s4 R hR=>?_) fun cl H4 hcl0 s4 hcl=>?_
   ·obtain⟨t,ht,rfl,htm,hd⟩:=ZfJ hx;have ey:y=.int (((t.2.map cV).length:Nat):Int):=by
     unfold lns at hy;rw[Ybh,Yaf,hd] at hy;have:=(YaB hy).symm;rw[this];simp
    subst ey;exact⟨_,rfl,t.1,_,rfl,.inl (SqL.of (s4 _ _ (hN3 t htm).1)),hR H4 (Same.refl _)⟩
   obtain⟨a0,b0,rfl,rfl,ha0,h00,hb1,hb0⟩:=Zg3 hPh;have hq4:=s4 _ _ (s3 _ _ hqt);refine⟨_,rfl,cl,q,lns (datT T'),_,_,rfl,hcl,hq4,?_,fun x hx=>by obtain⟨r,_,rfl⟩:=YaS.mp hx;(clear hb1 ha0 zl hi hel hnT' hnbl hne' nT nb hnb hpsl hTl h1000;omega),?_⟩
   ·intro z;have h1:(lns (datT T')).length=(datT T').length:=by unfold lns;rw[Yaa]
    rw[z] at h1;have h2:(datT T').length=0:=h1.symm
    (clear h1 hb1 zl hi hel hnT' hnbl hne' nT nb hnb hpsl hTl h1000;omega)
   rw[decide_eq_true hPh];refine⟨true,rfl,iteF ?_⟩;have hT'l:T'.length=(datT T').length:=by unfold datT;rw[Yaa]
   have hb15:b0<=15000:=by
    obtain⟨r,hr,hl'⟩:=hb0;have:=zz.2.1 r hr
    (clear hT'l hb1 ha0 zl hi hel hnT' hnbl hne' nT nb hnb hpsl hTl h1000;omega)
   refine⟨_,rfl,_,rfl,bl,q,T',a0,b0,rfl,s4 _ _ hbl3,hN3.same s4,hq4,by (clear hb15 hb1 zl hi hel hnT' hnbl hne' nT nb hnb hpsl hTl h1000;omega),hb15,zz,fun t b2 e2' T2 H5 ht hb2 hN5 hD5 he he0 hb20 hb2T hO5 s5=>?_⟩;refine⟨t,_,rfl,SqT.of ht,rfl,_,_,rfl,_,_,rfl,rfl,?_⟩;have sx4:=s3.trans s4;have sx5:=sx4.trans s5;have hrd5:=sx5 _ _ hrd;have hrd4:=sx4 _ _ hrd;refine⟨_,rfl,.inl ⟨rfl,_,SqL.of hrd5⟩,_,rfl,rd,_,_,rfl,rfl,hrd5,Zbd (by rw[Yaa];(clear hb2T hb15 hT'l hb1 ha0 zl hnT' hnbl hne' nT nb hnb hpsl hTl;omega)),?_⟩;have nr2:rd≠b2:=fun z=>by rw[z,hb20] at hrd4;cases hrd4
   have nrT:rd ∉ adr T2:=fun z=>by
    rcases hO5 rd z with u | u
    ·rw[u] at hrd4;cases hrd4
    ·exact hnT' u
   have nre:rd≠e2':=fun z=>by rw[z,he0] at hrd4;cases hrd4
   have eD:plR (datT T0) (ps.take (i+1))=phR (datT T') a0 b0:=by rw[etk,Zg0,<- hD',YaK,YaK]
   refine⟨b2,T2,es++[e2'],_,_,_,rfl,?_,hN5.off nrT,by rw[hD5,eD],by rw[Zab];simp,?_,by simp[hne',nre],nr2,nrT,fun x hx=>?_,(sx.trans sx5).put n0,by simp[hel]⟩
   ·rw[Zai nr2.symm];exact hb2
   ·rw[etk,ZgX,<- hD',YaK];have hL5:LLs H5 es (rdR (datT T0) (ps.take i)):=hLe.same sx5;refine (hL5.lst hne').snoc ?_;rw[Zai nre.symm];exact he
   ·rcases hO5 x hx with u | u
    ·exact (sx.trans sx4).free u
    ·exact hnew x u
  ·rintro σ Hx ⟨bl,T',es,o4,o5,o6,rfl,hbl,hN',hD',hrd,hLe,hne',hnbl,hnT',hnew,sx,hel⟩;rw[Yaa,hpsl,YaM] at hD' hLe;refine⟨_,rfl,_,rfl,(by show 2<=sizeLine;decide),fun t nt=>?_⟩;have s3:Same Hx (upd Hx t (.tup [.ref bl,.ref rd])):=Same.new nt;exact k t bl rd T' es _ Zab (s3 _ _ hbl) (hN'.same s3) hD' (s3 _ _ hrd) (hLe.same s3) hnew (sx.trans s3)
end
end Fj89
namespace Fj89
open PySem L2 Lv
section
variable {P:Program}{w:World}{K:Yad}{mg:Str->Option Value}{base:Heap}
theorem Zmd:FnScope ["thing","many"] ["thing","many"] (Zac ZcX):=⟨rfl,rfl,rfl,by decide +kernel,rfl,by decide +kernel,by decide +kernel⟩
theorem scIsPh:FnScope ["counts","phase","out","many"] ["counts","phase"] (Zac ZhE):=⟨rfl,rfl,rfl,by decide +kernel,rfl,by decide +kernel,by decide +kernel⟩
theorem Zi4 {f fW:Addr}{fd dW:FuncData} (F:Fun K "is_place" "is_place" ZcX f fd) (T:Txt mg) (CW:Cal P w K mg base 1 "is_whole" ["thing"] ZbJ fW dW):FnOk P w K mg base CX0 2 f fd ["thing","many"] ZeD:=by
 refine F.ok Zmd (fun vs H Q E h=>?_) (fun cdv A outer s H vs Q E hr h=>?_)
 ·obtain⟨i,n,rfl,_⟩:=h;rfl
 ·obtain⟨i,n,rfl,k⟩:=h;refine⟨_,Zak (Zas (Zfs (Zam CW hr rfl (Zaa (pv 0) Zad)) (Zfr (ZeR ZdC Zc8 Zag (pv 0) (pv 1))))),?_⟩;refine⟨_,rfl,i,rfl,true,rfl,iteT ⟨_,rfl,0,i,rfl,rfl,_,rfl,?_⟩⟩;by_cases h1:(0:Int)<=i
  ·rw[decide_eq_true h1];refine iteT ⟨_,rfl,i,n,rfl,rfl,?_⟩;show Q (.bl (decide (i<n))) H;rw[show decide (0<=i/\i<n)=decide (i<n) from by simp[h1]] at k;exact k
  ·rw[decide_eq_false h1];refine iteF ?_;rw[decide_eq_false (fun z=>h1 z.1)] at k;exact k
theorem Zk5 {f fA fB fC:Addr}{fd dA dB dC:FuncData} (F:Fun K "is_phase" "is_phase" ZhE f fd) (T:Txt mg) (CW:Cal P w K mg base 1 "is_whole" ["thing"] ZbJ fA dA) (CP:Cal P w K mg base 2 "is_place" ["thing","many"] ZeD fB dB) (CT:Cal P w K mg base 1 "is_tuple_of" ["thing","many"] Zf3 fC dC):FnOk P w K mg base CX0 3 f fd ["counts","phase"] Zge:=by
 refine F.ok scIsPh (fun vs H Q E h=>?_) (fun cdv A outer s H vs Q E hr h=>?_)
 ·obtain⟨a,q,c,out,m,rfl,_⟩:=h;rfl
 ·obtain⟨a,q,c,out,m,rfl,hA,hq,hne,hnn,k⟩:=h;have hr1:Room 1 _:=hr.mono (by decide);refine⟨_,Zaf (Zbo (ZbB (ZdA (Zam CT hr1 rfl (Zaa (pv 1) (Zaa Zag Zad))))) (Zak (Zas ZhP)) ZaH)
   (Zaf (ZbC (pv 1) (Zbh rfl (Zan (Zah (i:=2) scIsPh.nd rfl (YaN rfl)) (Zan (Zah (i:=3) scIsPh.nd rfl (YaN rfl)) ZaC))))
   (Zaf (Zbo (PW.pt (ZdP (ZbB (ZdA (Zam CP hr rfl (Zaa (pv 2) (Zaa (Zaj Zap rfl T.len YaV (Zaa (pv 0) Zad)) Zad)))))
    (Zb2 (Zax ZeS (ZaS ix_list (pv 0) (pv 2) (fun _ _=>rfl)) Zag (ZaA _))))) (Zak (Zas ZhP)) ZaH)
   (Zak (Zas (Zfs (Zam CW hr1 rfl (Zaa (pv 3) Zad)) (Zfr (ZeR ZdC ZdC Zag (pv 3) (Zaj (Zj5 rfl) rfl T.max ZnZ (Zaa (pv 0) Zad))))))))),?_⟩
  refine⟨_,rfl,q,_,2,rfl,hq,rfl,true,rfl,iteF ?_⟩;refine⟨_,rfl,q,_,rfl,SqT.of hq,rfl,_,_,rfl,_,_,rfl,rfl,?_⟩;refine⟨_,rfl,_,rfl,a,_,rfl,.inl (SqL.of hA),out,_,rfl,_,rfl,?_⟩;rw[Yaa];by_cases ho:0<=out/\out<(c.length:Int)
  ·rw[decide_eq_true ho];have hat:atI (c.map V.int) out=some (.int (c.getD out.toNat 0)):=by
    obtain⟨n,rfl⟩:∃ n:Nat,out=n:=⟨out.toNat,by omega⟩
    have hn:n<c.length:=by omega
    refine ZbS ?_;rw[Yaf,Yac hn,YaK,Yak,Yac hn];rfl
   refine iteF ⟨_,rfl,_,rfl,a,_,_,.int (c.getD out.toNat 0),rfl,rfl,SqL.of hA,hat,_,0,rfl,rfl,_,rfl,?_⟩;by_cases h0:0<c.getD out.toNat 0
   ·rw[decide_eq_true h0];refine iteT ?_;rw[decide_eq_false (fun z=>by have:=z.2.1;omega)] at k;exact k
   ·rw[decide_eq_false h0];refine iteF ⟨_,rfl,m,rfl,true,rfl,iteT ⟨_,rfl,1,m,rfl,rfl,_,rfl,?_⟩⟩;by_cases h1:(1:Int)<=m
    ·rw[decide_eq_true h1];refine iteT ⟨_,rfl,true,a,c,rfl,SqL.of hA,hne,fun mm hm hg=>⟨_,_,rfl,rfl,?_⟩⟩;have em:=Znz hnn hm hg;show Q (.bl (decide (m<=mm))) H;rw[em];rw[show decide (PhOk c out m)=decide (m<=mxl c) from by
      by_cases h2:m<=mxl c
      ·rw[decide_eq_true h2];exact decide_eq_true ⟨ho,by omega,h1,h2⟩
      ·rw[decide_eq_false h2];exact decide_eq_false fun z=>h2 z.2.2.2] at k
     exact k
    ·rw[decide_eq_false h1];refine iteF ?_;rw[decide_eq_false (fun z=>h1 z.2.2.1)] at k;exact k
  ·rw[decide_eq_false ho];refine iteT (iteT ?_);rw[decide_eq_false (fun z=>ho z.1)] at k;exact k
end
end Fj89
namespace Fj89
open PySem L2 Lv
section
variable {P:Program}{w:World}{K:Yad}{mg:Str->Option Value}{base:Heap}
theorem scFoldC:FnScope ["cells","many","found","k","cell"] ["cells","many"] (Zac Zd8):=⟨rfl,rfl,rfl,by decide +kernel,rfl,by decide +kernel,by decide +kernel⟩
theorem Zk7 {f:Addr}{fd:FuncData} (F:Fun K "_law_folded" "_law_folded" Zd8 f fd) (T:Txt mg) (Te:mg "enumerate"=none):FnOk P w K mg base CX0 1 f fd ["cells","many"] (Zir K):=by
 refine F.ok scFoldC (fun vs H Q E h=>?_) (fun cdv A outer s H vs Q E hr h=>?_)
 ·obtain⟨a,ns,m,rfl,_⟩:=h;rfl
 ·obtain⟨a,ns,m,rfl,hS,hl,m1,m2,k⟩:=h;refine⟨_,Zaf (Zat (i:=2) scFoldC.nd rfl (YaN rfl) (Zaw Zft (ZaM (Zaa Zag Zad)) (Zaj (Zj4 rfl) rfl T.min ZnY (Zaa (pv 1) (Zaa (Zaj (Zj6 rfl) rfl T.max ZnZ (Zaa Zag (Zaa (Zaj Zap rfl T.len YaV (Zaa (pv 0) Zad)) Zad))) Zad)))))
   (Zaf (Zbp Ybi rfl (Za9 rfl Te (Zaa (pv 0) Zad)) (Zbh rfl (Zan (Zah (i:=3) scFoldC.nd rfl (YaN rfl)) (Zan (Zah (i:=4) scFoldC.nd rfl (YaN rfl)) ZaC)))
    (Zak (ZbC (Zaw Za4 (Zaw Zc3 (ZaS ix_list (pv 2) (Zaw ZbM (pv 3) (Zaj Zap rfl T.len YaV (Zaa (pv 2) Zad))) (fun _ _=>rfl)) Zag) (pv 4)) (Zed (pv 2) (Zaw ZbM (pv 3) (Zaj Zap rfl T.len YaV (Zaa (pv 2) Zad))) ZbV))))
   (Zak (Zas (pv 2)))),?_⟩
  refine⟨(by show 1<=sizeLine;decide),fun l1 e1=>?_⟩;refine⟨_,rfl,_,rfl,a,_,rfl,.inl ((Same.new e1).seq hS),_,_,rfl,_,_,rfl,?_⟩;obtain⟨n,en,n1,n2⟩:∃ n:Nat,(if (if ((ns.map V.int).length:Int) > 1 then ((ns.map V.int).length:Int) else 1)<(m:Int) then (if ((ns.map V.int).length:Int) > 1 then ((ns.map V.int).length:Int) else 1) else (m:Int))=(n:Int)/\1<=n/\n<=50:=by
   rw[Yaa];refine⟨(if (if (ns.length:Int) > 1 then (ns.length:Int) else 1)<(m:Int) then (if (ns.length:Int) > 1 then (ns.length:Int) else 1) else (m:Int)).toNat,?_,?_,?_⟩
   ·split <;> split <;> omega
   ·split <;> split <;> omega
   ·split <;> split <;> omega
  rw[en];refine⟨l1,(n:Int),_,rfl,rfl,Zab,by omega,by omega,?_,fun l2 e2=>?_⟩
  ·exact Ybv (Zaz (by show 1*((n:Nat):Int).toNat<=1000;omega))
  have ez:(Yan ((n:Nat):Int).toNat [V.int 0]).flatten=(Yan n (0:Int)).map V.int:=by
   rw[show ((n:Nat):Int).toNat=n by omega,Yfn];exact YcL
  rw[ez];have s2:=(Same.new (o:=.lst [.int 0]) e1).trans (Same.new (o:=.lst ((Yan n (0:Int)).map V.int)) e2);have hl2:(upd (upd H l1 (.lst [.int 0])) l2 (.lst ((Yan n (0:Int)).map V.int))) l2=some (.lst ((Yan n (0:Int)).map V.int)):=Zab;have hl20:H l2=none:=(Same.new (o:=.lst [.int 0]) e1).free e2;generalize (upd (upd H l1 (.lst [.int 0])) l2 (.lst ((Yan n (0:Int)).map V.int)))=H2 at s2 hl2 ⊢;refine⟨_,rfl,a,true,rfl,⟨_,s2.seq hS⟩,?_⟩;refine ZdK (b:=true) (xs:=ns.map V.int) (fun i σ Hx=>∃ (fs:List Int) (o3 o4:Option V),σ=[some (.ref a),some (.int m),some (.ref l2),o3,o4]/\fs.length=n/\Hx l2=some (.lst (fs.map V.int))/\Same H Hx)
   ⟨Yan n 0,none,none,rfl,by simp,hl2,s2⟩ (fun i σ Hx _ ⟨_,_,_,_,_,_,sx⟩=>sx.seq hS) ?_ ?_
  ·rintro i x q σ Hx hx ⟨fs,o3,o4,rfl,hfl,hlx,sx⟩ hq;obtain⟨z,hz,rfl⟩:=ZaR hx;have s3:Same Hx (upd Hx q (.tup [.int i,.int z])):=Same.new hq;have hl3:=s3 l2 _ hlx;have hq3:(upd Hx q (.tup [.int i,.int z])) q=some (.tup [.int i,.int z]):=Zab;generalize (upd Hx q (.tup [.int i,.int z]))=H3 at s3 hl3 hq3 ⊢;have m0:=Ych (i:Int) (show ((n:Nat):Int)≠0 by omega);have m1:=Ycc (i:Int) (show (0:Int)<((n:Nat):Int) by omega);have elen:((fs.map V.int).length:Int)=((n:Nat):Int):=by rw[Yaa,hfl]
   refine⟨q,_,rfl,SqT.of hq3,rfl,_,_,rfl,_,_,rfl,rfl,?_⟩;refine⟨_,rfl,_,rfl,_,rfl,l2,_,rfl,.inl (SqL.of hl3),_,_,rfl,rfl,by rw[elen];omega,l2,_,_,.int (fs.getD ((i:Int) % ((n:Nat):Int)).toNat 0),rfl,rfl,SqL.of hl3,?_,?_⟩
   ·rw[elen];exact Zka m0 (by rw[hfl];exact m1)
   refine⟨_,7,rfl,rfl,.inr ⟨by decide,by decide⟩,_,rfl,_,_,rfl,rfl,?_⟩;refine⟨_,rfl,_,rfl,_,rfl,l2,_,rfl,.inl (SqL.of hl3),_,_,rfl,rfl,by rw[elen];omega,l2,_,_,((i:Int) % ((n:Nat):Int)).toNat,rfl,rfl,hl3,?_,?_⟩
   ·rw[elen,Yaa,hfl];exact Zhc m0 m1
   refine⟨fs.set ((i:Int) % ((n:Nat):Int)).toNat (fs.getD ((i:Int) % ((n:Nat):Int)).toNat 0*7+z),_,_,rfl,by simp[hfl],?_,(sx.trans s3).put hl20⟩;rw[Zab,YbZ]
  ·rintro σ Hx ⟨fs,o3,o4,rfl,hfl,hlx,sx⟩;exact⟨_,rfl,k l2 fs Hx hl20 hlx (by omega) sx⟩
theorem Zn2:bootBuiltins "abs"=some (.builtin "abs"):=by decide +kernel
theorem scBegunC:FnScope ["cell","rest"] ["cell"] (Zac ZcK):=⟨rfl,rfl,rfl,by decide +kernel,rfl,by decide +kernel,by decide +kernel⟩
theorem Zjb {f:Addr}{fd:FuncData} (F:Fun K "_law_begun" "_law_begun" ZcK f fd) (T:Txt mg) (Ta:mg "abs"=none):FnOk P w K mg base CX0 1 f fd ["cell"] Zgh:=by
 refine F.ok scBegunC (fun vs H Q E h=>?_) (fun cdv A outer s H vs Q E hr h=>?_)
 ·obtain⟨z,rfl,_⟩:=h;rfl
 ·obtain⟨z,rfl,k⟩:=h;refine⟨_,Zaf (Zat (i:=1) scBegunC.nd rfl (YaN rfl) Zag)
   (Zaf (Zbo (Zax Zmz (Zaj Zhn rfl Ta Zn2 (Zaa (pv 0) Zad)) (Zaw Zee Zag Zag) (ZaA _)) (Zak (Zat (i:=1) scBegunC.nd rfl (YaN rfl) (Zaw Za4 (Zaw ZbD (Zaj Zhn rfl Ta Zn2 (Zaa (pv 0) Zad)) (Zaw Zee Zag Zag)) Zag))) ZaH)
   (Zak (Zas (ZaM (Zaa (pv 1) (Zaa Zag (Zaa (Zaw ZbM (pv 0) Zag) Zad))))))),?_⟩
  refine cut2 (fun σ' H'=>∃ r:Int,σ'=[some (.int z),some (.int r)]/\H'=H) (fun R hR=>?_) ?_
  ·refine⟨_,rfl,z,rfl,10,18,rfl,rfl,⟨by decide,by decide,by decide⟩,_,_,rfl,rfl,_,rfl,?_⟩;refine ite2 (fun hc=>?_) (fun hc=>hR _ _ ⟨_,rfl,rfl⟩);exact⟨_,rfl,z,rfl,10,18,rfl,rfl,⟨by decide,by decide,by decide⟩,_,_,rfl,rfl,_,_,rfl,rfl,hR _ _ ⟨_,rfl,rfl⟩⟩
  ·rintro σ' H' ⟨r,rfl,rfl⟩;refine⟨_,rfl,_,rfl,z,2147483647,rfl,rfl,(by show (0:Int)<2147483647;decide),(by show 3<=sizeLine;decide),fun l hl=>?_⟩;exact k l _ hl ⟨_,_,_,Zab,YbO _,YbO _,Ych _ (by decide),Ycc _ (by decide)⟩ (Same.new hl)
theorem scTakeC:FnScope ["pot","size","digit","mixed"] ["pot","size"] (Zac Zd4):=⟨rfl,rfl,rfl,by decide +kernel,rfl,by decide +kernel,by decide +kernel⟩
theorem ZkU {f:Addr}{fd:FuncData} (F:Fun K "_law_take" "_law_take" Zd4 f fd) (T:Txt mg):FnOk P w K mg base CX0 1 f fd ["pot","size"] Zb8:=by
 refine F.ok scTakeC (fun vs H Q E h=>?_) (fun cdv A outer s H vs Q E hr h=>?_)
 ·obtain⟨p,m,c,rfl,_⟩:=h;rfl
 ·obtain⟨p,m,c,rfl,⟨a,b,g,hp,b0,b1,g0,g1⟩,hc,h0,h1,k⟩:=h;refine⟨_,Zaf (Zbo (Zax ZeS (ZaS ix_list (pv 0) Zag (fun _ _=>rfl)) Zag (ZaA _))
    (Zaf (Zat (i:=2) scTakeC.nd rfl (YaN rfl) (Zaw ZbM (ZaS ix_list (pv 0) Zag (fun _ _=>rfl)) (pv 1)))
    (Zaf (ZbC (Zaw ZkJ (ZaS ix_list (pv 0) Zag (fun _ _=>rfl)) (pv 1)) (Zed (pv 0) Zag ZbV))
    (Zak (Zas (pv 2))))) ZaH)
   (Zaf (ZbC (Zaw Za4 (ZaS ix_list (pv 0) Zag (fun _ _=>rfl)) Zag) (Zed (pv 0) Zag ZbV))
   (Zaf (Zat (i:=3) scTakeC.nd rfl (YaN rfl) (Zaw ZbM (Zaw Za4 (Zaw Za4 (Zaw Za4 (ZaS ix_list (pv 0) Zag (fun _ _=>rfl)) (Zaw Zc3 (Zaw Zc3 Zag (ZaS ix_list (pv 0) Zag (fun _ _=>rfl))) (ZaS ix_list (pv 0) Zag (fun _ _=>rfl)))) (Zaw Zc3 Zag (ZaS ix_list (pv 0) Zag (fun _ _=>rfl)))) Zag) Zag))
   (Zaf (Zat (i:=3) scTakeC.nd rfl (YaN rfl) (Zaw ZbM (Zaw Zc3 (Zaw ZbM (Zaw Zc3 (pv 3) (pv 3)) Zag) Zag) Zag))
   (Zak (Zas (Zaw ZbM (Zaw Zi0 (pv 3) Zag) (pv 1))))))),?_⟩
  refine⟨_,rfl,p,_,0,.int a,rfl,rfl,SqL.of hp,rfl,_,_,rfl,rfl,_,rfl,?_⟩;refine ite2 (fun _=>?_) (fun _=>?_)
  ·refine⟨_,rfl,p,_,0,.int a,rfl,rfl,SqL.of hp,rfl,_,rfl,a,m,rfl,rfl,h0,?_⟩;refine⟨_,rfl,p,_,0,.int a,rfl,rfl,SqL.of hp,rfl,_,rfl,a,m,rfl,rfl,⟨h0,h1⟩,_,rfl,p,_,0,0,rfl,rfl,hp,rfl,_,rfl,?_⟩;exact k _ _ (Ych _ (by omega)) (Ycc _ h0) ⟨_,b,g,Zab,b0,by omega,g0,g1⟩ Sm.put
  ·refine⟨_,rfl,p,_,1,.int b,rfl,rfl,SqL.of hp,rfl,b,1,rfl,rfl,_,rfl,p,_,1,1,rfl,rfl,hp,rfl,?_⟩;have hp1:(upd H p (.lst ([V.int a,.int b,.int g].set 1 (.int (b+1))))) p=some (.lst [.int a,.int (b+1),.int g]):=by rw[Zab];rfl
   have sm1:Sm p H (upd H p (.lst ([V.int a,.int b,.int g].set 1 (.int (b+1))))):=Sm.put;generalize (upd H p (.lst ([V.int a,.int b,.int g].set 1 (.int (b+1)))))=H1 at hp1 sm1 ⊢;refine⟨_,rfl,p,_,2,.int g,rfl,rfl,SqL.of hp1,rfl,?_⟩;refine⟨_,rfl,p,_,1,.int (b+1),rfl,rfl,SqL.of hp1,rfl,977,_,rfl,rfl,.inl ⟨by decide,by decide⟩,?_⟩;refine⟨_,rfl,p,_,1,.int (b+1),rfl,rfl,SqL.of hp1,rfl,_,_,rfl,rfl,.inr ⟨by omega,by omega⟩,_,_,rfl,rfl,?_⟩;refine⟨_,rfl,p,_,1,.int (b+1),rfl,rfl,SqL.of hp1,rfl,40693,_,rfl,rfl,.inl ⟨by decide,by decide⟩,_,_,rfl,rfl,_,1,rfl,rfl,_,2147483647,rfl,rfl,(by show (0:Int)<2147483647;decide),?_⟩;dsimp only;have x0:=Ych (g+977*(b+1)*(b+1)+40693*(b+1)+1) (show (2147483647:Int)≠0 by decide);have x1:=Ycc (g+977*(b+1)*(b+1)+40693*(b+1)+1) (show (0:Int)<2147483647 by decide);generalize (g+977*(b+1)*(b+1)+40693*(b+1)+1) % 2147483647=x at x0 x1 ⊢;refine⟨_,rfl,_,rfl,x,x,rfl,rfl,.inl ⟨by omega,by omega⟩,_,1000000007,rfl,rfl,(by show (0:Int)<1000000007;decide),_,48271,rfl,rfl,.inr ⟨by decide,by decide⟩,_,998244353,rfl,rfl,(by show (0:Int)<998244353;decide),?_⟩;refine⟨_,rfl,_,8,rfl,rfl,⟨by decide,by decide⟩,_,rfl,_,m,rfl,rfl,h0,?_⟩;exact k _ _ (Ych _ (by omega)) (Ycc _ h0) ⟨_,_,_,hp1,by omega,by omega,g0,g1⟩ sm1
theorem scWideC:FnScope ["pot","size","number","turn"] ["pot","size"] (Zac Zd0):=⟨rfl,rfl,rfl,by decide +kernel,rfl,by decide +kernel,by decide +kernel⟩
theorem ZkM {f fA:Addr}{fd dA:FuncData} (F:Fun K "_law_wide" "_law_wide" Zd0 f fd) (T:Txt mg) (CT:Cal P w K mg base 1 "_law_take" ["pot","size"] Zb8 fA dA):FnOk P w K mg base CX0 2 f fd ["pot","size"] Zf2:=by
 refine F.ok scWideC (fun vs H Q E h=>?_) (fun cdv A outer s H vs Q E hr h=>?_)
 ·obtain⟨p,m,c,rfl,_⟩:=h;rfl
 ·obtain⟨p,m,c,rfl,hP,hc,h0,h1,k⟩:=h;refine⟨_,Zaf (Zbo (PW.pt (ZdP (Zax ZeS (ZaS ix_list (pv 0) Zag (fun _ _=>rfl)) Zag (ZaA _)) (Zb2 (Zax Zc8 (pv 1) (Zaw Zee Zag Zag) (ZaA _))))) (Zak (Zas (Zam CT hr rfl (Zaa (pv 0) (Zaa (pv 1) Zad))))) ZaH)
   (Zaf (Zat (i:=2) scWideC.nd rfl (YaN rfl) Zag)
   (Zaf (Zbp Ybi rfl (Za3 rfl T.range (Zaa (Zaw Za4 Zag (Zaw Zi0 (Znp PySem.F.plainAttrs_int PySem.F.slot_int_bit_length PySem.F.type_int_bit_length Zjj (pv 1)) Zag)) Zad)) (Zah (i:=3) scWideC.nd rfl (YaN rfl))
    (Zak (Zat (i:=2) scWideC.nd rfl (YaN rfl) (Zaw Za4 (Zaw Zc3 (pv 2) Zag) (Zam CT hr rfl (Zaa (pv 0) (Zaa Zag Zad)))))))
   (Zak (Zas (Zaw ZbM (pv 2) (pv 1)))))),?_⟩
  have hP':=hP;obtain⟨a,b,g,hp,_⟩:=hP';have one:Zil Zb8 [] E0 (Zkj (tVar 0) (Zkj (tVar 1) tNil)) [some (.ref p),some (.int m),none,none] H Q:=by
   refine⟨_,rfl,_,rfl,p,m,c,rfl,hP,by omega,h0,h1,fun d H1 d0 d1 hP1 sm1=>k d H1 d0 d1 (hP1.up (by omega)) sm1⟩
  refine cut1 (fun σ' H'=>σ'=[some (.ref p),some (.int m),none,none]/\H'=H) (fun R hR=>?_) ?_
  ·refine⟨_,rfl,p,_,0,.int a,rfl,rfl,SqL.of hp,rfl,_,_,rfl,rfl,_,rfl,?_⟩;refine ite2 (fun _=>one) (fun _=>?_);refine⟨_,rfl,10,6,rfl,rfl,⟨by decide,by decide,by decide⟩,_,_,rfl,rfl,_,rfl,?_⟩;exact ite2 (fun _=>one) (fun _=>hR _ _ ⟨rfl,rfl⟩)
  rintro σ' H' ⟨rfl,rfl⟩;have hb:(YaR m:Int) / 19<=430:=by omega
  have hb0:0<=(YaR m:Int) / 19:=by omega
  obtain⟨n,en,hn⟩:∃ n:Nat,(3+(YaR m:Int) / 19).toNat=n/\n<=433:=⟨_,rfl,by omega⟩
  refine⟨_,rfl,rfl,m,rfl,rfl,_,19,rfl,rfl,⟨by decide,by decide⟩,3,_,rfl,rfl,3+(YaR m:Int) / 19,rfl,by omega,by omega,?_⟩;rw[en];refine ZbO (fun i σ Hx=>∃ (nu:Int) (o3:Option V),σ=[some (.ref p),some (.int m),some (.int nu),o3]/\PotC Hx p (c+i)/\Sm p H' Hx) ⟨0,none,rfl,by simpa using hP,Sm.refl _ _⟩ ?_ ?_
  ·rintro i σ Hx hi ⟨nu,o3,rfl,hPx,smx⟩;refine⟨_,rfl,nu,1000003,rfl,rfl,.inr ⟨by decide,by decide⟩,_,rfl,p,1000003,c+i,rfl,hPx,by omega,by decide,by decide,fun d H1 d0 d1 hP1 sm1=>?_⟩;exact⟨_,_,rfl,rfl,_,_,rfl,hP1.up (by (clear d1 d0 hi hn en hb0 hb h1 h0 hc;omega)),smx.trans sm1⟩
  ·rintro σ Hx ⟨nu,o3,rfl,hPx,smx⟩;exact⟨_,rfl,_,rfl,nu,m,rfl,rfl,h0,k _ Hx (Ych _ (by omega)) (Ycc _ h0) (hPx.up (by omega)) smx⟩
theorem Zko:FnScope ["pot","kind"] ["pot","kind"] (Zac ZcC):=⟨rfl,rfl,rfl,by decide +kernel,rfl,by decide +kernel,by decide +kernel⟩
theorem Zn7:(10:Int) ^ Int.toNat 59=100000000000000000000000000000000000000000000000000000000000/\(10:Int) ^ Int.toNat 60=1000000000000000000000000000000000000000000000000000000000000:=by decide +kernel
theorem ZnX:YaR (2*(100000000000000000000000000000000000000000000000000000000000:Int))<=8000:=by decide +kernel
theorem Zi1 {f fA fB:Addr}{fd dA dB:FuncData} (F:Fun K "_law_thing" "_law_thing" ZcC f fd) (T:Txt mg) (CT:Cal P w K mg base 1 "_law_take" ["pot","size"] Zb8 fA dA) (CW:Cal P w K mg base 2 "_law_wide" ["pot","size"] Zf2 fB dB):FnOk P w K mg base CX0 3 f fd ["pot","kind"] ZeA:=by
 refine F.ok Zko (fun vs H Q E h=>?_) (fun cdv A outer s H vs Q E hr h=>?_)
 ·obtain⟨p,kd,c,rfl,_⟩:=h;rfl
 ·obtain⟨p,kd,c,rfl,hP,hc,k0,k4,k⟩:=h;have hr1:Room 1 _:=hr.mono (by decide);refine⟨_,Zaf (Zbo (Zax ZkK (pv 1) Zag (ZaA _)) (Zak (Zas (Zaw ZbD (Zam CW hr rfl (Zaa (pv 0) (Zaa (Zaw Zc3 Zag (Zaw Zee Zag Zag)) Zad))) (Zaw Zee Zag Zag)))) ZaH)
   (Zaf (Zbo (Zax ZkK (pv 1) Zag (ZaA _)) (Zak (Zas (Zaw ZbD (Zaw ZbD (Zaw Zee Zag Zag) Zag) (Zam CT hr1 rfl (Zaa (pv 0) (Zaa Zag Zad)))))) ZaH)
   (Zak (Zas (ZaS ix_list (ZaM (Zaa (Zaw ZbD (Zam CT hr1 rfl (Zaa (pv 0) (Zaa Zag Zad))) Zag) (Zaa (Zaw ZbD (Zam CT hr1 rfl (Zaa (pv 0) (Zaa Zag Zad))) Zag) Zad))) (pv 1) (fun _ _=>rfl))))),?_⟩
  obtain⟨t9,t0⟩:=Zn7;have hb1:(1000000000000000000000000000000000000000000000000000000000000:Int)<Zba:=by decide +kernel
  have hb2:(1000:Int)<Zba:=by decide +kernel
  refine⟨_,rfl,rfl,_,rfl,?_⟩;refine ite2 (fun hk=>?_) (fun hk=>?_)
  ·refine⟨_,rfl,10,59,rfl,rfl,⟨by decide,by decide,by decide⟩,2,_,rfl,rfl,.inl ⟨by decide,by decide⟩,p,_,c,rfl,hP,by omega,?_,?_,fun d H1 d0 d1 hP1 sm1=>?_⟩
   ·rw[t9];decide
   ·rw[t9];exact ZnX
   rw[t9] at d1;refine⟨10,59,rfl,rfl,⟨by decide,by decide,by decide⟩,_,_,rfl,rfl,?_⟩;dsimp only;rw[t9];exact k _ H1 (by omega) (by omega) (hP1.up (by (clear d1 d0 hb2 hb1 t0 t9 k4 k0 hc;omega))) sm1
  ·refine⟨_,rfl,rfl,_,rfl,?_⟩;refine ite2 (fun hk3=>?_) (fun hk3=>?_)
   ·refine⟨10,60,rfl,rfl,⟨by decide,by decide,by decide⟩,_,1,rfl,rfl,_,rfl,p,3,c,rfl,hP,by omega,by decide,by decide,fun d H1 d0 d1 hP1 sm1=>⟨_,_,rfl,rfl,?_⟩⟩;dsimp only;rw[t0];exact k _ H1 (by omega) (by omega) (hP1.up (by (clear d1 d0 hk hb2 hb1 t0 t9 k4 k0 hc;omega))) sm1
   ·have hk2:kd≠2:=fun z=>hk (by subst z;exact decide_eq_true rfl);have hk3':kd≠3:=fun z=>hk3 (by subst z;exact decide_eq_true rfl);refine⟨_,rfl,p,7,c,rfl,hP,by (clear hk3' hk2 hk3 hk hb2 hb1 t0 t9 k4 k0;omega),by decide,by decide,fun d H1 d0 d1 hP1 sm1=>⟨_,3,rfl,rfl,_,rfl,p,1000,c+1,rfl,hP1,by (clear d1 d0 hk3' hk2 hk3 hk hb2 hb1 t0 t9 k4 k0;omega),by decide,by decide,fun d2 H2 d20 d21 hP2 sm2=>⟨_,500,rfl,rfl,(by show 2<=sizeLine;decide),fun l hl=>?_⟩⟩⟩;have hlp:l≠p:=hP2.ne hl;obtain⟨x,hx,x1,x2⟩:∃ x:Int,atI [V.int (d - 3),.int (d2 - 500)] kd=some (.int x)/\-Zba<x/\x<Zba:=by
     rcases (show kd=0∨kd=1 by (clear hlp d21 d20 d1 d0 hk3 hk hb2 hb1 t0 t9 hc;omega)) with rfl | rfl
     ·exact⟨_,rfl,by (clear hk3' hk2 hk3 hk k4 k0 hlp d21 d20 d1 hb2 t0 t9 hc;omega),by (clear hk3' hk2 hk3 hk k4 k0 hlp d21 d20 d0 hb2 t0 t9 hc;omega)⟩
     ·exact⟨_,rfl,by (clear hk3' hk2 hk3 hk k4 k0 hlp d21 d1 d0 hb2 t0 t9 hc;omega),by (clear hk3' hk2 hk3 hk k4 k0 hlp d20 d1 d0 hb2 t0 t9 hc;omega)⟩
    refine⟨_,rfl,l,_,kd,.int x,rfl,rfl,SqL.of Zab,hx,?_⟩;exact k x _ x1 x2 ((hP2.put hl).up (by (clear x2 x1 hlp d21 d20 d1 d0 hk3' hk2 hk3 hk hb2 hb1 t0 t9 k4 k0 hc;omega))) ((sm1.trans sm2).trans (Sm.new hl))
end
end Fj89
namespace Fj89
open PySem L2 Lv
section
variable {P:Program}{w:World}{K:Yad}{mg:Str->Option Value}{base:Heap}
theorem ZhA:FnScope ["numbers"] ["numbers"] (Zac Zbn):=⟨rfl,rfl,rfl,by decide +kernel,rfl,by decide +kernel,by decide +kernel⟩
theorem Zgu {f:Addr}{fd:FuncData} (F:Fun K "places_in" "places_in" Zbn f fd) (T:Txt mg):FnOk P w K mg base CX0 1 f fd ["numbers"] ZbT:=by
 refine F.ok ZhA (fun vs H Q E h=>?_) (fun cdv A outer s H vs Q E hr h=>?_)
 ·obtain⟨a,rs,N,rfl,_⟩:=h;rfl
 ·obtain⟨a,rs,N,rfl,hA,hT,hN,k⟩:=h;refine⟨_,Zak (Zas (Zaj (Zbr rfl) rfl T.sum ZfU (Zaa (ZaE (own:=["on_reel"]) (js:=[]) (CompOk.bare (by decide +kernel)) rfl (Zg2 (pv 0)) Zau
    (fun _ _ _ _ _=>Zah (i:=0) (by show (["on_reel"]:List Str).Nodup;decide +kernel) rfl (YaN rfl) (.inr rfl)) (fun _ _ _ _ _=>Zay) (fun _ _ _ _ _=>Zaj (Zbe K) rfl T.len YaV (Zaa (pv 0) Zad))) Zad))),?_⟩
  refine⟨_,rfl,a,rfl,⟨_,SqT.of hA⟩,?_⟩;refine Zdi (xs:=rs.map V.ref) (fun acc j H2=>Same H H2/\H2 acc=some (.lst ((Zju (N.take j)).map V.int))) (fun acc h0=>⟨Same.new h0,Zab⟩) (fun acc j H2 h0 _ p=>SqT.of (p.1 _ _ hA)) ?_ ?_
  ·rintro acc j x H2 h0 hx ⟨s2,hacc⟩;obtain⟨q,hq,rfl⟩:=ZcP hx;have hj:=(Yab.mp hq).1
   obtain⟨xs,hxs⟩:∃ xs,N[j]?=some xs:=⟨_,Yac (by rw[<- hT.1];exact hj)⟩
   refine⟨_,rfl,q,_,rfl,.inr (SqT.of (s2 _ _ (hT.2 j q xs hq hxs))),_,hacc,?_,by rw[Yaa];exact hj,s2.put h0,?_⟩
   ·unfold Zju;rw[Yaa,Yaa,Yav];exact Zaz (by omega)
   ·rw[Zab,YaQ,hxs,Ybp];unfold Zju;rw[Yai,Yai,YaJ,Yc9,Yaa];rfl
  rintro acc H2 h0 ⟨s2,hacc⟩;have e:(rs.map V.ref).length=N.length:=by rw[Yaa,hT.1]
  rw[e,YaM] at hacc;refine⟨acc,_,rfl,SqL.of hacc,?_⟩;have e2:(Zju N).sum=(N.flatten.length:Int):=by
   unfold Zju;clear hacc hT hN k e
   induction N with
   | nil=>rfl
   | cons xs N ih=>rw[YaJ,Ybe,ih,YaF,Yag];omega
  rw[e2];exact k H2 s2
theorem scLeastP:FnScope ["numbers","many","places"] ["numbers","many"] (Zac ZcF):=⟨rfl,rfl,rfl,by decide +kernel,rfl,by decide +kernel,by decide +kernel⟩
theorem ZjU (xs:List V) (c:Nat):cutV xs none (some (c:Int))=xs.take c:=by
 unfold cutV;show (xs.drop 0).take (HT.sIx xs.length xs.length (some (c:Int)) - 0)=_;rw[HT.sIx_nat,Ye3,Yde];by_cases h:c<=xs.length
 ·rw[Yb3 h]
 ·rw[YcW (by omega),YaM,YaY (by omega)]
theorem Zll {N:List (List Int)}{i j:Nat}{xs:List Int} (h:N[i]?=some xs) (hj:j<=xs.length):(N.take i).flatten.length+j<=N.flatten.length:=by
 have a:=Yab.mp h;have e1:N=N.take i++xs::N.drop (i+1):=by
  have:N.drop i=xs::N.drop (i+1):=by rw[YeF a.1,a.2]
  rw[<- this,YaU]
 conv=>rhs;rw[e1]
 rw[Ybk,Yag,YaF,Yag];omega
theorem Zi7 {f:Addr}{fd:FuncData} (F:Fun K "least_places" "least_places" ZcF f fd) (T:Txt mg) (Te:mg "enumerate"=none):FnOk P w K mg base CX0 1 f fd ["numbers","many"] ZeF:=by
 refine F.ok scLeastP (fun vs H Q E h=>?_) (fun cdv A outer s H vs Q E hr h=>?_)
 ·obtain⟨a,rs,N,m,rfl,_⟩:=h;rfl
 ·obtain⟨a,rs,N,m,rfl,hA,hT,hN,hF,k⟩:=h;refine⟨_,Zaf (ZkB (i:=2) scLeastP.nd rfl rfl (own:=["reel","on_reel","place","number"]) (js:=[]) (fr:=[2,3]) (CompOk.bare (by decide +kernel)) rfl (Za9 rfl Te (Zaa (pv 0) Zad)) (ZhZ (i:=0) (k:=1) (K:=K)) (ZhY (i:=2) (k:=3) (K:=K))
    (fun _ _ _ _ _=>Zbj K rfl (Zan (Zah (i:=0) (by show (["reel","on_reel","place","number"]:List Str).Nodup;decide +kernel) rfl (YaN rfl) (.inr rfl)) (Zan (Zah (i:=1) (by show (["reel","on_reel","place","number"]:List Str).Nodup;decide +kernel) rfl (YaN rfl) (.inr rfl)) ZaC))) (fun _ _ _ _ _=>Zay) (fun _ _ _ _ _=>ZiM K rfl Te (Zaa (pv 1) Zad))
    (fun _ _ _ _ _=>Zbj K rfl (Zan (Zah (i:=2) (by show (["reel","on_reel","place","number"]:List Str).Nodup;decide +kernel) rfl (YaN rfl) (.inr rfl)) (Zan (Zah (i:=3) (by show (["reel","on_reel","place","number"]:List Str).Nodup;decide +kernel) rfl (YaN rfl) (.inr rfl)) ZaC))) (fun _ _ _ _ _=>Zay) (fun _ _ _ _ _=>Za6 (Zaa (pv 3) (Zaa (pv 0) (Zaa (pv 2) Zad)))))
   (Zak (Zas (Zby ZeL (Zaj ZbA rfl T.sorted Za2 (Zaa (pv 2) Zad)) Zcc (ZbL (pv 1))))),?_⟩
  have hz:100000<sizeLine:=by decide
  refine⟨_,rfl,a,false,rfl,⟨_,SqT.of hA⟩,?_⟩;refine ZgI (b:=false) (xs:=rs.map V.ref) (fun acc i H2=>Same H H2/\∃ ps,H2 acc=some (.lst (ps.map V.ref))/\(∀ p∈ps,p≠acc)/\TuM H2 ps (trip 0 (N.take i))) (fun acc h0=>⟨Same.new h0,[],Zab,(fun p hp=>nomatch hp),TuM.nil⟩) (fun acc i H2 h0 _ p=>SqT.of (p.1 _ _ hA)) ?_ ?_
  ·rintro acc i x q H2 h0 hx ⟨s2,ps,hacc,hne,hpr⟩ hq;obtain⟨r,hr',rfl⟩:=ZcP hx;have hi:=(Yab.mp hr').1
   obtain⟨xs,e2⟩:∃ xs,N[i]?=some xs:=⟨_,Yac (by rw[<- hT.1];exact hi)⟩
   have hrow:=hT.2 i r xs hr' e2;have s3:Same H2 (upd H2 q (.tup [.int i,.ref r])):=Same.new hq;have hq3:upd H2 q (.tup [.int i,.ref r]) q=some (.tup [.int i,.ref r]):=Zab;generalize upd H2 q (.tup [.int i,.ref r])=H3 at s3 hq3 ⊢;have s03:=s2.trans s3;refine⟨q,_,rfl,SqT.of hq3,rfl,_,_,rfl,_,_,rfl,rfl,?_⟩;refine⟨_,rfl,r,false,rfl,⟨_,SqT.of (s03 _ _ hrow)⟩,?_⟩;refine Zlh (b:=false) (xs:=xs.map V.int) (fun j H4=>Same H H4/\∃ ps,H4 acc=some (.lst (ps.map V.ref))/\(∀ p∈ps,p≠acc)/\TuM H4 ps (trip 0 (N.take i)++Zb7 i (xs.take j))) ⟨s03,ps,s3 _ _ hacc,hne,by simpa[Zb7] using hpr.same s3⟩ (fun j H4 _ p=>SqT.of (p.1 _ _ hrow)) ?_ ?_
   ·rintro j y u H4 hy ⟨s4,ps,hac4,hne4,hpr4⟩ nu;obtain⟨z,hz',rfl⟩:=ZaR hy;have hj:=(Yab.mp hz').1
    have hle:=Zll e2 (Ybv hj);have hpl:ps.length=(N.take i).flatten.length+j:=by
     rw[hpr4.len,Yag,Zcl,Zfc,Yav];omega
    have su:Same H4 (upd H4 u (.tup [.int j,.int z])):=Same.new nu;have hu3:upd H4 u (.tup [.int j,.int z]) u=some (.tup [.int j,.int z]):=Zab;generalize upd H4 u (.tup [.int j,.int z])=H4' at su hu3 ⊢
    replace hac4:=su _ _ hac4
    replace hpr4:=hpr4.same su
    replace s4:=s4.trans su
    refine⟨u,_,rfl,SqT.of hu3,rfl,_,_,rfl,_,_,rfl,rfl,?_⟩;refine⟨_,rfl,_,rfl,_,rfl,(by show 3<=sizeLine;decide),fun t ht=>?_⟩;have hta:t≠acc:=Ybn (Zae hac4 ht);have s45:Same H4' (upd H4' t (.tup [.int z,.int i,.int j])):=Same.new ht;have ht5:upd H4' t (.tup [.int z,.int i,.int j]) t=some (.tup (([z,(i:Int),(j:Int)]:List Int).map V.int)):=Zab;generalize upd H4' t (.tup [.int z,.int i,.int j])=H5 at s45 ht5 ⊢;refine⟨_,s45 _ _ hac4,by rw[Yaa];omega,by rw[Yaa];exact hj,(s4.trans s45).put h0,ps++[t],by rw[Zab,Yai];rfl,fun p hp=>?_,?_⟩
    ·rcases Yah.mp hp with hp | hp
     ·exact hne4 p hp
     ·rw[Yaj.mp hp];exact hta
    ·have:=(hpr4.same s45).snoc ht5 (by simp);rw[Yax,<- Zhu hz'] at this;refine this.keep fun p hp=>Zai ?_;rcases Yah.mp hp with hp | hp
     ·exact hne4 p hp
     ·rw[Yaj.mp hp];exact hta
   ·rintro H4 ⟨s4,ps,hac4,hne4,hpr4⟩;rw[Yaa,YaM,<- Zig e2] at hpr4;exact⟨by rw[Yaa];exact hi,s4,ps,hac4,hne4,hpr4⟩
  rintro acc H2 h0 ⟨s2,ps,hacc,hne,hpr⟩;have e:(rs.map V.ref).length=N.length:=by rw[Yaa,hT.1]
  rw[e,YaM] at hpr;have hks:∀ p∈ps,kf H2 p≠[]/\H2 p=some (.tup ((kf H2 p).map V.int)):=by
   intro p hp;obtain⟨k',hk,e⟩:=hpr.1 p hp;rw[Zfz e];exact⟨hk,e⟩
  refine⟨_,rfl,acc,ps,kf H2,rfl,SqL.of hacc,hks,fun l qs nl pm up=>?_⟩;have s23:Same H2 (upd H2 l (.lst (qs.map V.ref))):=Same.new nl;have hl3:upd H2 l (.lst (qs.map V.ref)) l=some (.lst (qs.map V.ref)):=Zab;generalize upd H2 l (.lst (qs.map V.ref))=H3 at s23 hl3 ⊢;have s03:=s2.trans s23;refine⟨_,rfl,(m:Int),rfl,l,_,rfl,SqL.of hl3,fun l2 nl2=>?_⟩;rw[ZjU,<- Yb7];have s34:Same H3 (upd H3 l2 (.lst ((qs.take m).map V.ref))):=Same.new nl2;have hq2:TuM H2 qs (qs.map (kf H2)):=⟨fun p hp=>hpr.1 p (pm.mem_iff.mp hp),rfl⟩
  refine k l2 qs (qs.map (kf H2)) _ (s03.free nl2) Zab (hq2.same (s23.trans s34)) ?_ (Ybz.mpr up) (s03.trans s34);rw[<- hpr.2];exact pm.map _
end
end Fj89
namespace Fj89
open PySem L2 Lv
section
variable {P:Program}{w:World}{K:Yad}{mg:Str->Option Value}{base:Heap}
theorem Zkp:FnScope ["numbers","lengths","placing"] ["numbers","lengths","placing"] (Zac Zb9):=⟨rfl,rfl,rfl,by decide +kernel,rfl,by decide +kernel,by decide +kernel⟩
theorem SqB.sameP {b:Bool}{H H':Hp}{a:Addr}{xs:List V} (e:Same H H') (h:SqB b K H a xs):SqB b K H' a xs:=by
 cases b
 ·exact e.tup h
 ·exact e.seq h
theorem Zi2 {f:Addr}{fd:FuncData} (F:Fun K "reading_by" "reading_by" Zb9 f fd) (T:Txt mg):FnOk P w K mg base CX0 1 f fd ["numbers","lengths","placing"] (Zda K):=by
 refine F.ok Zkp (fun vs H Q E h=>?_) (fun cdv A outer s H vs Q E hr h=>?_)
 ·obtain⟨a,ll,pl,b,rs,qs,N,ls,ks,rfl,_⟩:=h;rfl
 ·obtain⟨a,ll,pl,b,rs,qs,N,ls,ks,rfl,hA,hT,hL,hP,hM,hin,hlen,hl9,hb1,hb2,k⟩:=h;refine⟨_,Zak (Zas (Zaj (Zbr rfl) rfl T.sum ZfU (Zaa (ZaE (own:=["length","reel","place"]) (js:=[0]) (CompOk.by (sc:=Zac Zb9) (N:=["numbers","lengths","placing"]) rfl rfl (by decide +kernel)) rfl (Zgs rfl T.zip (Zaa (pv 1) (Zaa (pv 2) Zad))) (ZhX (i:=0) (k:=1) (m:=2) (K:=K))
    (fun _ _ _ _ _=>Zbj K rfl (Zan (Zah (i:=0) (by show (["length","reel","place","numbers"]:List Str).Nodup;decide +kernel) rfl (YaN rfl) (.inr rfl)) (Zan (Zbj K rfl (Zan (Zah (i:=1) (by show (["length","reel","place","numbers"]:List Str).Nodup;decide +kernel) rfl (YaN rfl) (.inr rfl)) (Zan (Zah (i:=2) (by show (["length","reel","place","numbers"]:List Str).Nodup;decide +kernel) rfl (YaN rfl) (.inr rfl)) ZaC))) ZaC))) (fun _ _ _ _ _=>Zay)
    (fun _ _ _ _ _=>Zaw Zmy (pv 0) (ZaS (Zhd K) (ZaS (Zhd K) (pv 3) (pv 1) (fun _ _=>rfl)) (pv 2) (fun _ _=>rfl)))) Zad))),?_⟩
  have hz:100000<sizeLine:=by decide
  refine⟨_,rfl,_,rfl,b,true,ll,pl,rfl,⟨_,hL⟩,⟨_,SqL.of hP⟩,?_⟩;refine Zlq (b1:=b) (b2:=true) (xs:=ls.map V.int) (ys:=qs.map V.ref) (by rw[Yaa,Yaa,hM.len];omega) (fun acc i H2=>Same H H2/\H2 acc=some (.lst ((ZaQ N (ls.take i) (ks.take i)).map V.int))) (fun acc h0=>⟨Same.new h0,Zab⟩) (fun acc i H2 h0 _ p=>⟨SqB.sameP p.1 hL,SqL.of (p.1 _ _ hP)⟩) ?_ ?_
  ·rintro acc i x y u H2 h0 hx hy ⟨s2,hacc⟩ nu;obtain⟨l,hl,rfl⟩:=ZaR hx;obtain⟨q,hq,rfl⟩:=ZcP hy;have hil:=(Yab.mp hl).1
   obtain⟨kk,hk,hqk⟩:=hM.at hq;obtain⟨r,p,xs,rfl,hr',hp⟩:=hin kk (Yam hk);have su:Same H2 (upd H2 u (.tup [.int l,.ref q])):=Same.new nu;have hu3:upd H2 u (.tup [.int l,.ref q]) u=some (.tup [.int l,.ref q]):=Zab;generalize upd H2 u (.tup [.int l,.ref q])=H3 at su hu3 ⊢;have s3:=s2.trans su;have hq3:H3 q=some (.tup [.int (r:Int),.int (p:Int)]):=s3 _ _ hqk;have hrl:=(Yab.mp hr').1
   obtain⟨ra,hra⟩:∃ ra,rs[r]?=some ra:=⟨_,Yac (by rw[hT.1];exact hrl)⟩
   have hrow:=s3 _ _ (hT.2 r ra xs hra hr');have hnum:numV N [(r:Int),(p:Int)]=xs[p]:=by
    unfold numV;simp[Yak,hr',hp]
   refine⟨u,_,rfl,SqT.of hu3,rfl,_,_,rfl,_,_,rfl,q,_,rfl,SqT.of hq3,rfl,_,_,rfl,_,_,rfl,rfl,rfl,?_⟩;refine⟨_,rfl,_,rfl,_,rfl,a,_,(r:Int),.ref ra,rfl,rfl,SqT.of (s3 _ _ hA),ZbS (by rw[Yaf,hra];rfl),_,rfl,ra,_,(p:Int),.int xs[p],rfl,rfl,SqT.of hrow,ZbS (by rw[Yaf,Yac hp];rfl),?_⟩;refine⟨l,xs[p],rfl,rfl,⟨8000,8000,hb1 l (Yam hl),hb2 xs (Yam hr') _ (Yby hp),by decide⟩,?_⟩;refine⟨_,su _ _ hacc,?_,by rw[Yaa];exact hil,s3.put h0,?_⟩
   ·rw[Yaa];unfold ZaQ;rw[List.length_zipWith,Yav,Yav];omega
   ·rw[Zab,ZhM hl hk,Yai,hnum];rfl
  rintro acc H2 h0 ⟨s2,hacc⟩;rw[Yaa,YaM,hlen,YaM] at hacc;exact⟨acc,_,rfl,SqL.of hacc,k H2 s2⟩
end
end Fj89
namespace Fj89
open PySem L2 Lv
section
variable {P:Program}{w:World}{K:Yad}{mg:Str->Option Value}{base:Heap}
theorem scLeastBy:FnScope ["numbers","lengths","longest_first","placing","length","row","number","reel","place"] ["numbers","lengths"] (Zac ZbW):=⟨rfl,rfl,rfl,by decide +kernel,rfl,by decide +kernel,by decide +kernel⟩
theorem SqB.sameL {b:Bool}{H H':Hp}{a:Addr}{xs:List V} (e:Same H H') (h:SqB b K H a xs):SqB b K H' a xs:=by
 cases b
 ·exact e.tup h
 ·exact e.seq h
theorem SqB.orL {b:Bool}{H:Hp}{a:Addr}{xs:List V} (h:SqB b K H a xs):SqL K H a xs∨SqT K H a xs:=by
 cases b
 ·exact .inr h
 ·exact .inl h
theorem Zmo (n:Nat):(Yan n [V.non]).flatten=Yan n V.non:=by
 induction n with
 | zero=>rfl
 | succ n ih=>rw[Ybj,YaF,ih,Ybj];rfl
theorem ZhR {f f1 f2:Addr}{fd d1 d2:FuncData} (F:Fun K "least_by" "least_by" ZbW f fd) (T:Txt mg) (Te:mg "enumerate"=none) (CL:Cal P w K mg base 1 "least_places" ["numbers","many"] ZeF f1 d1) (CR:Cal P w K mg base 1 "reading_by" ["numbers","lengths","placing"] (Zda K) f2 d2):FnOk P w K mg base CX0 2 f fd ["numbers","lengths"] (Zdt K):=by
 refine F.ok scLeastBy (fun vs H Q E h=>?_) (fun cdv A outer s H vs Q E hr h=>?_)
 ·obtain⟨a,ll,b,rs,N,ls,rfl,_⟩:=h;rfl
 ·obtain⟨a,ll,b,rs,N,ls,rfl,hA,hT,hN,hF,hL,hle,hb1,hb2,k⟩:=h;refine⟨_,Zaf (Zat (i:=2) scLeastBy.nd rfl (YaN rfl) (Zaj ZbA rfl T.sorted Za2 (Zaa (ZaE (own:=["row","length"]) (js:=[]) (CompOk.bare (by decide +kernel)) rfl (Za9 rfl Te (Zaa (pv 1) Zad)) (Zbq (i:=0) (k:=1) (K:=K))
    (fun _ _ _ _ _=>Zbj K rfl (Zan (Zah (i:=0) (by show (["row","length"]:List Str).Nodup;decide +kernel) rfl (YaN rfl) (.inr rfl)) (Zan (Zah (i:=1) (by show (["row","length"]:List Str).Nodup;decide +kernel) rfl (YaN rfl) (.inr rfl)) ZaC))) (fun _ _ _ _ _=>Zay) (fun _ _ _ _ _=>Za6 (Zaa (ZhO ZdU (pv 1)) (Zaa (pv 0) Zad)))) Zad)))
   (Zaf (Zat (i:=3) scLeastBy.nd rfl (YaN rfl) (Zaw Zft (ZaM (Zaa Zc2 Zad)) (Zaj Zap rfl T.len YaV (Zaa (pv 1) Zad))))
   (Zaf (Zbp Ybi rfl (Zgs rfl T.zip (Zaa (pv 2) (Zaa (Zam CL hr rfl (Zaa (pv 0) (Zaa (Zaj Zap rfl T.len YaV (Zaa (pv 1) Zad)) Zad))) Zad)))
     (Zbh rfl (Zan (Zbh rfl (Zan (Zah (i:=4) scLeastBy.nd rfl (YaN rfl)) (Zan (Zah (i:=5) scLeastBy.nd rfl (YaN rfl)) ZaC))) (Zan (Zbh rfl (Zan (Zah (i:=6) scLeastBy.nd rfl (YaN rfl)) (Zan (Zah (i:=7) scLeastBy.nd rfl (YaN rfl)) (Zan (Zah (i:=8) scLeastBy.nd rfl (YaN rfl)) ZaC)))) ZaC)))
    (Zak (ZbC (Za6 (Zaa (pv 7) (Zaa (pv 8) Zad))) (Zed (pv 3) (pv 5) ZbV))))
   (Zak (Zas (Za6 (Zaa (Zam CR hr rfl (Zaa (pv 0) (Zaa (pv 1) (Zaa (pv 3) Zad)))) (Zaa (pv 3) Zad))))))),?_⟩
  have hz:100000<sizeLine:=by decide
  have hls:ls.length<=100000:=by omega
  refine⟨_,rfl,ll,b,rfl,⟨_,hL⟩,?_⟩;refine Zb0 (xs:=ls.map V.int) (fun acc i H2=>Same H H2/\∃ ps,H2 acc=some (.lst (ps.map V.ref))/\(∀ p∈ps,p≠acc)/\TuM H2 ps (prL (ls.take i))) (fun acc h0=>⟨Same.new h0,[],Zab,(fun p hp=>nomatch hp),TuM.nil⟩) (fun acc i H2 h0 _ p=>SqB.sameL p.1 hL) ?_ ?_
  ·rintro acc i x q H2 h0 hx ⟨s2,ps,hacc,hne,hpr⟩ hq;obtain⟨l,hl,rfl⟩:=ZaR hx;have hi:=(Yab.mp hl).1
   have s3:Same H2 (upd H2 q (.tup [.int i,.int l])):=Same.new hq;have hq3:upd H2 q (.tup [.int i,.int l]) q=some (.tup [.int i,.int l]):=Zab;generalize upd H2 q (.tup [.int i,.int l])=H3 at s3 hq3 ⊢;have hpl:ps.length=i:=by rw[hpr.len,ZeO,Yav];omega
   refine⟨q,_,rfl,SqT.of hq3,rfl,_,_,rfl,_,_,rfl,rfl,?_⟩;refine⟨_,rfl,l,rfl,_,rfl,(by show 2<=sizeLine;decide),fun t ht=>?_⟩;have hacc3:=s3 _ _ hacc;have hta:t≠acc:=Ybn (Zae hacc3 ht);have s45:Same H3 (upd H3 t (.tup [.int (-l),.int i])):=Same.new ht;have ht5:upd H3 t (.tup [.int (-l),.int i]) t=some (.tup (([-l,(i:Int)]:List Int).map V.int)):=Zab;generalize upd H3 t (.tup [.int (-l),.int i])=H5 at s45 ht5 ⊢;refine⟨_,s45 _ _ hacc3,by rw[Yaa];omega,by rw[Yaa];exact hi,(s2.trans (s3.trans s45)).put h0,ps++[t],by rw[Zab,Yai];rfl,fun p hp=>?_,?_⟩
   ·rcases Yah.mp hp with hp | hp
    ·exact hne p hp
    ·rw[Yaj.mp hp];exact hta
   ·have:=(hpr.same (s3.trans s45)).snoc ht5 (by simp);rw[<- ZkC hl] at this;refine this.keep fun p hp=>Zai ?_;rcases Yah.mp hp with hp | hp
    ·exact hne p hp
    ·rw[Yaj.mp hp];exact hta
  rintro acc H2 h0 ⟨s2,ps,hacc,hne,hpr⟩;rw[Yaa,YaM] at hpr;have hks:∀ p∈ps,kf H2 p≠[]/\H2 p=some (.tup ((kf H2 p).map V.int)):=by
   intro p hp;obtain⟨k',hk,e⟩:=hpr.1 p hp;rw[Zfz e];exact⟨hk,e⟩
  refine⟨acc,ps,kf H2,rfl,SqL.of hacc,hks,fun fl fs nfl pm up=>?_⟩;have s23:Same H2 (upd H2 fl (.lst (fs.map V.ref))):=Same.new nfl;have hfl:upd H2 fl (.lst (fs.map V.ref)) fl=some (.lst (fs.map V.ref)):=Zab;have hlf2:TuM H2 fs (fs.map (kf H2)):=⟨fun p hp=>hpr.1 p (pm.mem_iff.mp hp),rfl⟩
  have lfp:(fs.map (kf H2)).Perm (prL ls):=by rw[<- hpr.2];exact pm.map _
  have lfs:(fs.map (kf H2)).Pairwise (fun p q=>lxB q p=false):=Ybz.mpr up;have hlf:=hlf2.same s23;generalize fs.map (kf H2)=lf at hlf lfp lfs;generalize upd H2 fl (.lst (fs.map V.ref))=H3 at s23 hfl hlf ⊢;have s03:=s2.trans s23;refine⟨(by show 1<=sizeLine;decide),fun n1 nn1=>?_⟩;have x1:upd H3 n1 (.lst [.non]) n1=some (.lst [.non]):=Zab;have u1:Same H3 (upd H3 n1 (.lst [.non])):=Same.new nn1;generalize upd H3 n1 (.lst [.non])=H4 at x1 u1 ⊢;have s04:=s03.trans u1;refine⟨_,rfl,ll,_,rfl,SqB.orL (SqB.sameL s04 hL),n1,_,_,rfl,rfl,x1,by omega,by rw[Yaa];omega,by rw[Yaa];show 1*_<=_;omega,fun pl npl=>?_⟩;rw[Zmo,Yaa,YaK];have x2:upd H4 pl (.lst (Yan ls.length V.non)) pl=some (.lst (Yan ls.length V.non)):=Zab;have u2:Same H4 (upd H4 pl (.lst (Yan ls.length V.non))):=Same.new npl;generalize upd H4 pl (.lst (Yan ls.length V.non))=H5 at x2 u2 ⊢;have plH:H pl=none:=s04.free npl;have s05:=s04.trans u2;have s35:=u1.trans u2;refine⟨_,rfl,_,rfl,_,rfl,ll,_,rfl,SqB.orL (SqB.sameL s05 hL),?_⟩;rw[Yaa];refine⟨a,rs,N,ls.length,rfl,s05 _ _ hA,hT.same s05,hN,hF,fun gl gs lp H6 ngl hgl hlp lpp lps s6=>?_⟩;have s06:=s05.trans s6;have s36:=s35.trans s6;have hpl6:=s6 _ _ x2;have gll:gs.length=N.flatten.length:=by rw[hlp.len,lpp.length_eq,Zcl]
  have fsl:fs.length=ls.length:=by rw[hlf.len,lfp.length_eq,ZeO]
  have hnd:=ZhH lfp;have hflpl:fl≠pl:=Zae (u1 _ _ hfl) npl;have hglpl:gl≠pl:=Ybn (Zae x2 ngl);refine⟨true,true,fl,gl,rfl,⟨_,SqL.of (s36 _ _ hfl)⟩,⟨_,SqL.of hgl⟩,?_⟩;refine ZjJ (b1:=true) (b2:=true) (xs:=fs.map V.ref) (ys:=(gs.take ls.length).map V.ref) (by rw[Yaa,Yaa,Yav];omega)
   (fun t σ H7=>∃ (o4 o5 o6 o7 o8:Option V) (vs:List V),σ=[some (.ref a),some (.ref ll),some (.ref fl),some (.ref pl),o4,o5,o6,o7,o8]/\H7 pl=some (.lst vs)/\vs.length=ls.length/\(∀ b o,H6 b=some o->b≠pl->H7 b=some o) /\
    (∀ (s:Nat) f p,s<t->lf[s]?=some f->lp[s]?=some p->∃ q,vs[(f.getD 1 0).toNat]?=some (.ref q)/\H7 q=some (.tup [.int (p.getD 1 0),.int (p.getD 2 0)])/\q≠pl))
   ⟨_,_,_,_,_,_,rfl,hpl6,by rw[Ycr],fun _ _ e _=>e,fun s f p h=>absurd h (Ycv _)⟩ ?_ ?_ ?_
  ·rintro i σ H7 _ ⟨_,_,_,_,_,_,_,_,_,fr,_⟩;exact⟨SqL.of (fr _ _ (s36 _ _ hfl) hflpl),SqL.of (fr _ _ hgl hglpl)⟩
  ·rintro t x y u σ H7 hx hy ⟨o4,o5,o6,o7,o8,vs,rfl,hv,hvl,fr,hdone⟩ nu;obtain⟨xa,hxa,rfl⟩:=ZcP hx;obtain⟨ya,hya,rfl⟩:=ZcP hy;have htl:=(Yab.mp hxa).1
   rw[Yb9,if_pos (by (clear hvl hglpl hflpl gll hls hz hle hF hN;omega))] at hya;obtain⟨f,hf,hxf⟩:=hlf.at hxa;obtain⟨p,hp,hyp⟩:=hlp.at hya;have hxpl:xa≠pl:=Zae (u1 _ _ hxf) npl;have hypl:ya≠pl:=fun z=>by rw[z,hpl6] at hyp;cases hyp
   obtain⟨j,l,ef,hj⟩:=ZiI (lfp.mem_iff.mp (Yam hf));obtain⟨r,jj,z,xs,ep,hr',hz'⟩:=Zc9 (lpp.mem_iff.mp (Yam hp));have hjl:=(Yab.mp hj).1
   have hx7:=fr _ _ (s36 _ _ hxf) hxpl;have hy7:=fr _ _ hyp hypl;have su:Same H7 (upd H7 u (.tup [.ref xa,.ref ya])):=Same.new nu;have hu3:upd H7 u (.tup [.ref xa,.ref ya]) u=some (.tup [.ref xa,.ref ya]):=Zab;generalize upd H7 u (.tup [.ref xa,.ref ya])=H8 at su hu3 ⊢;have hx8:H8 xa=some (.tup [.int (-l),.int (j:Int)]):=by have:=su _ _ hx7;rw[ef] at this;exact this
   have hy8:H8 ya=some (.tup [.int z,.int ((0+r:Nat):Int),.int (jj:Int)]):=by have:=su _ _ hy7;rw[ep] at this;exact this
   refine⟨u,_,rfl,SqT.of hu3,rfl,_,_,rfl,xa,_,rfl,SqT.of hx8,rfl,_,_,rfl,_,_,rfl,rfl,_,_,rfl,ya,_,rfl,SqT.of hy8,rfl,_,_,rfl,_,_,rfl,_,_,rfl,rfl,rfl,?_⟩;refine⟨_,rfl,_,rfl,(by show 2<=sizeLine;decide),fun q nq=>?_⟩;have hv8:=su _ _ hv;have hqpl:q≠pl:=Ybn (Zae hv8 nq);have sq:Same H8 (upd H8 q (.tup [.int ((0+r:Nat):Int),.int (jj:Int)])):=Same.new nq;have hq9:upd H8 q (.tup [.int ((0+r:Nat):Int),.int (jj:Int)]) q=some (.tup [.int ((0+r:Nat):Int),.int (jj:Int)]):=Zab;generalize upd H8 q (.tup [.int ((0+r:Nat):Int),.int (jj:Int)])=H9 at sq hq9 ⊢;refine⟨_,rfl,_,rfl,pl,vs,(j:Int),j,rfl,rfl,sq _ _ hv8,?_,?_⟩
   ·have:=Zhc (n:=vs.length) (x:=(j:Int)) (by (clear hqpl hjl hypl hxpl htl hvl hglpl hflpl fsl gll hls hz hle hF hN;omega)) (by (clear hqpl hypl hxpl htl hglpl hflpl fsl gll hls hz hle hF hN;omega))
    rwa [YaK] at this
   refine⟨_,_,_,_,_,vs.set j (.ref q),rfl,Zab,by rw[YcZ];exact hvl,fun b o e hb=>?_,fun s f' p' hs hf' hp'=>?_⟩
   ·rw[Zai hb];exact sq _ _ (su _ _ (fr b o e hb))
   ·by_cases est:s=t
    ·subst est;rw[hf] at hf';rw[hp] at hp';cases hf';cases hp';refine⟨q,?_,?_,hqpl⟩
     ·rw[ef];show (vs.set j (.ref q))[(j:Int).toNat]?=_;rw[YaK];exact YbI (by (clear hs htl hqpl hypl hxpl hglpl hflpl fsl gll hls hz hle hF hN;omega))
     ·rw[Zai hqpl,ep];exact hq9
    ·obtain⟨q',g1,g2,g3⟩:=hdone s f' p' (by (clear hqpl hjl hypl hxpl htl hvl hglpl hflpl fsl gll hls hz hle hF hN;omega)) hf' hp';obtain⟨j',l',ef',hj'⟩:=ZiI (lfp.mem_iff.mp (Yam hf'));have hjj:j≠j':=fun zz=>by
      have a1:(lf.map fun f=>f.getD 1 0)[s]?=some (j':Int):=by rw[Yaf,hf',ef'];rfl
      have a2:(lf.map fun f=>f.getD 1 0)[t]?=some (j:Int):=by rw[Yaf,hf,ef];rfl
      rw[<- zz] at a1;have b1:=Yab.mp a1;have b2:=Yab.mp a2;exact est ((YfD hnd).mp (b1.2.trans b2.2.symm))
     refine⟨q',?_,?_,g3⟩
     ·rw[ef'] at g1 ⊢;have g1:vs[(j':Int).toNat]?=some (.ref q'):=g1;show (vs.set j (.ref q))[(j':Int).toNat]?=_;rw[YaK] at g1 ⊢;rw[YaO hjj];exact g1
     ·rw[Zai g3];exact sq _ _ (su _ _ g2)
  ·rintro σ H7 ⟨o4,o5,o6,o7,o8,vs,rfl,hv,hvl,fr,hdone⟩;rw[Yaa] at hdone;have s07:Same H H7:=fun b o e=>fr b o (s06 _ _ e) (Zae e plH);have lfl:lf.length=ls.length:=by rw[lfp.length_eq,ZeO]
   have lpl:lp.length=N.flatten.length:=by rw[lpp.length_eq,Zcl]
   obtain⟨qs,ks,hvq,hM,hin⟩:=Zkc (H:=H7) (N:=N) (vs:=vs) fun j hj=>by
    obtain⟨l,hl⟩:∃ l,ls[j]?=some l:=⟨_,Yac (by (clear lpl lfl hglpl hflpl fsl gll hls hz hle hF hN;omega))⟩
    obtain⟨s,hs⟩:=Ycq.mp (lfp.mem_iff.mpr (Yam (Znl hl)));have hsl:=(Yab.mp hs).1
    obtain⟨p,hp⟩:∃ p,lp[s]?=some p:=⟨_,Yac (by (clear hj hvl hglpl hflpl fsl gll hls hz hF hN;omega))⟩
    obtain⟨q,g1,g2,g3⟩:=hdone s _ p (by (clear hj lpl hvl hglpl hflpl gll hls hz hle hF hN;omega)) hs hp;obtain⟨r,jj,z,xs,ep,hr',hz'⟩:=Zc9 (lpp.mem_iff.mp (Yam hp));refine⟨q,[p.getD 1 0,p.getD 2 0],?_,g2,r,jj,xs,by rw[ep,YbT];rfl,hr',(Yab.mp hz').1⟩;have g1:vs[(j:Int).toNat]?=some (.ref q):=g1
    rwa [YaK] at g1
   have ksl:ks.length=ls.length:=by rw[<- hM.len,<- hvl,hvq,Yaa]
   rw[hvq] at hv;refine⟨_,rfl,_,rfl,_,rfl,a,ll,pl,b,rs,qs,N,ls,ks,rfl,s07 _ _ hA,hT.same s07,SqB.sameL s07 hL,hv,hM,hin,ksl.symm,hls,hb1,hb2,fun H8 s8=>?_⟩;refine⟨_,rfl,(by show 2<=sizeLine;decide),fun tt ntt=>?_⟩;have s9:Same H8 (upd H8 tt (.tup [.int (ZaQ N ls ks).sum,.ref pl])):=Same.new ntt;have s79:=s8.trans s9;refine k tt pl qs ks lf lp _ ((s07.trans s8).free ntt) Zab plH (s79 _ _ hv) (hM.same s79) hin ⟨ksl,lfp,lfs,lpp,lps,fun t f p hf hp=>?_⟩ (s07.trans s79);have htl:=(Yab.mp hf).1
   obtain⟨q,g1,g2,g3⟩:=hdone t f p (by (clear ksl lpl hvl hglpl hflpl gll hls hz hle hF hN;omega)) hf hp;rw[hvq,Yaf] at g1
   cases eq:qs[(f.getD 1 0).toNat]? with
   | none=>rw[eq] at g1;cases g1
   | some q2=>
    rw[eq] at g1;cases g1;obtain⟨kk,h1,h2⟩:=hM.at eq;have e1:=Zfz h2;have e2:=Zfz (k:=[p.getD 1 0,p.getD 2 0]) g2;rw[h1,<- e1,e2]
end
end Fj89
namespace Fj89
open PySem L2 Lv
theorem len1 {P:List Value->Prop} (us:List Value) (hl:us.length=1) (h:∀ a0:Value,P [a0]):P us:=by
 match us,hl with
 | [a0],_=>exact h a0
theorem len2 {P:List Value->Prop} (us:List Value) (hl:us.length=2) (h:∀ a0 a1:Value,P [a0,a1]):P us:=by
 match us,hl with
 | [a0,a1],_=>exact h a0 a1
theorem len3 {P:List Value->Prop} (us:List Value) (hl:us.length=3) (h:∀ a0 a1 a2:Value,P [a0,a1,a2]):P us:=by
 match us,hl with
 | [a0,a1,a2],_=>exact h a0 a1 a2
theorem len4 {P:List Value->Prop} (us:List Value) (hl:us.length=4) (h:∀ a0 a1 a2 a3:Value,P [a0,a1,a2,a3]):P us:=by
 match us,hl with
 | [a0,a1,a2,a3],_=>exact h a0 a1 a2 a3
theorem all_mk {l:Yd8}{w:World}{K:Yad}{h:Heap}{mg:Str->Option Value}{fa f0 f1 f2 f3 f4 f5 f6 f7 f8 f9 f10 f11 f12 f13 f14 f15 f16 f17 f18 f19 f20 f21 f22 f23 f24 f25 f26 f27 f28 f29 f30 f31 f32 f33 f34 f35 f36 f37 f38 f39 f40 f41 f42 f43 f44 f45 f46 f47 f48 f49:Addr}{tk0 tk1 tk2 tk3 tk4 tk5:Tok} (X:K.In h) (G:h.Ns mainGlobals mg) (hfa:mg "law"=some (.ref fa))
  {od0 an0 od1 an1 od2 an2 od3 an3 od4 an4 od5 an5 od6 an6 od7 an7 od8 an8 od9 an9 od10 an10 od11 an11 od12 an12 od13 an13 od14 an14 od15 an15 od16 an16 od17 an17 od18 an18 od19 an19 od20 an20 od21 an21 od22 an22 od23 an23 od24 an24 od25 an25 od26 an26 od27 an27 od28 an28 od29 an29 od30 an30 od31 an31 od32 an32 od33 an33 od34 an34 od35 an35 od36 an36 od37 an37 od38 an38 od39 an39 od40 an40 od41 an41 od42 an42 od43 an43 od44 an44 od45 an45 od46 an46 od47 an47 od48 an48 od49 an49:Option Addr}{sl0 sl1 sl2 sl3 sl4 sl5 sl6 sl7 sl8 sl9 sl10 sl11 sl12 sl13 sl14 sl15 sl16 sl17 sl18 sl19 sl20 sl21 sl22 sl23 sl24 sl25 sl26 sl27 sl28 sl29 sl30 sl31 sl32 sl33 sl34 sl35 sl36 sl37 sl38 sl39 sl40 sl41 sl42 sl43 sl44 sl45 sl46 sl47 sl48 sl49:Array (Option Value)}{oc0 kV0 dc0 pm0 cd0 ct0 oc1 kV1 dc1 pm1 cd1 ct1 oc2 kV2 dc2 pm2 cd2 ct2 oc3 kV3 dc3 pm3 cd3 ct3 oc4 kV4 dc4 pm4 cd4 ct4 oc5 kV5 dc5 pm5 cd5 ct5 oc6 kV6 dc6 pm6 cd6 ct6 oc7 kV7 dc7 pm7 cd7 ct7 oc8 kV8 dc8 pm8 cd8 ct8 oc9 kV9 dc9 pm9 cd9 ct9 oc10 kV10 dc10 pm10 cd10 ct10 oc11 kV11 dc11 pm11 cd11 ct11 oc12 kV12 dc12 pm12 cd12 ct12 oc13 kV13 dc13 pm13 cd13 ct13 oc14 kV14 dc14 pm14 cd14 ct14 oc15 kV15 dc15 pm15 cd15 ct15 oc16 kV16 dc16 pm16 cd16 ct16 oc17 kV17 dc17 pm17 cd17 ct17 oc18 kV18 dc18 pm18 cd18 ct18 oc19 kV19 dc19 pm19 cd19 ct19 oc20 kV20 dc20 pm20 cd20 ct20 oc21 kV21 dc21 pm21 cd21 ct21 oc22 kV22 dc22 pm22 cd22 ct22 oc23 kV23 dc23 pm23 cd23 ct23 oc24 kV24 dc24 pm24 cd24 ct24 oc25 kV25 dc25 pm25 cd25 ct25 oc26 kV26 dc26 pm26 cd26 ct26 oc27 kV27 dc27 pm27 cd27 ct27 oc28 kV28 dc28 pm28 cd28 ct28 oc29 kV29 dc29 pm29 cd29 ct29 oc30 kV30 dc30 pm30 cd30 ct30 oc31 kV31 dc31 pm31 cd31 ct31 oc32 kV32 dc32 pm32 cd32 ct32 oc33 kV33 dc33 pm33 cd33 ct33 oc34 kV34 dc34 pm34 cd34 ct34 oc35 kV35 dc35 pm35 cd35 ct35 oc36 kV36 dc36 pm36 cd36 ct36 oc37 kV37 dc37 pm37 cd37 ct37 oc38 kV38 dc38 pm38 cd38 ct38 oc39 kV39 dc39 pm39 cd39 ct39 oc40 kV40 dc40 pm40 cd40 ct40 oc41 kV41 dc41 pm41 cd41 ct41 oc42 kV42 dc42 pm42 cd42 ct42 oc43 kV43 dc43 pm43 cd43 ct43 oc44 kV44 dc44 pm44 cd44 ct44 oc45 kV45 dc45 pm45 cd45 ct45 oc46 kV46 dc46 pm46 cd46 ct46 oc47 kV47 dc47 pm47 cd47 ct47 oc48 kV48 dc48 pm48 cd48 ct48 oc49 kV49 dc49 pm49 cd49 ct49:Value}
  {da4:Addr}{doc4:Value}{dod4:Option Addr}{dn4:Nat}{dsl4:Array (Option Value)}{dt4_0:Tok}
  (a0:Yaq K mainGlobals "is_whole"=some (some (.ref f0))) (l0:K.lookup f0=some ⟨oc0,od0,.func (YaA "is_whole" "is_whole" (Zao Zd1) (Zal Zd1) (Zac Zd1) .none kV0 dc0 pm0 an0 cd0 ct0),sl0⟩) (c0:Yat K cd0 "is_whole"=true) (k0:Yao K (.ref f0)=true)
  (a1:Yaq K mainGlobals "is_place"=some (some (.ref f1))) (l1:K.lookup f1=some ⟨oc1,od1,.func (YaA "is_place" "is_place" (Zao ZcX) (Zal ZcX) (Zac ZcX) .none kV1 dc1 pm1 an1 cd1 ct1),sl1⟩) (c1:Yat K cd1 "is_place"=true) (k1:Yao K (.ref f1)=true)
  (a2:Yaq K mainGlobals "is_tuple_of"=some (some (.ref f2))) (l2:K.lookup f2=some ⟨oc2,od2,.func (YaA "is_tuple_of" "is_tuple_of" (Zao Zd2) (Zal Zd2) (Zac Zd2) .none kV2 dc2 pm2 an2 cd2 ct2),sl2⟩) (c2:Yat K cd2 "is_tuple_of"=true) (k2:Yao K (.ref f2)=true)
  (a3:Yaq K mainGlobals "check_ways"=some (some (.ref f3))) (l3:K.lookup f3=some ⟨oc3,od3,.func (YaA "check_ways" "check_ways" (Zao ZhB) (Zal ZhB) (Zac ZhB) .none kV3 dc3 pm3 an3 cd3 ct3),sl3⟩) (c3:Yat K cd3 "check_ways"=true) (k3:Yao K (.ref f3)=true)
  (a4:Yaq K mainGlobals "check_level"=some (some (.ref f4))) (l4:K.lookup f4=some ⟨oc4,od4,.func (YaA "check_level" "check_level" (Zao Zd7) (Zal Zd7) (Zac Zd7) (.ref da4) kV4 dc4 pm4 an4 cd4 ct4),sl4⟩) (c4:Yat K cd4 "check_level"=true) (k4:Yao K (.ref f4)=true)
  (d4:K.lookup da4=some ⟨doc4,dod4,.seq #[.int 300 dt4_0] dn4,dsl4⟩)
  (a5:Yaq K mainGlobals "first_counts"=some (some (.ref f5))) (l5:K.lookup f5=some ⟨oc5,od5,.func (YaA "first_counts" "first_counts" (Zao Zd9) (Zal Zd9) (Zac Zd9) .none kV5 dc5 pm5 an5 cd5 ct5),sl5⟩) (c5:Yat K cd5 "first_counts"=true) (k5:Yao K (.ref f5)=true)
  (a6:Yaq K mainGlobals "next_counts"=some (some (.ref f6))) (l6:K.lookup f6=some ⟨oc6,od6,.func (YaA "next_counts" "next_counts" (Zao Zgm) (Zal Zgm) (Zac Zgm) .none kV6 dc6 pm6 an6 cd6 ct6),sl6⟩) (c6:Yat K cd6 "next_counts"=true) (k6:Yao K (.ref f6)=true)
  (a7:Yaq K mainGlobals "level_counts"=some (some (.ref f7))) (l7:K.lookup f7=some ⟨oc7,od7,.func (YaA "level_counts" "level_counts" (Zao ZcI) (Zal ZcI) (Zac ZcI) .none kV7 dc7 pm7 an7 cd7 ct7),sl7⟩) (c7:Yat K cd7 "level_counts"=true) (k7:Yao K (.ref f7)=true)
  (a8:Yaq K mainGlobals "level_total"=some (some (.ref f8))) (l8:K.lookup f8=some ⟨oc8,od8,.func (YaA "level_total" "level_total" (Zao Zd3) (Zal Zd3) (Zac Zd3) .none kV8 dc8 pm8 an8 cd8 ct8),sl8⟩) (c8:Yat K cd8 "level_total"=true) (k8:Yao K (.ref f8)=true)
  (a9:Yaq K mainGlobals "level_of"=some (some (.ref f9))) (l9:K.lookup f9=some ⟨oc9,od9,.func (YaA "level_of" "level_of" (Zao sOf) (Zal sOf) (Zac sOf) .none kV9 dc9 pm9 an9 cd9 ct9),sl9⟩) (c9:Yat K cd9 "level_of"=true) (k9:Yao K (.ref f9)=true)
  (a10:Yaq K mainGlobals "is_phase"=some (some (.ref f10))) (l10:K.lookup f10=some ⟨oc10,od10,.func (YaA "is_phase" "is_phase" (Zao ZhE) (Zal ZhE) (Zac ZhE) .none kV10 dc10 pm10 an10 cd10 ct10),sl10⟩) (c10:Yat K cd10 "is_phase"=true) (k10:Yao K (.ref f10)=true)
  (a11:Yaq K mainGlobals "merged_row"=some (some (.ref f11))) (l11:K.lookup f11=some ⟨oc11,od11,.func (YaA "merged_row" "merged_row" (Zao ZcE) (Zal ZcE) (Zac ZcE) .none kV11 dc11 pm11 an11 cd11 ct11),sl11⟩) (c11:Yat K cd11 "merged_row"=true) (k11:Yao K (.ref f11)=true)
  (a12:Yaq K mainGlobals "copied_row"=some (some (.ref f12))) (l12:K.lookup f12=some ⟨oc12,od12,.func (YaA "copied_row" "copied_row" (Zao ZhG) (Zal ZhG) (Zac ZhG) .none kV12 dc12 pm12 an12 cd12 ct12),sl12⟩) (c12:Yat K cd12 "copied_row"=true) (k12:Yao K (.ref f12)=true)
  (a13:Yaq K mainGlobals "things_in"=some (some (.ref f13))) (l13:K.lookup f13=some ⟨oc13,od13,.func (YaA "things_in" "things_in" (Zao Zgl) (Zal Zgl) (Zac Zgl) .none kV13 dc13 pm13 an13 cd13 ct13),sl13⟩) (c13:Yat K cd13 "things_in"=true) (k13:Yao K (.ref f13)=true)
  (a14:Yaq K mainGlobals "merged_or_idle"=some (some (.ref f14))) (l14:K.lookup f14=some ⟨oc14,od14,.func (YaA "merged_or_idle" "merged_or_idle" (Zao Zgn) (Zal Zgn) (Zac Zgn) .none kV14 dc14 pm14 an14 cd14 ct14),sl14⟩) (c14:Yat K cd14 "merged_or_idle"=true) (k14:Yao K (.ref f14)=true)
  (a15:Yaq K mainGlobals "taken_at"=some (some (.ref f15))) (l15:K.lookup f15=some ⟨oc15,od15,.func (YaA "taken_at" "taken_at" (Zao Zgk) (Zal Zgk) (Zac Zgk) .none kV15 dc15 pm15 an15 cd15 ct15),sl15⟩) (c15:Yat K cd15 "taken_at"=true) (k15:Yao K (.ref f15)=true)
  (a16:Yaq K mainGlobals "phase_played"=some (some (.ref f16))) (l16:K.lookup f16=some ⟨oc16,od16,.func (YaA "phase_played" "phase_played" (Zao ZdO) (Zal ZdO) (Zac ZdO) .none kV16 dc16 pm16 an16 cd16 ct16),sl16⟩) (c16:Yat K cd16 "phase_played"=true) (k16:Yao K (.ref f16)=true)
  (a17:Yaq K mainGlobals "play_rows"=some (some (.ref f17))) (l17:K.lookup f17=some ⟨oc17,od17,.func (YaA "play_rows" "play_rows" (Zao Zfk) (Zal Zfk) (Zac Zfk) .none kV17 dc17 pm17 an17 cd17 ct17),sl17⟩) (c17:Yat K cd17 "play_rows"=true) (k17:Yao K (.ref f17)=true)
  (a18:Yaq K mainGlobals "level_phases"=some (some (.ref f18))) (l18:K.lookup f18=some ⟨oc18,od18,.func (YaA "level_phases" "level_phases" (Zao sLPh) (Zal sLPh) (Zac sLPh) .none kV18 dc18 pm18 an18 cd18 ct18),sl18⟩) (c18:Yat K cd18 "level_phases"=true) (k18:Yao K (.ref f18)=true)
  (a19:Yaq K mainGlobals "first_many"=some (some (.ref f19))) (l19:K.lookup f19=some ⟨oc19,od19,.func (YaA "first_many" "first_many" (Zao ZhF) (Zal ZhF) (Zac ZhF) .none kV19 dc19 pm19 an19 cd19 ct19),sl19⟩) (c19:Yat K cd19 "first_many"=true) (k19:Yao K (.ref f19)=true)
  (a20:Yaq K mainGlobals "least_join"=some (some (.ref f20))) (l20:K.lookup f20=some ⟨oc20,od20,.func (YaA "least_join" "least_join" (Zao Zcs) (Zal Zcs) (Zac Zcs) .none kV20 dc20 pm20 an20 cd20 ct20),sl20⟩) (c20:Yat K cd20 "least_join"=true) (k20:Yao K (.ref f20)=true)
  (a21:Yaq K mainGlobals "check_total"=some (some (.ref f21))) (l21:K.lookup f21=some ⟨oc21,od21,.func (YaA "check_total" "check_total" (Zao sTot) (Zal sTot) (Zac sTot) .none kV21 dc21 pm21 an21 cd21 ct21),sl21⟩) (c21:Yat K cd21 "check_total"=true) (k21:Yao K (.ref f21)=true)
  (a22:Yaq K mainGlobals "check_places"=some (some (.ref f22))) (l22:K.lookup f22=some ⟨oc22,od22,.func (YaA "check_places" "check_places" (Zao ZcD) (Zal ZcD) (Zac ZcD) .none kV22 dc22 pm22 an22 cd22 ct22),sl22⟩) (c22:Yat K cd22 "check_places"=true) (k22:Yao K (.ref f22)=true)
  (a23:Yaq K mainGlobals "first_numbers"=some (some (.ref f23))) (l23:K.lookup f23=some ⟨oc23,od23,.func (YaA "first_numbers" "first_numbers" (Zao ZcG) (Zal ZcG) (Zac ZcG) .none kV23 dc23 pm23 an23 cd23 ct23),sl23⟩) (c23:Yat K cd23 "first_numbers"=true) (k23:Yao K (.ref f23)=true)
  (a24:Yaq K mainGlobals "next_numbers"=some (some (.ref f24))) (l24:K.lookup f24=some ⟨oc24,od24,.func (YaA "next_numbers" "next_numbers" (Zao ZcZ) (Zal ZcZ) (Zac ZcZ) .none kV24 dc24 pm24 an24 cd24 ct24),sl24⟩) (c24:Yat K cd24 "next_numbers"=true) (k24:Yao K (.ref f24)=true)
  (a25:Yaq K mainGlobals "numbers_after"=some (some (.ref f25))) (l25:K.lookup f25=some ⟨oc25,od25,.func (YaA "numbers_after" "numbers_after" (Zao Zeb) (Zal Zeb) (Zac Zeb) .none kV25 dc25 pm25 an25 cd25 ct25),sl25⟩) (c25:Yat K cd25 "numbers_after"=true) (k25:Yao K (.ref f25)=true)
  (a26:Yaq K mainGlobals "numbers_of"=some (some (.ref f26))) (l26:K.lookup f26=some ⟨oc26,od26,.func (YaA "numbers_of" "numbers_of" (Zao Zd6) (Zal Zd6) (Zac Zd6) .none kV26 dc26 pm26 an26 cd26 ct26),sl26⟩) (c26:Yat K cd26 "numbers_of"=true) (k26:Yao K (.ref f26)=true)
  (a27:Yaq K mainGlobals "places_in"=some (some (.ref f27))) (l27:K.lookup f27=some ⟨oc27,od27,.func (YaA "places_in" "places_in" (Zao Zbn) (Zal Zbn) (Zac Zbn) .none kV27 dc27 pm27 an27 cd27 ct27),sl27⟩) (c27:Yat K cd27 "places_in"=true) (k27:Yao K (.ref f27)=true)
  (a28:Yaq K mainGlobals "numbers_told"=some (some (.ref f28))) (l28:K.lookup f28=some ⟨oc28,od28,.func (YaA "numbers_told" "numbers_told" (Zao ZhC) (Zal ZhC) (Zac ZhC) .none kV28 dc28 pm28 an28 cd28 ct28),sl28⟩) (c28:Yat K cd28 "numbers_told"=true) (k28:Yao K (.ref f28)=true)
  (a29:Yaq K mainGlobals "level_numbers"=some (some (.ref f29))) (l29:K.lookup f29=some ⟨oc29,od29,.func (YaA "level_numbers" "level_numbers" (Zao sLN) (Zal sLN) (Zac sLN) .none kV29 dc29 pm29 an29 cd29 ct29),sl29⟩) (c29:Yat K cd29 "level_numbers"=true) (k29:Yao K (.ref f29)=true)
  (a30:Yaq K mainGlobals "least_places"=some (some (.ref f30))) (l30:K.lookup f30=some ⟨oc30,od30,.func (YaA "least_places" "least_places" (Zao ZcF) (Zal ZcF) (Zac ZcF) .none kV30 dc30 pm30 an30 cd30 ct30),sl30⟩) (c30:Yat K cd30 "least_places"=true) (k30:Yao K (.ref f30)=true)
  (a31:Yaq K mainGlobals "reading_by"=some (some (.ref f31))) (l31:K.lookup f31=some ⟨oc31,od31,.func (YaA "reading_by" "reading_by" (Zao Zb9) (Zal Zb9) (Zac Zb9) .none kV31 dc31 pm31 an31 cd31 ct31),sl31⟩) (c31:Yat K cd31 "reading_by"=true) (k31:Yao K (.ref f31)=true)
  (a32:Yaq K mainGlobals "least_by"=some (some (.ref f32))) (l32:K.lookup f32=some ⟨oc32,od32,.func (YaA "least_by" "least_by" (Zao ZbW) (Zal ZbW) (Zac ZbW) .none kV32 dc32 pm32 an32 cd32 ct32),sl32⟩) (c32:Yat K cd32 "least_by"=true) (k32:Yao K (.ref f32)=true)
  (a33:Yaq K mainGlobals "placing_reading"=some (some (.ref f33))) (l33:K.lookup f33=some ⟨oc33,od33,.func (YaA "placing_reading" "placing_reading" (Zao ZhD) (Zal ZhD) (Zac ZhD) .none kV33 dc33 pm33 an33 cd33 ct33),sl33⟩) (c33:Yat K cd33 "placing_reading"=true) (k33:Yao K (.ref f33)=true)
  (a34:Yaq K mainGlobals "best_by"=some (some (.ref f34))) (l34:K.lookup f34=some ⟨oc34,od34,.func (YaA "best_by" "best_by" (Zao ZcJ) (Zal ZcJ) (Zac ZcJ) .none kV34 dc34 pm34 an34 cd34 ct34),sl34⟩) (c34:Yat K cd34 "best_by"=true) (k34:Yao K (.ref f34)=true)
  (a35:Yaq K mainGlobals "best_placing"=some (some (.ref f35))) (l35:K.lookup f35=some ⟨oc35,od35,.func (YaA "best_placing" "best_placing" (Zao sBPl) (Zal sBPl) (Zac sBPl) .none kV35 dc35 pm35 an35 cd35 ct35),sl35⟩) (c35:Yat K cd35 "best_placing"=true) (k35:Yao K (.ref f35)=true)
  (a36:Yaq K mainGlobals "check_room"=some (some (.ref f36))) (l36:K.lookup f36=some ⟨oc36,od36,.func (YaA "check_room" "check_room" (Zao Zea) (Zal Zea) (Zac Zea) .none kV36 dc36 pm36 an36 cd36 ct36),sl36⟩) (c36:Yat K cd36 "check_room"=true) (k36:Yao K (.ref f36)=true)
  (a37:Yaq K mainGlobals "next_out"=some (some (.ref f37))) (l37:K.lookup f37=some ⟨oc37,od37,.func (YaA "next_out" "next_out" (Zao ZcY) (Zal ZcY) (Zac ZcY) .none kV37 dc37 pm37 an37 cd37 ct37),sl37⟩) (c37:Yat K cd37 "next_out"=true) (k37:Yao K (.ref f37)=true)
  (a38:Yaq K mainGlobals "writing_of"=some (some (.ref f38))) (l38:K.lookup f38=some ⟨oc38,od38,.func (YaA "writing_of" "writing_of" (Zao Zbv) (Zal Zbv) (Zac Zbv) .none kV38 dc38 pm38 an38 cd38 ct38),sl38⟩) (c38:Yat K cd38 "writing_of"=true) (k38:Yao K (.ref f38)=true)
  (a39:Yaq K mainGlobals "writing_holds"=some (some (.ref f39))) (l39:K.lookup f39=some ⟨oc39,od39,.func (YaA "writing_holds" "writing_holds" (Zao Zbw) (Zal Zbw) (Zac Zbw) .none kV39 dc39 pm39 an39 cd39 ct39),sl39⟩) (c39:Yat K cd39 "writing_holds"=true) (k39:Yao K (.ref f39)=true)
  (a40:Yaq K mainGlobals "rows_written"=some (some (.ref f40))) (l40:K.lookup f40=some ⟨oc40,od40,.func (YaA "rows_written" "rows_written" (Zao Zd5) (Zal Zd5) (Zac Zd5) .none kV40 dc40 pm40 an40 cd40 ct40),sl40⟩) (c40:Yat K cd40 "rows_written"=true) (k40:Yao K (.ref f40)=true)
  (a41:Yaq K mainGlobals "fewest_rows"=some (some (.ref f41))) (l41:K.lookup f41=some ⟨oc41,od41,.func (YaA "fewest_rows" "fewest_rows" (Zao ZcH) (Zal ZcH) (Zac ZcH) .none kV41 dc41 pm41 an41 cd41 ct41),sl41⟩) (c41:Yat K cd41 "fewest_rows"=true) (k41:Yao K (.ref f41)=true)
  (a42:Yaq K mainGlobals "_law_folded"=some (some (.ref f42))) (l42:K.lookup f42=some ⟨oc42,od42,.func (YaA "_law_folded" "_law_folded" (Zao Zd8) (Zal Zd8) (Zac Zd8) .none kV42 dc42 pm42 an42 cd42 ct42),sl42⟩) (c42:Yat K cd42 "_law_folded"=true) (k42:Yao K (.ref f42)=true)
  (a43:Yaq K mainGlobals "_law_begun"=some (some (.ref f43))) (l43:K.lookup f43=some ⟨oc43,od43,.func (YaA "_law_begun" "_law_begun" (Zao ZcK) (Zal ZcK) (Zac ZcK) .none kV43 dc43 pm43 an43 cd43 ct43),sl43⟩) (c43:Yat K cd43 "_law_begun"=true) (k43:Yao K (.ref f43)=true)
  (a44:Yaq K mainGlobals "_law_take"=some (some (.ref f44))) (l44:K.lookup f44=some ⟨oc44,od44,.func (YaA "_law_take" "_law_take" (Zao Zd4) (Zal Zd4) (Zac Zd4) .none kV44 dc44 pm44 an44 cd44 ct44),sl44⟩) (c44:Yat K cd44 "_law_take"=true) (k44:Yao K (.ref f44)=true)
  (a45:Yaq K mainGlobals "_law_wide"=some (some (.ref f45))) (l45:K.lookup f45=some ⟨oc45,od45,.func (YaA "_law_wide" "_law_wide" (Zao Zd0) (Zal Zd0) (Zac Zd0) .none kV45 dc45 pm45 an45 cd45 ct45),sl45⟩) (c45:Yat K cd45 "_law_wide"=true) (k45:Yao K (.ref f45)=true)
  (a46:Yaq K mainGlobals "_law_thing"=some (some (.ref f46))) (l46:K.lookup f46=some ⟨oc46,od46,.func (YaA "_law_thing" "_law_thing" (Zao ZcC) (Zal ZcC) (Zac ZcC) .none kV46 dc46 pm46 an46 cd46 ct46),sl46⟩) (c46:Yat K cd46 "_law_thing"=true) (k46:Yao K (.ref f46)=true)
  (a47:Yaq K mainGlobals "_law_things"=some (some (.ref f47))) (l47:K.lookup f47=some ⟨oc47,od47,.func (YaA "_law_things" "_law_things" (Zao Zdy) (Zal Zdy) (Zac Zdy) .none kV47 dc47 pm47 an47 cd47 ct47),sl47⟩) (c47:Yat K cd47 "_law_things"=true) (k47:Yao K (.ref f47)=true)
  (a48:Yaq K mainGlobals "_law_played"=some (some (.ref f48))) (l48:K.lookup f48=some ⟨oc48,od48,.func (YaA "_law_played" "_law_played" (Zao ZcW) (Zal ZcW) (Zac ZcW) .none kV48 dc48 pm48 an48 cd48 ct48),sl48⟩) (c48:Yat K cd48 "_law_played"=true) (k48:Yao K (.ref f48)=true)
  (a49:Yaq K mainGlobals "law"=some (some (.ref f49))) (l49:K.lookup f49=some ⟨oc49,od49,.func (YaA "law" "law" (Zao sLaw) (Zal sLaw) (Zac sLaw) .none kV49 dc49 pm49 an49 cd49 ct49),sl49⟩) (c49:Yat K cd49 "law"=true) (k49:Yao K (.ref f49)=true)
  (y0:Yaq K mainGlobals "LEAST_WAYS"=some (some (.int 2 tk0)))
  (y1:Yaq K mainGlobals "MOST_WAYS"=some (some (.int 7 tk1)))
  (y2:Yaq K mainGlobals "MOST_PLACES"=some (some (.int 4000 tk2)))
  (y3:Yaq K mainGlobals "MOST_ROWS"=some (some (.int 1000000000000000000000000000000000000000000000000000000000000 tk3)))
  (y4:Yaq K mainGlobals "LAST_LEVEL"=some (some (.int 300 tk4)))
  (y5:Yaq K mainGlobals "MOST_ROOM"=some (some (.int 60 tk5)))
  (z0:Yaq K mainGlobals "isinstance"=some none) (z1:Yaq K mainGlobals "int"=some none) (z2:Yaq K mainGlobals "bool"=some none) (z3:Yaq K mainGlobals "list"=some none) (z4:Yaq K mainGlobals "tuple"=some none) (z5:Yaq K mainGlobals "min"=some none) (z6:Yaq K mainGlobals "max"=some none) (z7:Yaq K mainGlobals "len"=some none) (z8:Yaq K mainGlobals "range"=some none) (z9:Yaq K mainGlobals "all"=some none) (z10:Yaq K mainGlobals "sum"=some none) (z11:Yaq K mainGlobals "sorted"=some none) (z12:Yaq K mainGlobals "zip"=some none) (zenumerate:Yaq K mainGlobals "enumerate"=some none) (zabs:Yaq K mainGlobals "abs"=some none) :
  ∃ fd:FuncData,(∀ (s:Shared) (v:Value),BindsTo s fd ⟨[v],[]⟩ [("script",v)])/\∀ base:Heap,K.In base->base.Ns mainGlobals mg->FnOk l.prog w K mg base CX0 8 fa fd ["script"] (Zip K):=by
 have e:=hfa.symm.trans (Yfy X G a49);cases e;have T:Txt mg:=⟨YaW X G z0,YaW X G z1,YaW X G z2,YaW X G z3,YaW X G z4,YaW X G z5,YaW X G z6,YaW X G z7,YaW X G z8,YaW X G z9,YaW X G z10,YaW X G z11,YaW X G z12⟩
 have F0:=Zav (st:=Zd1) l0 c0 k0;have b0:=F0.binds (ps:=["thing"]) fun _ _ _ _ _ _ us hl=>@len1 (fun us=>bindArgs _ ⟨us,[]⟩=pure (Ya5 _ us)) us hl fun _=>rfl;have F1:=Zav (st:=ZcX) l1 c1 k1;have b1:=F1.binds (ps:=["thing","many"]) fun _ _ _ _ _ _ us hl=>@len2 (fun us=>bindArgs _ ⟨us,[]⟩=pure (Ya5 _ us)) us hl fun _ _=>rfl;have F2:=Zav (st:=Zd2) l2 c2 k2;have b2:=F2.binds (ps:=["thing","many"]) fun _ _ _ _ _ _ us hl=>@len2 (fun us=>bindArgs _ ⟨us,[]⟩=pure (Ya5 _ us)) us hl fun _ _=>rfl;have F3:=Zav (st:=ZhB) l3 c3 k3;have b3:=F3.binds (ps:=["p"]) fun _ _ _ _ _ _ us hl=>@len1 (fun us=>bindArgs _ ⟨us,[]⟩=pure (Ya5 _ us)) us hl fun _=>rfl;have F4:=ZmR (st:=Zd7) l4 c4 k4;have b4:=F4.binds (ps:=["n","last"]) d4 rfl [.int 300 dt4_0] ["n"] rfl fun _ _ _ _ _ _ us hl=>match us,hl with | [_],_=>⟨_,rfl,rfl⟩
 have F5:=Zav (st:=Zd9) l5 c5 k5;have b5:=F5.binds (ps:=["p"]) fun _ _ _ _ _ _ us hl=>@len1 (fun us=>bindArgs _ ⟨us,[]⟩=pure (Ya5 _ us)) us hl fun _=>rfl;have F6:=Zav (st:=Zgm) l6 c6 k6;have b6:=F6.binds (ps:=["counts"]) fun _ _ _ _ _ _ us hl=>@len1 (fun us=>bindArgs _ ⟨us,[]⟩=pure (Ya5 _ us)) us hl fun _=>rfl;have F7:=Zav (st:=ZcI) l7 c7 k7;have b7:=F7.binds (ps:=["p","n"]) fun _ _ _ _ _ _ us hl=>@len2 (fun us=>bindArgs _ ⟨us,[]⟩=pure (Ya5 _ us)) us hl fun _ _=>rfl;have F8:=Zav (st:=Zd3) l8 c8 k8;have b8:=F8.binds (ps:=["p","n"]) fun _ _ _ _ _ _ us hl=>@len2 (fun us=>bindArgs _ ⟨us,[]⟩=pure (Ya5 _ us)) us hl fun _ _=>rfl;have F9:=Zav (st:=sOf) l9 c9 k9;have b9:=F9.binds (ps:=["p","rows"]) fun _ _ _ _ _ _ us hl=>@len2 (fun us=>bindArgs _ ⟨us,[]⟩=pure (Ya5 _ us)) us hl fun _ _=>rfl;have F10:=Zav (st:=ZhE) l10 c10 k10;have b10:=F10.binds (ps:=["counts","phase"]) fun _ _ _ _ _ _ us hl=>@len2 (fun us=>bindArgs _ ⟨us,[]⟩=pure (Ya5 _ us)) us hl fun _ _=>rfl;have F11:=Zav (st:=ZcE) l11 c11 k11;have b11:=F11.binds (ps:=["rows"]) fun _ _ _ _ _ _ us hl=>@len1 (fun us=>bindArgs _ ⟨us,[]⟩=pure (Ya5 _ us)) us hl fun _=>rfl;have F12:=Zav (st:=ZhG) l12 c12 k12;have b12:=F12.binds (ps:=["row"]) fun _ _ _ _ _ _ us hl=>@len1 (fun us=>bindArgs _ ⟨us,[]⟩=pure (Ya5 _ us)) us hl fun _=>rfl;have F13:=Zav (st:=Zgl) l13 c13 k13;have b13:=F13.binds (ps:=["rows"]) fun _ _ _ _ _ _ us hl=>@len1 (fun us=>bindArgs _ ⟨us,[]⟩=pure (Ya5 _ us)) us hl fun _=>rfl;have F14:=Zav (st:=Zgn) l14 c14 k14;have b14:=F14.binds (ps:=["rows"]) fun _ _ _ _ _ _ us hl=>@len1 (fun us=>bindArgs _ ⟨us,[]⟩=pure (Ya5 _ us)) us hl fun _=>rfl;have F15:=Zav (st:=Zgk) l15 c15 k15;have b15:=F15.binds (ps:=["taken","at"]) fun _ _ _ _ _ _ us hl=>@len2 (fun us=>bindArgs _ ⟨us,[]⟩=pure (Ya5 _ us)) us hl fun _ _=>rfl;have F16:=Zav (st:=ZdO) l16 c16 k16;have b16:=F16.binds (ps:=["reels","phase"]) fun _ _ _ _ _ _ us hl=>@len2 (fun us=>bindArgs _ ⟨us,[]⟩=pure (Ya5 _ us)) us hl fun _ _=>rfl;have F17:=Zav (st:=Zfk) l17 c17 k17;have b17:=F17.binds (ps:=["reels","phases"]) fun _ _ _ _ _ _ us hl=>@len2 (fun us=>bindArgs _ ⟨us,[]⟩=pure (Ya5 _ us)) us hl fun _ _=>rfl;have F18:=Zav (st:=sLPh) l18 c18 k18;have b18:=F18.binds (ps:=["p","n"]) fun _ _ _ _ _ _ us hl=>@len2 (fun us=>bindArgs _ ⟨us,[]⟩=pure (Ya5 _ us)) us hl fun _ _=>rfl;have F19:=Zav (st:=ZhF) l19 c19 k19;have b19:=F19.binds (ps:=["p","rows"]) fun _ _ _ _ _ _ us hl=>@len2 (fun us=>bindArgs _ ⟨us,[]⟩=pure (Ya5 _ us)) us hl fun _ _=>rfl;have F20:=Zav (st:=Zcs) l20 c20 k20;have b20:=F20.binds (ps:=["p","lengths"]) fun _ _ _ _ _ _ us hl=>@len2 (fun us=>bindArgs _ ⟨us,[]⟩=pure (Ya5 _ us)) us hl fun _ _=>rfl;have F21:=Zav (st:=sTot) l21 c21 k21;have b21:=F21.binds (ps:=["total"]) fun _ _ _ _ _ _ us hl=>@len1 (fun us=>bindArgs _ ⟨us,[]⟩=pure (Ya5 _ us)) us hl fun _=>rfl;have F22:=Zav (st:=ZcD) l22 c22 k22;have b22:=F22.binds (ps:=["p","n"]) fun _ _ _ _ _ _ us hl=>@len2 (fun us=>bindArgs _ ⟨us,[]⟩=pure (Ya5 _ us)) us hl fun _ _=>rfl;have F23:=Zav (st:=ZcG) l23 c23 k23;have b23:=F23.binds (ps:=["p"]) fun _ _ _ _ _ _ us hl=>@len1 (fun us=>bindArgs _ ⟨us,[]⟩=pure (Ya5 _ us)) us hl fun _=>rfl;have F24:=Zav (st:=ZcZ) l24 c24 k24;have b24:=F24.binds (ps:=["numbers"]) fun _ _ _ _ _ _ us hl=>@len1 (fun us=>bindArgs _ ⟨us,[]⟩=pure (Ya5 _ us)) us hl fun _=>rfl;have F25:=Zav (st:=Zeb) l25 c25 k25;have b25:=F25.binds (ps:=["p","n","following"]) fun _ _ _ _ _ _ us hl=>@len3 (fun us=>bindArgs _ ⟨us,[]⟩=pure (Ya5 _ us)) us hl fun _ _ _=>rfl;have F26:=Zav (st:=Zd6) l26 c26 k26;have b26:=F26.binds (ps:=["p","n"]) fun _ _ _ _ _ _ us hl=>@len2 (fun us=>bindArgs _ ⟨us,[]⟩=pure (Ya5 _ us)) us hl fun _ _=>rfl;have F27:=Zav (st:=Zbn) l27 c27 k27;have b27:=F27.binds (ps:=["numbers"]) fun _ _ _ _ _ _ us hl=>@len1 (fun us=>bindArgs _ ⟨us,[]⟩=pure (Ya5 _ us)) us hl fun _=>rfl;have F28:=Zav (st:=ZhC) l28 c28 k28;have b28:=F28.binds (ps:=["p","following"]) fun _ _ _ _ _ _ us hl=>@len2 (fun us=>bindArgs _ ⟨us,[]⟩=pure (Ya5 _ us)) us hl fun _ _=>rfl;have F29:=Zav (st:=sLN) l29 c29 k29;have b29:=F29.binds (ps:=["p","n"]) fun _ _ _ _ _ _ us hl=>@len2 (fun us=>bindArgs _ ⟨us,[]⟩=pure (Ya5 _ us)) us hl fun _ _=>rfl;have F30:=Zav (st:=ZcF) l30 c30 k30;have b30:=F30.binds (ps:=["numbers","many"]) fun _ _ _ _ _ _ us hl=>@len2 (fun us=>bindArgs _ ⟨us,[]⟩=pure (Ya5 _ us)) us hl fun _ _=>rfl;have F31:=Zav (st:=Zb9) l31 c31 k31;have b31:=F31.binds (ps:=["numbers","lengths","placing"]) fun _ _ _ _ _ _ us hl=>@len3 (fun us=>bindArgs _ ⟨us,[]⟩=pure (Ya5 _ us)) us hl fun _ _ _=>rfl;have F32:=Zav (st:=ZbW) l32 c32 k32;have b32:=F32.binds (ps:=["numbers","lengths"]) fun _ _ _ _ _ _ us hl=>@len2 (fun us=>bindArgs _ ⟨us,[]⟩=pure (Ya5 _ us)) us hl fun _ _=>rfl;have F33:=Zav (st:=ZhD) l33 c33 k33;have b33:=F33.binds (ps:=["p","n","lengths","placing"]) fun _ _ _ _ _ _ us hl=>@len4 (fun us=>bindArgs _ ⟨us,[]⟩=pure (Ya5 _ us)) us hl fun _ _ _ _=>rfl;have F34:=Zav (st:=ZcJ) l34 c34 k34;have b34:=F34.binds (ps:=["levels","lengths"]) fun _ _ _ _ _ _ us hl=>@len2 (fun us=>bindArgs _ ⟨us,[]⟩=pure (Ya5 _ us)) us hl fun _ _=>rfl;have F35:=Zav (st:=sBPl) l35 c35 k35;have b35:=F35.binds (ps:=["p","lengths"]) fun _ _ _ _ _ _ us hl=>@len2 (fun us=>bindArgs _ ⟨us,[]⟩=pure (Ya5 _ us)) us hl fun _ _=>rfl;have F36:=Zav (st:=Zea) l36 c36 k36;have b36:=F36.binds (ps:=["room"]) fun _ _ _ _ _ _ us hl=>@len1 (fun us=>bindArgs _ ⟨us,[]⟩=pure (Ya5 _ us)) us hl fun _=>rfl;have F37:=Zav (st:=ZcY) l37 c37 k37;have b37:=F37.binds (ps:=["things","held","writing"]) fun _ _ _ _ _ _ us hl=>@len3 (fun us=>bindArgs _ ⟨us,[]⟩=pure (Ya5 _ us)) us hl fun _ _ _=>rfl;have F38:=Zav (st:=Zbv) l38 c38 k38;have b38:=F38.binds (ps:=["things","room"]) fun _ _ _ _ _ _ us hl=>@len2 (fun us=>bindArgs _ ⟨us,[]⟩=pure (Ya5 _ us)) us hl fun _ _=>rfl;have F39:=Zav (st:=Zbw) l39 c39 k39;have b39:=F39.binds (ps:=["things","room","writing"]) fun _ _ _ _ _ _ us hl=>@len3 (fun us=>bindArgs _ ⟨us,[]⟩=pure (Ya5 _ us)) us hl fun _ _ _=>rfl;have F40:=Zav (st:=Zd5) l40 c40 k40;have b40:=F40.binds (ps:=["things","writing"]) fun _ _ _ _ _ _ us hl=>@len2 (fun us=>bindArgs _ ⟨us,[]⟩=pure (Ya5 _ us)) us hl fun _ _=>rfl;have F41:=Zav (st:=ZcH) l41 c41 k41;have b41:=F41.binds (ps:=["things","room"]) fun _ _ _ _ _ _ us hl=>@len2 (fun us=>bindArgs _ ⟨us,[]⟩=pure (Ya5 _ us)) us hl fun _ _=>rfl;have F42:=Zav (st:=Zd8) l42 c42 k42;have b42:=F42.binds (ps:=["cells","many"]) fun _ _ _ _ _ _ us hl=>@len2 (fun us=>bindArgs _ ⟨us,[]⟩=pure (Ya5 _ us)) us hl fun _ _=>rfl;have F43:=Zav (st:=ZcK) l43 c43 k43;have b43:=F43.binds (ps:=["cell"]) fun _ _ _ _ _ _ us hl=>@len1 (fun us=>bindArgs _ ⟨us,[]⟩=pure (Ya5 _ us)) us hl fun _=>rfl;have F44:=Zav (st:=Zd4) l44 c44 k44;have b44:=F44.binds (ps:=["pot","size"]) fun _ _ _ _ _ _ us hl=>@len2 (fun us=>bindArgs _ ⟨us,[]⟩=pure (Ya5 _ us)) us hl fun _ _=>rfl;have F45:=Zav (st:=Zd0) l45 c45 k45;have b45:=F45.binds (ps:=["pot","size"]) fun _ _ _ _ _ _ us hl=>@len2 (fun us=>bindArgs _ ⟨us,[]⟩=pure (Ya5 _ us)) us hl fun _ _=>rfl;have F46:=Zav (st:=ZcC) l46 c46 k46;have b46:=F46.binds (ps:=["pot","kind"]) fun _ _ _ _ _ _ us hl=>@len2 (fun us=>bindArgs _ ⟨us,[]⟩=pure (Ya5 _ us)) us hl fun _ _=>rfl;have F47:=Zav (st:=Zdy) l47 c47 k47;have b47:=F47.binds (ps:=["pot"]) fun _ _ _ _ _ _ us hl=>@len1 (fun us=>bindArgs _ ⟨us,[]⟩=pure (Ya5 _ us)) us hl fun _=>rfl;have F48:=Zav (st:=ZcW) l48 c48 k48;have b48:=F48.binds (ps:=["p","n","rows","placing"]) fun _ _ _ _ _ _ us hl=>@len4 (fun us=>bindArgs _ ⟨us,[]⟩=pure (Ya5 _ us)) us hl fun _ _ _ _=>rfl;have F49:=Zav (st:=sLaw) l49 c49 k49;refine⟨YaA "law" "law" (Zao sLaw) (Zal sLaw) (Zac sLaw) .none kV49 dc49 pm49 an49 cd49 ct49,fun s v=>.of_eq rfl,fun base _ _=>?_⟩;have m:=fun {x:Str}{v:Value} (a:Yaq K mainGlobals x=some (some v))=>Yfy X G a;have mLEAST_WAYS:=m y0;have mMOST_WAYS:=m y1;have mMOST_PLACES:=m y2;have mMOST_ROWS:=m y3;have mLAST_LEVEL:=m y4;have mMOST_ROOM:=m y5;have Cis_whole:Cal l.prog w K mg base 1 "is_whole" ["thing"] ZbJ _ _:=⟨ZkN F0 T,m a0,k0,b0⟩
 have Cis_place:Cal l.prog w K mg base 2 "is_place" ["thing","many"] ZeD _ _:=⟨Zi4 F1 T Cis_whole,m a1,k1,b1⟩
 have Cplace6:Cal l.prog w K mg base 2 "is_place" ["thing","many"] ZeE _ _:=⟨Zi5 F1 T Cis_whole,m a1,k1,b1⟩
 have Cis_tuple_of:Cal l.prog w K mg base 1 "is_tuple_of" ["thing","many"] Zf3 _ _:=⟨ZkO F2 T,m a2,k2,b2⟩
 have Ccheck_ways:Cal l.prog w K mg base 2 "check_ways" ["p"] Zds _ _:=⟨ZmB F3 T mLEAST_WAYS mMOST_WAYS Cis_whole,m a3,k3,b3⟩
 have Ccheck_level:CalD l.prog w K mg base 2 "check_level" ["n","last"] [.int 300] Zdc _ _:=⟨Zk3 F4 T Cis_whole,m a4,k4,⟨_,b4,.cons ⟨_,rfl⟩ (.nil)⟩⟩
 have Cfirst_counts:Cal l.prog w K mg base 1 "first_counts" ["p"] Zdu _ _:=⟨Zk8 F5 T,m a5,k5,b5⟩
 have Cnext_counts:Cal l.prog w K mg base 1 "next_counts" ["counts"] (Zfh K) _ _:=⟨ZmD F6 T,m a6,k6,b6⟩
 have Clevel_counts:Cal l.prog w K mg base 3 "level_counts" ["p","n"] ZeH _ _:=⟨Zja F7 T Ccheck_ways Ccheck_level Cfirst_counts Cnext_counts,m a7,k7,b7⟩
 have Clevel_total:Cal l.prog w K mg base 4 "level_total" ["p","n"] Zf4 _ _:=⟨ZkP F8 T Clevel_counts,m a8,k8,b8⟩
 have Clevel_of:Cal l.prog w K mg base 3 "level_of" ["p","rows"] (spOf 1000000000000000000000000000000000000000000000000000000000000) _ _:=⟨Zoj F9 T mMOST_ROWS Ccheck_ways Cfirst_counts Cnext_counts,m a9,k9,b9⟩
 have Cis_phase:Cal l.prog w K mg base 3 "is_phase" ["counts","phase"] Zge _ _:=⟨Zk5 F10 T Cis_whole Cis_place Cis_tuple_of,m a10,k10,b10⟩
 have Cmerged_row:Cal l.prog w K mg base 1 "merged_row" ["rows"] Zdb _ _:=⟨Zi6 F11 T,m a11,k11,b11⟩
 have Ccopied_row:Cal l.prog w K mg base 1 "copied_row" ["row"] Zgg _ _:=⟨Zk9 F12 T,m a12,k12,b12⟩
 have Cthings_in:Cal l.prog w K mg base 1 "things_in" ["rows"] Zf8 _ _:=⟨ZkT F13 T,m a13,k13,b13⟩
 have Cmerged_or_idle:Cal l.prog w K mg base 2 "merged_or_idle" ["rows"] Zgf _ _:=⟨Zk6 F14 T Cmerged_row,m a14,k14,b14⟩
 have Ctaken_at:Cal l.prog w K mg base 1 "taken_at" ["taken","at"] Zf6 _ _:=⟨ZkR F15 T,m a15,k15,b15⟩
 have Cphase_played:Cal l.prog w K mg base 3 "phase_played" ["reels","phase"] Zgb _ _:=⟨ZkY F16 T Cmerged_or_idle Ctaken_at Cthings_in,m a16,k16,b16⟩
 have Cplay_rows:Cal l.prog w K mg base 5 "play_rows" ["reels","phases"] Zga _ _:=⟨(ZkX F17 T (YaW X G zenumerate) Ccopied_row Cis_phase Cphase_played).mono (by decide),m a17,k17,b17⟩
 have Clevel_phases:Cal l.prog w K mg base 3 "level_phases" ["p","n"] Zl7 _ _:=⟨Znx F18 T (YaW X G zenumerate) Ccheck_ways Ccheck_level Cfirst_counts Cnext_counts,m a18,k18,b18⟩
 have Cfirst_many:Cal l.prog w K mg base 1 "first_many" ["p","rows"] Ziq _ _:=⟨ZmE F19,m a19,k19,b19⟩
 have Cleast_join:Cal l.prog w K mg base 3 "least_join" ["p","lengths"] (Zgd K) _ _:=⟨Zk2 F20 T (YaW X G zenumerate) Ccheck_ways Cfirst_many,m a20,k20,b20⟩
 have Ccheck_total:Cal l.prog w K mg base 1 "check_total" ["total"] Zl5 _ _:=⟨Znw F21 T mMOST_PLACES,m a21,k21,b21⟩
 have Ccheck_places:Cal l.prog w K mg base 5 "check_places" ["p","n"] ZeC _ _:=⟨Zi3 F22 T Clevel_total Ccheck_total,m a22,k22,b22⟩
 have Cfirst_numbers:Cal l.prog w K mg base 1 "first_numbers" ["p"] Zdd _ _:=⟨Zi9 F23 T,m a23,k23,b23⟩
 have Cnext_numbers:Cal l.prog w K mg base 1 "next_numbers" ["numbers"] ZcB _ _:=⟨Zk1 F24 T,m a24,k24,b24⟩
 have Cnumbers_after:Cal l.prog w K mg base 2 "numbers_after" ["p","n","following"] (Zgi _) _ _:=⟨Zlb F25 T Cfirst_numbers Cnext_numbers,m a25,k25,b25⟩
 have Cnumbers_of:Cal l.prog w K mg base 3 "numbers_of" ["p","n"] Zgc _ _:=⟨ZkZ F26 T Cnext_numbers Cnumbers_after,m a26,k26,b26⟩
 have Cplaces_in:Cal l.prog w K mg base 1 "places_in" ["numbers"] ZbT _ _:=⟨Zgu F27 T,m a27,k27,b27⟩
 have Cnumbers_told:Cal l.prog w K mg base 2 "numbers_told" ["p","following"] (Zf5 _) _ _:=⟨ZkQ F28 T mMOST_PLACES Cfirst_numbers Cplaces_in Cnext_numbers,m a28,k28,b28⟩
 have Clevel_numbers:Cal l.prog w K mg base 6 "level_numbers" ["p","n"] Zgc _ _:=⟨Zok F29 T Ccheck_places Cnumbers_of,m a29,k29,b29⟩
 have Cleast_places:Cal l.prog w K mg base 1 "least_places" ["numbers","many"] ZeF _ _:=⟨Zi7 F30 T (YaW X G zenumerate),m a30,k30,b30⟩
 have Creading_by:Cal l.prog w K mg base 1 "reading_by" ["numbers","lengths","placing"] (Zda K) _ _:=⟨Zi2 F31 T,m a31,k31,b31⟩
 have Cleast_by:Cal l.prog w K mg base 2 "least_by" ["numbers","lengths"] (Zdt K) _ _:=⟨ZhR F32 T (YaW X G zenumerate) Cleast_places Creading_by,m a32,k32,b32⟩
 have Cplacing_reading:Cal l.prog w K mg base 7 "placing_reading" ["p","n","lengths","placing"] (Zio K) _ _:=⟨ZmC F33 T Creading_by Clevel_numbers,m a33,k33,b33⟩
 have Cbest_by:Cal l.prog w K mg base 3 "best_by" ["levels","lengths"] (Zdw K) _ _:=⟨ZhT F34 T (YaW X G zenumerate) Cplaces_in Cleast_by,m a34,k34,b34⟩
 have Cbest_placing:Cal l.prog w K mg base 4 "best_placing" ["p","lengths"] (Zl8 K) _ _:=⟨Zny F35 T Ccheck_ways Cnext_numbers Cnumbers_told Cbest_by,m a35,k35,b35⟩
 have Ccheck_room:Cal l.prog w K mg base 2 "check_room" ["room"] ZeI _ _:=⟨Zla F36 T mMOST_ROOM Cis_whole,m a36,k36,b36⟩
 have Cnext_out:Cal l.prog w K mg base 1 "next_out" ["things","held","writing"] (Zl6 K) _ _:=⟨Zk0 F37 T,m a37,k37,b37⟩
 have Cwriting_of:Cal l.prog w K mg base 3 "writing_of" ["things","room"] (Zcp K) _ _:=⟨ZhQ F38 T Ccheck_room Cnext_out,m a38,k38,b38⟩
 have Cwriting_holds:Cal l.prog w K mg base 3 "writing_holds" ["things","room","writing"] (ZeG K) _ _:=⟨Zi8 F39 T (YaW X G zenumerate) Ccheck_room Cplace6,m a39,k39,b39⟩
 have Crows_written:Cal l.prog w K mg base 1 "rows_written" ["things","writing"] (ZeB K) _ _:=⟨ZkV F40 T,m a40,k40,b40⟩
 have Cfewest_rows:Cal l.prog w K mg base 4 "fewest_rows" ["things","room"] (Zdv K) _ _:=⟨ZhS F41 T Crows_written Cwriting_of,m a41,k41,b41⟩
 have C_law_folded:Cal l.prog w K mg base 1 "_law_folded" ["cells","many"] (Zir K) _ _:=⟨Zk7 F42 T (YaW X G zenumerate),m a42,k42,b42⟩
 have C_law_begun:Cal l.prog w K mg base 1 "_law_begun" ["cell"] Zgh _ _:=⟨Zjb F43 T (YaW X G zabs),m a43,k43,b43⟩
 have C_law_take:Cal l.prog w K mg base 1 "_law_take" ["pot","size"] Zb8 _ _:=⟨ZkU F44 T,m a44,k44,b44⟩
 have C_law_wide:Cal l.prog w K mg base 2 "_law_wide" ["pot","size"] Zf2 _ _:=⟨ZkM F45 T C_law_take,m a45,k45,b45⟩
 have C_law_thing:Cal l.prog w K mg base 3 "_law_thing" ["pot","kind"] ZeA _ _:=⟨Zi1 F46 T C_law_take C_law_wide,m a46,k46,b46⟩
 have C_law_things:Cal l.prog w K mg base 4 "_law_things" ["pot"] Zf7 _ _:=⟨ZkS F47 T C_law_take C_law_thing,m a47,k47,b47⟩
 have C_law_played:Cal l.prog w K mg base 7 "_law_played" ["p","n","rows","placing"] Zf9 _ _:=⟨ZkW F48 T Clevel_numbers Cplay_rows Clevel_phases,m a48,k48,b48⟩
 exact Zk4 F49 (by decide) T C_law_folded C_law_begun C_law_take C_law_things Cwriting_of Crows_written Cwriting_holds Cfewest_rows Cmerged_row Cbest_placing C_law_played Cplacing_reading Cleast_join Clevel_of
theorem walk {l:Yd8}{q:Program}{loose:List Str}{XP:(Str->Option Value)->Heap->Prop}{YP:World->Heap->Prop}{d:DefRec}{K:Params->Yad} (hn:l.most=some 63) (hdf:d.params.defaults=[])
  (hY:∀ (w:World) (h:Heap),YP w h->(K w.params).In h)
  (F:∀ (w:World) (mg:Str->Option Value) (fa:Addr) (h:Heap),(K w.params).In h->h.Ns mainGlobals mg->mg d.name=some (.ref fa) ->
   ∃ fd:FuncData,(∀ (s:Shared) (u:Value),BindsTo s fd ⟨[u],[]⟩ [("script",u)])/\∀ base:Heap,(K w.params).In base->base.Ns mainGlobals mg->FnOk l.prog w (K w.params) mg base CX0 8 fa fd ["script"] (Zip (K w.params))) :
  Yfz q loose XP YP l.row.toRowW d [] (fun f vs=>Yfj f vs) :=
 L2.walk_of (n:=63) (k:=8) (x:="script") (CX:=fun _=>CX0) (sp:=fun w=>Zip (K w.params)) hn (by decide) hdf ⟨rfl,by decide,by decide,rfl⟩ hY F (fun _ _ a ns hl _ hS=>⟨a,ns,rfl,hS,hl,fun _=>rfl⟩) fun _ _ _ _ _ z=>z
end Fj89
def PySem.W.Fast.tw5232070921723206170 : Unit := ()
def PySem.W.Fast.tw11102641534351215303 : Unit := ()
def PySem.W.Fast.tw892401208066988554 : Unit := ()
def PySem.W.Fast.tw18437579664828562658 : Unit := ()
def PySem.W.Fast.tw16070719293210380201 : Unit := ()
def PySem.W.Fast.tw13480595835017521068 : Unit := ()
def PySem.W.Fast.tw14337408104053176956 : Unit := ()
def PySem.W.Fast.tw1249853412355315268 : Unit := ()
def PySem.W.Fast.tw17711646746543610033 : Unit := ()
def PySem.W.Fast.tw16838782559869532771 : Unit := ()
def PySem.W.Fast.tw8889171855837795409 : Unit := ()
def PySem.W.Fast.tw14386779911153562330 : Unit := ()
def PySem.W.Fast.tw3256200502238077021 : Unit := ()
def PySem.W.Fast.tw3874603028458274796 : Unit := ()
def PySem.W.Fast.tw2534580847821414274 : Unit := ()
def PySem.W.Fast.tw7831877345108404513 : Unit := ()
def PySem.W.Fast.tw18256317157913586706 : Unit := ()
def PySem.W.Fast.tw13760558275186859954 : Unit := ()
def PySem.W.Fast.tw914529874098025569 : Unit := ()
def PySem.W.Fast.tw9628865393955363235 : Unit := ()
def PySem.W.Fast.tw7913414020746353490 : Unit := ()
def PySem.W.Fast.tw9269145901501384965 : Unit := ()
def PySem.W.Fast.tw4013853645884597892 : Unit := ()
def PySem.W.Fast.tw18037781875102144994 : Unit := ()
def PySem.W.Fast.tw16154723161796814255 : Unit := ()
def PySem.W.Fast.tw6528985144611107567 : Unit := ()
def PySem.W.Fast.tw15780532574643197924 : Unit := ()
def PySem.W.Fast.tw2192036656237172626 : Unit := ()
def PySem.W.Fast.tw13137562978840374929 : Unit := ()
def PySem.W.Fast.tw17246296110462158419 : Unit := ()
def PySem.W.Fast.tw7129310073750051532 : Unit := ()
def PySem.W.Fast.tw4307708528622529813 : Unit := ()
def PySem.W.Fast.tw15399374159111787671 : Unit := ()
def PySem.W.Fast.tw14704329241988437341 : Unit := ()
def PySem.W.Fast.tw16311827790304220358 : Unit := ()
def PySem.W.Fast.tw11798758956497827482 : Unit := ()
def PySem.W.Fast.tw16453323707923132273 : Unit := ()
def PySem.W.Fast.tw8983335937576880276 : Unit := ()
def PySem.W.Fast.tw17442969367416738299 : Unit := ()
def PySem.W.Fast.tw7319621947680239347 : Unit := ()
def PySem.W.Fast.tw3437508926321144742 : Unit := ()
def PySem.W.Fast.tw9345748394006008597 : Unit := ()
def PySem.W.Fast.tw5319164096044634385 : Unit := ()
def PySem.W.Fast.tw15860776907216448652 : Unit := ()
def PySem.W.Fast.tw15013017366124129167 : Unit := ()
def PySem.W.Fast.tw15013060170704564439 : Unit := ()
def PySem.W.Fast.tw4777646681725513668 : Unit := ()
def PySem.W.Fast.tw12877699322621203472 : Unit := ()
def PySem.W.Fast.tw13396035694906077035 : Unit := ()
def PySem.W.Fast.tw13918034720580700978 : Unit := ()
def PySem.W.Fast.tw4482750640205028665 : Unit := ()
def PySem.W.Fast.tw987069829075665586 : Unit := ()
def PySem.W.Fast.tw7955959142009266053 : Unit := ()
def PySem.W.Fast.tw12994993826633401874 : Unit := ()
def PySem.W.Fast.tw14872405879157701051 : Unit := ()
def PySem.W.Fast.tw13784338911506473365 : Unit := ()
def PySem.W.Fast.tw1465374257699306421 : Unit := ()
def PySem.W.Fast.tw17243426484772174833 : Unit := ()
def PySem.W.Fast.tw3138517610530306778 : Unit := ()
def PySem.W.Fast.tw8846029493386324930 : Unit := ()
def PySem.W.Fast.tw11076484514189268404 : Unit := ()
def PySem.W.Fast.tw12511837108747413000 : Unit := ()
def PySem.W.Fast.tw8626322680266182576 : Unit := ()
def PySem.W.Fast.tw4974999401264730992 : Unit := ()
def PySem.W.Fast.tw13025705135200525638 : Unit := ()
def PySem.W.Fast.tw9584817355071858939 : Unit := ()
def PySem.W.Fast.tw6353597803048518726 : Unit := ()
def PySem.W.Fast.tw6455745568830576529 : Unit := ()
def PySem.W.Fast.tw8532988259446288650 : Unit := ()
def PySem.W.Fast.tw16862095228401224666 : Unit := ()
def PySem.W.Fast.tw2297615214272471749 : Unit := ()
def PySem.W.Fast.tw2259634690759533523 : Unit := ()
def PySem.W.Fast.tw11322680472952799531 : Unit := ()
def PySem.W.Fast.tw13746915646867872849 : Unit := ()
def PySem.W.Fast.tw9957652937161664108 : Unit := ()
def PySem.W.Fast.tw6947925961688280324 : Unit := ()
def PySem.W.Fast.tw14768393161066950165 : Unit := ()
def PySem.W.Fast.tw14638842997851474597 : Unit := ()
def PySem.W.Fast.tw2458363113160562858 : Unit := ()
def PySem.W.Fast.tw12550557966962459743 : Unit := ()
def PySem.W.Fast.tw12846761595932967148 : Unit := ()
def PySem.W.Fast.tw10934622807390229470 : Unit := ()
def PySem.W.Fast.tw5372260813778230096 : Unit := ()
def PySem.W.Fast.tw10169262840528020176 : Unit := ()
def PySem.W.Fast.tw1986913560523558223 : Unit := ()
def PySem.W.Fast.tw16200753073256818415 : Unit := ()
def PySem.W.Fast.tw1836180309778990012 : Unit := ()
def PySem.W.Fast.tw18345809228571410097 : Unit := ()
def PySem.W.Fast.tw4455628272235703784 : Unit := ()
def PySem.W.Fast.tw13955871098117967595 : Unit := ()
def PySem.W.Fast.tw9641964522408953428 : Unit := ()
def PySem.W.Fast.tw166622528265561234 : Unit := ()
def PySem.W.Fast.tw14301778152764074872 : Unit := ()
def PySem.W.Fast.tw9644944800452411872 : Unit := ()
def PySem.W.Fast.tw7075010457250387015 : Unit := ()
def PySem.W.Fast.tw17740155798042094073 : Unit := ()
def PySem.W.Fast.tw13255130654172617620 : Unit := ()
def PySem.W.Fast.tw6689076021320716041 : Unit := ()
def PySem.W.Fast.tw1319940884449294880 : Unit := ()
def PySem.W.Fast.tw12677768739175722674 : Unit := ()
def PySem.W.Fast.tw11870657887989800173 : Unit := ()
def PySem.W.Fast.tw1433335712448911985 : Unit := ()
def PySem.W.Fast.tw10741492744472321842 : Unit := ()
def PySem.W.Fast.tw12609571993179310129 : Unit := ()
def PySem.W.Fast.tw10826183312950298787 : Unit := ()
def PySem.W.Fast.tw4666111432816958606 : Unit := ()
def PySem.W.Fast.tw6224884518986990411 : Unit := ()
def PySem.W.Fast.tw18321990659566682996 : Unit := ()
def PySem.W.Fast.tw11139940282648201098 : Unit := ()
def PySem.W.Fast.tw2356992203646102502 : Unit := ()
def PySem.W.Fast.tw10147002056893155402 : Unit := ()
def PySem.W.Fast.tw18403109798790585531 : Unit := ()
def PySem.W.Fast.tw14664188594686495858 : Unit := ()
def PySem.W.Fast.tw11760763391068828145 : Unit := ()
def PySem.W.Fast.tw12966908356819459344 : Unit := ()
def PySem.W.Fast.tw12846192803221216920 : Unit := ()
def PySem.W.Fast.tw5971946177781259848 : Unit := ()
def PySem.W.Fast.tw2811102917702693432 : Unit := ()
def PySem.W.Fast.tw13463338708332249165 : Unit := ()
def PySem.W.Fast.tw6335169517987803946 : Unit := ()
def PySem.W.Fast.tw9373335451910657120 : Unit := ()
def PySem.W.Fast.tw11748611160296389871 : Unit := ()
def PySem.W.Fast.tw10147132233255875687 : Unit := ()
def PySem.W.Fast.tw4309191849788321838 : Unit := ()
def PySem.W.Fast.tw10651517969990257425 : Unit := ()
def PySem.W.Fast.tw11929682922818392272 : Unit := ()
def PySem.W.Fast.tw17027994522407425649 : Unit := ()
def PySem.W.Fast.tw7153562948886468681 : Unit := ()
def PySem.W.Fast.tw5643717054081133305 : Unit := ()
def PySem.W.Fast.tw3577328321582383562 : Unit := ()
def PySem.W.Fast.tw5650216739372547895 : Unit := ()
def PySem.W.Fast.tw6599269117452063643 : Unit := ()
def PySem.W.Fast.tw6980476838134315467 : Unit := ()
def PySem.W.Fast.tw10396645981690180697 : Unit := ()
def PySem.W.Fast.tw11387513874461933919 : Unit := ()
def PySem.W.Fast.tw17887479882255080926 : Unit := ()
def PySem.W.Fast.tw8302966360506492465 : Unit := ()
def PySem.W.Fast.tw9179452108924195972 : Unit := ()
def PySem.W.Fast.tw986410169392873998 : Unit := ()
def PySem.W.Fast.tw17123536755691695400 : Unit := ()
def PySem.W.Fast.tw4775957744317080563 : Unit := ()
def PySem.W.Fast.tw2543032774716602220 : Unit := ()
def PySem.W.Fast.tw16376925948329856119 : Unit := ()
def PySem.W.Fast.tw638064949063313587 : Unit := ()
def PySem.W.Fast.tw13256708530106011692 : Unit := ()
def PySem.W.Fast.tw4183193749182359174 : Unit := ()
def PySem.W.Fast.tw13627444408803888216 : Unit := ()
def PySem.W.Fast.tw4580132699820733548 : Unit := ()
def PySem.W.Fast.tw13201489277816369610 : Unit := ()
def PySem.W.Fast.tw15760866351299595985 : Unit := ()
def PySem.W.Fast.tw2724781298970348638 : Unit := ()
def PySem.W.Fast.tw18367930204363601970 : Unit := ()
def PySem.W.Fast.tw16013032443661561838 : Unit := ()
def PySem.W.Fast.tw17631192339511782849 : Unit := ()
def PySem.W.Fast.tw7123983622957501058 : Unit := ()
def PySem.W.Fast.tw1790760985786352786 : Unit := ()
def PySem.W.Fast.tw12229702482694305943 : Unit := ()
def PySem.W.Fast.tw17224930809874458070 : Unit := ()
def PySem.W.Fast.tw13257765746198193180 : Unit := ()
def PySem.W.Fast.tw2540584555110416978 : Unit := ()
def PySem.W.Fast.tw16333715125566812851 : Unit := ()
def PySem.W.Fast.tw3958652966814059189 : Unit := ()
def PySem.W.Fast.tw3446675604233600331 : Unit := ()
def PySem.W.Fast.tw13400039630082174598 : Unit := ()
def PySem.W.Fast.tw15042721498472913639 : Unit := ()
def PySem.W.Fast.tw13096102421029356437 : Unit := ()
def PySem.W.Fast.tw6870703995573356742 : Unit := ()
def PySem.W.Fast.tw17342087961418047974 : Unit := ()
def PySem.W.Fast.tw8444600647002916960 : Unit := ()
def PySem.W.Fast.tw14810397119073716050 : Unit := ()
def PySem.W.Fast.tw15525397547902018738 : Unit := ()
def PySem.W.Fast.tw18127140899625395131 : Unit := ()
def PySem.W.Fast.tw10734176745087376895 : Unit := ()
def PySem.W.Fast.tw11608012922807898604 : Unit := ()
def PySem.W.Fast.tw10444181318470080989 : Unit := ()
def PySem.W.Fast.tw4487577569930746208 : Unit := ()
def PySem.W.Fast.tw1535159375888449419 : Unit := ()
def PySem.W.Fast.tw2479826645877473708 : Unit := ()
def PySem.W.Fast.tw13646166844039159143 : Unit := ()
def PySem.W.Fast.tw2009992949815465132 : Unit := ()
def PySem.W.Fast.tw8920281372536483 : Unit := ()
def PySem.W.Fast.tw17459775263017991821 : Unit := ()
def PySem.W.Fast.tw11035534571469562684 : Unit := ()
def PySem.W.Fast.tw224492833841898168 : Unit := ()
def PySem.W.Fast.tw14537193718849514893 : Unit := ()
def PySem.W.Fast.tw7661944338020444143 : Unit := ()
def PySem.W.Fast.tw16758173393434739685 : Unit := ()
def PySem.W.Fast.tw9806564964869545666 : Unit := ()
def PySem.W.Fast.tw10895236205307183651 : Unit := ()
def PySem.W.Fast.tw7976499228462839701 : Unit := ()
def PySem.W.Fast.tw9771431296973761261 : Unit := ()
def PySem.W.Fast.tw12292973796451390747 : Unit := ()
def PySem.W.Fast.tw17813085664808022050 : Unit := ()
def PySem.W.Fast.tw5701112644223260391 : Unit := ()
def PySem.W.Fast.tw6028819387873255596 : Unit := ()
def PySem.W.Fast.tw2166032191766466288 : Unit := ()
def PySem.W.Fast.tw12556501190293798647 : Unit := ()
def PySem.W.Fast.tw14356433426681433160 : Unit := ()
def PySem.W.Fast.tw10404034593782576679 : Unit := ()
def PySem.W.Fast.tw6721048404620347036 : Unit := ()
def PySem.W.Fast.tw5650677740361295339 : Unit := ()
def PySem.W.Fast.tw13924224293962943895 : Unit := ()
def PySem.W.Fast.tw8503437395903813031 : Unit := ()
def PySem.W.Fast.tw3757996692669610710 : Unit := ()
def PySem.W.Fast.tw17609793034639021683 : Unit := ()
def PySem.W.Fast.tw1696138767886118239 : Unit := ()
def PySem.W.Fast.tw17755212582375141055 : Unit := ()
def PySem.W.Fast.tw11947258950647617167 : Unit := ()
def PySem.W.Fast.tw16959550721376741504 : Unit := ()
def PySem.W.Fast.tw2250416376234398079 : Unit := ()
def PySem.W.Fast.tw15982392683070078212 : Unit := ()
def PySem.W.Fast.tw17371242535553472089 : Unit := ()
def PySem.W.Fast.tw10295857928422739591 : Unit := ()
def PySem.W.Fast.tw11499088689020944137 : Unit := ()
def PySem.W.Fast.tw13783997071840909434 : Unit := ()
def PySem.W.Fast.tw5215312845192447957 : Unit := ()
def PySem.W.Fast.tw18276060982593482345 : Unit := ()
def PySem.W.Fast.tw13513411210573767117 : Unit := ()
def PySem.W.Fast.tw8340912925320089752 : Unit := ()
def PySem.W.Fast.tw18408756989444742544 : Unit := ()
def PySem.W.Fast.tw17670289629296664075 : Unit := ()
def PySem.W.Fast.tw9602011884008580010 : Unit := ()
def PySem.W.Fast.tw13776469924815249487 : Unit := ()
def PySem.W.Fast.tw14043942848634706320 : Unit := ()
def PySem.W.Fast.tw9205029345923999571 : Unit := ()
def PySem.W.Fast.tw18150770385791769879 : Unit := ()
def PySem.W.Fast.tw12895326430924049514 : Unit := ()
def PySem.W.Fast.tw14992265411038312704 : Unit := ()
def PySem.W.Fast.tw3902479801359588288 : Unit := ()
def PySem.W.Fast.tw15098407331636216297 : Unit := ()
def PySem.W.Fast.tw1517392234274912698 : Unit := ()
def PySem.W.Fast.tw18174053140005793946 : Unit := ()
def PySem.W.Fast.tw305572327013155887 : Unit := ()
def PySem.W.Fast.tw5263377741837535415 : Unit := ()
def PySem.W.Fast.tw12965667791099230574 : Unit := ()
def PySem.W.Fast.tw10809231695546501108 : Unit := ()
def PySem.W.Fast.tw16207955559054274205 : Unit := ()
def PySem.W.Fast.tw824449844345450021 : Unit := ()
def PySem.W.Fast.tw13720821933638952183 : Unit := ()
def PySem.W.Fast.tw17488317777358193573 : Unit := ()
def PySem.W.Fast.tw7031389036905170958 : Unit := ()
def PySem.W.Fast.tw5265248101440137735 : Unit := ()
def PySem.W.Fast.tw5839869097933704434 : Unit := ()
def PySem.W.Fast.tw14534474089289824437 : Unit := ()
def PySem.W.Fast.tw2944845853660608026 : Unit := ()
def PySem.W.Fast.tw4331545512513359294 : Unit := ()
def PySem.W.Fast.tw7495494112775435203 : Unit := ()
def PySem.W.Fast.tw7142521848953069129 : Unit := ()
def PySem.W.Fast.tw6809910571929225695 : Unit := ()
def PySem.W.Fast.tw12612773308633425668 : Unit := ()
def PySem.W.Fast.tw4968687021017624242 : Unit := ()
def PySem.W.Fast.tw15360945983041927394 : Unit := ()
def PySem.W.Fast.tw16144035191294466914 : Unit := ()
def PySem.W.Fast.tw5344567868803914700 : Unit := ()
def PySem.W.Fast.tw10939554979629482279 : Unit := ()
def PySem.W.Fast.tw15886542393571125228 : Unit := ()
def PySem.W.Fast.tw5778005318761564631 : Unit := ()
def PySem.W.Fast.tw16301838891596394537 : Unit := ()
def PySem.W.Fast.tw1019584597161014384 : Unit := ()
def PySem.W.Fast.tw9079392188656532679 : Unit := ()
def PySem.W.Fast.tw8656356243568990525 : Unit := ()
open PySem PySem.W PyProof.Rows
set_option maxRecDepth 100000 in
set_option maxHeartbeats 0 in
theorem PySem.Challenge.cw_fewreels_k89_whole_from_store_to_one_row_holds : PySem.Challenge.rw_fewreels_k89_whole_from_store_to_one_row.Holds := by
  w_on; o_law; k_head; (case hw => w_witness2)
  k_fill
  refine Fj89.walk (l := PySem.Challenge.rw_fewreels_k89_whole_from_store_to_one_row) rfl rfl (fun w h Y => PySem.W.kIn_of Y) ?F
  case F =>
    intro w mg fa h KX G hmg
    refine' Fj89.all_mk KX G hmg ?a0 ?l0 ?c0 ?k0 ?a1 ?l1 ?c1 ?k1 ?a2 ?l2 ?c2 ?k2 ?a3 ?l3 ?c3 ?k3 ?a4 ?l4 ?c4 ?k4 ?d4 ?a5 ?l5 ?c5 ?k5 ?a6 ?l6 ?c6 ?k6 ?a7 ?l7 ?c7 ?k7 ?a8 ?l8 ?c8 ?k8 ?a9 ?l9 ?c9 ?k9 ?a10 ?l10 ?c10 ?k10 ?a11 ?l11 ?c11 ?k11 ?a12 ?l12 ?c12 ?k12 ?a13 ?l13 ?c13 ?k13 ?a14 ?l14 ?c14 ?k14 ?a15 ?l15 ?c15 ?k15 ?a16 ?l16 ?c16 ?k16 ?a17 ?l17 ?c17 ?k17 ?a18 ?l18 ?c18 ?k18 ?a19 ?l19 ?c19 ?k19 ?a20 ?l20 ?c20 ?k20 ?a21 ?l21 ?c21 ?k21 ?a22 ?l22 ?c22 ?k22 ?a23 ?l23 ?c23 ?k23 ?a24 ?l24 ?c24 ?k24 ?a25 ?l25 ?c25 ?k25 ?a26 ?l26 ?c26 ?k26 ?a27 ?l27 ?c27 ?k27 ?a28 ?l28 ?c28 ?k28 ?a29 ?l29 ?c29 ?k29 ?a30 ?l30 ?c30 ?k30 ?a31 ?l31 ?c31 ?k31 ?a32 ?l32 ?c32 ?k32 ?a33 ?l33 ?c33 ?k33 ?a34 ?l34 ?c34 ?k34 ?a35 ?l35 ?c35 ?k35 ?a36 ?l36 ?c36 ?k36 ?a37 ?l37 ?c37 ?k37 ?a38 ?l38 ?c38 ?k38 ?a39 ?l39 ?c39 ?k39 ?a40 ?l40 ?c40 ?k40 ?a41 ?l41 ?c41 ?k41 ?a42 ?l42 ?c42 ?k42 ?a43 ?l43 ?c43 ?k43 ?a44 ?l44 ?c44 ?k44 ?a45 ?l45 ?c45 ?k45 ?a46 ?l46 ?c46 ?k46 ?a47 ?l47 ?c47 ?k47 ?a48 ?l48 ?c48 ?k48 ?a49 ?l49 ?c49 ?k49 ?y0 ?y1 ?y2 ?y3 ?y4 ?y5 ?z0 ?z1 ?z2 ?z3 ?z4 ?z5 ?z6 ?z7 ?z8 ?z9 ?z10 ?z11 ?z12 ?zenumerate ?zabs
    (case a0 => k_is); (case l0 => k_is); (case c0 => k_is); (case k0 => k_is); (case a1 => k_is); (case l1 => k_is)
    (case c1 => k_is); (case k1 => k_is); (case a2 => k_is); (case l2 => k_is); (case c2 => k_is); (case k2 => k_is)
    (case a3 => k_is); (case l3 => k_is); (case c3 => k_is); (case k3 => k_is); (case a4 => k_is); (case l4 => k_is)
    (case c4 => k_is); (case k4 => k_is); (case d4 => k_is); (case a5 => k_is); (case l5 => k_is); (case c5 => k_is)
    (case k5 => k_is); (case a6 => k_is); (case l6 => k_is); (case c6 => k_is); (case k6 => k_is); (case a7 => k_is)
    (case l7 => k_is); (case c7 => k_is); (case k7 => k_is); (case a8 => k_is); (case l8 => k_is); (case c8 => k_is)
    (case k8 => k_is); (case a9 => k_is); (case l9 => k_is); (case c9 => k_is); (case k9 => k_is); (case a10 => k_is)
    (case l10 => k_is); (case c10 => k_is); (case k10 => k_is); (case a11 => k_is); (case l11 => k_is); (case c11 => k_is)
    (case k11 => k_is); (case a12 => k_is); (case l12 => k_is); (case c12 => k_is); (case k12 => k_is); (case a13 => k_is)
    (case l13 => k_is); (case c13 => k_is); (case k13 => k_is); (case a14 => k_is); (case l14 => k_is); (case c14 => k_is)
    (case k14 => k_is); (case a15 => k_is); (case l15 => k_is); (case c15 => k_is); (case k15 => k_is); (case a16 => k_is)
    (case l16 => k_is); (case c16 => k_is); (case k16 => k_is); (case a17 => k_is); (case l17 => k_is); (case c17 => k_is)
    (case k17 => k_is); (case a18 => k_is); (case l18 => k_is); (case c18 => k_is); (case k18 => k_is); (case a19 => k_is)
    (case l19 => k_is); (case c19 => k_is); (case k19 => k_is); (case a20 => k_is); (case l20 => k_is); (case c20 => k_is)
    (case k20 => k_is); (case a21 => k_is); (case l21 => k_is); (case c21 => k_is); (case k21 => k_is); (case a22 => k_is)
    (case l22 => k_is); (case c22 => k_is); (case k22 => k_is); (case a23 => k_is); (case l23 => k_is); (case c23 => k_is)
    (case k23 => k_is); (case a24 => k_is); (case l24 => k_is); (case c24 => k_is); (case k24 => k_is); (case a25 => k_is)
    (case l25 => k_is); (case c25 => k_is); (case k25 => k_is); (case a26 => k_is); (case l26 => k_is); (case c26 => k_is)
    (case k26 => k_is); (case a27 => k_is); (case l27 => k_is); (case c27 => k_is); (case k27 => k_is); (case a28 => k_is)
    (case l28 => k_is); (case c28 => k_is); (case k28 => k_is); (case a29 => k_is); (case l29 => k_is); (case c29 => k_is)
    (case k29 => k_is); (case a30 => k_is); (case l30 => k_is); (case c30 => k_is); (case k30 => k_is); (case a31 => k_is)
    (case l31 => k_is); (case c31 => k_is); (case k31 => k_is); (case a32 => k_is); (case l32 => k_is); (case c32 => k_is)
    (case k32 => k_is); (case a33 => k_is); (case l33 => k_is); (case c33 => k_is); (case k33 => k_is); (case a34 => k_is)
    (case l34 => k_is); (case c34 => k_is); (case k34 => k_is); (case a35 => k_is); (case l35 => k_is); (case c35 => k_is)
    (case k35 => k_is); (case a36 => k_is); (case l36 => k_is); (case c36 => k_is); (case k36 => k_is); (case a37 => k_is)
    (case l37 => k_is); (case c37 => k_is); (case k37 => k_is); (case a38 => k_is); (case l38 => k_is); (case c38 => k_is)
    (case k38 => k_is); (case a39 => k_is); (case l39 => k_is); (case c39 => k_is); (case k39 => k_is); (case a40 => k_is)
    (case l40 => k_is); (case c40 => k_is); (case k40 => k_is); (case a41 => k_is); (case l41 => k_is); (case c41 => k_is)
    (case k41 => k_is); (case a42 => k_is); (case l42 => k_is); (case c42 => k_is); (case k42 => k_is); (case a43 => k_is)
    (case l43 => k_is); (case c43 => k_is); (case k43 => k_is); (case a44 => k_is); (case l44 => k_is); (case c44 => k_is)
    (case k44 => k_is); (case a45 => k_is); (case l45 => k_is); (case c45 => k_is); (case k45 => k_is); (case a46 => k_is)
    (case l46 => k_is); (case c46 => k_is); (case k46 => k_is); (case a47 => k_is); (case l47 => k_is); (case c47 => k_is)
    (case k47 => k_is); (case a48 => k_is); (case l48 => k_is); (case c48 => k_is); (case k48 => k_is); (case a49 => k_is)
    (case l49 => k_is); (case c49 => k_is); (case k49 => k_is); (case y0 => k_is); (case y1 => k_is); (case y2 => k_is)
    (case y3 => k_is); (case y4 => k_is); (case y5 => k_is); (case z0 => k_is); (case z1 => k_is); (case z2 => k_is)
    (case z3 => k_is); (case z4 => k_is); (case z5 => k_is); (case z6 => k_is); (case z7 => k_is); (case z8 => k_is)
    (case z9 => k_is); (case z10 => k_is); (case z11 => k_is); (case z12 => k_is); (case zenumerate => k_is); (case zabs => k_is)
