import PyProof.Rows.All
import Wide.All
import OpenK.AllK
import Wide.FinOn
import Lean
import PyProof.EqAt
import PyProof.EqKinds
import PyProof.TupleCall
import PyProof.NeKinds
import PyProof.Draws
import PyProof.SumWalkG
import PyProof.ListRange
import PyProof.ZipIter
import PyProof.Rows.SortRev
import KE.IntBitsLaws
import PyProof.ListMulRoad
import PyProof.TupleKey
import PyProof.StationsW
import PyProof.RulesAs
import PyProof.NsDelKeeps
import PyProof.Rows.Own
import PyProof.Rows.Catch
import KE.KTryMore
import KE.KIsNot
import OpenK.KDescr
import PyProof.ExcAttrAll.ValueError
import PyProof.FString
import KE.KItemsList
import KE.KPairComp
import PyProof.DictWalks
import PyProof.Rows.SortShellK
import KE.KSortTup
import KE.KDictSum
import PyProof.ReprRoads
import PyProof.ReprLen
import PyProof.CallStr
import PyProof.Rows.RuleIs
import PyProof.Rows.SeqMore2
import KE.KRevIter
import PyProof.StrLawsRepr
import PyProof.RulesTry
import PyProof.InstStoreFacts
import OpenK.KMake
import PyProof.FactsAll.range_2
import PyProof.RangeFor
import PyProof.Rows.TupAdd
import PyProof.Rows.StrJoin2
import PyProof.Rows.Range3
import PyProof.Rows.SetFrom
import PyProof.WalksMore
import PySem.Challenge.RW_fewreels_k39_best_over_levels
open List renaming getElem?_eq_getElem → Yaa, length_map → Yab, getElem?_eq_some_iff → Yae, mem_cons → Yai, size_toArray → Yaj, length_append → Yak, getElem?_map → Yal, mem_append → Yan, mem_cons_of_mem → Yat, replicate → Yau, mem_of_getElem? → Yaw, getD_eq_getElem?_getD → Yax, mem_append_right → Yay, length_take → YaA, map_append → YaC, mem_singleton → YaE, mem_cons_self → YaG, append_assoc → YaI, take_append_drop → YaJ, map_cons → YaK, pairwise_append → YaM, getElem?_set_ne → YaN, range → YaO, take_length → YaT, mem_append_left → YaU, not_mem_nil → YaZ, length_cons → Ya0, getElem?_append_right → Ya1, mem_range → Ya2, getElem?_append_left → Ya3, flatten_cons → Ya5, mem_map → Ya6, pairwise_map → Ya9, zip → Ybd, take_add_one → Ybf, getElem_mem → Ybg, getElem_of_mem → Ybk, filterMap_cons → Ybl, length_drop → Ybm, sum_cons → Ybn, take_of_length_le → Ybo, ext_getElem → Ybq, append_nil → Ybw, lookup_cons → YbF, mem_of_mem_take → YbG, mem_of_mem_drop → YbH, replicate_succ → YbK, zipWith → YbP, pairwise_cons → YbQ, mem_iff_getElem? → YbR, length_replicate → YbS, getElem?_replicate → YbY, all_eq_true → YbZ, length_range → Ycc, take_zero → Ych, flatten_append → Yck, getElem?_take_of_lt → Ycm, nodup_cons → Yco, reverse_cons → Ycs, getElem_take → Yct, map_nil → Ycw, getElem?_eq_none → Ycx, nodup_range → YcB, reverse_append → YcE, map_congr_left → YcF, length_nil → YcG, zip_cons_cons → YcM, mem_replicate → YcN, mem_filterMap → YcO, getElem?_drop → YcP, filterMap_map → YcQ, pairwise_iff_getElem → YcR, getElem_drop → YcT, getD → YcU, length_eq_zero_iff → YcV, reverse_nil → YcX, mem_reverse → YcY, getElem_map → YcZ, getElem?_set_self → Yc1, getElem?_zipWith → Yc7, getElem?_mapIdx → Ydd, nodup_nil → Ydf, length_zipWith → Ydh, length_reverse → Ydi, length → Ydj, map_take → Ydq, take_succ_eq_append_getElem → Ydt, nodup_append → Ydz, ext_getElem? → YdA, map_map → YdF, zipIdx_cons → YdH, range_succ → YdR, of_mem_zip → YdS, nil_append → YdT, forIn_cons → YdU, foldl_cons → YdV, perm_ext_iff_of_nodup → Yd4, nodup_iff_pairwise_ne → Yd5, getElem?_zip_eq_some → Yd9, getElem?_eq_none_iff → Yea, drop_eq_getElem_cons → Yeb, foldl → Yeg, pairwise_singleton → Yeo, pairwise_mergeSort → Yep, perm_append_comm → Yeu, pairwise_reverse → Yev, filterMap_append → Yew, extract → Yex, mem_iff_getElem → YeG, map_eq_cons_iff → YeH, mergeSort_perm → YeK, map_id → YeL, getElem?_range → YeM, mapIdx_append → YeV, take_sublist → Ye1, reverse_perm → Ye2, any_eq_false → Ye3, perm_middle → Yfb, getElem_inj → Yfc, cons_append → Yfd
open PySem.Heap renaming get?_push_of_some → Yac, lt_size → Yah, get?_push_size → Yas, size_push → Ya4, get?_update_other → YbA, get?_update_self → Yb6, SameBut → Ycn, IsTuple → Yc8, get?_none_of_le → Yde, ExtBut → Ydk, IsList → YdW, get?_update_ne → YeO
open PySem.W renaming Frag → Yad, nsIn → Yam, keepIn → Yaq, codeIn → Yav, fnOf → YaB, mg_none_of → YaQ, kia_one → Ybt, kitOne → YbW, findIn → YcH, methodObj → Ydn, kat_nil → YdB, instObj → YdC, OpenLaw → YdD, lookIn → YdL, cellsFrom_some → Yd7, callWith_K → Yes, specialIn → YeC, kitx_list → YeD, kitx_dict → YeE, plainGet → YeJ, mg_of → Ye8, WalkO → Ye9
open Array renaming getElem?_toList → Yaf, length_toList → Yao, getElem?_eq_getElem → YaL, getElem?_eq_some_iff → YaS, getD_eq_getD_getElem? → YaV, toList_append → YaY, getD → YbE, toList_reverse → Yce, toList_push → Ycr, toList_extract → YcC, getElem?_modify → Yc5, mem_toList_iff → Ydc, toList_setIfInBounds → YdZ, perm_iff_toList_perm → Yd0, getElem?_replicate → Yef, forIn_toList → YeQ
open Nat renaming le_refl → Yag, lt_of_lt_of_le → Yap, ne_of_lt → Yaz, zero_le → YaP, lt_or_ge → Ya7, lt_irrefl → Ybe, not_lt_zero → Ybp, lt_succ_self → Ybr, le_of_lt → Ybs, ne_of_gt → Yby, le_trans → Ybz, zero_add → YbD, lt_succ_of_lt → YbJ, le_succ → Ycl, lt_of_le_of_lt → Ycq, min_eq_left → YcI, add_sub_cancel_left → YcW, le_add_right → Yc0, add_zero → Ydb, add_le_add_left → Ydo, eq_zero_or_pos → Yds, lt_trichotomy → YdE, max_eq_right → YdM, mod_lt → Yen, div_div_eq_div_mul → Yet, succ_pos → YeF, add_lt_add_left → YeU, lt_or_eq_of_le → YeZ, le_of_succ_le → Yfa
open Bool renaming false_eq_true → Yar, false_ne_true → YaF, and_eq_true → Ybx, not_true → YbT, eq_iff_iff → Ycp, and_false → Ydg, or_eq_true → YdY, not_false → Yee, eq_false_iff → Ye7
open Option.some renaming inj → YaD
open PySem.Value renaming ref → YaH, none → YbN, type → Yci, bool → Yc6, str → YdJ, int → YdK, isInt → YeB
open PySem.Builtin.Int renaming intBits → YaR
open Or renaming inl → YaW, inr → YcL
open PySem.Builtin.SmallTypes renaming nextOf → YaX, ownedTupleIsFree → YbC, ownedTupleHandOut → YcK
open ForInStep renaming yield → Ya8, done → Yb9
open Int renaming toNat_natCast → Yba, emod_nonneg → Ybh, emod_lt_of_pos → Ybi, le_refl → Ycv, toNat → Ydw, mul_le_mul_of_nonneg_right → YdI, fdiv_eq_ediv_of_nonneg → Yec
open PySem renaming boot_len → Ybb, mem_of_lookup → YbB, call → YeS
open PySem.PyData renaming depthAll → Ybc, int → Yc4, depth → Yel
open Ne renaming symm → Ybj
open PySem.F renaming plainAttrs_list → Ybu, type_list_append → YbU, slot_list_append → YbV, excBase_ValueError → YdG, args_tuple_add_2 → YdQ, entry_tuple_add → Yd2, slot_tuple_add → Yd8
open Option renaming toList_some → Ybv, getD_some → Ydy, isSome_iff_exists → Yd3, getD_none → YeT
open PySem.PassesOwn renaming never → YbI
open PySem.SetTable.probe renaming go → YbL
open List.Pairwise renaming nil → YbM, imp_of_mem → Yb4
open PySem.Obj renaming mapSeq → YbO, putSet → Yem, data_mapFields → YeY
open PyProof.Rows renaming callWith_type1 → YbX, slot_tuple_getitem → Ycj
open List.Perm renaming append_left → Yb0, eq_of_pairwise → YcJ, append_right → YcS, trans → Ydu, of_eq → Ydv, refl → YeN
open PySem.Builtin.Slice renaming slicePlaces → Yb1, sliceAdjust → YcA, sliceApplied → Ydl
open PySem.NameKind renaming free → Yb2, cell → Ye0
open PyProof.Rows.KeyOrd renaming kle_refl → Yb3, kle_of_klt → Yb5, kle_trans → Ycy, kle_antisymm → Yey
open PySem.Builtin.Tuple renaming tupleExact → Yb7
open PySem.Str renaming ofString → Yb8, empty → Yda
open False renaming elim → Yca
open PySem.Builtin.List renaming listTooLong → Ycb
open PySem.Around renaming under_plainId → Ycd, under_plain → YeI
open PySem.AutoSeq1 renaming wpAny_loadPart' → Ycf
open PySem.Shared renaming heap → Ycg
open PySem.Heap.SameBut renaming update → Ycu
open PySem.Builtin.ObjectAttr renaming find → Ycz, getOf → Ye4, dataDescriptor? → Ye5, bindTo → Ye6
open Decidable renaming byContradiction → YcD
open PySem.Builtin.Frozenset renaming updateFrom → Yc2
open PySem.SetTable renaming fresh → Yc3, fill → YdP, slot → YeW, fits → YeX
open PySem.Builtin.Builtins renaming bindParams → Yc9
open Sum renaming inl → Ydm, inr → Yd1
open PyProof.Rows.SortSt renaming mk' → Ydp
open PySem.Code renaming quiet_builtin → Ydr
open True renaming intro → Ydx
open List.cons renaming inj → YdN
open PySem.Heap.IsSliceOf renaming new → YdO
open PySem.Calls renaming Name_function_global → YdX, callWith_builtin → Yer, evalArgs_plain → YeA, Constant_str → YeP
open PySem.Walks renaming list → Yd6
open PySem.Heap.IsTuple renaming push → Yed
open PySem.Builtin.Getset_descriptor renaming descrNameAndClass → Yeh, descrGetter → Yei, descrGet → Yej, descrCheckInstance → Yek
open PySem.Heap.IsList renaming push → Yeq
open PySem.SeqAt.EqAt renaming same → Yez
open PySem.SetFound renaming there → YeR
set_option Elab.async false
set_option linter.all false
set_option maxRecDepth 100000
namespace L2
open PySem PySem.Spec PyProof.Rows
abbrev Key:=Sum Int Str
def ZlB:Key->Value->Bool
 | .inl k,v=>YeB k v
 | .inr x,v=>Value.isStrOf x v
def keyH (w:World):Key->Int
 | .inl k=>hashInt k
 | .inr x=>hashStr w x
theorem ZaE:∀ {k:Key}{v:Value},ZlB k v=true->(∃ i t,k=Ydm i/\v=YdK i t)∨(∃ x t,k=Yd1 x/\v=YdJ x t)
 | .inl i,v,h=>by
  obtain⟨t,e⟩:=Value.isInt_shape (k:=i) (v:=v) h;exact .inl ⟨i,t,rfl,e⟩
 | .inr x,v,h=>by
  obtain⟨t,e⟩:=Value.isStrOf_shape (x:=x) (v:=v) h;exact .inr ⟨x,t,rfl,e⟩
theorem ZlA (a b:Int):decide ((Ydm a:Key)=Ydm b)=(a == b):=by
 by_cases e:a=b
 ·subst e;simp
 ·have h:¬ (Ydm a:Key)=Ydm b:=fun q=>e (Sum.inl.inj q);rw[decide_eq_false h];exact (beq_eq_false_iff_ne.mpr e).symm
theorem Zlx (a b:Str):decide ((Yd1 a:Key)=Yd1 b)=decide (a=b):=by
 by_cases e:a=b
 ·subst e;simp
 ·have h:¬ (Yd1 a:Key)=Yd1 b:=fun q=>e (Sum.inr.inj q);rw[decide_eq_false h,decide_eq_false e]
theorem Zlz (a:Int) (b:Str):decide ((Ydm a:Key)=Yd1 b)=false:=decide_eq_false (fun q=>nomatch q)
theorem Zly (a:Str) (b:Int):decide ((Yd1 a:Key)=Ydm b)=false:=decide_eq_false (fun q=>nomatch q)
def ZhI (prog:Program) (w:World):PySem.KeyKind prog w Key where
 is:=ZlB
 hash:=keyH w
 inj:=fun v a b ha hb=>by
  rcases ZaE ha with ⟨i,t,rfl,rfl⟩ | ⟨x,t,rfl,rfl⟩
  ·rcases ZaE hb with ⟨j,u,rfl,e⟩ | ⟨y,u,rfl,e⟩
   ·injection e with e1 _;rw[e1]
   ·exact nomatch e
  ·rcases ZaE hb with ⟨j,u,rfl,e⟩ | ⟨y,u,rfl,e⟩
   ·exact nomatch e
   ·injection e with e1 _;rw[e1]
 byValue:=fun k v h=>by
  rcases ZaE h with ⟨i,t,rfl,rfl⟩ | ⟨x,t,rfl,rfl⟩ <;> rfl
 pyHash:=fun hv h=>by
  rcases ZaE hv with ⟨i,t,rfl,rfl⟩ | ⟨x,t,rfl,rfl⟩
  ·exact wpAny_pyHash_int h
  ·exact wpAny_pyHash_str h
 eqBool:=fun hu hv h=>by
  rcases ZaE hu with ⟨i,t,rfl,rfl⟩ | ⟨x,t,rfl,rfl⟩
  ·rcases ZaE hv with ⟨j,u,rfl,rfl⟩ | ⟨y,u,rfl,rfl⟩
   ·rw[ZlA] at h;exact wpAny_eqBool_int h
   ·rw[Zlz] at h;exact SeqAt.EqAt.int_str i t y u _ _ _ _ h
  ·rcases ZaE hv with ⟨j,u,rfl,rfl⟩ | ⟨y,u,rfl,rfl⟩
   ·rw[Zly] at h;exact SeqAt.EqAt.str_int x t j u _ _ _ _ h
   ·rw[Zlx] at h;exact wpAny_eqBool_str h
 «strs»:=fun k x t v h=>by
  rcases ZaE h with ⟨i,u,rfl,e⟩ | ⟨y,u,rfl,e⟩
  ·exact nomatch e
  ·injection e with e1 _;subst e1;cases v <;> rfl
end L2
namespace L2
open PySem PySem.Spec PyProof.Rows
inductive V where
 | non | bl (b:Bool) | int (i:Int) | str (x:Str) | byt (b:Array UInt8) | flt (b:UInt64) | ref (a:Addr) | ty (n:String)
 deriving DecidableEq
def RelV:V->Value->Prop
 | .non,u=>u=YbN
 | .bl b,u=>u=Yc6 b
 | .int i,u=>∃ t,u=YdK i t
 | .str x,u=>∃ t,u=YdJ x t
 | .byt b,u=>∃ t,u=Value.bytes b t
 | .flt b,u=>∃ t,u=Value.float b t
 | .ref a,u=>u=YaH a
 | .ty n,u=>u=Yci n
abbrev Vals:List V->List Value->Prop:=Paired RelV
theorem Vals.length {xs:List V}{us:List Value} (r:Vals xs us):xs.length=us.length:=Paired.length r
theorem Vals.get:∀ {xs:List V}{us:List Value}{i:Nat}{x:V},Vals xs us->xs[i]?=some x->∃ u,us[i]?=some u/\RelV x u
 | _,_,_,_,.nil,e=>by simp at e
 | _,_,0,_,.cons r _,e=>by simp at e;subst e;exact⟨_,rfl,r⟩
 | _,_,i+1,x,.cons _ t,e=>by
  obtain⟨u,h1,h2⟩:=Vals.get (i:=i) (x:=x) t (by simpa using e);exact⟨u,by simpa using h1,h2⟩
theorem Vals.set {x:V}{u:Value} (r:RelV x u):∀ {xs:List V}{us:List Value} (i:Nat),Vals xs us->Vals (xs.set i x) (us.set i u)
 | _,_,_,.nil=>.nil
 | _,_,0,.cons _ t=>.cons r t
 | _,_,i+1,.cons q t=>.cons q (Vals.set r i t)
theorem Vals.append:∀ {xs ys:List V}{us ws:List Value},Vals xs us->Vals ys ws->Vals (xs++ys) (us++ws)
 | _,_,_,_,.nil,s=>s
 | _,_,_,_,.cons r t,s=>.cons r (Vals.append t s)
theorem Vals.take:∀ {xs:List V}{us:List Value} (n:Nat),Vals xs us->Vals (xs.take n) (us.take n)
 | _,_,0,_=>.nil
 | _,_,_+1,.nil=>.nil
 | _,_,n+1,.cons r t=>.cons r (Vals.take n t)
theorem Vals.drop:∀ {xs:List V}{us:List Value} (n:Nat),Vals xs us->Vals (xs.drop n) (us.drop n)
 | _,_,0,r=>r
 | _,_,_+1,.nil=>.nil
 | _,_,n+1,.cons _ t=>Vals.drop n t
theorem Vals.none_of:∀ {xs:List V}{us:List Value}{i:Nat},Vals xs us->xs[i]?=none->us[i]?=none:=fun {xs us i} r e=>by
 have h1:=r.length;have h2:xs.length<=i:=Yea.mp e;exact Yea.mpr (by omega)
def RelO:Option V->Option Value->Prop
 | some v,some u=>RelV v u
 | none,none=>True
 | _,_=>False
def KV {κ:Type}:List (κ × V)->List (κ × Value)->Prop:=Paired fun (p:κ × V) (q:κ × Value)=>p.1=q.1/\RelV p.2 q.2
def kV:Key->V
 | .inl i=>.int i
 | .inr x=>.str x
inductive HO where
 | lst (xs:List V)
 | tup (xs:List V)
 | dK (kvs:List (Key × V)) | dT (kvs:List (List Key × V))
 | set (S:Int->Bool) (n:Nat)
 | ins (C dx:Addr) (fs:List (Str × V))
 | own (x:Addr)
 | xd (fs:List (Str × V))
 | met (f x:Addr)
 | rng (lo hi:Int)
 | frz (o:Obj) (u:HO)
 | tbl (ps:Array Value)
 | ext (φ:Heap->Prop)
abbrev Hp:=Addr->Option HO
def upd (H:Hp) (a:Addr) (o:HO):Hp:=fun b=>if b=a then some o else H b
theorem Zab {H:Hp}{a:Addr}{o:HO}:upd H a o a=some o:=by unfold upd;rw[if_pos rfl]
theorem Zag {H:Hp}{a b:Addr}{o:HO} (h:b≠a):upd H a o b=H b:=by unfold upd;rw[if_neg h]
theorem Zae {H:Hp}{a b:Addr}{o:HO} (h:H a=some o) (h':H b=none):a≠b:=by
 intro e;subst e;rw[h] at h';cases h'
def IsTupD (h:Heap) (a:Addr) (items:Array Value):Prop:=∃ o,h.get? a=some o/\o.cls=.type "tuple"/\o.dict=none/\∃ n,o.data=.seq items n
theorem IsTupD.tup {h:Heap}{a:Addr}{items:Array Value} (x:IsTupD h a items):IsTup h a items:=let ⟨o,e,c,_,d⟩:=x;⟨o,e,c,d⟩
theorem IsTupD.new (h:Heap) (items:Array Value):IsTupD (h.push { cls:=.type "tuple",data:=.seq items }) h.objs.size items:=⟨_,Yas _ rfl,rfl,rfl,_,rfl⟩
section
variable (P:Program) (w:World)
def ObjOk (H:Hp) (h:Heap) (a:Addr):HO->Prop
 | .lst xs=>xs.length<=sizeLine/\∃ (its:List Value) (n:Nat),Vals xs its/\h.get? a=some { cls:=.type "list",data:=.seq its.toArray n }
 | .tup xs=>xs.length<=sizeLine/\∃ its:List Value,Vals xs its/\IsTupD h a its.toArray
 | .dK kvs=>kvs.length<=sizeLine/\(a == sysModules)=false/\∃ vs,KV kvs vs/\h.DictOf (ZhI P w) a vs
 | .dT kvs=>kvs.length<=sizeLine/\(a == sysModules)=false/\∃ xs:List (List Key × Addr × Value),
   Paired (fun (p:List Key × V) (q:List Key × Addr × Value)=>p.1=q.1/\H q.2.1=some (.tup (p.1.map kV))/\RelV p.2 q.2.2) kvs xs /\
   ∃ o es ep,h.get? a=some o/\o.ExactDict/\o.data=.dict es ep/\es.toList=xs.map (entryOfKey (tupleKind (ZhI P w)))/\(xs.map (·.1)).Nodup
 | .set S n=>h.SetOf (intKind P w) a S n
 | .ins C dx fs=>H dx=some (.own a)/\fs.length<=1000/\dx≠a/\h.get? a=some (YdC C dx) /\
   ∃ mA,h.Ns1 dx mA/\(∀ f,RelO (fs.lookup f) (mA f))/\PySem.Within mA (fs.map (·.1))
 | .own _=>∃ o,h.get? a=some o
 | .xd fs=>∃ mA,h.Ns1 a mA/\∀ f,RelO (fs.lookup f) (mA f)
 | .rng lo hi=>∃ t u v,h.get? a=some { cls:=.type "range",data:=.fields #[.int lo t,.int hi u,.int 1 v] }
 | .frz o u=>h.get? a=some o/\ObjOk H h a u
 | .tbl ps=>h.get? a=some { cls:=.none,data:=.fields ps }
 | .met f x=>h.get? a=some (Ydn (.ref f) (.ref x))
 | .ext φ=>φ h/\(∃ o,h.get? a=some o)/\∀ h1 h2:Heap,φ h1->(∀ o,h1.get? a=some o->h2.get? a=some o)->φ h2
def HOk (H:Hp) (h:Heap):Prop:=∀ a o,H a=some o->ObjOk P w H h a o
end
section
variable {P:Program}{w:World}{H H':Hp}{h h':Heap}{a:Addr}{o:HO}
theorem ObjOk.lt (x:ObjOk P w H h a o):a<h.objs.size:=by
 cases o with
 | lst xs=>obtain⟨_,_,_,_,e⟩:=x;exact Yah e
 | tup xs=>obtain⟨_,_,_,p⟩:=x;exact p.tup.lt
 | dK kvs=>obtain⟨_,_,_,_,o,_,_,e,_⟩:=x;exact Yah e
 | dT kvs=>obtain⟨_,_,_,_,o,_,_,e,_⟩:=x;exact Yah e
 | set S n=>obtain⟨o,_,_,_,e,_⟩:=x;exact Yah e
 | ins C dx fs=>obtain⟨_,_,_,e,_⟩:=x;exact Yah e
 | own y=>obtain⟨_,e⟩:=x;exact Yah e
 | xd fs=>obtain⟨_,⟨_,_,_,e,_⟩,_⟩:=x;exact Yah e
 | rng lo hi=>obtain⟨_,_,_,e⟩:=x;exact Yah e
 | frz ob u=>obtain⟨e,_⟩:=x;exact Yah e
 | tbl ps=>exact Yah (show h.get? a=some _ from x)
 | met f y=>exact Yah (show h.get? a=some _ from x)
 | ext φ=>obtain⟨_,⟨_,e⟩,_⟩:=x;exact Yah e
theorem Paired.mapP {α β:Type}{F G:α->β->Prop}:∀ {l₁:List α}{l₂:List β},Paired F l₁ l₂->(∀ a b,F a b->G a b)->Paired G l₁ l₂
 | _,_,.nil,_=>.nil
 | _,_,.cons r t,f=>.cons (f _ _ r) (Paired.mapP t f)
theorem ObjOk.stay (x:ObjOk P w H h a o) (k:∀ b u,(b=a∨H b=some (.own a))->h.get? b=some u->h'.get? b=some u)
  (ho:∀ b,H b=some (.own a)->H' b=some (.own a)) (ht:∀ b xs,H b=some (.tup xs)->H' b=some (.tup xs)):ObjOk P w H' h' a o:=by
 induction o with
 | lst xs=>obtain⟨z,its,n,r,e⟩:=x;exact⟨z,its,n,r,k _ _ (.inl rfl) e⟩
 | tup xs=>obtain⟨z,its,r,ob,e,c⟩:=x;exact⟨z,its,r,ob,k _ _ (.inl rfl) e,c⟩
 | dK kvs=>obtain⟨z,y,vs,r,ob,es,ep,e,c⟩:=x;exact⟨z,y,vs,r,ob,es,ep,k _ _ (.inl rfl) e,c⟩
 | dT kvs=>
  obtain⟨z,y,xs,r,ob,es,ep,e,c⟩:=x;exact⟨z,y,xs,Paired.mapP r fun p q z=>⟨z.1,ht _ _ z.2.1,z.2.2⟩,ob,es,ep,k _ _ (.inl rfl) e,c⟩
 | set S n=>obtain⟨ob,es,ep,t,e,c⟩:=x;exact⟨ob,es,ep,t,k _ _ (.inl rfl) e,c⟩
 | ins C dx fs=>
  obtain⟨d,z,ne,e,mA,⟨od,es,ep,e2,c⟩,r⟩:=x;exact⟨ho _ d,z,ne,k _ _ (.inl rfl) e,mA,⟨od,es,ep,k _ _ (.inr d) e2,c⟩,r⟩
 | own y=>obtain⟨ob,e⟩:=x;exact⟨ob,k _ _ (.inl rfl) e⟩
 | xd fs=>obtain⟨mA,⟨od,es,ep,e,c⟩,r⟩:=x;exact⟨mA,⟨od,es,ep,k _ _ (.inl rfl) e,c⟩,r⟩
 | rng lo hi=>obtain⟨t,u,v,e⟩:=x;exact⟨t,u,v,k _ _ (.inl rfl) e⟩
 | frz ob u ih=>obtain⟨e,q⟩:=x;exact⟨k _ _ (.inl rfl) e,ih q⟩
 | tbl ps=>
  have e:h.get? a=some { cls:=.none,data:=.fields ps }:=x;show h'.get? a=some { cls:=.none,data:=.fields ps };exact k a _ (.inl rfl) e
 | met f y=>
  have e:h.get? a=some (Ydn (.ref f) (.ref y)):=x;show h'.get? a=some (Ydn (.ref f) (.ref y));exact k a _ (.inl rfl) e
 | ext φ=>obtain⟨p,⟨o,e⟩,st⟩:=x;exact⟨st _ _ p fun o q=>k _ _ (.inl rfl) q,⟨o,k _ _ (.inl rfl) e⟩,st⟩
theorem HOk.lt (x:HOk P w H h) (e:H a=some o):a<h.objs.size:=(x a o e).lt
theorem HOk.fresh (x:HOk P w H h) (e:h.objs.size<=a):H a=none:=by
 cases q:H a with
 | none=>rfl
 | some u=>exact absurd (Yap (x.lt q) e) (Ybe _)
theorem HOk.kept (x:HOk P w H h) (k:∀ b u,h.get? b=some u->h'.get? b=some u):HOk P w H h':=fun a o e=>
 (x a o e).stay (fun b u _ q=>k b u q) (fun _ q=>q) fun _ _ q=>q
theorem HOk.laid (x:HOk P w H h) (k:∀ b u,h.get? b=some u->h'.get? b=some u) (hp:h.objs.size<=a) (new:ObjOk P w (upd H a o) h' a o):HOk P w (upd H a o) h':=fun b u e=>by
 have hn:=x.fresh hp;by_cases hb:b=a
 ·subst hb;rw[Zab] at e;cases e;exact new
 ·rw[Zag hb] at e;exact (x b u e).stay (fun c v _ q=>k c v q) (fun c q=>by rw[Zag (Zae q hn)];exact q) fun c xs q=>by rw[Zag (Zae q hn)];exact q
end
def Rd (H:Hp) (a:Addr) (u:HO):Prop:=H a=some u∨∃ o,H a=some (.frz o u)
theorem Rd.ok {P:Program}{w:World}{H:Hp}{h:Heap}{a:Addr}{u:HO} (r:Rd H a u) (x:HOk P w H h):ObjOk P w H h a u:=by
 rcases r with r | ⟨o,r⟩
 ·exact x a u r
 ·obtain⟨_,q⟩:=x a _ r;exact q
def Mut:Option HO->Prop
 | some (.lst _)=>True
 | some (.dK _)=>True
 | some (.dT _)=>True
 | some (.set _ _)=>True
 | some (.ins _ _ _)=>True
 | some (.ext _)=>True
 | _=>False
section
variable {P:Program}{w:World}{H:Hp}{h h':Heap}{x e:Addr}{o':HO}
theorem HOk.write (ok:HOk P w H h) (mu:Mut (H x)) (he:e=x∨H e=some (.own x)) (k:∀ b u,b≠e->h.get? b=some u->h'.get? b=some u) (heo:∃ u,h'.get? e=some u)
  (new:ObjOk P w (upd H x o') h' x o'):HOk P w (upd H x o') h':=fun b u q=>by
 have nown:∀ c y,H c=some (.own y)->c≠x:=fun c y r z=>by subst z;rw[r] at mu;exact mu
 have ntup:∀ c xs,H c=some (.tup xs)->c≠x:=fun c xs r z=>by subst z;rw[r] at mu;exact mu
 by_cases hb:b=x
 ·subst hb;rw[Zab] at q;cases q;exact new
 ·rw[Zag hb] at q;by_cases hbe:b=e
  ·have q':H b=some (.own x):=by
    rcases he with z | z
    ·exact absurd (hbe.trans z) hb
    ·rw[hbe];exact z
   rw[q] at q';cases q';obtain⟨v,hv⟩:=heo;exact⟨v,by rw[hbe];exact hv⟩
  ·refine (ok b u q).stay (fun c v hc r=>k c v ?_ r) (fun c r=>by rw[Zag (nown c b r)];exact r) fun c xs r=>by rw[Zag (ntup c xs r)];exact r
   rcases hc with rfl | hc
   ·exact hbe
   ·rintro rfl;rcases he with z | z
    ·exact nown c b hc z
    ·rw[hc] at z;cases z;exact hb rfl
end
structure Un (fs ex:List Addr) (H H':Hp) (h h':Heap):Prop where
 keep:∀ b o,h.get? b=some o->H b=none->b ∉ fs->b ∉ ex->h'.get? b=some o
 slot:∀ b o,h.get? b=some o->H b=none->b∈fs->b ∉ ex->∃ sl,h'.get? b=some { o with slots:=sl }
 free:∀ b o,h.get? b=some o->H b=none->b ∉ ex->H' b=none
 there:∀ b o,h.get? b=some o->b ∉ ex->∃ o',h'.get? b=some o'
 tups:∀ b xs,H b=some (.tup xs)->H' b=some (.tup xs)
 frzs:∀ b o u,H b=some (.frz o u)->H' b=some (.frz o u)
 tbls:∀ b ps,H b=some (.tbl ps)->∃ more,H' b=some (.tbl (ps++more))
section
variable {fs fs' ex ex':List Addr}{H H1 H2:Hp}{h h1 h2 h':Heap}{a x e:Addr}{o:HO}
theorem Un.any (u:Un fs ex H H1 h h1) {b:Addr}{ob:Obj} (q:h.get? b=some ob) (n:H b=none) (hx:b ∉ ex):∃ sl,h1.get? b=some { ob with slots:=sl }:=by
 by_cases hb:b∈fs
 ·exact u.slot b ob q n hb hx
 ·exact⟨ob.slots,u.keep b ob q n hb hx⟩
theorem Un.kept (k:∀ b u,h.get? b=some u->h'.get? b=some u):Un fs ex H H h h' :=
 ⟨fun b ob q _ _ _=>k b ob q,fun b ob q _ _ _=>⟨ob.slots,k b ob q⟩,fun _ _ _ n _=>n,fun b ob q _=>⟨ob,k b ob q⟩,fun _ _ q=>q,fun _ _ _ q=>q,fun _ ps q=>⟨#[],by rw[q];simp⟩⟩
theorem Un.refl:Un fs ex H H h h:=Un.kept fun _ _ q=>q
theorem Un.laid (k:∀ b u,h.get? b=some u->h'.get? b=some u) (hp:h.objs.size<=a) (hn:H a=none):Un fs ex H (upd H a o) h h' where
 keep:=fun b u q _ _ _=>k b u q
 slot:=fun b u q _ _ _=>⟨u.slots,k b u q⟩
 free:=fun b u q n _=>by rw[Zag (Yaz (Yap (Yah q) hp))];exact n
 there:=fun b u q _=>⟨u,k b u q⟩
 tups:=fun b xs q=>by rw[Zag (Zae q hn)];exact q
 frzs:=fun b u xs q=>by rw[Zag (Zae q hn)];exact q
 tbls:=fun b ps q=>⟨#[],by rw[Zag (Zae q hn),q];simp⟩
theorem Un.write (mu:Mut (H x)) (he:e=x∨H e=some (.own x)) (k:∀ b u,b≠e->h.get? b=some u->h'.get? b=some u) (heo:∃ u,h'.get? e=some u):Un fs ex H (upd H x o) h h':=by
 have hx:∀ b,H b=none->b≠x:=fun b n z=>by subst z;rw[n] at mu;exact mu
 have hb:∀ b,H b=none->b≠e:=fun b n z=>by
  subst z;rcases he with r | r
  ·exact hx b n r
  ·rw[n] at r;cases r
 have hm:∀ b u,H b=some u->¬ Mut (some u)->b≠x:=fun b u q nm z=>by subst z;rw[q] at mu;exact nm mu
 refine⟨fun b u q n _ _=>k b u (hb b n) q,fun b u q n _ _=>⟨u.slots,k b u (hb b n) q⟩,fun b u q n _=>by rw[Zag (hx b n)];exact n,fun b u q _=>?_,
  fun b xs q=>by rw[Zag (hm b _ q fun z=>z)];exact q,fun b u xs q=>by rw[Zag (hm b _ q fun z=>z)];exact q,fun b ps q=>⟨#[],by rw[Zag (hm b _ q fun z=>z),q];simp⟩⟩
 by_cases hbe:b=e
 ·subst hbe;exact heo
 ·exact⟨u,k b u hbe q⟩
end
def trk (h:Heap) (H:Hp):List Addr:=(YaO h.objs.size).filter fun a=>(H a).isSome
def hidT (h:Heap) (H:Hp):Heap:=PySem.W.hideAll h (trk h H)
theorem Zh4 (h:Heap) (H:Hp):(hidT h H).objs.size=h.objs.size:=PySem.W.hideAll_size _ _
theorem Zjp {h:Heap}{H:Hp}{b:Addr}{o:Obj} (e:h.get? b=some o) (n:H b=none):(hidT h H).get? b=some o :=
 PySem.W.hideAll_get _ e fun hm=>by
  have q:(H b).isSome=true:=(List.mem_filter.mp hm).2
  rw[n] at q;simp at q
theorem Zkz {h:Heap}{H:Hp}{b:Addr}{o:Obj} (e:(hidT h H).get? b=some o):h.get? b=some o/\H b=none:=by
 have e':h.get? b=some o:=PySem.W.of_hideAll (trk h H) e;refine⟨e',?_⟩
 cases q:H b with
 | none=>rfl
 | some x=>
  have hm:b∈trk h H:=List.mem_filter.mpr ⟨Ya2.mpr (Yah e'),by simp[q]⟩;have z:(hidT h H).get? b=none:=PySem.W.hideAll_none (trk h H) hm;rw[z] at e;cases e
def ZkY (g h:Heap) (L:Addr):List (Addr × Obj):=(YaO h.objs.size).filterMap fun a=>if a=L∨(g.get? a).isSome=true then none else (h.get? a).map fun o=>(a,o)
def rest (g h:Heap) (L d:Addr):List (Addr × Obj):=(ZkY g h L).filter fun p=>decide (p.1≠d)
end L2
namespace L2
open PySem PySem.Spec PyProof.Rows
structure Mod (K:Yad) (mg:Str->Option Value) (base:Heap):Prop where
 kin:K.In base
 glob:base.Ns mainGlobals mg
 blt:∃ mb,base.Ns builtinsNs mb/\∀ x:Str,x≠"__name__"->mb x=bootBuiltins x
 nolimit:base.NoLimit
structure Cx where
 prog:Program
 w:World
 K:Yad
 mg:Str->Option Value
 base:Heap
 A:Around
 N:List Str
 s₀:Shared
 H₀:Hp
 env:Env
 outer:List Env
 stack:List Env
 ex:List Addr
 fn:Str->Bool
 calm:Bool
 pn:List (Addr × Obj)
 xe:Value->Shared->Prop
def frs (l:List Env):List Addr:=l.filterMap (·.frame)
abbrev Cx.fs (X:Cx):List Addr:=frs X.outer
def Vis (sc:Scope) (x:Str):Prop:=sc.names.lookup x=some .local ∨ sc.names.lookup x=some .cell∨sc.names.lookup x=some .free
def Loc (sc:Scope) (x:Str):Prop:=sc.names.lookup x=some .local ∨ sc.names.lookup x=some .cell
def Look (env:Env) (h:Heap) (m:Str->Option Value) (x:Str) (u:Value):Prop :=
 (env.kindOf x=some .local /\ m x=some u)∨((env.kindOf x=some .cell∨env.kindOf x=some .free)/\∃ c,env.cells.lookup x=some c/\h.IsCell c (some u))
structure Cx.Ok (X:Cx):Prop where
 mod:Mod X.K X.mg X.base
 kind:X.env.scope.kind=.function
 glob:X.env.globals=mainGlobals
 blt:X.env.builtins=builtinsNs
 above:X.s₀.heap.objs.size<=X.env.locals
 inj:∀ x y c,X.env.cells.lookup x=some c->X.env.cells.lookup y=some c->x=y
 has:∀ x,(X.env.kindOf x=some .cell∨X.env.kindOf x=some .free)->∃ c,X.env.cells.lookup x=some c
 cab:∀ x c,X.fn x=true->X.env.cells.lookup x=some c->X.s₀.heap.objs.size<=c
 hd:X.calm=true->X.A.handled=none
 frames:X.A.frames=some X.stack
 stk:X.stack=X.outer∨(X.stack=X.env::X.outer/\X.env.frame=some X.env.locals)
 exf:∀ b∈X.ex,b≠X.env.locals/\∀ x c,X.env.cells.lookup x=some c->c≠b
 bs:∀ b o,X.base.get? b=some o->X.s₀.heap.get? b=some o/\X.H₀ b=none
 bsz:X.base.objs.size<=X.s₀.heap.objs.size
 noex:∀ b o,X.base.get? b=some o->b ∉ X.ex
 exfs:∀ b∈X.ex,b ∉ X.fs
 funs:X.s₀.heap.FunFrames X.base X.outer
 frf:∀ b∈X.fs,X.H₀ b=none
structure Inv (X:Cx) (pins:List (Addr × Obj)) (σ:List (Option V)) (H:Hp) (s:Shared):Prop where
 ok:X.Ok
 os:s.os=X.s₀.os
 bare:AllBare s.gens
 base:Un X.fs X.ex X.H₀ H X.s₀.heap s.heap
 loc:∃ m,s.heap.Ns X.env.locals m/\∀ (i:Nat) (x:Str) (v:V),X.N[i]?=some x->σ[i]?=some (some v)->Vis X.env.scope x->∃ u,RelV v u/\Look X.env s.heap m x u
 cell:∀ x c,X.env.cells.lookup x=some c->∃ v,s.heap.IsCell c v
 free:H X.env.locals=none
 freeC:∀ x c,X.env.cells.lookup x=some c->H c=none
 pin:∀ p∈X.pn++pins,s.heap.get? p.1=some p.2/\H p.1=none/\p.1≠X.env.locals/\p.1 ∉ X.fs/\∀ v,p.2.data≠.cell v
 hok:HOk X.prog X.w H s.heap
 len:σ.length=X.N.length
section
variable {X:Cx}{pins:List (Addr × Obj)}{σ:List (Option V)}{H H':Hp}{s:Shared}{h':Heap}
theorem Cx.Ok.nofr (ok:X.Ok) {b:Addr}{o:Obj} (e:X.base.get? b=some o):b ∉ X.fs:=fun hb=>by
 have:=(ok.funs.mem hb).1
 rw[e] at this;cases this
theorem Inv.bs (I:Inv X pins σ H s):∀ b o,X.base.get? b=some o->s.heap.get? b=some o/\H b=none:=fun b o e=>
 ⟨I.base.keep b o (I.ok.bs b o e).1 (I.ok.bs b o e).2 (I.ok.nofr e) (I.ok.noex b o e),I.base.free b o (I.ok.bs b o e).1 (I.ok.bs b o e).2 (I.ok.noex b o e)⟩
theorem Inv.bk (I:Inv X pins σ H s):∀ b o,X.base.get? b=some o->s.heap.get? b=some o:=fun b o e=>(I.bs b o e).1
theorem Inv.mod (I:Inv X pins σ H s):Mod X.K X.mg X.base:=I.ok.mod
theorem Inv.kIn (I:Inv X pins σ H s):X.K.In s.heap:=I.ok.mod.kin.keeps I.bk
theorem Inv.lt (I:Inv X pins σ H s):X.env.locals<s.heap.objs.size:=let ⟨_,hn,_⟩:=I.loc;hn.lt
theorem Inv.sz (I:Inv X pins σ H s):X.s₀.heap.objs.size<=s.heap.objs.size:=Ybz I.ok.above (Ybs I.lt)
theorem Inv.nofs (I:Inv X pins σ H s) {a:Addr} (h:s.heap.objs.size<=a):a ∉ X.fs:=fun hb=>by
 obtain⟨_,o,ho,_⟩:=I.ok.funs.mem hb;exact absurd (Yap (Yah ho) (Ybz I.sz h)) (Ybe _)
theorem Inv.cne (I:Inv X pins σ H s):∀ x c,X.env.cells.lookup x=some c->c≠X.env.locals:=fun x c e z=>by
 obtain⟨v,o,ho,hd⟩:=I.cell x c e;obtain⟨m,⟨o',es,ep,ho',hd',_⟩,_⟩:=I.loc;rw[z,ho'] at ho;cases ho;rw[hd'] at hd;cases hd
theorem Inv.funs (I:Inv X pins σ H s):s.heap.FunFrames X.base X.outer:=by
 have all:∀ (l:List Env),(∀ b∈frs l,b∈X.fs)->X.s₀.heap.FunFrames X.base l->s.heap.FunFrames X.base l:=by
  intro l
  induction l with
  | nil=>intro _ _;trivial
  | cons env r ih=>
   intro hs hl;obtain⟨hk,⟨L,o,hf,hn,ho,hd⟩,hr⟩:=hl;have hL:L∈X.fs:=hs L (by unfold frs;rw[Ybl,hf];exact YaG);obtain⟨sl,e⟩:=I.base.slot L o ho (I.ok.frf L hL) hL fun z=>I.ok.exfs L z hL;exact⟨hk,⟨L,_,hf,hn,e,hd⟩,ih (fun b hb=>hs b (by unfold frs;rw[Ybl,hf];exact Yat _ hb)) hr⟩
 exact all X.outer (fun _ hb=>hb) I.ok.funs
theorem Inv.stack (I:Inv X pins σ H s):s.heap.FunFrames X.base X.stack:=by
 rcases I.ok.stk with e | ⟨e,hf⟩
 ·rw[e];exact I.funs
 ·rw[e];obtain⟨m,hn,_⟩:=I.loc;refine .cons (by rw[I.ok.kind];decide) hf hn ?_ I.funs;exact Yde (Ybz I.ok.bsz I.ok.above)
theorem Inv.stkSub (I:Inv X pins σ H s):∀ b∈frs X.stack,b∈X.env.locals::X.fs:=fun b hb=>by
 rcases I.ok.stk with e | ⟨e,hf⟩
 ·rw[e] at hb;exact Yat _ hb
 ·rw[e] at hb;unfold frs at hb;rw[Ybl,hf] at hb;exact hb
theorem Inv.stkFree (I:Inv X pins σ H s):∀ b∈frs X.stack,H b=none:=fun b hb=>by
 rcases Yai.mp (I.stkSub b hb) with e | hb
 ·rw[e];exact I.free
 ·obtain⟨_,o,ho,_⟩:=I.ok.funs.mem hb;exact I.base.free b o ho (I.ok.frf b hb) fun z=>I.ok.exfs b z hb
theorem Inv.step {g':Array GenState}{t':Nat}{d':Drawn}{ch:List Addr} (I:Inv X pins σ H s)
  (hch:∀ b∈ch,(b∈X.ex∨X.s₀.heap.objs.size<=b)/\b≠X.env.locals/\(∀ x c,X.env.cells.lookup x=some c->c≠b)/\∀ p∈X.pn++pins,p.1≠b)
  (keep:∀ b o,b≠X.env.locals->b ∉ X.fs->b ∉ ch->s.heap.get? b=some o->H b=none->h'.get? b=some o)
  (slot:∀ b o,b≠X.env.locals->b∈X.fs->b ∉ ch->s.heap.get? b=some o->H b=none->∃ sl,h'.get? b=some { o with slots:=sl }) (free:∀ b o,b ∉ ch->s.heap.get? b=some o->H b=none->H' b=none)
  (there:∀ b o,b ∉ ch->s.heap.get? b=some o->∃ o',h'.get? b=some o')
  (tups:∀ b xs,H b=some (.tup xs)->H' b=some (.tup xs)) (frzs:∀ b o u,H b=some (.frz o u)->H' b=some (.frz o u)) (tbls:∀ b ps,H b=some (.tbl ps)->∃ more,H' b=some (.tbl (ps++more)))
  (ns:∀ m,s.heap.Ns X.env.locals m->h'.Ns X.env.locals m) (hok:HOk X.prog X.w H' h') (hg:AllBare g') :
  Inv X pins σ H' { s with heap:=h',gens:=g',drawn:=d',toks:=t' }:=by
 have neL:∀ b o,X.s₀.heap.get? b=some o->b≠X.env.locals:=fun b o e=>Yaz (Yap (Yah e) I.ok.above);have neC:∀ b o,X.s₀.heap.get? b=some o->b ∉ X.ex->b ∉ ch:=fun b o e hx hb=>by
  rcases (hch b hb).1 with z | z
  ·exact hx z
  ·exact absurd (Yap (Yah e) z) (Ybe _)
 have cellK:∀ x c,X.env.cells.lookup x=some c->∀ v,s.heap.IsCell c v->h'.IsCell c v:=fun x c e v ⟨o,ho,hd⟩=>by
  have nch:c ∉ ch:=fun z=>(hch c z).2.2.1 x c e rfl;by_cases hc:c∈X.fs
  ·obtain⟨sl,q⟩:=slot c o (I.cne x c e) hc nch ho (I.freeC x c e);exact⟨_,q,hd⟩
  ·exact⟨o,keep c o (I.cne x c e) hc nch ho (I.freeC x c e),hd⟩
 refine⟨I.ok,I.os,hg,⟨fun b o e n hb hx=>?_,fun b o e n hb hx=>?_,fun b o e n hx=>?_,fun b o e hx=>?_,fun b xs e=>tups b xs (I.base.tups b xs e),fun b o xs e=>frzs b o xs (I.base.frzs b o xs e),fun b ps e=>?_⟩,?_,fun x c e=>?_,?_,fun x c e=>?_,fun p hp=>?_,hok,I.len⟩
 ·exact keep b o (neL b o e) hb (neC b o e hx) (I.base.keep b o e n hb hx) (I.base.free b o e n hx)
 ·obtain⟨sl,e1⟩:=I.base.slot b o e n hb hx;obtain⟨sl',e2⟩:=slot b _ (neL b o e) hb (neC b o e hx) e1 (I.base.free b o e n hx);exact⟨sl',e2⟩
 ·obtain⟨o',e1⟩:=I.base.there b o e hx;exact free b o' (neC b o e hx) e1 (I.base.free b o e n hx)
 ·obtain⟨o',e1⟩:=I.base.there b o e hx;exact there b o' (neC b o e hx) e1
 ·obtain⟨m1,e1⟩:=I.base.tbls b ps e;obtain⟨m2,e2⟩:=tbls b _ e1;exact⟨m1++m2,by rw[e2,Array.append_assoc]⟩
 ·obtain⟨m,hn,hl⟩:=I.loc;refine⟨m,ns m hn,fun i x v e1 e2 e3=>?_⟩;obtain⟨u,r,l⟩:=hl i x v e1 e2 e3;refine⟨u,r,?_⟩;rcases l with l | ⟨k,c,e,z⟩
  ·exact .inl l
  ·exact .inr ⟨k,c,e,cellK x c e _ z⟩
 ·obtain⟨v,z⟩:=I.cell x c e;exact⟨v,cellK x c e v z⟩
 ·obtain⟨m,⟨o,_,_,ho,_⟩,_⟩:=I.loc;exact free _ o (fun z=>(hch _ z).2.1 rfl) ho I.free
 ·obtain⟨v,o,ho,hd⟩:=I.cell x c e;exact free c o (fun z=>(hch c z).2.2.1 x c e rfl) ho (I.freeC x c e)
 ·obtain⟨e,n,ne,nf,d⟩:=I.pin p hp;have nch:p.1 ∉ ch:=fun z=>(hch p.1 z).2.2.2 p hp rfl;exact⟨keep p.1 p.2 ne nf nch e n,free p.1 p.2 nch e n,ne,nf,d⟩
theorem Inv.un {t':Nat} (I:Inv X pins σ H s) (u:Un X.fs [] H H' s.heap h') (hok:HOk X.prog X.w H' h'):Inv X pins σ H' { s with heap:=h',toks:=t' }:=by
 obtain⟨m,⟨o,es,ep,ho,r⟩,_⟩:=id I.loc;obtain⟨sl,hL⟩:=u.any ho I.free (by simp);exact I.step (g':=s.gens) (d':=s.drawn) (ch:=[]) (fun _ z=>nomatch z) (fun b o _ hb _ e n=>u.keep b o e n hb (by simp)) (fun b o _ hb _ e n=>u.slot b o e n hb (by simp)) (fun b o _ e n=>u.free b o e n (by simp)) (fun b o _ e=>u.there b o e (by simp)) u.tups u.frzs u.tbls (fun m' hm=>by
  obtain⟨o',es',ep',ho',r'⟩:=hm;rw[ho] at ho';cases ho';exact⟨_,es',ep',hL,r'⟩) hok I.bare
theorem Inv.call {g':Array GenState}{t':Nat}{d':Drawn}{ch:List Addr} (I:Inv X pins σ H s) (u:Un (frs X.stack) ch H H' s.heap h') (hok:HOk X.prog X.w H' h') (hg:AllBare g')
  (hch:∀ b∈ch,(b∈X.ex∨X.s₀.heap.objs.size<=b)/\b≠X.env.locals/\(∀ x c,X.env.cells.lookup x=some c->c≠b)/\∀ p∈X.pn++pins,p.1≠b) :
  Inv X pins σ H' { s with heap:=h',gens:=g',drawn:=d',toks:=t' }:=by
 obtain⟨m,⟨o,es,ep,ho,r⟩,_⟩:=id I.loc;obtain⟨sl,hL⟩:=u.any ho I.free fun z=>(hch _ z).2.1 rfl;exact I.step (ch:=ch) hch (fun b o hL hb hc e n=>u.keep b o e n (fun z=>(Yai.mp (I.stkSub b z)).elim hL hb) hc) (fun b o _ _ hc e n=>u.any e n hc) (fun b o hc e n=>u.free b o e n hc) (fun b o hc e=>u.there b o e hc) u.tups u.frzs u.tbls (fun m' hm=>by
  obtain⟨o',es',ep',ho',r'⟩:=hm;rw[ho] at ho';cases ho';exact⟨_,es',ep',hL,r'⟩) hok hg
theorem Inv.turned {t':Nat}{it:Addr} (I:Inv X pins σ H s) (k:∀ b o,b≠it->s.heap.get? b=some o->h'.get? b=some o) (hn:H it=none) (hL:it≠X.env.locals)
  (h1:it∈X.ex∨X.s₀.heap.objs.size<=it) (h2:∀ x c,X.env.cells.lookup x=some c->c≠it) (h3:∀ p∈X.pn++pins,p.1≠it):Inv X pins σ H { s with heap:=h',toks:=t' }:=by
 have nit:∀ b u,H b=some u->b≠it:=fun b u e z=>by rw[z,hn] at e;cases e
 refine I.step (g':=s.gens) (d':=s.drawn) (ch:=[it]) (fun b hb=>?_) (fun b o _ _ hc e _=>k b o (fun z=>hc (by simp[z])) e) (fun b o _ _ hc e _=>⟨o.slots,k b o (fun z=>hc (by simp[z])) e⟩) (fun _ _ _ _ n=>n)
  (fun b o hc e=>⟨o,k b o (fun z=>hc (by simp[z])) e⟩) (fun _ _ e=>e) (fun _ _ _ e=>e) (fun b ps e=>⟨#[],by rw[e];simp⟩) (fun m hm=>?_) (fun b u e=>?_) I.bare
 ·have e:b=it:=by simpa using hb
  subst e;exact⟨h1,hL,h2,h3⟩
 ·obtain⟨o,es,ep,ho,r⟩:=hm;exact⟨o,es,ep,k _ o (Ybj hL) ho,r⟩
 ·refine (I.hok b u e).stay (fun c v hc q=>k c v ?_ q) (fun _ q=>q) fun _ _ q=>q;rcases hc with z | z
  ·rw[z];exact nit b u e
  ·exact nit c _ z
theorem Inv.tok (I:Inv X pins σ H s) (t:Nat):Inv X pins σ H { s with toks:=t }:=I.un (h':=s.heap) (t':=t) Un.refl I.hok
theorem Inv.kept {t':Nat} (I:Inv X pins σ H s) (k:∀ b u,s.heap.get? b=some u->h'.get? b=some u):Inv X pins σ H { s with heap:=h',toks:=t' }:=I.un (Un.kept k) (I.hok.kept k)
theorem Inv.laid {a:Addr}{o:HO}{t':Nat} (I:Inv X pins σ H s) (k:∀ b u,s.heap.get? b=some u->h'.get? b=some u) (hp:s.heap.objs.size<=a) (new:ObjOk X.prog X.w (upd H a o) h' a o) :
  Inv X pins σ (upd H a o) { s with heap:=h',toks:=t' }:=I.un (Un.laid k hp (I.hok.fresh hp)) (I.hok.laid k hp new)
theorem Inv.write {x e:Addr}{o:HO}{t':Nat} (I:Inv X pins σ H s) (mu:Mut (H x)) (he:e=x∨H e=some (.own x)) (k:∀ b u,b≠e->s.heap.get? b=some u->h'.get? b=some u) (heo:∃ u,h'.get? e=some u)
  (new:ObjOk X.prog X.w (upd H x o) h' x o):Inv X pins σ (upd H x o) { s with heap:=h',toks:=t' }:=I.un (Un.write mu he k heo) (I.hok.write mu he k heo new)
theorem Inv.weak {σ':List (Option V)} (I:Inv X pins σ H s) (hl:σ'.length=σ.length) (w:∀ (i:Nat) v,σ'[i]?=some (some v)->σ[i]?=some (some v)):Inv X pins σ' H s :=
 ⟨I.ok,I.os,I.bare,I.base,let ⟨m,hn,hl'⟩:=I.loc;⟨m,hn,fun i x v e1 e2 e3=>hl' i x v e1 (w i v e2) e3⟩,I.cell,I.free,I.freeC,I.pin,I.hok,hl.trans I.len⟩
theorem Inv.pins_of {pins':List (Addr × Obj)} (I:Inv X pins σ H s) (h:∀ p∈pins',s.heap.get? p.1=some p.2/\H p.1=none/\p.1≠X.env.locals/\p.1 ∉ X.fs/\∀ v,p.2.data≠.cell v):Inv X pins' σ H s :=
 ⟨I.ok,I.os,I.bare,I.base,I.loc,I.cell,I.free,I.freeC,fun p hp=>(Yan.mp hp).elim (fun z=>I.pin p (YaU _ z)) (h p),I.hok,I.len⟩
theorem Zd6 {N:List Str} (hN:N.Nodup) {i j:Nat}{x:Str} (a:N[i]?=some x) (b:N[j]?=some x):i=j:=by
 obtain⟨h1,e1⟩:=Yae.mp a;obtain⟨h2,e2⟩:=Yae.mp b;exact (Yfc hN).mp (e1.trans e2.symm)
theorem Zez {M:Model}{A:Around}{E:Value->Shared->Prop}{i:Nat}{x:Str}{v:V}{u:Value}{Q:Unit->Shared->Prop} (I:Inv X pins σ H s) (hN:X.N.Nodup) (hi:X.N[i]?=some x) (hx:Loc X.env.scope x) (r:RelV v u)
  (h:∀ s',Inv X pins (σ.set i (some v)) H s'->(∃ a,Ycn a s.heap s'.heap/\(a=X.env.locals∨X.env.cells.lookup x=some a))->Q () s') (hf:X.fn x=true∨X.env.scope.names.lookup x=some .local:=by first | exact .inl rfl | exact .inr rfl | assumption):wpAny M A (storeName X.env x u) Q E s:=by
 obtain⟨m,hn,hl⟩:=id I.loc;have hcls:(X.env.scope.kind == .class || (X.env.scope.kind == .module && X.env.locals != X.env.globals))=false:=by rw[I.ok.kind];rfl
 have hiσ:i<σ.length:=by rw[I.len];exact (Yae.mp hi).1
 have cne:=I.cne;have tracked:∀ {a:Addr}{h':Heap},(∃ o,s.heap.get? a=some o/\H a=none)->Ycn a s.heap h'->HOk X.prog X.w H h':=fun {a h'} ha hs b ob e=>by
  obtain⟨_,_,hfree⟩:=ha;refine (I.hok b ob e).stay (fun c w' hc q=>(hs.2 c ?_).trans q) (fun _ q=>q) fun _ _ q=>q;rintro rfl;rcases hc with rfl | hc
  ·rw[hfree] at e;cases e
  ·rw[hfree] at hc;cases hc
 rcases hx with hk | hk
 ·refine wpAny_storeName_local hk hn (fun h' hn' hs=>?_) hcls;obtain⟨oL,_,_,hoL,_⟩:=id hn;refine h _ ⟨I.ok,I.os,I.bare,⟨fun b o e n hb hx=>?_,fun b o e n hb hx=>?_,I.base.free,fun b o e hx=>?_,I.base.tups,I.base.frzs,I.base.tbls⟩,⟨_,hn',fun j y v' e1 e2 e3=>?_⟩,fun y c e=>?_,I.free,I.freeC,fun p hp=>?_,tracked ⟨oL,hoL,I.free⟩ hs,by simpa using I.len⟩ ⟨_,hs,.inl rfl⟩
  ·exact (hs.2 b (Yaz (Yap (Yah e) I.ok.above))).trans (I.base.keep b o e n hb hx)
  ·obtain⟨sl,e1⟩:=I.base.slot b o e n hb hx;exact⟨sl,(hs.2 b (Yaz (Yap (Yah e) I.ok.above))).trans e1⟩
  ·obtain⟨o',e1⟩:=I.base.there b o e hx;exact⟨o',(hs.2 b (Yaz (Yap (Yah e) I.ok.above))).trans e1⟩
  ·by_cases hj:j=i
   ·subst hj;rw[hi] at e1;cases e1;rw[Yc1 hiσ] at e2;cases e2;exact⟨u,r,.inl ⟨hk,by simp⟩⟩
   ·rw[YaN (Ybj hj)] at e2;obtain⟨u',r',q⟩:=hl j y v' e1 e2 e3;refine⟨u',r',?_⟩;rcases q with ⟨k,e⟩ | ⟨k,c,e,z⟩
    ·refine .inl ⟨k,?_⟩;have:y≠x:=fun e=>hj (Zd6 hN e1 (e ▸ hi));simp[this,e]
    ·exact .inr ⟨k,c,e,z.sameBut hs (cne y c e)⟩
  ·obtain⟨w',z⟩:=I.cell y c e;exact⟨w',z.sameBut hs (cne y c e)⟩
  ·obtain⟨e,n,ne,nf,d⟩:=I.pin p hp;exact⟨(hs.2 p.1 ne).trans e,n,ne,nf,d⟩
 ·have hfn:X.fn x=true:=by
   rcases hf with z | z
   ·exact z
   ·rw[z] at hk;cases hk
  obtain⟨c,hc⟩:=I.ok.has x (.inl hk);obtain⟨w',z⟩:=I.cell x c hc;refine wpAny_storeName_cell I.ok.kind hk hc z (fun h' hc' hs=>?_);obtain⟨oc,hoc,hocd⟩:=id z;refine h { s with heap:=h' } ⟨I.ok,I.os,I.bare,⟨fun b o e n hb hx=>?_,fun b o e n hb hx=>?_,I.base.free,fun b o e hx=>?_,I.base.tups,I.base.frzs,I.base.tbls⟩,⟨m,hn.sameBut hs (Ybj (cne x c hc)),fun j y v' e1 e2 e3=>?_⟩,fun y c' e=>?_,I.free,I.freeC,fun p hp=>?_,tracked ⟨oc,hoc,I.freeC x c hc⟩ hs,by simpa using I.len⟩ ⟨c,hs,.inr hc⟩
  ·exact (hs.2 b (Yaz (Yap (Yah e) (I.ok.cab x c hfn hc)))).trans (I.base.keep b o e n hb hx)
  ·obtain⟨sl,e1⟩:=I.base.slot b o e n hb hx;exact⟨sl,(hs.2 b (Yaz (Yap (Yah e) (I.ok.cab x c hfn hc)))).trans e1⟩
  ·obtain⟨o',e1⟩:=I.base.there b o e hx;exact⟨o',(hs.2 b (Yaz (Yap (Yah e) (I.ok.cab x c hfn hc)))).trans e1⟩
  ·by_cases hj:j=i
   ·subst hj;rw[hi] at e1;cases e1;rw[Yc1 hiσ] at e2;cases e2;exact⟨u,r,.inr ⟨.inl hk,c,hc,hc'⟩⟩
   ·rw[YaN (Ybj hj)] at e2;obtain⟨u',r',q⟩:=hl j y v' e1 e2 e3;refine⟨u',r',?_⟩;rcases q with q | ⟨k,c',e,z'⟩
    ·exact .inl q
    ·refine .inr ⟨k,c',e,z'.sameBut hs ?_⟩;rintro rfl;exact hj (Zd6 hN e1 (I.ok.inj _ _ _ e hc ▸ hi))
  ·by_cases hcc:c'=c
   ·subst hcc;exact⟨_,hc'⟩
   ·obtain⟨w2,z2⟩:=I.cell y c' e;exact⟨w2,z2.sameBut hs hcc⟩
  ·obtain⟨e,n,ne,nf,d⟩:=I.pin p hp;refine⟨(hs.2 p.1 ?_).trans e,n,ne,nf,d⟩;intro q;rw[q,hoc] at e;have q':oc=p.2:=YaD e;exact d w' (by rw[<- q'];exact hocd)
theorem ZdL {M:Model}{A:Around}{E:Value->Shared->Prop}{i:Nat}{x:Str}{v:V}{u:Value}{Q:Unit->Shared->Prop} (I:Inv X pins σ H s) (hN:X.N.Nodup) (hi:X.N[i]?=some x) (hx:Loc X.env.scope x) (r:RelV v u)
  (h:∀ s',Inv X pins (σ.set i (some v)) H s'->Q () s') (hf:X.fn x=true∨X.env.scope.names.lookup x=some .local:=by first | exact .inl rfl | exact .inr rfl | assumption):wpAny M A (storeName X.env x u) Q E s :=
 Zez I hN hi hx r (fun s' I' _=>h s' I') hf
theorem Inv.call' {s':Shared}{ch:List Addr} (I:Inv X pins σ H s) (ho:s'.os=s.os) (u:Un (frs X.stack) ch H H' s.heap s'.heap) (hok:HOk X.prog X.w H' s'.heap) (hg:AllBare s'.gens)
  (hch:∀ b∈ch,(b∈X.ex∨X.s₀.heap.objs.size<=b)/\b≠X.env.locals/\(∀ x c,X.env.cells.lookup x=some c->c≠b)/\∀ p∈X.pn++pins,p.1≠b):Inv X pins σ H' s':=by
 obtain⟨h',g',d',t',o'⟩:=s';have e:o'=s.os:=ho;subst e;exact I.call (g':=g') (t':=t') (d':=d') u hok hg hch
end
abbrev XK:=Value->Option Addr->Hp->Prop
abbrev St:=List (Option V)
abbrev VK:=V->Hp->Prop
abbrev TE:=St->Hp->VK->Prop
abbrev TT:=St->Hp->(Bool->Hp->Prop)->Prop
abbrev TA:=St->Hp->(List V->Hp->Prop)->Prop
structure Ends where
 nx:St->Hp->Prop
 rt:VK
 bk:St->Hp->Prop:=fun _ _=>False
 ct:St->Hp->Prop:=fun _ _=>False
abbrev TS:=Ends->St->Hp->Prop
def EP (X:Cx) (pins:List (Addr × Obj)) (σ:St) (Q:VK) (u:Value) (s':Shared):Prop:=∃ v H',Inv X pins σ H' s'/\RelV v u/\Q v H'
def TP (X:Cx) (pins:List (Addr × Obj)) (σ:St) (Q:Bool->Hp->Prop) (b:Bool) (s':Shared):Prop:=∃ H',Inv X pins σ H' s'/\Q b H'
def AP (X:Cx) (pins:List (Addr × Obj)) (σ:St) (Q:List V->Hp->Prop) (us:List Value) (s':Shared):Prop:=∃ vs H',Inv X pins σ H' s'/\Vals vs us/\Q vs H'
def SP (X:Cx) (pins:List (Addr × Obj)) (D:Ends) (f:Flow) (s':Shared):Prop :=
 match f with
 | .next=>∃ σ' H',Inv X pins σ' H' s'/\D.nx σ' H'
 | .brk=>∃ σ' H',Inv X pins σ' H' s'/\D.bk σ' H'
 | .cont=>∃ σ' H',Inv X pins σ' H' s'/\D.ct σ' H'
 | .ret u=>∃ v σ' H',Inv X pins σ' H' s'/\RelV v u/\D.rt v H'
def PE (X:Cx) (e:Expr) (t:TE):Prop :=
 ∀ (pins:List (Addr × Obj)) (s:Shared) (σ:St) (H:Hp) (Q:VK),Inv X pins σ H s->t σ H Q->wpAny (model X.prog X.w) X.A (eval e X.env) (EP X pins σ Q) X.xe s
def PT (X:Cx) (e:Expr) (t:TT):Prop :=
 ∀ (pins:List (Addr × Obj)) (s:Shared) (σ:St) (H:Hp) (Q:Bool->Hp->Prop),Inv X pins σ H s->t σ H Q->wpAny (model X.prog X.w) X.A (isTrue e X.env (eval e X.env)) (TP X pins σ Q) X.xe s
def PW (X:Cx) (e:Expr) (t:TT):Prop :=
 ∀ (whole:Sem Value) (pins:List (Addr × Obj)) (s:Shared) (σ:St) (H:Hp) (Q:Bool->Hp->Prop),Inv X pins σ H s->t σ H Q->wpAny (model X.prog X.w) X.A (isTrue e X.env whole) (TP X pins σ Q) X.xe s
theorem PW.pt {X:Cx}{e:Expr}{t:TT} (h:PW X e t):PT X e t:=h _
def PA (X:Cx) (es:List Expr) (t:TA):Prop :=
 ∀ (pos:Pos) (pins:List (Addr × Obj)) (s:Shared) (σ:St) (H:Hp) (Q:List V->Hp->Prop),Inv X pins σ H s->t σ H Q->wpAny (model X.prog X.w) X.A (spliced (backTo pos (starEach es X.env))) (AP X pins σ Q) X.xe s
def PS (X:Cx) (st:Stmt) (t:TS):Prop :=
 ∀ (pins:List (Addr × Obj)) (s:Shared) (σ:St) (H:Hp) (D:Ends),Inv X pins σ H s->t D σ H->wpAny (model X.prog X.w) X.A (exec st X.env) (SP X pins D) X.xe s
def PSs (X:Cx) (st:List Stmt) (t:TS):Prop :=
 ∀ (pins:List (Addr × Obj)) (s:Shared) (σ:St) (H:Hp) (D:Ends),Inv X pins σ H s->t D σ H->wpAny (model X.prog X.w) X.A (execs st X.env) (SP X pins D) X.xe s
theorem thn {α:Type}{t:Sem α}{Q Q':α->Shared->Prop}{M:Model}{A:Around}{E:Value->Shared->Prop}{s:Shared} (h:wpAny M A t Q E s) (hQ:∀ a s,Q a s->Q' a s):wpAny M A t Q' E s:=wpAny_mono h hQ fun _ _ x=>x
end L2
namespace L2
open PySem PySem.Spec PyProof.Rows
section
variable {X:Cx}
def tVar (i:Nat):TE:=fun σ H Q=>∃ v,σ[i]?=some (some v)/\Q v H
def tC (v:V):TE:=fun _ H Q=>Q v H
theorem ZjS {i:Nat}{x:Str}{pos:Pos} (hN:X.N[i]?=some x) (hv:Vis X.env.scope x) (hd:(x == ("__debug__":Str))=false:=by decide) (hcd:(x == ("__classdict__":Str))=false:=by decide):PE X (.Name x pos) (tVar i):=by
 intro pins s σ H Q I h;obtain⟨v,e,h⟩:=h;obtain⟨m,hn,hl⟩:=I.loc;obtain⟨u,r,l⟩:=hl i x v hN e hv;have fin:EP X pins σ Q u s:=⟨v,H,I,r,h⟩
 rcases l with ⟨hk,hm⟩ | ⟨hk,c,hc,hcell⟩
 ·exact wpAny_Name (wpAny_loadName_local I.ok.kind hk hn hm fin) hd
 ·rcases hk with hk | hk
  ·exact wpAny_Name (wpAny_loadName_cell I.ok.kind hk hc hcell fin) hd
  ·exact wpAny_Name (wpAny_loadName_free I.ok.kind hk hc hcell fin hcd) hd
theorem Zaf {i j pos}:PE X (.Constant (.int i) j pos) (tC (.int i)):=fun _ _ _ H _ I h=>wpAny_Constant_int ⟨.int i,H,I.tok _,⟨_,rfl⟩,h⟩
theorem Zfq {b j pos}:PE X (.Constant (.bool b) j pos) (tC (.bl b)):=fun _ _ _ H _ I h=>Constant_bool ⟨.bl b,H,I,rfl,h⟩
theorem ZeH {j pos}:PE X (.Constant .none j pos) (tC .non):=fun _ _ _ H _ I h=>Constant_none ⟨.non,H,I,rfl,h⟩
theorem Zlj {x j pos}:PE X (.Constant (.str x) j pos) (tC (.str x)):=fun _ _ _ H _ I h=>YeP ⟨.str x,H,I.tok _,⟨_,rfl⟩,h⟩
def Gl (X:Cx) (x:Str):Prop:=X.env.kindOf x=some .globalImplicit
theorem Zd8 {E:Value->Shared->Prop}{pins:List (Addr × Obj)}{s:Shared}{σ:St}{H:Hp}{x:Str}{u:Value}{pos:Pos}{Q:Value->Shared->Prop} (I:Inv X pins σ H s) (hg:Gl X x) (hm:X.mg x=some u) (h:Q u s)
  (hd:(x == ("__debug__":Str))=false:=by decide):wpAny (model X.prog X.w) X.A (eval (.Name x pos) X.env) Q E s :=
 YdX I.ok.kind hg (Calls.loadGlobal_global (by rw[I.ok.glob];exact I.mod.glob.keeps I.bk) hm h) hd
theorem Zdw {E:Value->Shared->Prop}{pins:List (Addr × Obj)}{s:Shared}{σ:St}{H:Hp}{x:Str}{u:Value}{pos:Pos}{Q:Value->Shared->Prop} (I:Inv X pins σ H s) (hg:Gl X x) (hm:X.mg x=none) (hv:bootBuiltins x=some u) (h:Q u s)
  (hn:x≠"__name__":=by decide) (hd:(x == ("__debug__":Str))=false:=by decide):wpAny (model X.prog X.w) X.A (eval (.Name x pos) X.env) Q E s:=by
 obtain⟨mb,h1,h2⟩:=I.mod.blt;exact YdX I.ok.kind hg (Calls.loadGlobal_builtin (by rw[I.ok.glob];exact I.mod.glob.keeps I.bk) hm (by rw[I.ok.blt];exact h1.keeps I.bk) ((h2 x hn).trans hv) h) hd
theorem Zfp {x:Str}{v:V}{u:Value}{pos:Pos} (hg:Gl X x) (hm:X.mg x=some u) (r:RelV v u) (hd:(x == ("__debug__":Str))=false:=by decide):PE X (.Name x pos) (tC v) :=
 fun _ _ _ H _ I h=>Zd8 I hg hm ⟨v,H,I,r,h⟩ hd
theorem Zks {x:Str}{v:V}{u:Value}{pos:Pos} (hg:Gl X x) (hm:X.mg x=none) (hv:bootBuiltins x=some u) (r:RelV v u) (hn:x≠"__name__":=by decide) (hd:(x == ("__debug__":Str))=false:=by decide):PE X (.Name x pos) (tC v) :=
 fun _ _ _ H _ I h=>Zdw I hg hm hv ⟨v,H,I,r,h⟩ hn hd
variable {a b:Expr}{ta tb:TE}{pos:Pos}
def PC (X:Cx) (op:CmpOp) (a b:Expr) (t:TE):Prop :=
 ∀ (pins:List (Addr × Obj)) (s:Shared) (σ:St) (H:Hp) (Q:VK),Inv X pins σ H s->t σ H Q ->
  wpAny (model X.prog X.w) X.A (eval a X.env) (fun v s₁=>wpAny (model X.prog X.w) X.A (eval b X.env) (fun u s₂=>wpAny (model X.prog X.w) X.A (compareOp op v u) (EP X pins σ Q) X.xe s₂) X.xe s₁) X.xe s
theorem Zjk (b:Expr) {op:CmpOp} (h:op≠.In) (h2:op≠.NotIn):behindInMarks op b=false:=by
 have e1:(op == CmpOp.In)=false:=by cases op <;> first | rfl | exact absurd rfl h
 have e2:(op == CmpOp.NotIn)=false:=by cases op <;> first | rfl | exact absurd rfl h2
 cases b <;> simp[behindInMarks,e1,e2]
def tIsN (ta:TE):TE:=fun σ H Q=>ta σ H fun x H1=>Q (.bl (decide (x=.non))) H1
theorem RelV.none_iff {x:V}{v:Value} (r:RelV x v):(v == YbN)=decide (x=.non):=by
 cases x with
 | non=>cases r;rfl
 | bl _=>cases r;rfl
 | int _=>obtain⟨t,rfl⟩:=r;rfl
 | str _=>obtain⟨t,rfl⟩:=r;rfl
 | byt _=>obtain⟨t,rfl⟩:=r;rfl
 | flt _=>obtain⟨t,rfl⟩:=r;rfl
 | ref _=>cases r;rfl
 | ty _=>cases r;rfl
theorem ZjT {j pos'} (ha:PE X a ta):PC X .Is a (.Constant .none j pos') (tIsN ta):=by
 intro pins s σ H Q I h;refine thn (ha pins s σ H _ I h) fun v s1 ⟨x,H1,I1,r1,q1⟩=>?_;exact Constant_none (is_none_gen ⟨.bl _,H1,I1,by rw[r1.none_iff];rfl,q1⟩)
def tB (t:TE):TT:=fun σ H Q=>t σ H fun x H1=>∃ c,x=.bl c/\Q c H1
theorem ZjR {op:CmpOp}{t:TE} (h:PC X op a b t) (h1:behindInMarks op b=false:=by first | exact Zjk _ (by decide) (by decide) | rfl):PT X (.Compare a [op] [b] pos) (tB t):=by
 intro pins s σ H Q I hw;refine wpAny_isTrue_Compare1 (thn (h pins s σ H _ I hw) fun v s1 h1=>thn h1 fun u s2 h2=>thn h2 fun c s3 ⟨x,H1,I1,r1,q1⟩=>?_) h1;obtain⟨d,rfl,q⟩:=q1;cases r1;exact wpAny_truthy_bool ⟨H1,I1,q⟩
theorem Zbj {e:Expr}{t:TE} (h:PE X e t) (he:∀ whole,isTrue e X.env whole=(do let v <- whole;standAt e.pos;holding [v] (truthy v)):=by intro _;rfl):PT X e (tB t):=by
 intro pins s σ H Q I hw;refine isTrue_plain (thn (h pins s σ H _ I hw) fun v s1 ⟨x,H1,I1,r1,q1⟩=>?_) (he _);obtain⟨d,rfl,q⟩:=q1;cases r1;exact wpAny_truthy_bool ⟨H1,I1,q⟩
variable {tA tB':TT}{rest:List Expr}
def tOr (t u:TT):TT:=fun σ H Q=>t σ H fun c H1=>if c=true then Q true H1 else u σ H1 Q
def tNot (t:TT):TT:=fun σ H Q=>t σ H fun c H1=>Q (!c) H1
theorem Zcb (ha:PT X a tA):PW X (.BoolOp .Or [a] pos) tA:=by
 intro wh pins s σ H Q I h;refine isTrue_or (thn (ha pins s σ H Q I h) fun c s1 e=>?_)
 cases c with
 | false=>exact isTrue_or_nil e
 | true=>exact e
theorem Zco (ha:PT X a tA) (hb:PW X (.BoolOp .Or (b::rest) pos) tB'):PW X (.BoolOp .Or (a::b::rest) pos) (tOr tA tB'):=by
 intro wh pins s σ H Q I h;refine isTrue_or (thn (ha pins s σ H _ I h) fun c s1 ⟨H1,I1,q1⟩=>?_)
 cases c with
 | true=>exact⟨H1,I1,q1⟩
 | false=>exact hb wh pins s1 σ H1 Q I1 q1
theorem Za8 (ha:PT X a tA):PT X (.UnaryOp .Not a pos) (tNot tA):=by
 intro pins s σ H Q I h;exact isTrue_not (ha pins s σ H (fun c H1=>Q (!c) H1) I h)
def ZlS (ta tb:TE):TE:=fun σ H Q=>ta σ H fun x H1=>∃ c,x=.bl c/\if c=true then tb σ H1 Q else Q (.bl false) H1
def ZlP (ta:TE):TE:=fun σ H Q=>ta σ H fun x H1=>∃ c,x=.bl c/\Q (.bl (!c)) H1
theorem ZfY {op}{t:TE} (h:PE X a t):PE X (.BoolOp op [a] pos) t:=fun pins s σ H Q I hw=>BoolOp_one (h pins s σ H Q I hw)
theorem Zf0 (ha:PE X a ta) (hb:PE X (.BoolOp .And (b::rest) pos) tb):PE X (.BoolOp .And (a::b::rest) pos) (ZlS ta tb):=by
 intro pins s σ H Q I h;refine BoolOp_and (thn (ha pins s σ H _ I h) fun v s1 ⟨x,H1,I1,r1,q1⟩=>?_);obtain⟨c,rfl,q1⟩:=q1;cases r1;refine wpAny_truthy_bool ?_
 cases c with
 | true=>exact hb pins s1 σ H1 Q I1 q1
 | false=>exact⟨.bl false,H1,I1,rfl,q1⟩
theorem Zhs (ha:PE X a ta):PE X (.UnaryOp .Not a pos) (ZlP ta):=by
 intro pins s σ H Q I h;refine UnaryOp_ (thn (ha pins s σ H _ I h) fun v s1 ⟨x,H1,I1,r1,q1⟩=>?_);obtain⟨c,rfl,q1⟩:=q1;cases r1;exact not_of (wpAny_truthy_bool ⟨.bl (!c),H1,I1,rfl,q1⟩)
end
end L2
namespace L2
open PySem PySem.Spec PyProof.Rows
def SqL (K:Yad) (H:Hp) (a:Addr) (xs:List V):Prop :=
 Rd H a (.lst xs) ∨
  ∃ (o:Obj) (its:Array Value) (n:Nat),K.lookup a=some o/\o.cls=.type "list"/\o.dict=none/\o.data=.seq its n/\its.size<=sizeLine/\Vals xs its.toList
def SqT (K:Yad) (H:Hp) (a:Addr) (xs:List V):Prop :=
 Rd H a (.tup xs) ∨
  ∃ (o:Obj) (its:Array Value) (n:Nat),K.lookup a=some o/\o.cls=.type "tuple"/\o.data=.seq its n/\its.size<=sizeLine/\Vals xs its.toList
def absV:Value->Option V
 | .none=>some .non
 | .bool b=>some (.bl b)
 | .int i _=>some (.int i)
 | .str x _=>some (.str x)
 | .bytes b _=>some (.byt b)
 | .float b _=>some (.flt b)
 | .ref a=>some (.ref a)
 | .type n=>some (.ty n)
 | _=>none
theorem RelV.abs {x:V}{u:Value} (r:RelV x u):absV u=some x:=by
 cases x with
 | non=>cases r;rfl
 | bl _=>cases r;rfl
 | int _=>obtain⟨t,rfl⟩:=r;rfl
 | str _=>obtain⟨t,rfl⟩:=r;rfl
 | byt _=>obtain⟨t,rfl⟩:=r;rfl
 | flt _=>obtain⟨t,rfl⟩:=r;rfl
 | ref _=>cases r;rfl
 | ty _=>cases r;rfl
theorem RelV.inj {x y:V}{u:Value} (r:RelV x u) (q:RelV y u):x=y:=YaD (r.abs.symm.trans q.abs)
theorem Vals.inj:∀ {xs ys:List V}{us:List Value},Vals xs us->Vals ys us->xs=ys
 | _,_,_,.nil,.nil=>rfl
 | _,_,_,.cons r t,.cons r' t'=>by rw[r.inj r',Vals.inj t t']
section
variable {X:Cx}{pins:List (Addr × Obj)}{σ:St}{H:Hp}{s:Shared}{a:Addr}{xs ys:List V}
theorem SqL.of {K:Yad} (h:H a=some (.lst xs)):SqL K H a xs:=.inl (.inl h)
theorem SqT.of {K:Yad} (h:H a=some (.tup xs)):SqT K H a xs:=.inl (.inl h)
theorem Inv.list (I:Inv X pins σ H s) (h:SqL X.K H a xs):∃ its:List Value,Vals xs its/\PlainL s.heap a its.toArray/\xs.length<=sizeLine:=by
 rcases h with h | ⟨o,its,n,hk,hc,hd,hs,hz,r⟩
 ·obtain⟨z,its,n,r,e⟩:=h.ok I.hok;exact⟨its,r,⟨_,n,e,rfl,rfl,rfl⟩,z⟩
 ·refine⟨its.toList,r,⟨o,n,I.kIn a o hk,hc,hd,by simpa using hs⟩,?_⟩;have e:=r.length;simp only[Yao] at e;omega
theorem Inv.tuple (I:Inv X pins σ H s) (h:SqT X.K H a xs):∃ its:List Value,Vals xs its/\IsTup s.heap a its.toArray/\xs.length<=sizeLine:=by
 rcases h with h | ⟨o,its,n,hk,hc,hs,hz,r⟩
 ·obtain⟨z,its,r,p⟩:=h.ok I.hok;exact⟨its,r,p.tup,z⟩
 ·refine⟨its.toList,r,⟨o,I.kIn a o hk,hc,n,by simpa using hs⟩,?_⟩;have e:=r.length;simp only[Yao] at e;omega
theorem Inv.list_inj (I:Inv X pins σ H s) (h:SqL X.K H a xs) (h':SqL X.K H a ys):xs=ys:=by
 obtain⟨its,r,⟨o,n,e,_,_,d⟩,_⟩:=I.list h;obtain⟨its',r',⟨o',n',e',_,_,d'⟩,_⟩:=I.list h';rw[e] at e';cases e';rw[d] at d';injection d' with d1 _;have:its=its':=by simpa using congrArg Array.toList d1
 subst this;exact r.inj r'
theorem Inv.tuple_inj (I:Inv X pins σ H s) (h:SqT X.K H a xs) (h':SqT X.K H a ys):xs=ys:=by
 obtain⟨its,r,⟨o,e,_,n,d⟩,_⟩:=I.tuple h;obtain⟨its',r',⟨o',e',_,n',d'⟩,_⟩:=I.tuple h';rw[e] at e';cases e';rw[d] at d';injection d' with d1 _;have:its=its':=by simpa using congrArg Array.toList d1
 subst this;exact r.inj r'
end
abbrev Cx.wish (X:Cx) (E:Value->Shared->Prop):Cx:={ X with xe:=E }
abbrev Cx.nox (X:Cx):Cx:=X.wish fun _ _=>False
theorem Cx.Ok.wish {X:Cx} (ok:X.Ok) (E:Value->Shared->Prop):(X.wish E).Ok :=
 ⟨ok.mod,ok.kind,ok.glob,ok.blt,ok.above,ok.inj,ok.has,ok.cab,ok.hd,ok.frames,ok.stk,ok.exf,ok.bs,ok.bsz,ok.noex,ok.exfs,ok.funs,ok.frf⟩
theorem Cx.Ok.unwish {X:Cx}{E:Value->Shared->Prop} (ok:(X.wish E).Ok):X.Ok :=
 ⟨ok.mod,ok.kind,ok.glob,ok.blt,ok.above,ok.inj,ok.has,ok.cab,ok.hd,ok.frames,ok.stk,ok.exf,ok.bs,ok.bsz,ok.noex,ok.exfs,ok.funs,ok.frf⟩
section
variable {X:Cx}{pins:List (Addr × Obj)}{σ:St}{H:Hp}{s:Shared}{E:Value->Shared->Prop}
theorem Inv.wish (I:Inv X pins σ H s) (E:Value->Shared->Prop):Inv (X.wish E) pins σ H s:=⟨I.ok.wish E,I.os,I.bare,I.base,I.loc,I.cell,I.free,I.freeC,I.pin,I.hok,I.len⟩
theorem Inv.unwish (I:Inv (X.wish E) pins σ H s):Inv X pins σ H s:=⟨I.ok.unwish,I.os,I.bare,I.base,I.loc,I.cell,I.free,I.freeC,I.pin,I.hok,I.len⟩
theorem SP.unwish {D:Ends}{f:Flow}{s':Shared} (h:SP (X.wish E) pins D f s'):SP X pins D f s':=by
 cases f with
 | next=>obtain⟨σ',H',I,q⟩:=h;exact⟨σ',H',I.unwish,q⟩
 | brk=>obtain⟨σ',H',I,q⟩:=h;exact⟨σ',H',I.unwish,q⟩
 | cont=>obtain⟨σ',H',I,q⟩:=h;exact⟨σ',H',I.unwish,q⟩
 | ret u=>obtain⟨v,σ',H',I,r,q⟩:=h;exact⟨v,σ',H',I.unwish,r,q⟩
theorem PSs.nox {st:List Stmt}{t:TS} (h:PSs X.nox st t):PSs X st t:=fun pins s σ H D I hw=>
 wpAny_mono (h pins s σ H D (I.wish _) hw) (fun _ _ q=>q.unwish) fun _ _ z=>Yca z
end
section
variable {X:Cx}{st:Stmt}{rest:List Stmt}{t u:TS}{e:Expr}{te:TE}{pos:Pos}
def Zk5:TS:=fun D σ H=>D.nx σ H
def tSeq (t u:TS):TS:=fun D σ H=>t { D with nx:=u D } σ H
theorem Zcp:PSs X [] Zk5:=fun _ _ σ H _ I h=>wpAny_execs_nil ⟨σ,H,I,h⟩
theorem Zaq (h1:PS X st t) (h2:PSs X rest u):PSs X (st::rest) (tSeq t u):=by
 intro pins s σ H D I h;refine wpAny_execs_cons (thn (h1 pins s σ H { D with nx:=u D } I h) fun f s1 q=>?_)
 cases f with
 | next=>
  obtain⟨σ',H',I',q⟩:=q;exact h2 pins s1 σ' H' D I' q
 | ret v=>exact q
 | brk=>exact q
 | cont=>exact q
theorem Zav (h1:PS X st t):PSs X [st] t:=by
 intro pins s σ H D I h;refine wpAny_execs_cons (thn (h1 pins s σ H D I h) fun f s1 q=>?_)
 cases f with
 | next=>exact wpAny_execs_nil q
 | ret v=>exact q
 | brk=>exact q
 | cont=>exact q
theorem Inv.quiet {pins:List (Addr × Obj)}{σ:St}{H:Hp}{s:Shared} (I:Inv X pins σ H s):interactive X.env=false:=by simp[interactive,I.ok.kind]
def ZlQ (te:TE):TS:=fun D σ H=>te σ H fun _ H1=>D.nx σ H1
theorem Za1 (he:PE X e te) (hs:swapsWith e none pos.line X.env=pure false:=by rfl):PS X (.Expr e pos) (ZlQ te):=by
 intro pins s σ H D I h;exact wpAny_Expr_any (thn (he pins s σ H _ I h) fun v s1 ⟨x,H1,I1,r1,q1⟩=>⟨σ,H1,I1,q1⟩) I.quiet hs
def tRet (te:TE):TS:=fun D σ H=>te σ H D.rt
theorem ZaF (he:PE X e te):PS X (.Return (some e) pos) (tRet te):=by
 intro pins s σ H D I h;exact wpAny_Return_some (thn (he pins s σ H _ I h) fun v s1 ⟨x,H1,I1,r1,q1⟩=>⟨x,σ,H1,I1,r1,q1⟩)
def tIfS (c:TT) (t u:TS):TS:=fun D σ H=>c σ H fun b H1=>if b=true then t D σ H1 else u D σ H1
theorem Zfl {c:Expr}{a b:List Stmt}{tc:TT} (hc:PT X c tc) (ha:PSs X a t) (hb:PSs X b u):PS X (.If c a b pos) (tIfS tc t u):=by
 intro pins s σ H D I h;refine wpAny_If (thn (hc pins s σ H _ I h) fun d s1 ⟨H1,I1,q1⟩=>?_)
 cases d with
 | true=>exact ha pins s1 σ H1 D I1 q1
 | false=>exact hb pins s1 σ H1 D I1 q1
def Zk6:TS:=fun _ _ _=>False
theorem Zbk {sts:List Stmt}:PSs X sts Zk6:=fun _ _ _ _ _ _ h=>h.elim
end
abbrev TG:=V->St->Hp->(St->Hp->Prop)->Prop
abbrev TGs:=List V->St->Hp->(St->Hp->Prop)->Prop
def PG (X:Cx) (target:Expr) (t:TG):Prop :=
 ∀ (pins:List (Addr × Obj)) (s:Shared) (σ:St) (H:Hp) (v:V) (u:Value) (Q:St->Hp->Prop),Inv X pins σ H s->RelV v u->t v σ H Q ->
  wpAny (model X.prog X.w) X.A (assign target X.env u) (fun _ s'=>∃ σ' H',Inv X pins σ' H' s'/\Q σ' H') X.xe s
def PGs (X:Cx) (ts:List Expr) (t:TGs):Prop :=
 ∀ (pins:List (Addr × Obj)) (s:Shared) (σ:St) (H:Hp) (vs:List V) (us:List Value) (Q:St->Hp->Prop),Inv X pins σ H s->Vals vs us->t vs σ H Q ->
  wpAny (model X.prog X.w) X.A (assignInOrder ((assignEach ts X.env).map (·.2)) us) (fun _ s'=>∃ σ' H',Inv X pins σ' H' s'/\Q σ' H') X.xe s
abbrev TSet:=V->V->V->Hp->(Hp->Prop)->Prop
def PSet (X:Cx) (t:TSet):Prop :=
 ∀ (pins:List (Addr × Obj)) (s:Shared) (σ:St) (H:Hp) (o i v:V) (ov iv u:Value) (Q:Hp->Prop),Inv X pins σ H s->RelV o ov->RelV i iv->RelV v u->t o i v H Q ->
  wpAny (model X.prog X.w) X.A (setItem ov iv u) (fun _ s'=>∃ H',Inv X pins σ H' s'/\Q H') X.xe s
section
variable {X:Cx}{pos:Pos}
def Zb0 (i:Nat):TG:=fun v σ H Q=>Q (σ.set i (some v)) H
theorem Zam {i:Nat}{x:Str} (hN:X.N.Nodup) (hi:X.N[i]?=some x) (hx:Loc X.env.scope x) (hf:X.fn x=true∨X.env.scope.names.lookup x=some .local:=by first | exact .inl rfl | exact .inr rfl | assumption):PG X (.Name x pos) (Zb0 i):=by
 intro pins s σ H v u Q I r h;exact wpAny_assign_Name (ZdL I hN hi hx r (fun s' I'=>⟨_,H,I',h⟩) hf)
def gNil:TGs:=fun vs σ H Q=>vs=[]/\Q σ H
def Zc0 (t:TG) (u:TGs):TGs:=fun vs σ H Q=>∃ v r,vs=v::r/\t v σ H fun σ' H'=>u r σ' H' Q
theorem ZaX:PGs X [] gNil:=by
 intro pins s σ H vs us Q I r h;obtain⟨e,h⟩:=h;subst e;cases r;exact assignInOrder_nil ⟨σ,H,I,h⟩
theorem Zan {e:Expr}{es:List Expr}{t:TG}{u:TGs} (h1:PG X e t) (h2:PGs X es u)
  (hs:(assignEach (e::es) X.env).map (·.2)=assign e X.env::(assignEach es X.env).map (·.2):=by rfl):PGs X (e::es) (Zc0 t u):=by
 intro pins s σ H vs us Q I r h;obtain⟨v,vr,e1,h⟩:=h;subst e1
 cases r with
 | cons r rr=>
  rw[hs];refine assignInOrder_cons (thn (h1 pins s σ H _ _ _ I r h) fun _ s1 ⟨σ1,H1,I1,q1⟩=>?_);exact h2 pins s1 σ1 H1 _ _ Q I1 rr q1
def gTup (K:Yad) (n:Nat) (t:TGs):TG:=fun v σ H Q=>∃ a xs,v=.ref a/\SqT K H a xs/\xs.length=n/\t xs σ H Q
theorem ZcS {es:List Expr}{k:Nat}{t:TGs}{n:Nat} (hc:X.calm=true) (h:PGs X es t)
  (hn:(assignEach es X.env).length=n:=by rfl) (hst:(assignEach es X.env).findIdx? (·.1)=none:=by rfl):PG X (.Tuple es k pos) (gTup X.K n t):=by
 intro pins s σ H v u Q I r hw;obtain⟨a,xs,e1,hq,hl,hw⟩:=hw;subst e1;cases r;obtain⟨its,rv,ht,hz⟩:=I.tuple hq;refine assign_Tuple_tuple (I.ok.hd hc) ht (by simp[hn,<- hl,rv.length]) hst fun h' hx=>?_;have I1:Inv X pins σ H { s with heap:=h' }:=I.kept (t':=s.toks) fun b o e=>hx b o (Yaz (Yah e)) e;exact h pins _ σ H xs _ Q I1 (by simpa using rv) hw
def gSub (to ti:TE) (t:TSet):TG:=fun v σ H Q=>to σ H fun o H1=>ti σ H1 fun i H2=>t o i v H2 fun H3=>Q σ H3
theorem Zli {o i:Expr}{to ti:TE}{t:TSet} (ho:PE X o to) (hi:PE X i ti) (hs:PSet X t)
  (ha:∀ v,assign (.Subscript o i pos) X.env v=(do
   let ov <- holding [v] (eval o X.env)
   let iv <- holding [v,ov] (eval i X.env)
   standAt pos
   holding [v,ov,iv] (setItem ov iv v)
   release [v,ov,iv] []):=by intro _;rfl):PG X (.Subscript o i pos) (gSub to ti t):=by
 intro pins s σ H v u Q I r h;rw[ha];refine wpAny_bind (wpAny_holding (thn (ho pins s σ H _ I h) fun ov s1 ⟨x,H1,I1,r1,q1⟩=>?_));refine wpAny_bind (wpAny_holding (thn (hi pins s1 σ H1 _ I1 q1) fun iv s2 ⟨y,H2,I2,r2,q2⟩=>?_));refine wpAny_bind (wpAny_standAt (wpAny_bind (wpAny_holding (thn (hs pins s2 σ H2 x y v ov iv u _ I2 r1 r2 r q2) fun _ s3 ⟨H3,I3,q3⟩=>?_))));exact wpAny_release ⟨σ,H3,I3,q3⟩
def tAsg (te:TE) (g:TG):TS:=fun D σ H=>te σ H fun x H1=>g x σ H1 D.nx
theorem Zhl {tg e:Expr}{te:TE}{g:TG} (he:PE X e te) (hg:PG X tg g) (hs:swapsWithSole [tg] e pos.line X.env=pure false:=by rfl) (hw:swappedStores [tg] e X.env=pure none:=by rfl)
  (h1:(assignEach [tg] X.env).map (·.2)=[assign tg X.env]:=by rfl):PS X (.Assign [tg] e pos) (tAsg te g):=by
 intro pins s σ H D I h;refine wpAny_Assign_stores (thn (he pins s σ H _ I h) fun v s1 ⟨x,H1,I1,r1,q1⟩=>?_) hs hw;rw[h1];exact thn (hg pins s1 σ H1 x v _ I1 r1 q1) fun _ s2 q=>q
theorem Zar {i:Nat}{x:Str}{e:Expr}{te:TE}{pos':Pos} (hN:X.N.Nodup) (hi:X.N[i]?=some x) (hx:Loc X.env.scope x) (he:PE X e te) (hs:swapsWith e (some (.Name x pos')) pos.line X.env=pure false:=by rfl) (hf:X.fn x=true∨X.env.scope.names.lookup x=some .local:=by first | exact .inl rfl | exact .inr rfl | assumption) :
  PS X (.Assign [.Name x pos'] e pos) (tAsg te (Zb0 i)):=by
 intro pins s σ H D I h;refine wpAny_Assign_Name (thn (he pins s σ H _ I h) fun v s1 ⟨y,H1,I1,r1,q1⟩=>?_) hs;exact ZdL I1 hN hi hx r1 (fun s2 I2=>⟨_,H1,I2,q1⟩) hf
end
section
variable {X:Cx}{pos:Pos}
def Zk2 (c:TT) (tb:TS):TS:=fun D σ H=>∃ W:Nat->St->Hp->Prop,(∃ m,W m σ H)/\∀ m σ H,W m σ H ->
 c σ H fun b H1=>if b=true then ∃ N:St->Hp->Prop,(∀ σ' H',N σ' H'->∃ m',m'<m/\W m' σ' H')/\tb { D with nx:=N,ct:=N,bk:=D.nx } σ H1 else D.nx σ H1
theorem ZfW {c:Expr}{body:List Stmt}{tc:TT}{tb:TS} (hp:PassesOwn (model X.prog X.w) X.A X.env X.xe) (hc:PT X c tc) (hb:PSs X body tb):PS X (.While c body [] pos) (Zk2 tc tb):=by
 intro pins s σ H D I h;obtain⟨W,⟨m0,w0⟩,turn⟩:=h;refine wpAny_While (codeAny_whileLoop (fun n s'=>∃ σ' H',Inv X pins σ' H' s'/\W n σ' H') ?_ m0 ⟨σ,H,I,w0⟩);rintro n s1 ⟨σ1,H1,I1,w1⟩;refine wpAny_passesOwn hp (thn (hc pins s1 σ1 H1 _ I1 (turn n σ1 H1 w1)) fun b s2 ⟨H2,I2,q2⟩=>?_)
 cases b with
 | true=>
  obtain⟨N,hN,q2⟩:=q2;rw[if_pos rfl];refine wpAny_passesOwn hp (thn (hb pins s2 σ1 H2 _ I2 q2) fun f s3 q3=>?_)
  cases f with
  | next=>
   obtain⟨σ3,H3,I3,n3⟩:=q3;obtain⟨m',hm,w3⟩:=hN σ3 H3 n3;exact⟨m',hm,σ3,H3,I3,w3⟩
  | cont=>
   obtain⟨σ3,H3,I3,n3⟩:=q3;obtain⟨m',hm,w3⟩:=hN σ3 H3 n3;exact⟨m',hm,σ3,H3,I3,w3⟩
  | brk=>exact q3
  | ret v=>exact q3
 | false=>
  rw[if_neg YaF];exact wpAny_execs_nil ⟨σ1,H2,I2,q2⟩
end
structure It where
 go:Nat->Hp->Prop
 yld:Nat->Hp->V->Hp->Prop
 stop:Nat->Hp->Prop
def FpOk (X:Cx) (pins:List (Addr × Obj)) (H:Hp) (b:Addr):Prop :=
 H b=none/\b≠X.env.locals/\b ∉ X.fs/\(b∈X.ex∨X.s₀.heap.objs.size<=b)/\(∀ x c,X.env.cells.lookup x=some c->c≠b)/\∀ p∈X.pn++pins,p.1≠b
theorem Inv.fpOk {X:Cx}{pins:List (Addr × Obj)}{σ:St}{H H':Hp}{s:Shared}{b:Addr} (I:Inv X pins σ H s) (hb:s.heap.objs.size<=b) (hn:H' b=none):FpOk X pins H' b:=by
 refine⟨hn,Yby (Yap I.lt hb),I.nofs hb,.inr (Ybz I.sz hb),fun x c e z=>?_,fun p hp z=>?_⟩
 ·obtain⟨v,q⟩:=I.cell x c e;exact absurd (Yap q.lt (by rw[z];exact hb)) (Ybe _)
 ·exact absurd (Yap (Yah (I.pin p hp).1) (by rw[z];exact hb)) (Ybe _)
structure Turn (P:Program) (w:World) (K:Yad) (tg:Expr) (J:It) (fp:List Addr) (it:Addr) (tn:Nat->Heap->Prop):Prop where
 mem:it∈fp
 obj:∀ i h,tn i h->∀ b∈fp,∃ o,h.get? b=some o/\∀ v,o.data≠.cell v
 keep:∀ i h h',tn i h->(∀ b∈fp,∀ o,h.get? b=some o->h'.get? b=some o)->tn i h'
 item:∀ (X:Cx),X.prog=P->X.w=w->X.K=K->X.calm=true->∀ (i:Nat) (pins:List (Addr × Obj)) (s:Shared) (σ:St) (H:Hp) (E:Value->Shared->Prop),Inv X pins σ H s->(∀ b∈fp,FpOk X pins H b)->tn i s.heap->J.go i H ->
  wpAny (model P w) X.A (pyNext (.ref it)) (fun r s1=>∃ u,r=some u /\
   wpAny (model P w) X.A (letOwnedTupleGo tg (.ref it) u) (fun _ s2=>∃ x H',Inv X pins σ H' s2/\RelV x u/\J.yld i H x H'/\tn (i+1) s2.heap/\∀ b∈fp,H' b=none) E s1) E s
 done:∀ (X:Cx),X.prog=P->X.w=w->X.K=K->X.calm=true->∀ (i:Nat) (pins:List (Addr × Obj)) (s:Shared) (σ:St) (H:Hp) (E:Value->Shared->Prop),Inv X pins σ H s->(∀ b∈fp,FpOk X pins H b)->tn i s.heap->J.stop i H ->
  wpAny (model P w) X.A (pyNext (.ref it)) (fun r s1=>r=none/\Inv X pins σ H s1) E s
 self:∀ (A:Around) (i:Nat) (s:Shared) (Q:Value->Shared->Prop) (E:Value->Shared->Prop),tn i s.heap->Q (.ref it) s->wpAny (model P w) A (pyIter (.ref it)) Q E s
abbrev TI:=St->Hp->(It->Hp->Prop)->Prop
def PIE (X:Cx) (pins:List (Addr × Obj)) (σ:St) (tg:Expr) (R:It->Hp->Prop) (itv:Value) (s2:Shared):Prop :=
 ∃ (it:Addr) (fp:List Addr) (tn:Nat->Heap->Prop) (J:It) (H':Hp),itv=.ref it/\Inv X pins σ H' s2/\Turn X.prog X.w X.K tg J fp it tn/\tn 0 s2.heap/\(∀ b∈fp,FpOk X pins H' b)/\R J H'
def PI (X:Cx) (tg iter:Expr) (wi:TI):Prop :=
 ∀ (pins:List (Addr × Obj)) (s:Shared) (σ:St) (H:Hp) (R:It->Hp->Prop),Inv X pins σ H s->wi σ H R ->
  wpAny (model X.prog X.w) X.A (eval iter X.env) (fun v s1=>wpAny (model X.prog X.w) X.A (pyIter v) (PIE X pins σ tg R) X.xe s1) X.xe s
theorem ZkM {M:Model}{A:Around}{E:Value->Shared->Prop}{s:Shared}{tg:Expr}{it:Addr}{u:Value}{o:Obj}{n:String}{vs:Array Value}{Q:Unit->Shared->Prop} (ho:s.heap.get? it=some o) (hc:o.cls=.type n) (hd:o.data=.fields vs)
    (hn:["enumerate","zip","dict_itemiterator","dict_reverseitemiterator","odict_iterator","itertools.zip_longest","itertools.pairwise"].contains n=false) (hQ:Q () s):wpAny M A (letOwnedTupleGo tg (.ref it) u) Q E s:=by
  unfold letOwnedTupleGo;cases tg <;> first
    | exact wpAny_pure hQ
    | (cases u <;> first
        | exact wpAny_pure hQ
        | (refine wpAny_bind (wpAny_load ho ?_)
           rw[hc,hd];show wpAny M A (if (["enumerate","zip","dict_itemiterator","dict_reverseitemiterator","odict_iterator","itertools.zip_longest","itertools.pairwise"].contains n && vs[0]? == some (rawInt _))=true then _ else _) Q E s;rw[if_neg (by intro h;rw[hn,Bool.false_and] at h;cases h)];exact wpAny_pure hQ))
def Itl (K:Yad) (a:Addr):It :=
 ⟨fun i H=>∃ xs x,SqL K H a xs/\xs[i]?=some x,fun i H x H'=>H'=H/\∀ xs,SqL K H a xs->xs[i]?=some x,fun i H=>∃ xs,SqL K H a xs/\xs.length<=i⟩
def Itt (K:Yad) (a:Addr):It :=
 ⟨fun i H=>∃ xs x,SqT K H a xs/\xs[i]?=some x,fun i H x H'=>H'=H/\∀ xs,SqT K H a xs->xs[i]?=some x,fun i H=>∃ xs,SqT K H a xs/\xs.length<=i⟩
def Itr (lo:Int) (n:Nat):It:=⟨fun i _=>i<n,fun i H x H'=>H'=H/\x=.int (lo+i),fun i _=>n<=i⟩
theorem Zet {P:Program}{w:World}{K:Yad}{tg:Expr} (a it:Addr):Turn P w K tg (Itl K a) [it] it (fun i h=>h.IsListIter it a i) where
 mem:=by simp
 obj:=fun i h st b hb=>by
  have e:b=it:=by simpa using hb
  subst e;obtain⟨o,e,c,d⟩:=st;exact⟨o,e,fun v z=>by rw[d] at z;cases z⟩
 keep:=fun i h h' st k=>st.at fun o e=>k it (by simp) o e
 item:=by
  intro X hP hw hK hc i pins s σ H E I hf st hg;subst hP hw hK;obtain⟨xs,x,hq,hx⟩:=hg;obtain⟨its,rv,p,hz⟩:=I.list hq;obtain⟨u,hu,ru⟩:=rv.get hx;obtain⟨f0,f1,f2,f3,f4,f5⟩:=hf it (by simp);refine wpAny_pyNext_list_item st p.isList (x:=u) (by simpa using hu) fun h' st' sb=>?_;have I1:Inv X pins σ H { s with heap:=h' }:=I.turned (t':=s.toks) (fun b o hb e=>(sb.2 b hb).trans e) f0 f1 f3 f4 f5;obtain⟨o,e,c,d⟩:=id st';exact⟨u,rfl,ZkM (s:={ s with heap:=h' }) e c d (by decide) ⟨x,H,I1,ru,⟨rfl,fun ys hy=>by rw[I.list_inj hy hq];exact hx⟩,st',fun b hb=>(hf b hb).1⟩⟩
 done:=by
  intro X hP hw hK hc i pins s σ H E I hf st hg;subst hP hw hK;obtain⟨xs,hq,hx⟩:=hg;obtain⟨its,rv,p,hz⟩:=I.list hq;obtain⟨f0,f1,f2,f3,f4,f5⟩:=hf it (by simp);have hl:=rv.length;exact wpAny_pyNext_list_end (I.ok.hd hc) st p.isList (by simp;omega) fun h' eb=>⟨rfl,I.turned (t':=s.toks) (fun b o hb e=>eb b o hb e) f0 f1 f3 f4 f5⟩
 self:=fun _ _ _ _ _ st h=>wpAny_pyIter_listiter st h
theorem Zdk {P:Program}{w:World}{K:Yad}{tg:Expr} (a it:Addr):Turn P w K tg (Itt K a) [it] it (fun i h=>h.IsTupleIter it a i) where
 mem:=by simp
 obj:=fun i h st b hb=>by
  have e:b=it:=by simpa using hb
  subst e;obtain⟨o,e,c,d⟩:=st;exact⟨o,e,fun v z=>by rw[d] at z;cases z⟩
 keep:=fun i h h' st k=>st.at fun o e=>k it (by simp) o e
 item:=by
  intro X hP hw hK hc i pins s σ H E I hf st hg;subst hP hw hK;obtain⟨xs,x,hq,hx⟩:=hg;obtain⟨its,rv,p,hz⟩:=I.tuple hq;obtain⟨u,hu,ru⟩:=rv.get hx;obtain⟨f0,f1,f2,f3,f4,f5⟩:=hf it (by simp);refine wpAny_pyNext_tuple_item st (show s.heap.IsTuple a its.toArray from p) (x:=u) (by simpa using hu) fun h' st' sb=>?_;have I1:Inv X pins σ H { s with heap:=h' }:=I.turned (t':=s.toks) (fun b o hb e=>(sb.2 b hb).trans e) f0 f1 f3 f4 f5;obtain⟨o,e,c,d⟩:=id st';exact⟨u,rfl,ZkM (s:={ s with heap:=h' }) e c d (by decide) ⟨x,H,I1,ru,⟨rfl,fun ys hy=>by rw[I.tuple_inj hy hq];exact hx⟩,st',fun b hb=>(hf b hb).1⟩⟩
 done:=by
  intro X hP hw hK hc i pins s σ H E I hf st hg;subst hP hw hK;obtain⟨xs,hq,hx⟩:=hg;obtain⟨its,rv,p,hz⟩:=I.tuple hq;obtain⟨f0,f1,f2,f3,f4,f5⟩:=hf it (by simp);have hl:=rv.length;exact wpAny_pyNext_tuple_end (I.ok.hd hc) st (show s.heap.IsTuple a its.toArray from p) (by simp;omega) fun h' eb=>⟨rfl,I.turned (t':=s.toks) (fun b o hb e=>eb b o hb e) f0 f1 f3 f4 f5⟩
 self:=fun _ _ _ _ _ st h=>wpAny_pyIter_tupleiter st h
theorem Zgm {P:Program}{w:World}{K:Yad}{tg:Expr} (it:Addr) (lo:Int) (n:Nat):Turn P w K tg (Itr lo n) [it] it (fun i h=>IsRangeIter h it (lo+(i:Nat)*1) ((n:Int) - (i:Nat)) 1) where
 mem:=by simp
 obj:=fun i h st b hb=>by
  have e:b=it:=by simpa using hb
  subst e;exact⟨_,st,fun v z=>by
   have z':Data.fields _=Data.cell v:=z;cases z'⟩
 keep:=fun i h h' st k=>k it (by simp) _ st
 item:=by
  intro X hP hw hK hc i pins s σ H E I hf st hg;subst hP hw hK;obtain⟨f0,f1,f2,f3,f4,f5⟩:=hf it (by simp);have W:=Walks.range (prog:=X.prog) (w:=X.w) (I.ok.hd hc) it lo 1 n;refine W.item i s _ _ hg st fun v h' tk hv st' kk=>?_;obtain⟨t,rfl⟩:=hv;have I1:Inv X pins σ H { s with heap:=h',toks:=tk }:=I.turned (fun b o hb e=>kk b o (by simpa using hb) e) f0 f1 f3 f4 f5;refine⟨_,rfl,ZkM (s:={ s with heap:=h',toks:=tk }) (n:="range_iterator") st' rfl rfl (by decide) ⟨.int (lo+i),H,I1,⟨t,?_⟩,⟨rfl,rfl⟩,st',fun b hb=>(hf b hb).1⟩⟩;rw[Int.mul_one]
 done:=by
  intro X hP hw hK hc i pins s σ H E I hf st hg;subst hP hw hK;obtain⟨f0,f1,f2,f3,f4,f5⟩:=hf it (by simp);exact wpAny_pyNext_range_end (I.ok.hd hc) st (by have:n<=i:=hg;omega) fun h' eb=>⟨rfl,I.turned (t':=s.toks) (fun b o hb e=>eb b o hb e) f0 f1 f3 f4 f5⟩
 self:=fun _ _ _ _ _ st h=>wpAny_pyIter_rangeiter st h
end L2
namespace L2
open PySem PySem.Spec PyProof.Rows
section
variable {X:Cx}{tg:Expr}
def Zmb (K:Yad) (tl:TE):TI:=fun σ H R=>tl σ H fun x H1=>∃ a,x=.ref a/\(∃ xs,SqL K H1 a xs)/\R (Itl K a) H1
def iTup (K:Yad) (tl:TE):TI:=fun σ H R=>tl σ H fun x H1=>∃ a,x=.ref a/\(∃ xs,SqT K H1 a xs)/\R (Itt K a) H1
theorem Zhp {l:Expr}{tl:TE} (hl:PE X l tl):PI X tg l (Zmb X.K tl):=by
 intro pins s σ H R I h;refine thn (hl pins s σ H _ I h) fun v s1 ⟨x,H1,I1,r1,q1⟩=>?_;obtain⟨a,e,⟨xs,hq⟩,q⟩:=q1;subst e;cases r1;obtain⟨its,rv,p,hz⟩:=I1.list hq;refine wpAny_pyIter_list p.isList ?_;refine⟨s1.heap.objs.size,[s1.heap.objs.size],_,_,H1,rfl,I1.kept (t':=s1.toks) fun b o e=>Yac _ e,Zet a _,⟨_,Yas _ rfl,rfl,rfl⟩,fun b hb=>?_,q⟩;have e:b=s1.heap.objs.size:=by simpa using hb
 subst e;exact I1.fpOk (Yag _) (I1.hok.fresh (Yag _))
theorem Zho {l:Expr}{tl:TE} (hl:PE X l tl):PI X tg l (iTup X.K tl):=by
 intro pins s σ H R I h;refine thn (hl pins s σ H _ I h) fun v s1 ⟨x,H1,I1,r1,q1⟩=>?_;obtain⟨a,e,⟨xs,hq⟩,q⟩:=q1;subst e;cases r1;obtain⟨its,rv,p,hz⟩:=I1.tuple hq;refine wpAny_pyIter_tuple (show s1.heap.IsTuple a its.toArray from p) ?_;refine⟨s1.heap.objs.size,[s1.heap.objs.size],_,_,H1,rfl,I1.kept (t':=s1.toks) fun b o e=>Yac _ e,Zdk a _,⟨_,Yas _ rfl,rfl,rfl⟩,fun b hb=>?_,q⟩;have e:b=s1.heap.objs.size:=by simpa using hb
 subst e;exact I1.fpOk (Yag _) (I1.hok.fresh (Yag _))
theorem ZiY {pins:List (Addr × Obj)}{σ:St}{H:Hp}{s:Shared}{R:It->Hp->Prop}{E:Value->Shared->Prop}{lo hi:Int}{t u v:Tok}{tk:Nat} (I:Inv X pins σ H s) (h1:-(2 ^ 62)<=lo) (h2:lo<2 ^ 62) (h3:-(2 ^ 62)<=hi) (h4:hi<2 ^ 62)
  (q:R (Itr lo (hi - lo).toNat) H):wpAny (model X.prog X.w) X.A (pyIter (.ref s.heap.objs.size)) (PIE X pins σ tg R) E { s with heap:=s.heap.push { cls:=.type "range",data:=.fields #[.int lo t,.int hi u,.int 1 v] },toks:=tk }:=by
 refine wpAny_pyIter_range (IsRange.new ..) (small_one h1 h2 h3 h4) ?_;have I1:Inv X pins σ H { s with heap:=s.heap.push { cls:=.type "range",data:=.fields #[.int lo t,.int hi u,.int 1 v] },toks:=tk }:=I.kept fun b o e=>Yac _ e;refine⟨(s.heap.push { cls:=.type "range",data:=.fields #[.int lo t,.int hi u,.int 1 v] }).objs.size,[(s.heap.push { cls:=.type "range",data:=.fields #[.int lo t,.int hi u,.int 1 v] }).objs.size],_,_,H,rfl,
  I1.kept (t':=tk) fun b o e=>Yac _ e,Zgm _ lo (hi - lo).toNat,?_,fun b hb=>?_,q⟩
 ·have e1:lo+((0:Nat):Int)*1=lo:=by simp
  have e2:(((hi - lo).toNat:Nat):Int) - ((0:Nat):Int)=Builtin.Range.rangeSize lo hi 1:=by rw[rangeSize_one];split <;> omega
  show IsRangeIter _ _ (lo+((0:Nat):Int)*1) ((((hi - lo).toNat:Nat):Int) - ((0:Nat):Int)) 1;rw[e1,e2];exact Yas _ rfl
 ·have e:b=(s.heap.push { cls:=.type "range",data:=.fields #[.int lo t,.int hi u,.int 1 v] }).objs.size:=by simpa using hb
  subst e;exact I1.fpOk (Yag _) (I1.hok.fresh (Yag _))
def Zma (ta:TA):TI:=fun σ H R=>ta σ H fun vs H1=>∃ j:Int,vs=[.int j]/\-(2 ^ 62)<=j/\j<2 ^ 62/\R (Itr 0 j.toNat) H1
theorem Za9 {a:Expr}{ta:TA}{p pos:Pos} (hg:Gl X "range") (hm:X.mg "range"=none) (ha:PA X [a] ta) (hs:starEach [a] X.env=[(false,eval a X.env)]:=by rfl):PI X tg (.Call (.Name "range" p) [a] [] pos) (Zma ta):=by
 intro pins s σ H R I h;refine Call_ (Zdw I hg hm boot_range (YbX (thn (ha pos pins s σ H _ I h) fun us s1 ⟨vs,H1,I1,r1,q1⟩=>?_) hs rfl));obtain⟨j,e,q1,q2,q⟩:=q1;subst e
 cases r1 with
 | cons r rr=>
  cases rr;obtain⟨t,rfl⟩:=r;exact call_range_1 (ZiY I1 (by omega) (by omega) q1 q2 (by simpa using q))
def tFor (wi:TI) (g:TG) (tb:TS):TS:=fun D σ H=>wi σ H fun J H1=>∃ W:Nat->Nat->St->Hp->Prop,(∃ m,W 0 m σ H1)/\∀ i m σ H,W i m σ H ->
 (J.stop i H/\D.nx σ H)∨(J.go i H/\∃ N:St->Hp->Prop,(∀ σ' H',N σ' H'->∃ m',m'<m/\W (i+1) m' σ' H')/\∀ x H',J.yld i H x H'->g x σ H' fun σ2 H2=>tb { D with nx:=N,ct:=N,bk:=D.nx } σ2 H2)
def ZcR (fp:List Addr) (h:Heap):List (Addr × Obj):=fp.filterMap fun b=>(h.get? b).map fun o=>(b,o)
theorem ZaN {fp:List Addr}{h:Heap}{b:Addr}{o:Obj} (hb:b∈fp) (e:h.get? b=some o):(b,o)∈ZcR fp h:=YcO.mpr ⟨b,hb,by rw[e];rfl⟩
theorem ZhD {fp:List Addr}{h:Heap}{p:Addr × Obj} (hp:p∈ZcR fp h):p.1∈fp/\h.get? p.1=some p.2:=by
 obtain⟨b,hb,e⟩:=YcO.mp hp
 cases q:h.get? b with
 | none=>rw[q] at e;cases e
 | some o=>
  rw[q] at e;have e':(b,o)=p:=YaD e;subst e';exact⟨hb,q⟩
theorem Inv.pinned {pins:List (Addr × Obj)}{σ:St}{H:Hp}{s:Shared}{fp:List Addr} (I:Inv X pins σ H s) (hf:∀ b∈fp,FpOk X pins H b) (ho:∀ b∈fp,∃ o,s.heap.get? b=some o/\∀ v,o.data≠.cell v):Inv X (pins++ZcR fp s.heap) σ H s :=
 I.pins_of fun p hp=>(Yan.mp hp).elim (fun z=>I.pin p (Yay _ z)) fun z=>by
  obtain⟨hb,e⟩:=ZhD z;obtain⟨f0,f1,f2,_⟩:=hf p.1 hb;obtain⟨o,e',d⟩:=ho p.1 hb;rw[e] at e';cases e';exact⟨e,f0,f1,f2,d⟩
theorem Inv.unpinned {pins pl:List (Addr × Obj)}{σ:St}{H:Hp}{s:Shared} (I:Inv X (pins++pl) σ H s):Inv X pins σ H s:=I.pins_of fun p hp=>I.pin p (Yay _ (YaU _ hp))
theorem ZcP {iter:Expr}{body:List Stmt}{wi:TI}{g:TG}{tb:TS}{pos:Pos} (hp:PassesOwn (model X.prog X.w) X.A X.env X.xe) (hc:X.calm=true) (hi:PI X tg iter wi) (hg:PG X tg g) (hb:PSs X body tb)
  (hs:∀ x,foldedSetIterable iter X.env x=pure x:=by intro _;rfl):PS X (.For tg iter body [] pos) (tFor wi g tb):=by
 intro pins s σ H D I h;refine wpAny_For (thn (hi pins s σ H _ I h) fun v s1 h1=>thn h1 fun itv s2 h2=>?_) hs;obtain⟨it,fp,tn,J,H2,e,I2,T,st2,f2,W,⟨m0,w0⟩,turn⟩:=h2;subst e;have stat:∀ {H':Hp},(∀ b∈fp,H' b=none)->∀ b∈fp,FpOk X pins H' b:=fun hn b hb=>⟨hn b hb,(f2 b hb).2⟩
 refine codeAny_forLoop_any (fun n s'=>∃ i σ' H',Inv X pins σ' H' s'/\tn i s'.heap/\(∀ b∈fp,H' b=none)/\W i n σ' H') ?_ m0 ⟨0,σ,H2,I2,st2,fun b hb=>(f2 b hb).1,w0⟩;rintro n s3 ⟨i,σ3,H3,I3,st3,fr3,w3⟩;rcases turn i n σ3 H3 w3 with ⟨stop,qn⟩ | ⟨go,N,hN,step⟩
 ·refine wpAny_passesOwn hp (thn (T.done X rfl rfl rfl hc i pins s3 σ3 H3 X.xe I3 (stat fr3) st3 stop) fun r s4 ⟨hr,I4⟩=>?_);subst hr;exact wpAny_execs_nil ⟨σ3,H3,I4,qn⟩
 ·refine wpAny_passesOwn hp (thn (T.item X rfl rfl rfl hc i pins s3 σ3 H3 X.xe I3 (stat fr3) st3 go) fun r s4 ⟨u,hr,h4⟩=>?_);subst hr;refine wpAny_passesOwn hp (thn h4 fun _ s5 ⟨x,H5,I5,r5,y5,st5,fr5⟩=>?_);have I5':=I5.pinned (stat fr5) (T.obj _ _ st5);refine wpAny_passesOwn hp (thn (hg _ s5 σ3 H5 x u _ I5' r5 (step x H5 y5)) fun _ s6 ⟨σ6,H6,I6,q6⟩=>?_);refine wpAny_passesOwn hp (thn (hb _ s6 σ6 H6 _ I6 q6) fun f s7 q7=>?_);have again:∀ {σ7:St}{H7:Hp},Inv X (pins++ZcR fp s5.heap) σ7 H7 s7->N σ7 H7->∃ m,m<n/\∃ i σ' H',Inv X pins σ' H' s7/\tn i s7.heap/\(∀ b∈fp,H' b=none)/\W i m σ' H':=fun {σ7 H7} I7 n7=>by
   obtain⟨m',hm,w7⟩:=hN σ7 H7 n7;refine⟨m',hm,i+1,σ7,H7,I7.unpinned,T.keep _ _ _ st5 fun b hb o e=>(I7.pin (b,o) (Yay _ (Yay _ (ZaN hb e)))).1,fun b hb=>?_,w7⟩;obtain⟨o,e,d⟩:=T.obj _ _ st5 b hb;exact (I7.pin (b,o) (Yay _ (Yay _ (ZaN hb e)))).2.1
  cases f with
  | next=>obtain⟨σ7,H7,I7,n7⟩:=q7;exact again I7 n7
  | cont=>obtain⟨σ7,H7,I7,n7⟩:=q7;exact again I7 n7
  | brk=>obtain⟨σ7,H7,I7,q7⟩:=q7;exact⟨σ7,H7,I7.unpinned,q7⟩
  | ret v=>obtain⟨x7,σ7,H7,I7,r7,q7⟩:=q7;exact⟨x7,σ7,H7,I7.unpinned,r7,q7⟩
end
theorem Zjs {K:Yad}{a:Addr}{xs:List V}{g:TG}{tb:TS}{D:Ends}{σ:St}{H:Hp} (Pv:Nat->St->Hp->Prop) (h0:Pv 0 σ H) (hl:∀ i σ H,i<=xs.length->Pv i σ H->SqL K H a xs)
  (hs:∀ i x σ H,xs[i]?=some x->Pv i σ H->g x σ H fun σ2 H2=>tb { D with nx:=Pv (i+1),ct:=Pv (i+1),bk:=D.nx } σ2 H2) (hd:∀ σ H,Pv xs.length σ H->D.nx σ H) :
  ∃ W:Nat->Nat->St->Hp->Prop,(∃ m,W 0 m σ H)/\∀ i m σ H,W i m σ H ->
   ((Itl K a).stop i H/\D.nx σ H)∨((Itl K a).go i H/\∃ N:St->Hp->Prop,(∀ σ' H',N σ' H'->∃ m',m'<m/\W (i+1) m' σ' H')/\∀ x H',(Itl K a).yld i H x H'->g x σ H' fun σ2 H2=>tb { D with nx:=N,ct:=N,bk:=D.nx } σ2 H2):=by
 refine⟨fun i m σ H=>m=xs.length - i/\i<=xs.length/\Pv i σ H,⟨xs.length,by simp,YaP _,h0⟩,?_⟩;rintro i m σ H ⟨rfl,hi,p⟩;have q:=hl i σ H hi p;by_cases hlt:i<xs.length
 ·refine .inr ⟨⟨xs,xs[i],q,by simp[hlt]⟩,Pv (i+1),fun σ' H' p'=>⟨xs.length - (i+1),by omega,rfl,hlt,p'⟩,fun x H' y=>?_⟩;obtain⟨e,y⟩:=y;subst e;exact hs i x σ _ (y xs q) p
 ·have e:i=xs.length:=by omega
  subst e;exact .inl ⟨⟨xs,q,Yag _⟩,hd σ H p⟩
theorem Zc1 {lo:Int}{n:Nat}{g:TG}{tb:TS}{D:Ends}{σ:St}{H:Hp} (Pv:Nat->St->Hp->Prop) (h0:Pv 0 σ H)
  (hs:∀ i σ H,i<n->Pv i σ H->g (.int (lo+i)) σ H fun σ2 H2=>tb { D with nx:=Pv (i+1),ct:=Pv (i+1),bk:=D.nx } σ2 H2) (hd:∀ σ H,Pv n σ H->D.nx σ H) :
  ∃ W:Nat->Nat->St->Hp->Prop,(∃ m,W 0 m σ H)/\∀ i m σ H,W i m σ H ->
   ((Itr lo n).stop i H/\D.nx σ H)∨((Itr lo n).go i H/\∃ N:St->Hp->Prop,(∀ σ' H',N σ' H'->∃ m',m'<m/\W (i+1) m' σ' H')/\∀ x H',(Itr lo n).yld i H x H'->g x σ H' fun σ2 H2=>tb { D with nx:=N,ct:=N,bk:=D.nx } σ2 H2):=by
 refine⟨fun i m σ H=>m=n - i/\i<=n/\Pv i σ H,⟨n,by simp,YaP _,h0⟩,?_⟩;rintro i m σ H ⟨rfl,hi,p⟩;by_cases hlt:i<n
 ·refine .inr ⟨hlt,Pv (i+1),fun σ' H' p'=>⟨n - (i+1),by omega,rfl,hlt,p'⟩,fun x H' y=>?_⟩;obtain⟨e,y⟩:=y;subst e y;exact hs i σ _ hlt p
 ·have e:i=n:=by omega
  subst e;exact .inl ⟨Yag _,hd σ H p⟩
end L2
namespace L2
open PySem PySem.Spec PyProof.Rows
abbrev R2:=V->V->Hp->VK->Prop
def OpR (X:Cx) (f:Value->Value->Sem Value) (r:R2):Prop :=
 ∀ (pins:List (Addr × Obj)) (s:Shared) (σ:St) (H:Hp) (x y:V) (v u:Value) (Q:VK),Inv X pins σ H s->RelV x v->RelV y u->r x y H Q ->
  wpAny (model X.prog X.w) X.A (f v u) (EP X pins σ Q) X.xe s
def UnR (X:Cx) (f:Value->Sem Value) (r:V->Hp->VK->Prop):Prop :=
 ∀ (pins:List (Addr × Obj)) (s:Shared) (σ:St) (H:Hp) (x:V) (v:Value) (Q:VK),Inv X pins σ H s->RelV x v->r x H Q ->
  wpAny (model X.prog X.w) X.A (f v) (EP X pins σ Q) X.xe s
def Zbg (X:Cx) (f:Value) (r:List V->Hp->VK->Prop):Prop :=
 ∀ (pins:List (Addr × Obj)) (s:Shared) (σ:St) (H:Hp) (xs:List V) (us:List Value) (Q:VK),Inv X pins σ H s->Vals xs us->r xs H Q ->
  wpAny (model X.prog X.w) X.A (call f us) (EP X pins σ Q) X.xe s
def tOp (r:R2) (ta tb:TE):TE:=fun σ H Q=>ta σ H fun x H1=>tb σ H1 fun y H2=>r x y H2 Q
def tUn (r:V->Hp->VK->Prop) (ta:TE):TE:=fun σ H Q=>ta σ H fun x H1=>r x H1 Q
def rI (C:Int->Int->Prop) (g:Int->Int->V):R2:=fun x y H Q=>∃ i j,x=.int i/\y=.int j/\C i j/\Q (g i j) H
def rI0 (g:Int->Int->V):R2:=fun x y H Q=>∃ i j,x=.int i/\y=.int j/\Q (g i j) H
def rU (g:Int->V):V->Hp->VK->Prop:=fun x H Q=>∃ i,x=.int i/\Q (g i) H
section
variable {X:Cx}{a b c:Expr}{ta tb tc:TE}{pos:Pos}
theorem binT (ha:PE X a ta) (hb:PE X b tb) {pins:List (Addr × Obj)}{s:Shared}{σ:St}{H:Hp}{R:V->V->Hp->Prop} (I:Inv X pins σ H s)
  (h:ta σ H fun x H1=>tb σ H1 fun y H2=>R x y H2) {Q:Value->Shared->Prop}{f:Value->Value->Sem Value}
  (hf:∀ v u s2 x y H2,Inv X pins σ H2 s2->RelV x v->RelV y u->R x y H2->wpAny (model X.prog X.w) X.A (f v u) Q X.xe s2) :
  wpAny (model X.prog X.w) X.A (eval a X.env) (fun v s₁=>wpAny (model X.prog X.w) X.A (eval b X.env) (fun u s₂=>wpAny (model X.prog X.w) X.A (f v u) Q X.xe s₂) X.xe s₁) X.xe s:=by
 refine thn (ha pins s σ H _ I h) fun v s1 ⟨x,H1,I1,r1,q1⟩=>?_;refine thn (hb pins s1 σ H1 _ I1 q1) fun u s2 ⟨y,H2,I2,r2,q2⟩=>?_;exact hf v u s2 x y H2 I2 r1 r2 q2
theorem Zap {op:Operator}{r:R2} (ho:OpR X (binaryOp op) r) (ha:PE X a ta) (hb:PE X b tb):PE X (.BinOp a op b pos) (tOp r ta tb):=by
 intro pins s σ H Q I h;exact wpAny_BinOp (binT ha hb I h fun v u s2 x y H2 I2 rx ry q=>ho pins s2 σ H2 x y v u Q I2 rx ry q)
theorem Zkp {op:UnaryOp}{r:V->Hp->VK->Prop} (ho:UnR X (unaryOp op) r) (ha:PE X a ta):PE X (.UnaryOp op a pos) (tUn r ta):=by
 intro pins s σ H Q I h;exact UnaryOp_ (thn (ha pins s σ H _ I h) fun v s1 ⟨x,H1,I1,r1,q1⟩=>ho pins s1 σ H1 x v Q I1 r1 q1)
theorem opI {f:Value->Value->Sem Value}{C:Int->Int->Prop}{g:Int->Int->Int}
  (rule:∀ (i j:Int) (t u:Tok) (s:Shared) (Q:Value->Shared->Prop) (E:Value->Shared->Prop),C i j->Q (.int (g i j) s.toks) { s with toks:=s.toks+1 }->wpAny (model X.prog X.w) X.A (f (.int i t) (.int j u)) Q E s) :
  OpR X f (rI C fun i j=>.int (g i j)):=by
 intro pins s σ H x y v u Q I rx ry h;obtain⟨i,j,rfl,rfl,hc,q⟩:=h;obtain⟨t,rfl⟩:=rx;obtain⟨t',rfl⟩:=ry;exact rule i j t t' s _ _ hc ⟨.int (g i j),H,I.tok _,⟨_,rfl⟩,q⟩
theorem opI0 {f:Value->Value->Sem Value}{g:Int->Int->Int}
  (rule:∀ (i j:Int) (t u:Tok) (s:Shared) (Q:Value->Shared->Prop) (E:Value->Shared->Prop),Q (.int (g i j) s.toks) { s with toks:=s.toks+1 }->wpAny (model X.prog X.w) X.A (f (.int i t) (.int j u)) Q E s) :
  OpR X f (rI0 fun i j=>.int (g i j)):=by
 intro pins s σ H x y v u Q I rx ry h;obtain⟨i,j,rfl,rfl,q⟩:=h;obtain⟨t,rfl⟩:=rx;obtain⟨t',rfl⟩:=ry;exact rule i j t t' s _ _ ⟨.int (g i j),H,I.tok _,⟨_,rfl⟩,q⟩
theorem opB0 {f:Value->Value->Sem Value}{g:Int->Int->Bool}
  (rule:∀ (i j:Int) (t u:Tok) (s:Shared) (Q:Value->Shared->Prop) (E:Value->Shared->Prop),Q (.bool (g i j)) s->wpAny (model X.prog X.w) X.A (f (.int i t) (.int j u)) Q E s) :
  OpR X f (rI0 fun i j=>.bl (g i j)):=by
 intro pins s σ H x y v u Q I rx ry h;obtain⟨i,j,rfl,rfl,q⟩:=h;obtain⟨t,rfl⟩:=rx;obtain⟨t',rfl⟩:=ry;exact rule i j t t' s _ _ ⟨.bl (g i j),H,I,rfl,q⟩
def CDiv (i j:Int):Prop:=0<j/\j<1073741824
def CPow (i j:Int):Prop:=0<=j/\j<=1000000/\i.natAbs<2 ^ 64
def CMul (i j:Int):Prop:=(-(2 ^ 64)<i/\i<2 ^ 64)∨(-(2 ^ 64)<j/\j<2 ^ 64)
theorem CMul.ok {i j:Int} (h:CMul i j):IntMulOk i j:=by
 rcases h with ⟨h1,h2⟩ | ⟨h1,h2⟩
 ·exact .of_left (intBits_le_64 h1 h2)
 ·exact .of_right (intBits_le_64 h1 h2)
theorem Zba:OpR X (binaryOp .Add) (rI0 fun i j=>.int (i+j)):=opI0 fun _ _ _ _ _ _ _ q=>add_int q
theorem ZeI:OpR X (binaryOp .Sub) (rI0 fun i j=>.int (i - j)):=opI0 fun _ _ _ _ _ _ _ q=>sub_int q
theorem ZcU:OpR X (binaryOp .Mult) (rI CMul fun i j=>.int (i*j)):=opI fun _ _ _ _ _ _ _ hc q=>mul_int q hc.ok
theorem Zkv:OpR X (binaryOp .FloorDiv) (rI CDiv fun i j=>.int (i / j)):=opI fun i j _ _ _ _ _ hc q=>by
 have h1:(0:Int)<j:=hc.1;have h2:j<1073741824:=hc.2;exact floordiv_int (by omega) (by rw[Yec i (by omega)];exact q) (.inl (PyProof.noPylong_small (by omega)))
theorem Za3:OpR X (binaryOp .Mod) (rI (fun _ j=>0<j) fun i j=>.int (i % j)):=opI fun i j _ _ _ _ _ hc q=>by
 have h1:(0:Int)<j:=hc;exact mod_int' (by omega) (by rw[Int.fmod_eq_emod_of_nonneg i (by omega)];exact q)
theorem ZcT:OpR X (binaryOp .Pow) (rI CPow fun i j=>.int (i ^ j.toNat)):=opI fun _ _ _ _ _ _ _ hc q=>pow_int_small hc.1 hc.2.1 hc.2.2 q
theorem unI {f:Value->Sem Value}{g:Int->Int}
  (rule:∀ (i:Int) (t:Tok) (s:Shared) (Q:Value->Shared->Prop) (E:Value->Shared->Prop),Q (.int (g i) s.toks) { s with toks:=s.toks+1 }->wpAny (model X.prog X.w) X.A (f (.int i t)) Q E s) :
  UnR X f (rU fun i=>.int (g i)):=by
 intro pins s σ H x v Q I rx h;obtain⟨i,rfl,q⟩:=h;obtain⟨t,rfl⟩:=rx;exact rule i t s _ _ ⟨.int (g i),H,I.tok _,⟨_,rfl⟩,q⟩
theorem ZgZ:UnR X (unaryOp .USub) (rU fun i=>.int (-i)):=unI fun _ _ _ _ _ q=>neg_int q
end
def scal:V->V->Bool
 | .non,.non=>true | .non,.int _=>true | .int _,.non=>true | .non,.bl _=>true | .bl _,.non=>true | .non,.str _=>true | .str _,.non=>true
 | .int _,.int _=>true | .bl _,.bl _=>true | .str _,.str _=>true | .byt _,.byt _=>true
 | .int _,.str _=>true | .str _,.int _=>true | .bl _,.str _=>true | .str _,.bl _=>true
 | _,_=>false
def rEq:R2:=fun x y H Q=>scal x y=true/\Q (.bl (decide (x=y))) H
def rNe:R2:=fun x y H Q=>scal x y=true/\Q (.bl (!decide (x=y))) H
theorem Zii {i j:Int}:decide (V.int i=V.int j)=(i == j):=by
 rw[Ycp];simp
theorem Zj5 {i j:Bool}:decide (V.bl i=V.bl j)=(i == j):=by
 rw[Ycp];simp
theorem Zih {i j:Str}:decide (V.str i=V.str j)=(i == j):=by
 rw[Ycp];simp
theorem Zij {i j:Array UInt8}:decide (V.byt i=V.byt j)=(i.toList == j.toList):=by
 rw[Ycp];cases i;cases j;simp
section
variable {X:Cx}{a b c:Expr}{ta tb tc:TE}{pos:Pos}
theorem Zaw {pins:List (Addr × Obj)}{σ:St}{H:Hp}{s:Shared}{Q:VK}{k k':Bool} (I:Inv X pins σ H s) (q:Q (.bl k) H) (e:k=k'):EP X pins σ Q (.bool k') s:=by
 subst e;exact⟨.bl k,H,I,rfl,q⟩
theorem Zlq:OpR X (compareOp .Eq) rEq:=by
 intro pins s σ H x y v u Q I rx ry h;obtain⟨hs,q⟩:=h
 cases x with
 | non=>
  cases rx
  cases y with
  | non=>cases ry;exact PySem.EqNone.eq_none_none (Zaw I q (by simp))
  | bl j=>cases ry;exact PySem.EqNone.eq_none_bool (Zaw I q (by simp))
  | int j=>obtain⟨t',rfl⟩:=ry;exact PySem.EqNone.eq_none_int (Zaw I q (by simp))
  | str j=>obtain⟨t',rfl⟩:=ry;exact PySem.EqNone.eq_none_str (Zaw I q (by simp))
  | _=>exact absurd (show false=true from hs) YaF
 | bl i=>
  cases rx
  cases y with
  | non=>cases ry;exact PySem.EqNone.eq_bool_none (Zaw I q (by simp))
  | bl j=>cases ry;exact eq_bool (Zaw I q Zj5)
  | str j=>obtain⟨t',rfl⟩:=ry;exact PySem.EqMixed.eq_bool_str (Zaw I q (by simp))
  | _=>exact absurd (show false=true from hs) YaF
 | int i=>
  obtain⟨t,rfl⟩:=rx
  cases y with
  | non=>cases ry;exact PySem.EqNone.eq_int_none (Zaw I q (by simp))
  | int j=>obtain⟨t',rfl⟩:=ry;exact eq_int (Zaw I q Zii)
  | str j=>obtain⟨t',rfl⟩:=ry;exact PySem.EqMixed.eq_int_str (Zaw I q (by simp))
  | _=>exact absurd (show false=true from hs) YaF
 | str i=>
  obtain⟨t,rfl⟩:=rx
  cases y with
  | non=>cases ry;exact PySem.EqNone.eq_str_none (Zaw I q (by simp))
  | bl j=>cases ry;exact PySem.EqMixed.eq_str_bool (Zaw I q (by simp))
  | int j=>obtain⟨t',rfl⟩:=ry;exact PySem.EqMixed.eq_str_int (Zaw I q (by simp))
  | str j=>obtain⟨t',rfl⟩:=ry;exact eq_str (Zaw I q Zih)
  | _=>exact absurd (show false=true from hs) YaF
 | byt i=>
  obtain⟨t,rfl⟩:=rx
  cases y with
  | byt j=>obtain⟨t',rfl⟩:=ry;exact PySem.W.eq_bytes (Zaw I q Zij)
  | _=>exact absurd (show false=true from hs) YaF
 | _=>cases y <;> exact absurd (show false=true from hs) YaF
theorem Zi7:OpR X (compareOp .NotEq) rNe:=by
 intro pins s σ H x y v u Q I rx ry h;obtain⟨hs,q⟩:=h
 cases x with
 | non=>
  cases rx
  cases y with
  | non=>cases ry;exact PySem.EqNone.ne_none_none (Zaw I q (by simp))
  | bl j=>cases ry;exact PySem.EqNone.ne_none_bool (Zaw I q (by simp))
  | int j=>obtain⟨t',rfl⟩:=ry;exact PySem.EqNone.ne_none_int (Zaw I q (by simp))
  | str j=>obtain⟨t',rfl⟩:=ry;exact PySem.EqNone.ne_none_str (Zaw I q (by simp))
  | _=>exact absurd (show false=true from hs) YaF
 | bl i=>
  cases rx
  cases y with
  | non=>cases ry;exact PySem.EqNone.ne_bool_none (Zaw I q (by simp))
  | bl j=>cases ry;exact ne_bool (Zaw I q (congrArg not Zj5))
  | str j=>obtain⟨t',rfl⟩:=ry;exact PySem.EqMixed.ne_bool_str (Zaw I q (by simp))
  | _=>exact absurd (show false=true from hs) YaF
 | int i=>
  obtain⟨t,rfl⟩:=rx
  cases y with
  | non=>cases ry;exact PySem.EqNone.ne_int_none (Zaw I q (by simp))
  | int j=>obtain⟨t',rfl⟩:=ry;exact ne_int (Zaw I q (congrArg not Zii))
  | str j=>obtain⟨t',rfl⟩:=ry;exact PySem.EqMixed.ne_int_str (Zaw I q (by simp))
  | _=>exact absurd (show false=true from hs) YaF
 | str i=>
  obtain⟨t,rfl⟩:=rx
  cases y with
  | non=>cases ry;exact PySem.EqNone.ne_str_none (Zaw I q (by simp))
  | bl j=>cases ry;exact PySem.EqMixed.ne_str_bool (Zaw I q (by simp))
  | int j=>obtain⟨t',rfl⟩:=ry;exact PySem.EqMixed.ne_str_int (Zaw I q (by simp))
  | str j=>obtain⟨t',rfl⟩:=ry;exact ne_str (Zaw I q (congrArg not Zih))
  | _=>exact absurd (show false=true from hs) YaF
 | byt i=>
  obtain⟨t,rfl⟩:=rx
  cases y with
  | byt j=>obtain⟨t',rfl⟩:=ry;exact PySem.W.ne_bytes (Zaw I q (congrArg not Zij))
  | _=>exact absurd (show false=true from hs) YaF
 | _=>cases y <;> exact absurd (show false=true from hs) YaF
theorem Zkt:OpR X (compareOp .Lt) (rI0 fun i j=>.bl (decide (i<j))):=opB0 fun _ _ _ _ _ _ _ q=>lt_int q
theorem ZeJ:OpR X (compareOp .LtE) (rI0 fun i j=>.bl (decide (i<=j))):=opB0 fun _ _ _ _ _ _ _ q=>le_int q
theorem ZlZ:OpR X (compareOp .Gt) (rI0 fun i j=>.bl (decide (j<i))):=opB0 fun _ _ _ _ _ _ _ q=>gt_int q
theorem Zku:OpR X (compareOp .GtE) (rI0 fun i j=>.bl (decide (j<=i))):=opB0 fun _ _ _ _ _ _ _ q=>ge_int q
theorem Za4 (b:Expr) {op:CmpOp} (h:op≠.In:=by decide) (h2:op≠.NotIn:=by decide):behindInMarks op b=false:=by
 have e1:(op == CmpOp.In)=false:=by cases op <;> first | rfl | exact absurd rfl h
 have e2:(op == CmpOp.NotIn)=false:=by cases op <;> first | rfl | exact absurd rfl h2
 cases b <;> simp[behindInMarks,e1,e2]
theorem Zht {op:CmpOp}{r:R2} (ho:OpR X (compareOp op) r) (ha:PE X a ta) (hb:PE X b tb) (hm:behindInMarks op b=false):PE X (.Compare a [op] [b] pos) (tOp r ta tb):=by
 intro pins s σ H Q I h;exact wpAny_Compare1 (binT ha hb I h fun v u s2 x y H2 I2 rx ry q=>ho pins s2 σ H2 x y v u Q I2 rx ry q) hm
def Zk3 (t:TE):TT:=fun σ H Q=>t σ H fun x H'=>∃ k,x=.bl k/\Q k H'
theorem ZaP {op:CmpOp}{r:R2} (ho:OpR X (compareOp op) r) (ha:PE X a ta) (hb:PE X b tb) (hm:behindInMarks op b=false):PT X (.Compare a [op] [b] pos) (Zk3 (tOp r ta tb)):=by
 intro pins s σ H Q I h;refine wpAny_isTrue_Compare1 (thn (ha pins s σ H _ I h) fun v s1 ⟨x,H1,I1,r1,q1⟩=>thn (hb pins s1 σ H1 _ I1 q1) fun u s2 ⟨y,H2,I2,r2,q2⟩=>
  thn (ho pins s2 σ H2 x y v u _ I2 r1 r2 q2) fun c s3 ⟨z,H3,I3,r3,k,e,q3⟩=>?_) hm
 subst e;cases r3;exact wpAny_truthy_bool ⟨H3,I3,q3⟩
def ZjK (r r':R2) (ta tb tc:TE):TE:=fun σ H Q=>ta σ H fun x H1=>tb σ H1 fun y H2=>r x y H2 fun z H3=>∃ k,z=.bl k /\
 (if k=true then tc σ H3 fun w' H4=>r' y w' H4 Q else Q (.bl false) H3)
theorem ZfZ {op op':CmpOp}{r r':R2} (ho:OpR X (compareOp op) r) (ho':OpR X (compareOp op') r') (ha:PE X a ta) (hb:PE X b tb) (hc:PE X c tc)
  (hm:lastMarks [op,op'] [b,c]=false:=by with_unfolding_all rfl):PE X (.Compare a [op,op'] [b,c] pos) (ZjK r r' ta tb tc):=by
 intro pins s σ H Q I h;refine Compare_chain (thn (ha pins s σ H _ I h) fun v s1 ⟨x,H1,I1,r1,q1⟩=>chain_link (thn (hb pins s1 σ H1 _ I1 q1) fun u s2 ⟨y,H2,I2,r2,q2⟩=>
  thn (ho pins s2 σ H2 x y v u _ I2 r1 r2 q2) fun d s3 ⟨z,H3,I3,r3,k,e,q3⟩=>?_)) hm
 subst e;cases r3;refine wpAny_truthy_bool ?_
 cases k with
 | false=>exact ite_ff ⟨.bl false,H3,I3,rfl,q3⟩
 | true=>exact ite_tt (chain_last (thn (hc pins s3 σ H3 _ I3 q3) fun w' s4 ⟨z',H4,I4,r4,q4⟩=>ho' pins s4 σ H4 y z' u w' Q I4 r2 r4 q4))
theorem ZfV {op op':CmpOp}{r r':R2} (ho:OpR X (compareOp op) r) (ho':OpR X (compareOp op') r') (ha:PE X a ta) (hb:PE X b tb) (hc:PE X c tc)
  (hm:lastMarks [op,op'] [b,c]=false:=by with_unfolding_all rfl):PT X (.Compare a [op,op'] [b,c] pos) (Zk3 (ZjK r r' ta tb tc)):=by
 intro pins s σ H Q I h;refine isTrue_chain (thn (ha pins s σ H _ I h) fun v s1 ⟨x,H1,I1,r1,q1⟩=>test_link (thn (hb pins s1 σ H1 _ I1 q1) fun u s2 ⟨y,H2,I2,r2,q2⟩=>
  thn (ho pins s2 σ H2 x y v u _ I2 r1 r2 q2) fun d s3 ⟨z,H3,I3,r3,k,e,q3⟩=>?_)) hm
 subst e;cases r3;refine wpAny_truthy_bool ?_
 cases k with
 | false=>
  obtain⟨k',e',q'⟩:=q3;cases e';exact ite_ff ⟨H3,I3,q'⟩
 | true=>
  refine ite_tt (test_last (thn (hc pins s3 σ H3 _ I3 q3) fun w' s4 ⟨z',H4,I4,r4,q4⟩=>thn (ho' pins s4 σ H4 y z' u w' _ I4 r2 r4 q4) fun d' s5 ⟨z2,H5,I5,r5,k2,e2,q5⟩=>?_));subst e2;cases r5;exact wpAny_truthy_bool ⟨H5,I5,q5⟩
theorem ZeP:(sizeLine:Nat)<2 ^ 63:=by rw[sizeLine_eq];decide
theorem Zci {x:V}{us:List Value} (r:Vals [x] us):∃ u,us=[u]/\RelV x u:=by
 cases r with
 | cons r1 r2=>cases r2;exact⟨_,rfl,r1⟩
theorem ZiL {x y:V}{us:List Value} (r:Vals [x,y] us):∃ u w',us=[u,w']/\RelV x u/\RelV y w':=by
 cases r with
 | cons r1 r2=>
  cases r2 with
  | cons r3 r4=>cases r4;exact⟨_,_,rfl,r1,r3⟩
theorem Ziz:Zbg X (.type "int") (fun xs H Q=>(∃ i,xs=[.int i]/\Q (.int i) H)∨∃ k,xs=[.bl k]/\Q (.int (if k then 1 else 0)) H):=by
 intro pins s σ H xs us Q I r h;rcases h with ⟨i,rfl,q⟩ | ⟨k,rfl,q⟩
 ·obtain⟨u,rfl,t,rfl⟩:=Zci r;exact call_int_int ⟨.int i,H,I,⟨_,rfl⟩,q⟩
 ·obtain⟨u,rfl,r1⟩:=Zci r;cases r1;exact call_int_bool ⟨.int (if k then 1 else 0),H,I.tok _,⟨_,rfl⟩,q⟩
end
end L2
namespace L2
open PySem PySem.Spec PyProof.Rows
structure ObjM (h:Heap) (x dx C:Addr) (mA:Str->Option Value):Prop where
 obj:h.get? x=some (YdC C dx)
 ns:h.Ns1 dx mA
 ne:dx≠x
theorem ZhQ {h:Heap}{dx:Addr}{mA:Str->Option Value} (n:h.Ns1 dx mA):∃ od,h.get? dx=some od/\∀ name,YdL name od=some (mA name):=by
 obtain⟨o,es,ep,ho,hd,hk,_,hm⟩:=n;refine⟨o,ho,fun name=>?_⟩;have e:=hm name;unfold nsFind findBy at e;rw[<- Array.find?_toList] at e;unfold YdL;rw[hd];dsimp only;split
 ·rename_i y q;rw[q] at e;exact congrArg some e
 ·rename_i q;rw[q] at e;have a:es.toList.any (·.refKey)=false:=by
   rw[Ye3];intro y hy;obtain⟨z,t,hkey⟩:=hk y (Ydc.mp hy);simp[DictEntry.refKey,hkey]
  have a':¬ es.toList.any (·.refKey)=true:=by rw[a];exact YaF
  rw[if_neg a'];exact congrArg some e
theorem ObjM.look {h:Heap}{x dx C:Addr}{mA:Str->Option Value} (I:ObjM h x dx C mA):∃ od,PySem.W.InstAt h x (YdC C dx) C (some od)/\∀ name,YdL name od=some (mA name) :=
 let ⟨od,ho,hl⟩:=ZhQ I.ns
 ⟨od,⟨I.obj,rfl,rfl,ho⟩,hl⟩
section
variable {prog:Program}{w:World}{A:Around}{E:Value->Shared->Prop}{s:Shared}{K:Yad}{x dx C f:Addr}{mA:Str->Option Value}{name:Str}{v:Value}
end
section
variable {P:Program}{w:World}{H H':Hp}{h h':Heap}{a C dx:Addr}{fs fs':List (Str × V)}
theorem ZkJ (hok:HOk P w H h) (e:H a=some (.ins C dx fs)):∃ mA,ObjM h a dx C mA/\(∀ f,RelO (fs.lookup f) (mA f))/\PySem.Within mA (fs.map (·.1))/\fs.length<=1000/\H dx=some (.own a):=by
 obtain⟨d,z,ne,ob,mA,n,r,q⟩:=(show ObjOk P w H h a (.ins C dx fs) from hok a _ e)
 exact⟨mA,⟨ob,n,ne⟩,r,q,z,d⟩
end
structure Cls (K:Yad) (C:Addr):Prop where
 pg:YeJ K C Yda=true
 hd:PySem.W.hasDictIn K C=true
 po:PySem.W.plainOver K C=true
 sa:YcH K (.ref C) "__setattr__"=some (some (.builtin "object.__setattr__"))
theorem Cls.get {K:Yad}{C:Addr} (c:Cls K C) (f:Str):YeJ K C f=true:=c.pg
structure Con (K:Yad) (C:Addr) (f:Str) (v:V) (u:Value):Prop where
 at_:YcH K (.ref C) f=some (some u)
 rel:RelV v u
 get:YeC K u "__get__"=some none
 cp:PySem.W.copiedNames.contains f=false
structure Meth (K:Yad) (C:Addr) (m:Str) (f:Addr):Prop where
 at_:YcH K (.ref C) m=some (some (.ref f))
 fn:PySem.W.isFn K (.ref f)=true
 kp:Yaq K (.ref f)=true
section
variable {X:Cx}{pins:List (Addr × Obj)}{σ:St}{H:Hp}{s:Shared}{a C dx:Addr}{fs:List (Str × V)}{f:Str}{v:V}{A:Around}{E:Value->Shared->Prop}
end
section
variable {X:Cx}{o e value:Expr}{f:Str}{pos pos' tpos:Pos}{ta tv:TE}
end
section
variable {X:Cx}{pins:List (Addr × Obj)}{σ:St}{H:Hp}{s:Shared}{A:Around}{E:Value->Shared->Prop}{Q:Value->Shared->Prop}{c:Value}{b:Bool}
inductive TyOf (K:Yad) (H:Hp):V->Value->Prop where
 | non:TyOf K H .non (.type "NoneType")
 | bl (x:Bool):TyOf K H (.bl x) (.type "bool")
 | int (i:Int):TyOf K H (.int i) (.type "int")
 | str (x:Str):TyOf K H (.str x) (.type "str")
 | flt (x:UInt64):TyOf K H (.flt x) (.type "float")
 | lst {a:Addr}{xs:List V} (e:H a=some (.lst xs)):TyOf K H (.ref a) (.type "list")
 | frz {a:Addr}{o:Obj}{xs:List V} (e:H a=some (.frz o (.lst xs))):TyOf K H (.ref a) (.type "list")
 | tup {a:Addr}{xs:List V} (e:H a=some (.tup xs)):TyOf K H (.ref a) (.type "tuple")
 | dK {a:Addr}{kvs:List (Key × V)} (e:H a=some (.dK kvs)):TyOf K H (.ref a) (.type "dict")
 | dT {a:Addr}{kvs:List (List Key × V)} (e:H a=some (.dT kvs)):TyOf K H (.ref a) (.type "dict")
 | ins {a C dx:Addr}{fs:List (Str × V)} (e:H a=some (.ins C dx fs)) (cl:Cls K C) (ha:YcH K (.ref C) "__class__"=some (some (.builtin "object.__class__")))
   (hn:YeC K (.builtin "object.__class__") "__get__"=some (some (.builtin "getset_descriptor.__get__"))) (htk:PySem.W.takesIn K (.builtin "object.__class__")=some true)
   (hm:PySem.W.mroIn K C (.type "object")=some true):TyOf K H (.ref a) (.ref C)
theorem Zh0 {x:V}{u t:Value} (I:Inv X pins σ H s) (rx:RelV x u) (ty:TyOf X.K H x t) (e:YbW X.K t c=some b) (h:∀ tk,Q (.bool b) { s with toks:=tk }) :
  wpAny (model X.prog X.w) A (call (.builtin "isinstance") [u,c]) Q E s:=by
 cases ty with
 | non=>cases (show u=YbN from rx);exact Ybt PySem.W.kitx_none I.kIn Ydx e (fun z=>nomatch z) h
 | bl y=>cases (show u=Yc6 y from rx);exact Ybt PySem.W.kitx_bool I.kIn Ydx e (fun z=>nomatch z) h
 | int i=>obtain⟨t,q⟩:=(show ∃ t,u=YdK i t from rx);cases q;exact Ybt PySem.W.kitx_int I.kIn Ydx e (fun z=>nomatch z) h
 | str y=>obtain⟨t,q⟩:=(show ∃ t,u=YdJ y t from rx);cases q;exact Ybt PySem.W.kitx_str I.kIn Ydx e (fun z=>nomatch z) h
 | flt y=>obtain⟨t,q⟩:=(show ∃ t,u=Value.float y t from rx);cases q;exact Ybt PySem.W.kitx_float I.kIn Ydx e (fun z=>nomatch z) h
 | @lst a xs ea=>
  cases (show u=YaH a from rx);obtain⟨_,_,n,_,h1⟩:=(show ObjOk X.prog X.w H s.heap a (.lst xs) from I.hok a _ ea)
  exact Ybt YeD I.kIn ⟨_,h1,rfl⟩ e (fun z=>nomatch z) h
 | @frz a ob xs ea=>
  cases (show u=YaH a from rx);obtain⟨_,_,_,n,_,h1⟩:=(show ObjOk X.prog X.w H s.heap a (.frz ob (.lst xs)) from I.hok a _ ea)
  exact Ybt YeD I.kIn ⟨_,h1,rfl⟩ e (fun z=>nomatch z) h
 | @tup a xs ea=>
  cases (show u=YaH a from rx);obtain⟨_,_,_,p⟩:=(show ObjOk X.prog X.w H s.heap a (.tup xs) from I.hok a _ ea)
  obtain⟨o,h1,h2,_⟩:=p;exact Ybt PySem.W.kitx_tuple I.kIn ⟨o,h1,h2⟩ e (fun z=>nomatch z) h
 | @dK a kvs ea=>
  cases (show u=YaH a from rx);obtain⟨_,_,vs,_,p⟩:=(show ObjOk X.prog X.w H s.heap a (.dK kvs) from I.hok a _ ea)
  obtain⟨o,es,ep,h1,h2,_⟩:=p;exact Ybt YeE I.kIn ⟨o,h1,h2.1⟩ e (fun z=>nomatch z) h
 | @dT a kvs ea=>
  cases (show u=YaH a from rx);obtain⟨_,_,xs,_,o,es,ep,h1,h2,_⟩:=(show ObjOk X.prog X.w H s.heap a (.dT kvs) from I.hok a _ ea)
  exact Ybt YeE I.kIn ⟨o,h1,h2.1⟩ e (fun z=>nomatch z) h
 | @ins a C dx fs ea cl ha hn htk hm=>
  cases (show u=YaH a from rx);obtain⟨mA,O,_⟩:=ZkJ I.hok ea;obtain⟨od,J,_⟩:=O.look;exact Ybt (PySem.W.kitx_own (cl.get _) cl.hd ha hn htk hm) I.kIn J e (fun z=>nomatch z) h
end
end L2
namespace L2
open PySem PySem.Spec PyProof.Rows
structure Room (k:Nat) (A:Around):Prop where
 hd:A.handled=none
 dp:A.depth+3*k+5<recursionLimit
 un:A.units+16*k+200<cLine
 gd:A.guards=some []
theorem Room.mono {j k:Nat}{A:Around} (r:Room k A) (h:j<=k):Room j A:=⟨r.hd,by have:=r.dp;omega,by have:=r.un;omega,r.gd⟩
theorem Room.deeper {k:Nat}{A:Around} (r:Room (k+1) A) (env:Env):Room k (A.deeper env) :=
 ⟨r.hd,by have:=r.dp;show A.depth+1+3*k+5<_;omega,by have:=r.un;show A.units+3+16*k+200<_;omega,r.gd⟩
theorem Room.depth {k:Nat}{A:Around} (r:Room k A):A.depth<recursionLimit:=by have:=r.dp;omega
theorem Room.units {k:Nat}{A:Around} (r:Room k A):A.units+64<cLine:=by have:=r.un;omega
theorem Room.units0 {k:Nat}{A:Around} (r:Room k A):A.units<cLine:=by have:=r.un;omega
def tNil:TA:=fun _ H Q=>Q [] H
def Zk7 (ta:TE) (tr:TA):TA:=fun σ H Q=>ta σ H fun x H1=>tr σ H1 fun xs H2=>Q (x::xs) H2
section
variable {X:Cx}{e:Expr}{es:List Expr}{te:TE}{t:TA}{pos:Pos}
theorem Zad:PA X [] tNil:=fun _ _ _ _ H Q I h=>Calls.spliced_nil ⟨[],H,I,.nil,h⟩
theorem Zaa (ha:PE X e te) (hr:PA X es t) (hs:starEach (e::es) X.env=(false,eval e X.env)::starEach es X.env:=by rfl):PA X (e::es) (Zk7 te t):=by
 intro pos pins s σ H Q I h;rw[hs];show wpAny _ _ (spliced ((false,eval e X.env)::backTo pos (starEach es X.env))) _ _ s;refine Calls.spliced_cons (thn (ha pins s σ H _ I h) fun u s1 ⟨x,H1,I1,r1,q1⟩=>?_);exact thn (hr pos pins s1 σ H1 _ I1 q1) fun us s2 ⟨xs,H2,I2,r2,q2⟩=>⟨x::xs,H2,I2,.cons r1 r2,q2⟩
def tTup (t:TA):TE:=fun σ H Q=>t σ H fun xs H1=>xs.length<=sizeLine/\∀ p,H1 p=none->Q (.ref p) (upd H1 p (.tup xs))
def tLst (t:TA):TE:=fun σ H Q=>t σ H fun xs H1=>xs.length<=sizeLine/\∀ p,H1 p=none->Q (.ref p) (upd H1 p (.lst xs))
theorem ZbN {x1} (h:PA X es t):PE X (.Tuple es x1 pos) (tTup t):=by
 intro pins s σ H Q I hq;refine wpAny_Tuple_spliced (thn (h pos pins s σ H _ I hq) fun us s1 ⟨xs,H1,I1,r,z,q⟩=>⟨by rw[<- r.length];exact z,?_⟩);have hf:H1 s1.heap.objs.size=none:=I1.hok.fresh (Yag _);refine⟨.ref s1.heap.objs.size,upd H1 s1.heap.objs.size (.tup xs),I1.laid (t':=s1.toks) (fun b u e=>Yac _ e) (Yag _) ?_,rfl,q _ hf⟩;exact⟨z,us,r,⟨_,Yas _ rfl,rfl,rfl,_,rfl⟩⟩
theorem ZaQ (h:PA X es t):PE X (.List es pos) (tLst t):=by
 intro pins s σ H Q I hq;refine wpAny_List_spliced (thn (h pos pins s σ H _ I hq) fun us s1 ⟨xs,H1,I1,r,z,q⟩=>⟨by rw[<- r.length];exact z,?_⟩);have hf:H1 s1.heap.objs.size=none:=I1.hok.fresh (Yag _);refine⟨.ref s1.heap.objs.size,upd H1 s1.heap.objs.size (.lst xs),I1.laid (t':=s1.toks) (fun b u e=>Yac _ e) (Yag _) ?_,rfl,q _ hf⟩;exact⟨z,us,0,r,Yas _ rfl⟩
end
abbrev Sp:=List V->Hp->VK->XK->Prop
abbrev CXT:=List Env->Hp->Shared->XK->Value->Shared->Prop
structure Env0 (P:Program) (w:World) (K:Yad) (mg:Str->Option Value) (base:Heap) (A:Around) (outer:List Env) (s:Shared) (H:Hp):Prop where
 frames:A.frames=some outer
 mod:Mod K mg base
 bs:∀ b o,base.get? b=some o->s.heap.get? b=some o/\H b=none
 bsz:base.objs.size<=s.heap.objs.size
 funs:s.heap.FunFrames base outer
 frf:∀ b∈frs outer,H b=none
 hok:HOk P w H s.heap
 bare:AllBare s.gens
def CE (outer:List Env) (P:Program) (w:World) (H:Hp) (s:Shared) (Q:VK) (u:Value) (s':Shared):Prop :=
 ∃ v H',s'.os=s.os/\AllBare s'.gens/\Un (frs outer) [] H H' s.heap s'.heap/\HOk P w H' s'.heap/\RelV v u/\Q v H'
def CR (CX:CXT) (outer:List Env) (P:Program) (w:World) (H:Hp) (s:Shared) (Q:VK) (E:XK) (r:Result) (s':Shared):Prop :=
 match r with
 | .ok (.ret u)=>CE outer P w H s Q u s'
 | .ok _=>False
 | .error e=>CX outer H s E e s'
structure FnOk (P:Program) (w:World) (K:Yad) (mg:Str->Option Value) (base:Heap) (CX:CXT) (k:Nat) (f:Addr) (fd:FuncData) (ps:List Str) (sp:Sp):Prop where
 len:∀ vs H Q E,sp vs H Q E->vs.length=ps.length
 run:∀ (A:Around) (outer:List Env) (s:Shared) (H:Hp) (args:Args) (us:List Value) (vs:List V) (Q:VK) (E:XK),Room k A->Env0 P w K mg base A outer s H->BindsTo s fd args (ps.zip us)->Vals vs us->sp vs H Q E ->
  codeAny (model P w) A (.call (.ref f) args) (CR CX outer P w H s Q E) s
theorem FnOk.imp {P:Program}{w:World}{K:Yad}{mg:Str->Option Value}{base:Heap}{CX:CXT}{k:Nat}{f:Addr}{fd:FuncData}{ps:List Str}{sp sp':Sp} (F:FnOk P w K mg base CX k f fd ps sp)
  (h:∀ vs H Q E,sp' vs H Q E->sp vs H Q E):FnOk P w K mg base CX k f fd ps sp' :=
 ⟨fun vs H Q E q=>F.len vs H Q E (h _ _ _ _ q),fun A outer s H args us vs Q E hr he hb hv hs=>F.run A outer s H args us vs Q E hr he hb hv (h _ _ _ _ hs)⟩
section
variable {X:Cx}{pins:List (Addr × Obj)}{σ:St}{H:Hp}{s s':Shared}
theorem Inv.env0 (I:Inv X pins σ H s):Env0 X.prog X.w X.K X.mg X.base X.A X.stack s H :=
 ⟨I.ok.frames,I.ok.mod,I.bs,Ybz I.ok.bsz I.sz,I.stack,I.stkFree,I.hok,I.bare⟩
theorem Inv.after {Q:VK}{u:Value} (I:Inv X pins σ H s) (h:CE X.stack X.prog X.w H s Q u s'):EP X pins σ Q u s':=by
 obtain⟨v,H',os,bare,un,hok,r,q⟩:=h;obtain⟨hh,g,d,t,os'⟩:=s';obtain rfl:os'=s.os:=os;exact⟨v,H',I.call (h':=hh) (g':=g) (d':=d) (t':=t) (ch:=[]) un hok bare (fun b z=>absurd z (by simp)),r,q⟩
end
def ZiM (sp:Sp) (dvs:List V) (E:XK) (t:TA):TE:=fun σ H Q=>t σ H fun vs H1=>sp (vs++dvs) H1 Q E
def Binds (K:Yad) (fd:FuncData) (ps:List Str) (ds:List Value):Prop :=
 ∀ (s:Shared) (us:List Value),K.In s.heap->(us++ds).length=ps.length->BindsTo s fd ⟨us,[]⟩ (ps.zip (us++ds))
theorem Binds.all {K:Yad}{fd:FuncData}{ps:List Str} (h:∀ us:List Value,us.length=ps.length->bindArgs fd ⟨us,[]⟩=pure (ps.zip us)):Binds K fd ps []:=fun s us _ hl=>by
 rw[Ybw] at hl ⊢;exact .of_eq (h us hl)
def ZdH (CX:CXT) (X:Cx) (E:XK):Prop:=∀ (pins:List (Addr × Obj)) (σ:St) (H:Hp) (s:Shared) (e:Value) (s':Shared),Inv X pins σ H s->CX X.stack H s E e s'->X.xe e s'
section
variable {X:Cx}{CX:CXT}{k:Nat}{f C:Addr}{fd:FuncData}{ps:List Str}{sp:Sp}{dvs:List V}{ds:List Value}{E:XK}{x m:Str}{p pos apos:Pos}{e o:Expr}{es:List Expr}{ta:TE}{t:TA}
theorem ZjO {pins:List (Addr × Obj)}{σ:St}{H:Hp}{s:Shared}{Q:VK}{us:List Value}{vs:List V} (F:FnOk X.prog X.w X.K X.mg X.base CX k f fd ps sp) (hr:Room k X.A) (hb:Binds X.K fd ps ds) (hd:Vals dvs ds) (hx:ZdH CX X E)
  (I:Inv X pins σ H s) (r:Vals vs us) (h:sp (vs++dvs) H Q E):wpAny (model X.prog X.w) X.A (call (.ref f) us) (EP X pins σ Q) X.xe s:=by
 have r2:Vals (vs++dvs) (us++ds):=r.append hd;have hl:(us++ds).length=ps.length:=by rw[<- r2.length];exact F.len _ _ _ _ h
 refine wpAny_call (codeAny_mono (F.run X.A X.stack s H ⟨us,[]⟩ (us++ds) (vs++dvs) Q E hr I.env0 (hb s us I.kIn hl) r2 h) fun r s' hq=>?_)
 cases r with
 | error e=>exact hx pins σ H s e s' I hq
 | ok fl=>
  cases fl with
  | ret u=>exact I.after hq
  | next=>exact Yca hq
  | brk=>exact Yca hq
  | cont=>exact Yca hq
theorem Zhu (F:FnOk X.prog X.w X.K X.mg X.base CX k f fd ps sp) (hr:Room k X.A) (hg:Gl X x) (hm:X.mg x=some (.ref f)) (hk:Yaq X.K (.ref f)=true) (hb:Binds X.K fd ps ds) (hd:Vals dvs ds) (hx:ZdH CX X E)
  (ha:PA X (e::es) t) (hdb:(x == ("__debug__":Str))=false:=by decide) (he:starEach (e::es) X.env=(false,eval e X.env)::starEach es X.env:=by rfl) (hpl:(backTo pos (starEach es X.env)).any (·.1)=false:=by rfl) :
  PE X (.Call (.Name x p) (e::es) [] pos) (ZiM sp dvs E t):=by
 intro pins s σ H Q I h;refine wpAny_Call_Name_kw (Zd8 I hg hm ?_ hdb);refine Yes (h₀:=X.base) I.ok.mod.kin hk (thn (ha pos pins s σ H _ I h) fun us s1 ⟨vs,H1,I1,r,q⟩=>⟨I1.kIn,?_⟩) he hpl;exact ZjO F hr hb hd hx I1 r q
structure Mk (K:Yad) (C f:Addr):Prop where
 makes:PySem.W.makesIn K C=true
 init:YcH K (.ref C) "__init__"=some (some (.ref f))
 fn:PySem.W.isFn K (.ref f)=true
 kp:Yaq K (.ref C)=true
end
section
variable {X:Cx}{CX:CXT}{k:Nat}{f C:Addr}{fd:FuncData}{ps ks:List Str}{sp:Sp}{E:XK}{x m:Str}{p pos apos kpos:Pos}{e o:Expr}{es:List Expr}{kws:List Keyword}{te ta:TE}{t tk:TA}{nm:Option Str}
structure KBinds (K:Yad) (fd:FuncData) (ps ks:List Str) (g:List Value->List Value->List Value) (gV:List V->List V->List V):Prop where
 to:∀ (s:Shared) (us ws:List Value),K.In s.heap->(g us ws).length=ps.length->BindsTo s fd ⟨us,ks.zip ws⟩ (ps.zip (g us ws))
 rel:∀ {vs:List V}{us:List Value}{zs:List V}{ws:List Value},Vals vs us->Vals zs ws->Vals (gV vs zs) (g us ws)
variable {g:List Value->List Value->List Value}{gV:List V->List V->List V}
end
structure FnScope (N P:List Str) (sc:Scope):Prop where
 kind:sc.kind=.function
 co:sc.isCoroutine=false
 gen:sc.isGenerator=false
 nd:N.Nodup
 pre:N.take P.length=P
 par:∀ x∈P,sc.names.lookup x=some .local ∨ sc.names.lookup x=some .cell
 nofree:∀ y∈sc.names,y.2≠.free
theorem Ze6 {kindOf:Str->Option NameKind}{x:Str}:∀ {binds:List (Str × Value)}{m:Str->Option Value},(∀ v,(x,v) ∉ binds)->bindL kindOf binds m x=m x
 | [],_,_=>rfl
 | (n,v)::r,m,h=>by
  unfold bindL;rw[Ze6 fun w hw=>h w (Yat _ hw)];split
  ·have:x≠n:=by rintro rfl;exact h v YaG
   simp[this]
  ·rfl
theorem Ze8 {kindOf:Str->Option NameKind}{x:Str}:∀ {binds:List (Str × Value)}{m:Str->Option Value},(∀ v,(x,v) ∉ binds)->bindC kindOf binds m x=m x
 | [],_,_=>rfl
 | (n,v)::r,m,h=>by
  unfold bindC;rw[Ze8 fun w hw=>h w (Yat _ hw)];split
  ·rfl
  ·have:x≠n:=by rintro rfl;exact h v YaG
   simp[this]
theorem Ze7 {kindOf:Str->Option NameKind}{x:Str}{v:Value}:∀ {P:List Str}{vs:List Value}{i:Nat}{m:Str->Option Value},P.Nodup->P[i]?=some x->vs[i]?=some v->kindOf x=some .local ->
  bindL kindOf (P.zip vs) m x=some v
 | [],_,_,_,_,h,_,_=>by simp at h
 | _::_,[],_,_,_,_,h,_=>by simp at h
 | p::P,w::vs,0,m,nd,h1,h2,hk=>by
  simp at h1 h2;subst h1;subst h2;show bindL kindOf ((p,w)::P.zip vs) m p=_;unfold bindL;rw[Ze6 fun v hv=>(Yco.mp nd).1 (YdS hv).1,if_pos hk];simp
 | p::P,w::vs,i+1,m,nd,h1,h2,hk=>by
  show bindL kindOf ((p,w)::P.zip vs) m x=_;unfold bindL;exact Ze7 (i:=i) (Yco.mp nd).2 (by simpa using h1) (by simpa using h2) hk
theorem Ze9 {kindOf:Str->Option NameKind}{x:Str}{v:Value}:∀ {P:List Str}{vs:List Value}{i:Nat}{m:Str->Option Value},P.Nodup->P[i]?=some x->vs[i]?=some v->kindOf x≠some .local ->
  bindC kindOf (P.zip vs) m x=some v
 | [],_,_,_,_,h,_,_=>by simp at h
 | _::_,[],_,_,_,_,h,_=>by simp at h
 | p::P,w::vs,0,m,nd,h1,h2,hk=>by
  simp at h1 h2;subst h1;subst h2;show bindC kindOf ((p,w)::P.zip vs) m p=_;unfold bindC;rw[Ze8 fun v hv=>(Yco.mp nd).1 (YdS hv).1,if_neg hk];simp
 | p::P,w::vs,i+1,m,nd,h1,h2,hk=>by
  show bindC kindOf ((p,w)::P.zip vs) m x=_;unfold bindC;exact Ze9 (i:=i) (Yco.mp nd).2 (by simpa using h1) (by simpa using h2) hk
def start (N:List Str) (vs:List V):St:=vs.map some++Yau (N.length - vs.length) none
def cxOf (CX:CXT) (P:Program) (w:World) (K:Yad) (mg:Str->Option Value) (base:Heap) (N:List Str) (qual:Str) (scope:Scope) (f:Addr) (cd:Value) (A:Around) (outer:List Env) (s:Shared) (H:Hp) (E:XK):Cx where
 prog:=P
 w:=w
 K:=K
 mg:=mg
 base:=base
 A:=A.deeper (envOfC qual scope s.heap.objs.size f cd)
 N:=N
 s₀:=s
 H₀:=H
 env:=envOfC qual scope s.heap.objs.size f cd
 outer:=outer
 stack:=envOfC qual scope s.heap.objs.size f cd::outer
 ex:=[]
 calm:=true
 fn:=fun _=>true
 pn:=[]
 xe:=fun e s'=>wpAny (model P w) (A.deeper (envOfC qual scope s.heap.objs.size f cd)) (leaving (envOfC qual scope s.heap.objs.size f cd) e) (fun _ s''=>CX outer H s E e s'') (fun e' s''=>CX outer H s E e' s'') s'
theorem Zgi {sc:Scope}{n:Nat}{x:Str} (h:sc.names.lookup x=some .cell):∃ c,(cellsFrom n sc.names []).lookup x=some c:=by
 have q:=Yd7 sc.names n [] (.inl h);exact Yd3.mp q
theorem Zh1 {CX:CXT}{P:Program}{w:World}{K:Yad}{mg:Str->Option Value}{base:Heap}{N ps:List Str}{qual:Str}{scope:Scope}{f:Addr}{cd:Value}{A:Around}{outer:List Env}{s s1:Shared}{H:Hp}{E:XK}{us:List Value}{vs:List V}
  (S:FnScope N ps scope) (hd:A.handled=none) (e0:Env0 P w K mg base A outer s H) (hl:vs.length=ps.length) (r:Vals vs us)
  (x:InCallC s s.heap.objs.size (bindL (envOfC qual scope s.heap.objs.size f cd).kindOf (ps.zip us) fun _=>none) (cellsFrom (s.heap.objs.size+1) scope.names []) (bindC (envOfC qual scope s.heap.objs.size f cd).kindOf (ps.zip us) fun _=>none) s1) :
  Inv (cxOf CX P w K mg base N qual scope f cd A outer s H E) [] (start N vs) H s1:=by
 have hpl:ps.length<=N.length:=by have:=congrArg Ydj S.pre;rw[YaA] at this;omega
 obtain⟨h1,tk,rfl,hk⟩:=x.done;have noA:∀ b:Addr,b ∉ (cxOf CX P w K mg base N qual scope f cd A outer s H E).ex:=fun b z=>absurd (show b∈([]:List Addr) from z) (by simp);refine⟨⟨e0.mod,S.kind,rfl,rfl,Yag _,fun y z c h1 h2=>?_,fun y hy=>?_,fun y c _ h=>?_,fun _=>hd,Around.frames_deeper e0.frames,.inr ⟨rfl,rfl⟩,fun b z=>absurd z (noA b),e0.bs,e0.bsz,fun b _ _=>noA b,fun b z=>absurd z (noA b),e0.funs,e0.frf⟩,
  rfl,e0.bare,Un.kept hk,⟨_,x.toInCall.ns,fun i y v h1 h2 h3=>?_⟩,fun y c h=>⟨_,x.cell y c h⟩,e0.hok.fresh (Yag _),fun y c h=>?_,fun p hp=>absurd (show p∈([]:List (Addr × Obj)) from hp) (by simp),e0.hok.kept hk,?_⟩
 ·exact name_of_addr x.apart (YbB h1) (YbB h2)
 ·have hy:scope.names.lookup y=some .cell∨scope.names.lookup y=some .free:=hy;rcases hy with hy | hy
  ·exact Zgi hy
  ·exact absurd rfl (S.nofree _ (YbB hy))
 ·exact Ybs (x.above y c (YbB h))
 ·have hi:i<vs.length:=by
   unfold start at h2;by_cases hi:i<vs.length
   ·exact hi
   ·rw[Ya1 (by simpa using hi)] at h2;rw[YbY] at h2;split at h2 <;> cases h2
  have ha:vs[i]?=some v:=by
   unfold start at h2;rw[Ya3 (by simpa using hi),Yal] at h2
   cases e:vs[i]? with
   | none=>rw[e] at h2;cases h2
   | some a=>rw[e] at h2;cases h2;rfl
  obtain⟨u,hu,rv⟩:=r.get ha;have hp:ps[i]?=some y:=by
   rw[<- S.pre,Ycm (by omega)];exact h1
  have ndP:ps.Nodup:=by rw[<- S.pre];exact S.nd.sublist (Ye1 _ _)
  refine⟨u,rv,?_⟩;rcases S.par y (Yaw hp) with k | k
  ·exact .inl ⟨k,Ze7 ndP hp hu k⟩
  ·obtain⟨c,e⟩:=Zgi (n:=s.heap.objs.size+1) k;refine .inr ⟨.inl k,c,e,?_⟩;have q:=x.cell y c e;rw[Ze9 ndP hp hu (by show scope.names.lookup y≠_;rw[k];decide)] at q;exact q
 ·exact e0.hok.fresh (Ybs (x.above y c (YbB h)))
 ·unfold start;show _=N.length;rw[Yak,Yab,YbS];omega
theorem ZlD {CX:CXT}{P:Program}{w:World}{K:Yad}{mg:Str->Option Value}{base:Heap}{k:Nat}{f:Addr}{name qual:Str}{params:Arguments}{body:List Stmt}{scope:Scope}{dV kV doc pm cdv ct oc:Value}{an od:Option Addr}
  {osl:Array (Option Value)}{N ps:List Str}{sp:Sp} (lk:K.lookup f=some ⟨oc,od,.func (YaB name qual params body scope dV kV doc pm an cdv ct),osl⟩) (hcd:Yav K cdv qual=true) (S:FnScope N ps scope)
  (len:∀ vs H Q E,sp vs H Q E->vs.length=ps.length)
  (hbody:∀ (A:Around) (outer:List Env) (s:Shared) (H:Hp) (vs:List V) (Q:VK) (E:XK),Room k (A.deeper (envOfC qual scope s.heap.objs.size f cdv))->sp vs H Q E ->
   ∃ t,PSs (cxOf CX P w K mg base N qual scope f cdv A outer s H E) body t/\t { nx:=fun _ H'=>Q .non H',rt:=Q } (start N vs) H) :
  FnOk P w K mg base CX (k+1) f (YaB name qual params body scope dV kV doc pm an cdv ct) ps sp:=by
 refine⟨len,fun A outer s H args us vs Q E hr e0 hb r hsp=>?_⟩;have hl:=len _ _ _ _ hsp;have KX:K.In s.heap:=e0.mod.kin.keeps fun b o e=>(e0.bs b o e).1
 have lim:s.heap.NoLimit:=e0.mod.nolimit.keeps fun b o e=>(e0.bs b o e).1
 have hkind:∀ y∈ps.zip us,scope.names.lookup y.1=some .local ∨ (scope.names.lookup y.1=some .cell/\((cellsFrom (s.heap.objs.size+1) scope.names []).lookup y.1).isSome=true):=fun ⟨n,v⟩ hy=>by
  rcases S.par n (YdS hy).1 with q | q
  ·exact .inl q
  ·exact .inr ⟨q,Yd7 _ _ _ (.inl q)⟩
 refine codeAny_call_function hr.depth (KX _ _ lk) rfl S.co S.gen rfl (PySem.W.codeRec_of KX hcd) (hb _ _ _ _ ?_);refine wpAny_newFunctionEnv_cells S.kind hkind fun env he s1 x=>?_;subst he;refine⟨lim.keeps x.toInCall.keep,codeAny_func ?_⟩;obtain⟨t,ht,hq⟩:=hbody A outer s H vs Q E (hr.deeper _) hsp;have I:Inv (cxOf CX P w K mg base N qual scope f cdv A outer s H E) [] (start N vs) H s1:=Zh1 S hr.hd e0 hl r x;refine wpAny_mono (ht [] s1 (start N vs) H _ I hq) (fun fl s' hs=>?_) fun e s' hs=>hs;have fin:∀ {σ':St}{H':Hp}{v:V}{u:Value},Inv (cxOf CX P w K mg base N qual scope f cdv A outer s H E) [] σ' H' s'->RelV v u->Q v H'->CE outer P w H s Q u s' :=
  fun {σ' H' v u} J rv q=>⟨v,H',J.os,J.bare,J.base,J.hok,rv,q⟩
 cases fl with
 | ret u=>
  obtain⟨v,σ',H',J,rv,q⟩:=hs;exact fin J rv q
 | next=>
  obtain⟨σ',H',J,q⟩:=hs;exact fin (v:=V.non) (u:=YbN) J rfl q
 | brk=>
  obtain⟨_,_,_,q⟩:=hs;exact Yca q
 | cont=>
  obtain⟨_,_,_,q⟩:=hs;exact Yca q
end L2
namespace L2
open PySem PySem.Spec PyProof.Rows
section
variable {X:Cx}{x:Str}{p pos:Pos}{e:Expr}{es:List Expr}{t:TA}{id T:String}{r:List V->Hp->VK->Prop}
def tCB (r:List V->Hp->VK->Prop) (t:TA):TE:=fun σ H Q=>t σ H fun vs H1=>r vs H1 Q
theorem Zaj (hc:Zbg X (.builtin id) r) (hg:Gl X x) (hm:X.mg x=none) (hv:bootBuiltins x=some (.builtin id)) (ha:PA X (e::es) t) (hn:x≠"__name__":=by decide) (hdb:(x == ("__debug__":Str))=false:=by decide)
  (he:starEach (e::es) X.env=(false,eval e X.env)::starEach es X.env:=by rfl) (hpl:(backTo pos (starEach es X.env)).any (·.1)=false:=by rfl):PE X (.Call (.Name x p) (e::es) [] pos) (tCB r t):=by
 intro pins s σ H Q I h;refine wpAny_Call_Name_kw (Zdw I hg hm hv ?_ hn hdb);exact PyProof.Rows.callWith_builtin1 (thn (ha pos pins s σ H _ I h) fun us s1 ⟨vs,H1,I1,r1,q1⟩=>hc pins s1 σ H1 vs us Q I1 r1 q1) he hpl
theorem Za0 (hc:Zbg X (.type T) r) (hg:Gl X x) (hm:X.mg x=none) (hv:bootBuiltins x=some (.type T)) (ha:PA X (e::es) t) (hn:x≠"__name__":=by decide) (hdb:(x == ("__debug__":Str))=false:=by decide)
  (he:starEach (e::es) X.env=(false,eval e X.env)::starEach es X.env:=by rfl) (hpl:(backTo pos (starEach es X.env)).any (·.1)=false:=by rfl):PE X (.Call (.Name x p) (e::es) [] pos) (tCB r t):=by
 intro pins s σ H Q I h;refine wpAny_Call_Name_kw (Zdw I hg hm hv ?_ hn hdb);exact YbX (thn (ha pos pins s σ H _ I h) fun us s1 ⟨vs,H1,I1,r1,q1⟩=>hc pins s1 σ H1 vs us Q I1 r1 q1) he hpl
end
end L2
namespace HT
open PySem PyProof.Rows
def lexLt:List Int->List Int->Bool
 | [],[]=>false
 | [],_::_=>true
 | _::_,[]=>false
 | x::xs,y::ys=>if x=y then lexLt xs ys else decide (x<y)
theorem lexLt_cons (x y:Int) (xs ys:List Int):lexLt (x::xs) (y::ys)=if x=y then lexLt xs ys else decide (x<y):=rfl
theorem Zd7:lexLt [] []=false:=rfl
theorem Zdc (y:Int) (ys:List Int):lexLt [] (y::ys)=true:=rfl
theorem Zdd (x:Int) (xs:List Int):lexLt (x::xs) []=false:=rfl
theorem Zjx (A:Around) (s:Shared) (a:Int) (t:Tok) (c:Int) (u:Tok):∃ e,SeqAt.EqAt A s (.int a t) (.int c u) e/\(e=true↔a=c) :=
 ⟨(a == c),SeqAt.EqAt.int_int a t c u,by simp⟩
theorem ZiX (A:Around) (s:Shared) (a:Int) (t:Tok) (c:Int) (u:Tok) (prog:Program) (w:World) (E:Value->Shared->Prop) (Q:Value->Shared->Prop) (h:Q (.bool (decide (a<c))) s) :
  wpAny (model prog w) A (richCompare .Lt (.int a t) (.int c u)) Q E s :=
 (PyProof.Rows.lt_int h:wpAny (model prog w) A (compareOp .Lt (.int a t) (.int c u)) Q E s)
section
open PySem.SeqAt
open PySem.AutoSeq1 (wpAny_loadPart')
open PySem.MeetsSeq PySem.MeetsSeq2 PySem.MeetsSeq3
theorem ZdI (l b:Addr) (items items2:Array Value) (n n2:Nat) (dd dd2:Option Addr) (sl sl2:Array (Option Value)) (ns ms:List Int) (hi:IntsAre items.toList ns) (hj:IntsAre items2.toList ms) :
  Meets (Builtin.«tuple.__lt__» ⟨[.ref l,.ref b],[]⟩)
   (fun _ R s=>s.heap.get? l=some { cls:=.type "tuple",dict:=dd,data:=.seq items n,slots:=sl }/\s.heap.get? b=some { cls:=.type "tuple",dict:=dd2,data:=.seq items2 n2,slots:=sl2 } /\
    R (.ok (.ret (.bool (lexLt ns ms)))) s) :=
 .of_wp fun prog w A R s h=>by
  obtain⟨hp,g,d,tk,os⟩:=s;obtain⟨hl,hb,h⟩:=h;have f2:=AutoSeq1.sub_tuple_tuple;have z1:items.size=ns.length:=by rw[<- hi.length];simp
  have z2:items2.size=ms.length:=by rw[<- hj.length];simp
  wp_walk using wpAny_loadPart' hl,wpAny_loadPart' hb,wpAny_forIn_list _ (fun rest b s'=>b.1=none/\s'=⟨hp,g,d,tk,os⟩/\∃ (vs ws:List Value) (ns' ms':List Int),rest=vs.zip ws /\
   IntsAre vs ns'/\IntsAre ws ms'/\ns'.length+items2.size=ms'.length+items.size/\R (.ok (.ret (.bool (lexLt ns' ms')))) ⟨hp,g,d,tk,os⟩) _
  case turn=>
   rintro⟨y,x⟩ rest b s' ⟨hb',rfl,vs,ws,ns',ms',hz,hvi,hwi,hlen,hR⟩
   cases hvi with
   | nil=>rw[List.zip_nil_left] at hz;cases hz
   | cons a t hvi'=>
    cases hwi with
    | nil=>rw[List.zip_nil_right] at hz;cases hz
    | cons c u hwi'=>
     rw[YcM] at hz;injection hz with hyx hrest;injection hyx with hy hx;subst hy hx;rw[lexLt_cons] at hR;simp only[Ya0] at hlen;obtain⟨e,he,hiff⟩:=Zjx A.in1 ⟨hp,g,d,tk,os⟩ a t c u;refine wpAny_bind (he prog w _ _ ?_)
     cases e with
     | true=>
      rw[if_pos (hiff.mp rfl)] at hR
      wp_walk
      exact⟨rfl,rfl,_,_,_,_,hrest,hvi',hwi',by omega,hR⟩
     | false=>
      rw[if_neg (fun q=>absurd (hiff.mpr q) YaF)] at hR;have hri:=ZiX A.in1 ⟨hp,g,d,tk,os⟩ a t c u prog w
      wp_walk using hri
      exact⟨_,rfl,by simpa using hR⟩
  case fin=>
   rintro⟨b1,b2⟩ s' ⟨hb',rfl,vs,ws,ns',ms',hz,hvi,hwi,hlen,hR⟩;simp only at hb';subst hb';have hv:lexLt ns' ms'=decide (items.size<items2.size):=by
    cases hvi with
    | nil=>
     cases hwi with
     | nil=>
      simp only[YcG] at hlen;rw[Zd7];exact (decide_eq_false (by omega)).symm
     | cons c u hw=>
      simp only[YcG,Ya0] at hlen;rw[Zdc];exact (decide_eq_true (by omega)).symm
    | cons a t hv=>
     cases hwi with
     | nil=>
      simp only[YcG,Ya0] at hlen;rw[Zdd];exact (decide_eq_false (by omega)).symm
     | cons c u hw=>
      rw[YcM] at hz;cases hz
   rw[hv] at hR
   wp_walk
   exact⟨_,rfl,by simpa[Builtin.Tuple.tupleCompareSizes] using hR⟩
  case h=>
   exact⟨rfl,rfl,items.toList,items2.toList,ns,ms,rfl,hi,hj,by omega,h⟩
end
section
variable {prog:Program}{w:World}{A:Around}{E:Value->Shared->Prop}{s:Shared}
theorem lt_tupInts {l b:Addr}{items items2:Array Value}{ns ms:List Int}{Q:Value->Shared->Prop} (hl:IsTup s.heap l items) (hb:IsTup s.heap b items2) (hi:IntsAre items.toList ns) (hj:IntsAre items2.toList ms)
  (hu:A.units<cLine) (h:Q (.bool (lexLt ns ms)) s):wpAny (model prog w) A (compareOp .Lt (.ref l) (.ref b)) Q E s:=by
 obtain⟨⟨cls,dd,data,sl⟩,ho,hc,n,hd⟩:=id hl;obtain⟨⟨cls2,dd2,data2,sl2⟩,ho2,hc2,n2,hd2⟩:=id hb;simp only at hc hd hc2 hd2;subst hc hd hc2 hd2;exact richCompare_meets_room (op:=.Lt) ⟨_,ho,rfl⟩ ⟨_,ho2,rfl⟩ PySem.F.slot_tuple_lt PySem.F.entry_tuple_lt (PySem.F.args_tuple_lt_2 _ _) (ZdI l b items items2 n n2 dd dd2 sl sl2 ns ms hi hj)
  ⟨ho,ho2,show Yc6 (lexLt ns ms)≠Value.notImplemented/\Q (.bool (lexLt ns ms)) s from⟨(fun x=>nomatch x),h⟩⟩ hu
theorem cat_tup {t b:Addr}{vs ws:List Value}{Q:Value->Shared->Prop} (ht:IsTup s.heap t vs.toArray) (hb:IsTup s.heap b ws.toArray) (hv:vs≠[])
  (h1:ws=[]->Q (.ref t) s) (h2:ws≠[]->Q (.ref s.heap.objs.size) { s with heap:=s.heap.push { cls:=.type "tuple",data:=.seq (vs++ws).toArray } })
  (hsz:vs.length+ws.length<=sizeLine):wpAny (model prog w) A (binaryOp .Add (.ref t) (.ref b)) Q E s:=by
 obtain⟨⟨cls,dd,data,sl⟩,ho,hc,n,hd⟩:=id ht;obtain⟨⟨cls2,dd2,data2,sl2⟩,ho2,hc2,n2,hd2⟩:=id hb;simp only at hc hd hc2 hd2;subst hc hd hc2 hd2;have e:vs.toArray++ws.toArray=(vs++ws).toArray:=by simp
 by_cases hw:ws=[]
 ·exact concat_meets ⟨_,ho,rfl⟩ ⟨_,ho2,rfl⟩ noFill_tuple_add seq_tuple_add Yd8 Yd2 (YdQ _ _)
   (tuple_addW1 t b vs.toArray ws.toArray n n2 dd dd2 sl sl2 (by simpa using hv) (by simp[hw])) ⟨ho,ho2,h1 hw⟩
 ·refine concat_meets ⟨_,ho,rfl⟩ ⟨_,ho2,rfl⟩ noFill_tuple_add seq_tuple_add Yd8 Yd2 (YdQ _ _)
   (tuple_addW2 t b vs.toArray ws.toArray n n2 dd dd2 sl sl2 (by simpa using hv) (by simpa using hw) (by rw[Yaj,Yaj];exact hsz)) ⟨ho,ho2,?_⟩
  rw[e];exact h2 hw
def sIx (n d:Nat):Option Int->Nat
 | none=>d
 | some v=>if v<0 then (v+(n:Int)).toNat else min v.toNat n
theorem sIx_nat (n d k:Nat):sIx n d (some (k:Int))=min k n:=by
 show (if (k:Int)<0 then ((k:Int)+(n:Int)).toNat else min (k:Int).toNat n)=min k n;rw[if_neg (by omega),Yba]
theorem Zle (n d:Nat) (hd:d<=n) (o:Option Int):sIx n d o<=n:=by
 cases o with
 | none=>exact hd
 | some v=>
  show (if v<0 then (v+(n:Int)).toNat else min v.toNat n)<=n;by_cases hv:v<0
  ·rw[if_pos hv];omega
  ·rw[if_neg hv];exact Nat.min_le_right _ _
theorem Zir (v:Int) (n d:Nat):(if v<0 then max (v+(n:Int)) 0 else min v (n:Int))=((sIx n d (some v):Nat):Int):=by
 show (if v<0 then max (v+(n:Int)) 0 else min v (n:Int))=(((if v<0 then (v+(n:Int)).toNat else min v.toNat n):Nat):Int);by_cases hv:v<0
 ·simp only[if_pos hv];omega
 ·simp only[if_neg hv];omega
theorem ZgU (lo hi:Option Int) (n:Nat):YcA lo hi 1 (n:Int)=(((sIx n 0 lo:Nat):Int),((sIx n n hi:Nat):Int)):=by
 have h1:¬ ((1:Int)<0):=by omega
 unfold YcA;simp only[h1,if_false];refine Prod.ext ?_ ?_
 ·cases lo with
  | none=>rfl
  | some v=>exact Zir v n 0
 ·cases hi with
  | none=>rfl
  | some v=>exact Zir v n n
theorem ZgD (i j:Nat):Yb1 (i:Int) (j:Int) 1=j - i:=by
 unfold Yb1;have h1:(1:Int) > 0:=by omega
 simp only[h1,if_true,Int.ediv_one];split <;> omega
theorem Zdn {v:Value}{o:Option Int}{Q:Option Int->Shared->Prop} (p:IsPart v o) (h:Q o s):wpAny (model prog w) A (Builtin.Slice.slicePartIndex v) Q E s:=by
 cases p with
 | none=>exact slicePart_none h
 | int i t=>exact slicePart_int h
theorem Zcz {sl:Addr}{vl vu:Value}{lo hi:Option Int}{n:Nat}{Q:Int × Int × Nat->Shared->Prop} (hs:s.heap.IsSliceOf sl vl vu .none) (pl:IsPart vl lo) (pu:IsPart vu hi)
  (h:Q (((sIx n 0 lo:Nat):Int),1,sIx n n hi - sIx n 0 lo) s):wpAny (model prog w) A (Ydl (.ref sl) (pure (n:Int))) Q E s:=by
 obtain⟨os,hos,hcs,hds⟩:=id hs;unfold Ydl Builtin.Slice.sliceFields;refine wpAny_bind (wpAny_bind (wpAny_field hos hds (x:=vl) rfl (wpAny_bind (wpAny_field hos hds (x:=vu) rfl (wpAny_bind (wpAny_field hos hds (x:=.none) rfl (wpAny_pure ?_)))))));refine wpAny_bind (slicePart_none ?_);show wpAny _ _ (if ((1:Int) == 0)=true then _ else _) _ _ s;rw[if_neg (by decide)];refine wpAny_bind (Zdn pl (wpAny_bind (Zdn pu (wpAny_bind (wpAny_pure ?_)))));show wpAny _ _ (match YcA lo hi 1 (n:Int) with | (lo,hi)=>pure (lo,(1:Int),Yb1 lo hi 1)) _ _ s;rw[ZgU lo hi n];show wpAny _ _ (pure (((sIx n 0 lo:Nat):Int),(1:Int),Yb1 ((sIx n 0 lo:Nat):Int) ((sIx n n hi:Nat):Int) 1)) _ _ s;rw[ZgD];exact wpAny_pure h
theorem Zi4 (xs:Array Value) (i k:Nat):((YaO k).filterMap fun (m:Nat)=>xs[((i:Int)+(m:Int)*1).toNat]?).toArray=((xs.toList.drop i).take k).toArray:=by
 have e:(fun (m:Nat)=>xs[((i:Int)+(m:Int)*1).toNat]?)=fun m=>xs[i+m]?:=by
  funext m
  have:((i:Int)+(m:Int)*1).toNat=i+m:=by omega
  rw[this]
 rw[e];have:=pick_run xs i k;rw[YcQ] at this;have e2:((fun x=>xs[x]?) ∘ fun x=>i+x)=fun m=>xs[i+m]?:=rfl;rw[e2] at this;rw[this]
theorem getItem_tuple_cut {t sl:Addr}{items:Array Value}{vl vu:Value}{lo hi:Option Int}{Q:Value->Shared->Prop} (ht:IsTup s.heap t items) (hs:s.heap.IsSliceOf sl vl vu .none) (pl:IsPart vl lo) (pu:IsPart vu hi)
  (hw:¬ (sIx items.size 0 lo=0/\sIx items.size items.size hi=items.size))
  (h:Q (.ref s.heap.objs.size) { s with heap:=s.heap.push { cls:=.type "tuple",data:=.seq ((items.toList.drop (sIx items.size 0 lo)).take (sIx items.size items.size hi - sIx items.size 0 lo)).toArray } })
  (hsz:items.size<=sizeLine):wpAny (model prog w) A (getItem (.ref t) (.ref sl)) Q E s:=by
 have htake:sizeOk (.seq ((items.toList.drop (sIx items.size 0 lo)).take (sIx items.size items.size hi - sIx items.size 0 lo)).toArray):=by
  show ((items.toList.drop (sIx items.size 0 lo)).take (sIx items.size items.size hi - sIx items.size 0 lo)).toArray.size<=sizeLine;rw[Yaj,YaA,Ybm,Yao];omega
 have hj:sIx items.size items.size hi<=items.size:=Zle _ _ (Yag _) hi;obtain⟨os,hos,hcs,hds⟩:=id hs;have hTs:s.TypeIs (.ref sl) "slice":=⟨os,hos,hcs⟩
 unfold getItem
 try with_reducible refine wpAny_holding ?_
 first | refine wpAny_bind (wpAny_pure ?_) | skip
 refine wpAny_bind (wpAny_sequenceKey ht.typeIs (by decide) ?_);refine wpAny_bind (wpAny_callSpecial?_slot (name:=Yb8 "__getitem__") ht.typeIs Ycj
  (wpAny_call_entry Ycj ht.typeIs entry_tuple_getitem ?_ (args_tuple_getitem _ _)))
 show wpAny _ _ (Builtin.Tuple.tupleItemsOf (.ref t) >>= _) _ _ s;refine wpAny_bind (tupleItemsOf_ ht ?_);refine wpAny_bind (wpAny_typeOf hTs ?_);rw[if_pos (by decide)];refine wpAny_bind (Zcz hs pl pu ?_);have hno:¬ ((((sIx items.size 0 lo:Nat):Int) == 0 && (1:Int) == 1 && (sIx items.size items.size hi - sIx items.size 0 lo) == items.size)=true):=by
  intro q;rw[Ybx,Ybx] at q;have q1:((sIx items.size 0 lo:Nat):Int)=0:=eq_of_beq q.1.1;have q2:sIx items.size items.size hi - sIx items.size 0 lo=items.size:=eq_of_beq q.2;exact hw ⟨by omega,by omega⟩
 show wpAny _ _ (if (((sIx items.size 0 lo:Nat):Int) == 0 && (1:Int) == 1 && (sIx items.size items.size hi - sIx items.size 0 lo) == items.size)=true then _ else _) _ _ s;rw[if_neg hno,Zi4]
 first
  | exact wpAny_bind (m:=Yb7 _) (wpAny_newObj_type (wpAny_pure ⟨_,rfl,wpAny_pure h⟩) htake)
  | exact wpAny_bind (m:=Yb7 _) (wpAny_newObj_type (wpAny_bind (wpAny_pure (wpAny_pure ⟨_,rfl,wpAny_pure h⟩))) htake)
  | exact wpAny_bind (wpAny_bind (m:=Yb7 _) (wpAny_newObj_type (wpAny_pure (wpAny_pure ⟨_,rfl,wpAny_pure h⟩)) htake))
  | exact wpAny_bind (wpAny_bind (m:=Yb7 _) (wpAny_newObj_type (wpAny_pure ⟨_,rfl,wpAny_pure h⟩) htake))
end
end HT
namespace L2
open PySem PySem.Spec PyProof.Rows
abbrev TO:=St->Hp->(Option Int->Hp->Prop)->Prop
def PO (X:Cx) (e:Option Expr) (t:TO):Prop :=
 ∀ (pins:List (Addr × Obj)) (s:Shared) (σ:St) (H:Hp) (Q:Option Int->Hp->Prop),Inv X pins σ H s->t σ H Q ->
  wpAny (model X.prog X.w) X.A (evalPart e X.env) (fun u s'=>∃ o H',Inv X pins σ H' s'/\IsPart u o/\Q o H') X.xe s
def Zkf:TO:=fun _ H Q=>Q none H
def ZlO (t:TE):TO:=fun σ H Q=>t σ H fun x H1=>∃ i,x=.int i/\Q (some i) H1
theorem Zbm {ns:List Int}:∀ {us:List Value},Vals (ns.map V.int) us->IntsAre us ns:=by
 induction ns with
 | nil=>intro us r;rw[Ycw] at r;cases r;exact .nil
 | cons n ns ih=>
  intro us r;rw[YaK] at r
  cases r with
  | cons r1 r2=>
   obtain⟨t,e⟩:=r1;subst e;exact .cons n t (ih r2)
section
variable {X:Cx}{e:Expr}{te:TE}{lo hi:Option Expr}{tl th:TO}{pos p2:Pos}
theorem Zfm:PO X none Zkf:=by
 intro pins s σ H Q I h;rw[evalPart_none];exact wpAny_pure ⟨none,H,I,.none,h⟩
theorem Zd1 (h:PE X e te):PO X (some e) (ZlO te):=by
 intro pins s σ H Q I hw;rw[evalPart_some];refine thn (h pins s σ H _ I hw) fun u s1 ⟨x,H1,I1,r1,q1⟩=>?_;obtain⟨i,rfl,q⟩:=q1;obtain⟨t,rfl⟩:=r1;exact⟨some i,H1,I1,.int i t,q⟩
def SlR (X:Cx) (r:V->Option Int->Option Int->Hp->VK->Prop):Prop :=
 ∀ (pins:List (Addr × Obj)) (s:Shared) (σ:St) (H:Hp) (x:V) (v vl vu:Value) (lo hi:Option Int) (sl:Addr) (Q:VK),Inv X pins σ H s->RelV x v->s.heap.IsSliceOf sl vl vu .none->IsPart vl lo->IsPart vu hi->r x lo hi H Q ->
  ∃ T id,typeLookup (.type T) "__getitem__"=pure (some (.builtin id))/\s.TypeIs v T/\wpAny (model X.prog X.w) X.A (getItem v (.ref sl)) (EP X pins σ Q) X.xe s
def tSl (r:V->Option Int->Option Int->Hp->VK->Prop) (te:TE) (tl th:TO):TE:=fun σ H Q=>te σ H fun x H1=>tl σ H1 fun l H2=>th σ H2 fun u H3=>r x l u H3 Q
theorem Zd3 {r:V->Option Int->Option Int->Hp->VK->Prop} (hr:SlR X r) (he:PE X e te) (hl:PO X lo tl) (hu:PO X hi th):PE X (.Subscript e (.Slice lo hi none p2) pos) (tSl r te tl th):=by
 intro pins s σ H Q I h;refine Subscript_ (thn (he pins s σ H _ I h) fun v s1 ⟨x,H1,I1,r1,q1⟩=>?_);refine wpAny_Slice (thn (hl pins s1 σ H1 _ I1 q1) fun vl s2 ⟨l,H2,I2,pl,q2⟩=>thn (hu pins s2 σ H2 _ I2 q2) fun vu s3 ⟨u,H3,I3,pu,q3⟩=>?_);rw[evalPart_none];refine wpAny_pure ?_;have I4:Inv X pins σ H3 { s3 with heap:=s3.heap.push { cls:=.type "slice",data:=.fields #[vl,vu,.none] } }:=I3.kept (t':=s3.toks) fun b ob q=>Yac _ q;obtain⟨T,id,hT,ht,hg⟩:=hr pins { s3 with heap:=s3.heap.push { cls:=.type "slice",data:=.fields #[vl,vu,.none] } } σ H3 x v vl vu l u s3.heap.objs.size Q I4 r1 (YdO ..) pl pu q3;show wpAny (model X.prog X.w) X.A (subscriptTail e (.Slice lo hi none p2) v (.ref s3.heap.objs.size)) (EP X pins σ Q) X.xe { s3 with heap:=s3.heap.push { cls:=.type "slice",data:=.fields #[vl,vu,.none] } };exact tail_any (ops:=[.ref s3.heap.objs.size,v]) ht hT hg (by with_unfolding_all rfl)
def cutV (xs:List V) (lo hi:Option Int):List V:=(xs.drop (HT.sIx xs.length 0 lo)).take (HT.sIx xs.length xs.length hi - HT.sIx xs.length 0 lo)
theorem Zc3 (xs:List V) (lo hi:Option Int):(cutV xs lo hi).length<=xs.length:=by
 unfold cutV;rw[YaA,Ybm];omega
def rSlT (K:Yad):V->Option Int->Option Int->Hp->VK->Prop:=fun x lo hi H Q=>∃ a xs,x=.ref a/\SqT K H a xs /\
 ¬ (HT.sIx xs.length 0 lo=0/\HT.sIx xs.length xs.length hi=xs.length)/\∀ p,H p=none->Q (.ref p) (upd H p (.tup (cutV xs lo hi)))
theorem Zla:SlR X (rSlT X.K):=by
 intro pins s σ H x v vl vu lo hi sl Q I rx hs pl pu h;obtain⟨a,xs,rfl,hx,hw,q⟩:=h;cases rx;obtain⟨its,r,ht,hz⟩:=I.tuple hx;have hlen:its.toArray.size=xs.length:=by rw[Yaj];exact r.length.symm
 refine⟨"tuple",_,Ycj.lookup,ht.typeIs,?_⟩;refine HT.getItem_tuple_cut ht hs pl pu (by rw[hlen];exact hw) ?_ (by rw[hlen];exact hz);rw[hlen];refine⟨.ref s.heap.objs.size,_,I.laid (t':=s.toks) (o:=.tup (cutV xs lo hi)) (fun b ob q=>Yac _ q) (Yag _) ?_,rfl,q _ (I.hok.fresh (Yag _))⟩;exact⟨Ybz (Zc3 xs lo hi) hz,_,(r.drop (HT.sIx xs.length 0 lo)).take (HT.sIx xs.length xs.length hi - HT.sIx xs.length 0 lo),IsTupD.new _ _⟩
def Zlg (K:Yad):R2:=fun x y H Q=>∃ a b xs ys,x=.ref a/\y=.ref b/\SqT K H a xs/\SqT K H b ys/\xs≠[]/\xs.length+ys.length<=sizeLine /\
 (ys=[]->Q (.ref a) H)/\(ys≠[]->∀ p,H p=none->Q (.ref p) (upd H p (.tup (xs++ys))))
theorem Vals.nil_iff {xs:List V}{us:List Value} (r:Vals xs us):us=[]↔xs=[]:=by
 cases r with
 | nil=>simp
 | cons _ _=>simp
theorem Zkw:OpR X (binaryOp .Add) (Zlg X.K):=by
 intro pins s σ H x y v u Q I rx ry h;obtain⟨a,b,xs,ys,rfl,rfl,ha,hb,hx,hz,q1,q2⟩:=h;cases rx;cases ry;obtain⟨its,r1,p1,_⟩:=I.tuple ha;obtain⟨its2,r2,p2,_⟩:=I.tuple hb;refine HT.cat_tup p1 p2 (fun z=>hx (r1.nil_iff.mp z)) (fun z=>⟨.ref a,H,I,rfl,q1 (r2.nil_iff.mp z)⟩) (fun z=>?_) (by rw[<- r1.length,<- r2.length];exact hz);refine⟨.ref s.heap.objs.size,_,I.laid (t':=s.toks) (o:=.tup (xs++ys)) (fun b ob q=>Yac _ q) (Yag _) ?_,rfl,q2 (fun w=>z (r2.nil_iff.mpr w)) _ (I.hok.fresh (Yag _))⟩;exact⟨by rw[Yak];exact hz,_,r1.append r2,IsTupD.new _ _⟩
end
end L2
namespace L2
open PySem PySem.Spec PyProof.Rows
def ixN (n:Nat) (i:Int):Option Nat:=if 0<=i then (if i<n then some i.toNat else none) else if -(n:Int)<=i then some (i+n).toNat else none
def atI {α:Type} (xs:List α) (i:Int):Option α:=(ixN xs.length i).bind fun j=>xs[j]?
theorem ZhW {n:Nat}{i:Int}{j:Nat} (h:ixN n i=some j):seqIndex? i n=some j/\j<n/\-(n:Int)<=i/\i<n:=by
 unfold ixN at h;by_cases h0:0<=i
 ·rw[if_pos h0] at h;by_cases h1:i<n
  ·rw[if_pos h1] at h;have e:i.toNat=j:=YaD h;exact⟨by rw[seqIndex_of h0 h1,e],by omega,by omega,h1⟩
  ·rw[if_neg h1] at h;cases h
 ·rw[if_neg h0] at h;by_cases h1:-(n:Int)<=i
  ·rw[if_pos h1] at h;have e:(i+n).toNat=j:=YaD h;exact⟨by rw[seqIndex_neg (by omega) h1,e],by omega,h1,by omega⟩
  ·rw[if_neg h1] at h;cases h
theorem ZiE {α:Type}{xs:List α}{i:Int}{v:α} (h:atI xs i=some v):∃ j,seqIndex? i xs.length=some j/\xs[j]?=some v/\j<xs.length/\-(xs.length:Int)<=i/\i<xs.length:=by
 unfold atI at h
 cases e:ixN xs.length i with
 | none=>rw[e] at h;cases h
 | some j=>
  rw[e] at h;obtain⟨h1,h2,h3,h4⟩:=ZhW e;exact⟨j,h1,h,h2,h3,h4⟩
theorem Za2 {α:Type}{xs:List α}{j:Nat}{v:α} (h:xs[j]?=some v):atI xs (j:Int)=some v:=by
 have hj:j<xs.length:=(Yae.mp h).1
 have e:ixN xs.length (j:Int)=some j:=by
  unfold ixN;rw[if_pos (by omega),if_pos (by omega)];simp
 unfold atI;rw[e];exact h
def ZiG (b:Expr):Prop:=∀ o i,subscripted b false o i=operate [o,i] (getItem o i)
def IxR (X:Cx) (r:R2):Prop :=
 ∀ (value slice:Expr) (pins:List (Addr × Obj)) (s:Shared) (σ:St) (H:Hp) (x y:V) (v u:Value) (Q:VK),Inv X pins σ H s->RelV x v->RelV y u->r x y H Q ->
  subscripted slice false v u=operate [v,u] (getItem v u)->wpAny (model X.prog X.w) X.A (subscriptTail value slice v u) (EP X pins σ Q) X.xe s
def MtR (X:Cx) (id:String) (r:V->List V->Hp->VK->Prop):Prop :=
 ∀ (pins:List (Addr × Obj)) (s:Shared) (σ:St) (H:Hp) (x:V) (xs:List V) (v:Value) (us:List Value) (Q:VK),Inv X pins σ H s->RelV x v->Vals xs us->r x xs H Q ->
  wpAny (model X.prog X.w) X.A (call (.builtin id) (v::us)) (EP X pins σ Q) X.xe s
section
variable {X:Cx}{a b:Expr}{ta tb:TE}{pos:Pos}
theorem ZaI {r:R2} (hr:IxR X r) (ha:PE X a ta) (hb:PE X b tb) (hs:ZiG b):PE X (.Subscript a b pos) (tOp r ta tb):=by
 intro pins s σ H Q I h;exact Subscript_ (binT ha hb I h fun v u s2 x y H2 I2 rx ry q=>hr a b pins s2 σ H2 x y v u Q I2 rx ry q (hs _ _))
def rIxL (K:Yad):R2:=fun x y H Q=>∃ p xs i v,x=.ref p/\y=.int i/\SqL K H p xs/\atI xs i=some v/\Q v H
def rIxT (K:Yad):R2:=fun x y H Q=>∃ p xs i v,x=.ref p/\y=.int i/\SqT K H p xs/\atI xs i=some v/\Q v H
theorem ZaT:IxR X (rIxL X.K):=by
 intro value slice pins s σ H x y v u Q I rx ry h hs;obtain⟨p,xs,i,z,rfl,rfl,hq,he,q⟩:=h;cases rx;obtain⟨t,rfl⟩:=ry;obtain⟨its,r,pl,hz⟩:=I.list hq;obtain⟨j,h1,h2,h3,h4,h5⟩:=ZiE he;obtain⟨w,ew,rw'⟩:=r.get h2;have hl:=r.length;have hn:=ZeP;have fin:EP X pins σ Q w s:=⟨z,H,I,rw',q⟩
 by_cases h0:0<=i
 ·have hj:i.toNat=j:=by
   rw[seqIndex_of h0 h5] at h1;exact YaD h1
  exact item_listR pl.isList h0 (by omega) (by rw[hj];simpa using ew) fin hs
 ·have hj:(i+(its.toArray.size:Int)).toNat=j:=by
   rw[seqIndex_neg (by omega) h4] at h1;rw[Yaj,<- hl];exact YaD h1
  exact subscriptTail_builtinR (x:=w) pl.isList.typeIs slot_list_getitem.lookup
   (wpAny_getItem_list_neg (Q:=fun r s'=>r=w/\EP X pins σ Q r s') pl.isList (by omega) (by rw[Yaj] <;> omega) (by omega) (by rw[hj];simpa using ew) ⟨rfl,fin⟩) hs
theorem Zbl:IxR X (rIxT X.K):=by
 intro value slice pins s σ H x y v u Q I rx ry h hs;obtain⟨p,xs,i,z,rfl,rfl,hq,he,q⟩:=h;cases rx;obtain⟨t,rfl⟩:=ry;obtain⟨its,r,pl,hz⟩:=I.tuple hq;obtain⟨j,h1,h2,h3,h4,h5⟩:=ZiE he;obtain⟨w,ew,rw'⟩:=r.get h2;have hl:=r.length;have hn:=ZeP;have fin:EP X pins σ Q w s:=⟨z,H,I,rw',q⟩
 exact subscriptTail_builtinR (x:=w) pl.typeIs slot_tuple_getitem.lookup
  (getItem_tuple (j:=j) (Q:=fun r s'=>r=w/\EP X pins σ Q r s') pl (by omega) (by omega) (by rw[Yaj,<- hl];exact h1) (by simpa using ew) ⟨rfl,fin⟩) hs
theorem ZgN (its:List Value) (n j:Nat) (u:Value):YbO (·.setIfInBounds j u) { cls:=.type "list",data:=.seq its.toArray n }={ cls:=.type "list",data:=.seq (its.set j u).toArray n }:=by
 simp[YbO]
theorem Inv.lst {pins:List (Addr × Obj)}{σ:St}{H:Hp}{s:Shared}{p:Addr}{xs:List V} (I:Inv X pins σ H s) (h:H p=some (.lst xs)) :
  ∃ (its:List Value) (n:Nat),Vals xs its/\s.heap.get? p=some { cls:=.type "list",data:=.seq its.toArray n }/\xs.length<=sizeLine:=by
 obtain⟨z,its,n,r,e⟩:=I.hok p _ h;exact⟨its,n,r,e,z⟩
theorem Inv.lstUpd {pins:List (Addr × Obj)}{σ:St}{H:Hp}{s:Shared}{p:Addr}{xs ys:List V}{its its':List Value}{n n':Nat}{f:Obj->Obj} (I:Inv X pins σ H s) (h:H p=some (.lst xs))
  (ho:s.heap.get? p=some { cls:=.type "list",data:=.seq its.toArray n }) (hf:f { cls:=.type "list",data:=.seq its.toArray n }={ cls:=.type "list",data:=.seq its'.toArray n' }) (r:Vals ys its') (hz:ys.length<=sizeLine) (t:Nat) :
  Inv X pins σ (upd H p (.lst ys)) { s with heap:=s.heap.update p f,toks:=t }:=by
 have e:(s.heap.update p f).get? p=some { cls:=.type "list",data:=.seq its'.toArray n' }:=by
  rw[Yb6 f ho (by rw[hf] <;> rfl),hf]
 refine I.write (x:=p) (e:=p) (by rw[h];trivial) (.inl rfl) (fun b u hb q=>(YbA _ _ (Ybj hb)).trans q) ⟨_,e⟩ ?_;exact⟨hz,its',n',r,e⟩
def ZlX:V->V->V->Hp->(Hp->Prop)->Prop:=fun o i v H Q=>∃ p xs k j,o=.ref p/\i=.int k/\H p=some (.lst xs)/\ixN xs.length k=some j/\Q (upd H p (.lst (xs.set j v)))
theorem ZiR:PSet X ZlX:=by
 intro pins s σ H o i v ov iv u Q I ro ri rv h;obtain⟨p,xs,k,j,rfl,rfl,hp,hj,q⟩:=h;cases ro;obtain⟨t,rfl⟩:=ri;obtain⟨its,n,r,ho,hz⟩:=I.lst hp;obtain⟨h1,h2,h3,h4⟩:=ZhW hj;have hl:=r.length;have hn:=ZeP;have I':Inv X pins σ (upd H p (.lst (xs.set j v))) { s with heap:=s.heap.update p (YbO (·.setIfInBounds j u)) } :=
  I.lstUpd hp ho (ZgN its n j u) (r.set rv j) (by rw[List.length_set];exact hz) s.toks
 by_cases h0:0<=k
 ·have hk:k.toNat=j:=by
   rw[seqIndex_of h0 h4] at h1;exact YaD h1
  exact PySem.W.ki_setAt ho h0 (by omega) (by rw[Yaj,<- hl];exact h4) (by rw[hk];exact⟨_,I',q⟩)
 ·have hk:(k+(its.toArray.size:Int)).toNat=j:=by
   rw[seqIndex_neg (by omega) h3] at h1;rw[Yaj,<- hl];exact YaD h1
  exact PySem.W.ki_setBack ho (by omega) (by rw[Yaj,<- hl];exact h3) (by omega) (by rw[hk];exact⟨_,I',q⟩)
theorem ZeC (lo hi:Option Int) (n:Nat):(sliceBounds lo hi none n).1=((HT.sIx n 0 lo:Nat):Int)/\(sliceBounds lo hi none n).2.1=((HT.sIx n n hi:Nat):Int)/\(sliceBounds lo hi none n).2.2=1:=by
 refine⟨?_,?_,rfl⟩
 ·cases lo with
  | none=>simp[sliceBounds,HT.sIx]
  | some i=>
   simp only[sliceBounds,HT.sIx,YeT,show (1:Int) > 0 by decide,if_true];by_cases h:i<0
   ·simp only[h,if_true] <;> omega
   ·simp only[h,if_false] <;> omega
 ·cases hi with
  | none=>simp[sliceBounds,HT.sIx]
  | some i=>
   simp only[sliceBounds,HT.sIx,YeT,show (1:Int) > 0 by decide,if_true];by_cases h:i<0
   ·simp only[h,if_true] <;> omega
   ·simp only[h,if_false] <;> omega
theorem ZdV (its:List Value) (lo hi:Option Int):slicePick its.toArray lo hi none=((its.drop (HT.sIx its.length 0 lo)).take (HT.sIx its.length its.length hi - HT.sIx its.length 0 lo)).toArray:=by
 obtain⟨h1,h2,h3⟩:=ZeC lo hi its.toArray.size;unfold slicePick;rw[h1,h2,h3];simp only[sliceRange_one,pick_run,Yaj] <;> rfl
def rSlL (K:Yad):V->Option Int->Option Int->Hp->VK->Prop:=fun x lo hi H Q=>∃ a xs,x=.ref a/\SqL K H a xs/\∀ p,H p=none->Q (.ref p) (upd H p (.lst (cutV xs lo hi)))
theorem Zhb:SlR X (rSlL X.K):=by
 intro pins s σ H x v vl vu lo hi sl Q I rx hs pl pu h;obtain⟨a,xs,rfl,hx,q⟩:=h;cases rx;obtain⟨its,r,ht,hz⟩:=I.list hx;have hlen:=r.length;refine⟨"list",_,slot_list_getitem.lookup,ht.isList.typeIs,?_⟩;refine wpAny_getItem_list_slice ht.isList hs pl pu .none (by simp) ?_ (by rw[Yaj] <;> omega);rw[ZdV,<- hlen];refine⟨.ref s.heap.objs.size,_,I.laid (t':=s.toks) (o:=.lst (cutV xs lo hi)) (fun b ob q=>Yac _ q) (Yag _) ?_,rfl,q _ (I.hok.fresh (Yag _))⟩;exact⟨Ybz (Zc3 xs lo hi) hz,_,0,(r.drop (HT.sIx xs.length 0 lo)).take (HT.sIx xs.length xs.length hi - HT.sIx xs.length 0 lo),Yas _ rfl⟩
theorem Zao:Zbg X (.builtin "len") (fun xs H Q=>∃ p ys,xs=[.ref p]/\(SqL X.K H p ys∨SqT X.K H p ys)/\Q (.int ys.length) H):=by
 intro pins s σ H xs us Q I r h;obtain⟨p,ys,rfl,hq,q⟩:=h;obtain⟨u,rfl,rx⟩:=Zci r;cases rx;have hn:=ZeP;rcases hq with hq | hq
 ·obtain⟨its,r',pl,hz⟩:=I.list hq;have hlen:=r'.length;exact Calls.call_len_list pl.isList (by simp only[Yaj] <;> omega) ⟨.int ys.length,H,I.tok _,⟨s.toks+1,by rw[Yaj,hlen]⟩,q⟩
 ·obtain⟨its,r',pl,hz⟩:=I.tuple hq;have hlen:=r'.length;exact len_tuple pl (by simp only[Yaj] <;> omega) ⟨.int ys.length,H,I.tok _,⟨s.toks+1,by rw[Yaj,hlen]⟩,q⟩
theorem Ze2:Zbg X (.type "list") (fun xs H Q=>∃ p ys,xs=[.ref p]/\(SqL X.K H p ys∨SqT X.K H p ys)/\∀ l,H l=none->Q (.ref l) (upd H l (.lst ys))):=by
 intro pins s σ H xs us Q I r h;obtain⟨p,ys,rfl,hq,q⟩:=h;obtain⟨u,rfl,rx⟩:=Zci r;cases rx;have fin:∀ (its:List Value),Vals ys its->ys.length<=sizeLine->∀ (h':Heap) (c':Nat),(∀ b o',s.heap.get? b=some o'->h'.get? b=some o') ->
   h'.get? s.heap.objs.size=some { cls:=.type "list",dict:=none,data:=.seq its.toArray c',slots:=#[] }->EP X pins σ Q (.ref s.heap.objs.size) { s with heap:=h' }:=fun its r' hz h' c' kp e=>
  ⟨.ref s.heap.objs.size,_,I.laid (t':=s.toks) kp (Yag _) (show ObjOk X.prog X.w _ h' _ (.lst ys) from⟨hz,its,c',r',e⟩),rfl,q _ (I.hok.fresh (Yag _))⟩
 rcases hq with hq | hq
 ·obtain⟨its,r',pl,hz⟩:=I.list hq;have hlen:=r'.length;obtain⟨o,ho,hc,n,hd⟩:=pl.isList;exact call_list_seq p (.inl rfl) ho hc hd (fun h' c' kp e=>fin its r' hz h' c' kp e) (by simp only[Yaj] <;> omega)
 ·obtain⟨its,r',pl,hz⟩:=I.tuple hq;have hlen:=r'.length;obtain⟨o,ho,hc,n,hd⟩:=pl;exact call_list_seq p (.inr rfl) ho hc hd (fun h' c' kp e=>fin its r' hz h' c' kp e) (by simp only[Yaj] <;> omega)
theorem ZaU:Zbg X (.type "tuple") (fun xs H Q=>∃ p ys,xs=[.ref p]/\((SqL X.K H p ys/\∀ l,H l=none->Q (.ref l) (upd H l (.tup ys)))∨(SqT X.K H p ys/\Q (.ref p) H))):=by
 intro pins s σ H xs us Q I r h;obtain⟨p,ys,rfl,h⟩:=h;obtain⟨u,rfl,rx⟩:=Zci r;cases rx;rcases h with ⟨hq,q⟩ | ⟨hq,q⟩
 ·obtain⟨its,r',pl,hz⟩:=I.list hq;have hlen:=r'.length;refine call_tuple_list pl.isList (fun h' kp=>?_) (by simp only[Yaj] <;> omega);have I1:Inv X pins σ H { s with heap:=h' }:=I.kept (t':=s.toks) kp;have I2:Inv X pins σ (upd H h'.objs.size (.tup ys)) { s with heap:=h'.push { cls:=.type "tuple",data:=.seq its.toArray } } :=
   I1.laid (t':=s.toks) (fun b o e=>Yac _ e) (Yag _) (show ObjOk X.prog X.w _ _ _ (.tup ys) from⟨hz,its,r',IsTupD.new _ _⟩)
  exact⟨.ref h'.objs.size,_,I2,rfl,q _ (I1.hok.fresh (Yag _))⟩
 ·obtain⟨its,r',pl,hz⟩:=I.tuple hq;exact call_tuple_same pl ⟨.ref p,H,I,rfl,q⟩
def tyV (K:Yad) (T:String) (x:V) (H:Hp):Prop:=match x with
 | .str _=>T="str"
 | .int _=>T="int"
 | .ref p=>(T="list"/\∃ xs,SqL K H p xs)∨(T="tuple"/\∃ o,K.lookup p=some o/\o.cls=.type "tuple"/\o.dict=none) ∨
   (T="dict"/\((∃ kvs,H p=some (.dK kvs))∨∃ kvs,H p=some (.dT kvs)))∨(T="set"/\∃ S n,H p=some (.set S n))
 | _=>False
theorem ZjI {pins:List (Addr × Obj)}{σ:St}{H:Hp}{s:Shared}{T:String}{x:V}{v:Value} (I:Inv X pins σ H s) (r:RelV x v) (ty:tyV X.K T x H) :
  s.TypeIs v T/\∀ a,v=.ref a->∃ ob,s.heap.get? a=some ob/\ob.dict=none:=by
 cases x with
 | str z=>
  obtain⟨t,rfl⟩:=r;cases (show T="str" from ty);exact⟨typeIs_str s z t,fun _ e=>nomatch e⟩
 | int i=>
  obtain⟨t,rfl⟩:=r;cases (show T="int" from ty);exact⟨typeIs_int s i t,fun _ e=>nomatch e⟩
 | ref p=>
  cases r;rcases ty with ⟨rfl,xs,hq⟩ | ⟨rfl,o,hk,hc,hd⟩ | ⟨rfl,hk⟩ | ⟨rfl,S,n,hk⟩
  ·obtain⟨its,_,pl,_⟩:=I.list hq;refine⟨pl.isList.typeIs,fun a e=>?_⟩;cases e;obtain⟨o,n,e,c,hd,_⟩:=pl;exact⟨o,e,hd⟩
  ·refine⟨⟨o,I.kIn p o hk,hc⟩,fun a e=>?_⟩;cases e;exact⟨o,I.kIn _ o hk,hd⟩
  ·have z:∃ o,s.heap.get? p=some o/\o.ExactDict:=by
    rcases hk with ⟨kvs,hk⟩ | ⟨kvs,hk⟩
    ·obtain⟨_,_,_,_,o,_,_,e,ex,_⟩:=I.hok p _ hk;exact⟨o,e,ex⟩
    ·obtain⟨_,_,_,_,o,_,_,e,ex,_⟩:=I.hok p _ hk;exact⟨o,e,ex⟩
   obtain⟨o,e,ex⟩:=z;refine⟨⟨o,e,ex.1⟩,fun a e2=>?_⟩;cases e2;exact⟨o,e,ex.2.1⟩
  ·obtain⟨o,_,_,_,e,ex,_⟩:=I.hok p _ hk;refine⟨⟨o,e,ex.1⟩,fun a e2=>?_⟩;cases e2;exact⟨o,e,ex.2.1⟩
 | _=>exact Yca ty
def tBM0 (K:Yad) (T:String) (r:V->List V->Hp->VK->Prop) (to:TE):TE:=fun σ H Q=>to σ H fun x H1=>tyV K T x H1/\r x [] H1 Q
def tBM (K:Yad) (T:String) (r:V->List V->Hp->VK->Prop) (to:TE) (t:TA):TE:=fun σ H Q=>to σ H fun x H1=>tyV K T x H1/\t σ H1 fun xs H2=>r x xs H2 Q
variable {o e:Expr}{es:List Expr}{to:TE}{t:TA}{name:Str}{apos cpos:Pos}{T id:String}{r:V->List V->Hp->VK->Prop}
theorem Zlm (pa:PlainAttrs T) (slot:Slot T name id) (hty:typeOf (.builtin id)=pure (.type "method_descriptor")) (hm:MtR X id r) (ho:PE X o to)
  (hbase:attributeBase o name X.env (eval o X.env)=eval o X.env:=by rfl) (hline:(apos.endLine == cpos.line)=true:=by rfl):PE X (.Call (.Attribute o name apos) [] [] cpos) (tBM0 X.K T r to):=by
 intro pins s σ H Q I h;refine wpAny_Call_method0_late hbase hline (thn (ho pins s σ H _ I h) fun v s1 ⟨x,H1,I1,r1,ty,q1⟩=>?_);obtain⟨h1,h2⟩:=ZjI I1 r1 ty;exact⟨T,id,pa,slot,hty,h1,h2,Yer rfl (PySem.evalArgs_none (hm pins s1 σ H1 x [] v [] Q I1 r1 .nil q1))⟩
theorem ZgE (pa:PlainAttrs T) (slot:Slot T name id) (hty:typeOf (.builtin id)=pure (.type "method_descriptor")) (hm:MtR X id r) (ho:PE X o to) (ha:PA X (e::es) t)
  (hbase:attributeBase o name X.env (eval o X.env)=eval o X.env:=by rfl)
  (hfew:((backTo cpos (starEach (e::es) X.env)).all (fun x=>!x.1) && (backToKw cpos (keywordEach [] X.env)).all (fun x=>x.1.isSome)
   && decide ((e::es).length+([]:List Keyword).length+(if ([]:List Keyword).isEmpty then 0 else 1)<30))=true:=by rfl)
  (hline:(apos.endLine == cpos.line)=true:=by rfl) (hs:starEach (e::es) X.env=(false,eval e X.env)::starEach es X.env:=by rfl) (hplain:(backTo cpos (starEach es X.env)).any (·.1)=false:=by rfl) :
  PE X (.Call (.Attribute o name apos) (e::es) [] cpos) (tBM X.K T r to t):=by
 intro pins s σ H Q I h;refine wpAny_Call_method_late hbase hfew hline rfl (thn (ho pins s σ H _ I h) fun v s1 ⟨x,H1,I1,r1,ty,q1⟩=>?_);obtain⟨h1,h2⟩:=ZjI I1 r1 ty;refine⟨T,id,pa,slot,hty,h1,h2,?_⟩;have hA:=ha cpos pins s1 σ H1 _ I1 q1;rw[hs] at hA ⊢;refine Yer (by show (false || (backTo cpos (starEach es X.env)).any (·.1))=false;rw[hplain] <;> rfl) (YeA ?_);exact thn hA fun us s2 ⟨vs,H2,I2,r2,q2⟩=>hm pins s2 σ H2 x vs v us Q I2 r1 r2 q2
end
end L2
namespace L2
open PySem PySem.Spec PyProof.Rows
def MtM (X:Cx) (id:String) (r:V->List V->Hp->VK->Prop):Prop :=
 ∀ (pins:List (Addr × Obj)) (s:Shared) (σ:St) (H:Hp) (x:V) (xs:List V) (v:Value) (us:List Value) (Q:VK),Inv X pins σ H s->RelV x v->Vals xs us->r x xs H Q ->
  wpAny (model X.prog X.w) X.A (call (.builtin id) (v::us)) (EP X pins σ Q) X.xe s
theorem Vals.one:∀ {x:V}{us:List Value},Vals [x] us->∃ u,us=[u]/\RelV x u
 | _,_,.cons r .nil=>⟨_,rfl,r⟩
theorem Vals.zero:∀ {us:List Value},Vals [] us->us=[]
 | _,.nil=>rfl
theorem Vals.reverse {xs:List V}{us:List Value} (h:Vals xs us):Vals xs.reverse us.reverse:=by
 induction h with
 | nil=>exact .nil
 | cons r t ih=>rw[Ycs,Ycs];exact Vals.append ih (.cons r .nil)
theorem Vals.rep {xs:List V}{us:List Value} (h:Vals xs us):∀ k:Nat,Vals (Yau k xs).flatten (Yau k us).flatten
 | 0=>.nil
 | k+1=>by
  rw[YbK,YbK,Ya5,Ya5];exact Vals.append h (Vals.rep h k)
theorem ZeW (its:List Value):∀ (k:Nat) (acc:List Value),
  Yeg (fun x1 x2=>x1++x2) acc.toArray (Yau k its.toArray)=(acc++(Yau k its).flatten).toArray
 | 0,acc=>by simp
 | k+1,acc=>by
  have e:acc.toArray++its.toArray=(acc++its).toArray:=by simp
  have e2:(acc++its)++(Yau k its).flatten=acc++(Yau (k+1) its).flatten:=by
   rw[YbK,Ya5,YaI]
  rw[<- e2,<- ZeW its k (acc++its),<- e,YbK,YdV]
section
variable {X:Cx}{pins:List (Addr × Obj)}{σ:St}{H:Hp}{s:Shared}{l b:Addr}{xs ys zs:List V}
theorem Inv.lset {its its':List Value}{n:Nat}{f:Array Value->Array Value}{t':Nat} (I:Inv X pins σ H s) (hH:H l=some (.lst xs))
  (e:s.heap.get? l=some { cls:=.type "list",data:=.seq its.toArray n }) (hf:f its.toArray=its'.toArray) (hv:Vals ys its') (hz:ys.length<=sizeLine) :
  Inv X pins σ (upd H l (.lst ys)) { s with heap:=s.heap.update l (YbO f),toks:=t' }:=by
 have q:=PySem.IsL.update e f;rw[hf] at q;refine I.write (x:=l) (e:=l) (by rw[hH];exact trivial) (.inl rfl) (fun b' u hb hu=>(YbA s.heap (YbO f) (Ybj hb)).trans hu) ⟨_,q⟩ ?_;exact⟨hz,its',_,hv,q⟩
theorem Inv.lnew {its:List Value}{t':Nat} (I:Inv X pins σ H s) (hv:Vals ys its) (hz:ys.length<=sizeLine) :
  Inv X pins σ (upd H s.heap.objs.size (.lst ys)) { s with heap:=s.heap.push { cls:=.type "list",data:=.seq its.toArray },toks:=t' } :=
 I.laid (fun _ _ q=>Yac _ q) (Yag _) ⟨hz,its,0,hv,Yas _ rfl⟩
theorem Inv.fresh (I:Inv X pins σ H s):H s.heap.objs.size=none:=I.hok.fresh (Yag _)
theorem Inv.lstM (I:Inv X pins σ H s) (hH:H l=some (.lst xs)):xs.length<=sizeLine/\∃ (its:List Value) (n:Nat),Vals xs its/\xs.length=its.length/\s.heap.get? l=some { cls:=.type "list",data:=.seq its.toArray n }:=by
 obtain⟨z,its,n,r,e⟩:=I.hok l _ hH;exact⟨z,its,n,r,r.length,e⟩
theorem Zf2 {n:Nat} (h:n<=sizeLine):Ycb n=false:=by
 unfold Ycb;exact decide_eq_false (by omega)
end
section
variable {X:Cx}
def Zko:V->List V->Hp->VK->Prop:=fun x vs H Q=>∃ l xs y,x=.ref l/\vs=[y]/\H l=some (.lst xs)/\xs.length<sizeLine/\Q .non (upd H l (.lst (xs++[y])))
theorem Zbb:MtM X "list.append" Zko:=by
 intro pins s σ H x vs v us Q I rx rv h;obtain⟨l,xs,y,rfl,rfl,hH,hz,q⟩:=h;cases rx;obtain⟨u,rfl,ru⟩:=rv.one;obtain⟨z,its,n,r,hl,e⟩:=I.lstM hH;refine call_meets F.slot_list_append ⟨_,e,rfl⟩ F.entry_list_append (F.args_list_append_2 _ _) (PySem.list_append l its.toArray n u (by rw[Yaj];omega)) ⟨e,?_⟩;refine⟨.non,_,I.lset (its':=its++[u]) hH e (by simp) (r.append (.cons ru .nil)) ?_,rfl,q⟩;rw[Yak,List.length_singleton];omega
def Zkn:V->List V->Hp->VK->Prop:=fun x vs H Q=>∃ l b xs zs,x=.ref l/\vs=[.ref b]/\H l=some (.lst xs)/\H b=some (.lst zs)/\xs.length+zs.length<=sizeLine/\Q .non (upd H l (.lst (xs++zs)))
theorem ZhG:MtM X "list.extend" Zkn:=by
 intro pins s σ H x vs v us Q I rx rv h;obtain⟨l,b,xs,zs,rfl,rfl,hH,hB,hz,q⟩:=h;cases rx;obtain⟨u,rfl,ru⟩:=rv.one;cases ru;obtain⟨z,its,n,r,hl,e⟩:=I.lstM hH;obtain⟨z2,its2,n2,r2,hl2,e2⟩:=I.lstM hB;have hsz:its.toArray.size+its2.toArray.size<=sizeLine:=by rw[Yaj,Yaj];omega
 have hlong:¬ (!its.toArray.isEmpty && Ycb (its.toArray.size+its2.toArray.size))=true:=by
  rw[Zf2 hsz,Ydg];exact YaF
 refine call_meets F.slot_list_extend ⟨_,e,rfl⟩ F.entry_list_extend (F.args_list_extend_2 _ _)
  (AutoSeq1.list_extend_list_list_0 l its.toArray n b its2.toArray n2 hlong (by rw[Yaj];omega) (by omega)) ⟨e,e2,?_⟩
 refine⟨.non,_,I.lset (its':=its++its2) hH e (by simp) (r.append r2) ?_,rfl,q⟩;rw[Yak];omega
def Zi0:V->List V->Hp->VK->Prop:=fun x vs H Q=>∃ l xs,x=.ref l/\vs=[]/\H l=some (.lst xs)/\Q .non (upd H l (.lst xs.reverse))
theorem ZgM:MtM X "list.reverse" Zi0:=by
 intro pins s σ H x vs v us Q I rx rv h;obtain⟨l,xs,rfl,rfl,hH,q⟩:=h;cases rx;have hus:=rv.zero;subst hus;obtain⟨z,its,n,r,hl,e⟩:=I.lstM hH;refine call_meets F.slot_list_reverse ⟨_,e,rfl⟩ F.entry_list_reverse (F.args_list_reverse_1 _) (AutoSeq1.list_reverse_list_0 l its.toArray n (by rw[Yaj];omega)) ⟨e,?_⟩;refine⟨.non,_,I.lset (its':=its.reverse) hH e (by simp) r.reverse ?_,rfl,q⟩;rw[Ydi];omega
def rCat:R2:=fun x y H Q=>∃ l b xs zs,x=.ref l/\y=.ref b/\H l=some (.lst xs)/\H b=some (.lst zs)/\xs.length+zs.length<=sizeLine/\∀ p,H p=none->Q (.ref p) (upd H p (.lst (xs++zs)))
theorem Zcw:OpR X (binaryOp .Add) rCat:=by
 intro pins s σ H x y v u Q I rx ry h;obtain⟨l,b,xs,zs,rfl,rfl,hH,hB,hz,q⟩:=h;cases rx;cases ry;obtain⟨z,its,n,r,hl,e⟩:=I.lstM hH;obtain⟨z2,its2,n2,r2,hl2,e2⟩:=I.lstM hB;refine PySem.P.add_list e e2 ?_ (by rw[Yaj,Yaj];omega);have ea:its.toArray++its2.toArray=(its++its2).toArray:=by simp
 rw[ea];exact⟨.ref _,_,I.lnew (t':=s.toks) (r.append r2) (by rw[Yak];omega),rfl,q _ I.fresh⟩
def rRep:R2:=fun x y H Q=>∃ l k xs,x=.ref l/\y=.int k/\H l=some (.lst xs)/\-(2 ^ 63)<=k/\k<2 ^ 63/\xs.length*k.toNat<=sizeLine /\
 ∀ p,H p=none->Q (.ref p) (upd H p (.lst (Yau k.toNat xs).flatten))
theorem ZkE {α:Type} (xs:List α) (k:Nat):(Yau k xs).flatten.length=k*xs.length:=by
 induction k with
 | zero=>simp
 | succ k ih=>rw[YbK,Ya5,Yak,ih,Nat.succ_mul,Nat.add_comm]
theorem ZjU:OpR X (binaryOp .Mult) rRep:=by
 intro pins s σ H x y v u Q I rx ry h;obtain⟨l,k,xs,rfl,rfl,hH,h1,h2,hz,q⟩:=h;cases rx;obtain⟨t,rfl⟩:=ry;obtain⟨z,its,n,r,hl,e⟩:=I.lstM hH;have hlen:its.toArray.size*k.toNat<=sizeLine:=by rw[Yaj,<- hl];exact hz
 have hcap:¬ its.toArray.size*k.toNat > (2 ^ 63 - 1) / 8:=by
  have:(sizeLine:Nat)<=(2 ^ 63 - 1) / 8:=by decide
  omega
 have hfit:¬ (!Builtin.List.listFitsIndex k)=true:=by
  rw[fitsIndex_both h1 h2];exact YaF
 have hlong:¬ Ycb (its.toArray.size*k.toNat)=true:=by
  rw[Zf2 hlen];exact YaF
 have hnew:Yeg (fun x1 x2=>x1++x2) #[] (Yau (if its.toArray.isEmpty=true then 0 else k.toNat) its.toArray)=(Yau k.toNat its).flatten.toArray:=by
  have f0:∀ m:Nat,Yeg (fun x1 x2=>x1++x2) #[] (Yau m its.toArray)=(Yau m its).flatten.toArray:=fun m=>by
   have:=ZeW its m [];rw[YdT] at this;exact this
  rw[f0]
  cases its with
  | nil=>simp
  | cons a r'=>rw[if_neg (by simp)]
 refine wpAny_binaryOp_repeat_ref (T:="list") (U:="int") (by decide) ⟨_,e,rfl⟩ (fun s'=>typeIs_int s' k t) noFill_list_mul F.fills_int_mul F.slot_int_rmul repeat_list F.slot_int_index.lookup
  (call_meets F.slot_int_rmul (typeIs_int s k t) F.entry_int_rmul (F.args_int_rmul_2 _ _) (int___rmul___int_list k t l its.toArray n)
   ⟨e,rfl,⟨_,e,rfl⟩,call_meets F.slot_list_mul ⟨_,e,rfl⟩ F.entry_list_mul (F.args_list_mul_2 _ _) (AutoListH.list___mul___list_int_3 l its.toArray n k t hfit hcap hlong) ⟨e,?_⟩⟩)
 rw[hnew];exact⟨.ref _,_,I.lnew (t':=s.toks) (r.rep k.toNat) (by rw[ZkE,Nat.mul_comm];exact hz),rfl,q _ I.fresh⟩
end
section
variable {prog:Program}{w:World}{A:Around}{E:Value->Shared->Prop}{s:Shared}
set_option maxRecDepth 100000 in
end
section
variable {X:Cx}
end
end L2
namespace Att
open PySem PySem.W PySem.Calls PyProof.Rows
theorem ZcZ {P:Params}{h:Heap}:∀ (ns:List Int) (vs:List Value),WellAll P h vs (ns.map WData.int)->IntsAre vs ns:=by
 intro ns
 induction ns with
 | nil=>
  intro vs w;rw[Ycw] at w;cases w;exact .nil
 | cons n ns ih=>
  intro vs w;rw[YaK] at w
  cases w with
  | cons a b=>
   cases a;exact .cons _ _ (ih _ b)
theorem Zhc {l:OpenLaw}{n:Nat} (hn:l.most=some n) {P:Params}{h:Heap}{args:List WData}{vals:List Value}
  (hpre:l.row.toRowW.claim.pre args=true) (hwl:WellAll P h vals args) :
  ∃ a vs ns,vals=[YaH a]/\args=[WData.list (ns.map WData.int)]/\h.get? a=some { cls:=.type "list",data:=.seq vs.toArray }/\IntsAre vs ns/\ns.length<=n:=by
 have hsh:WShape.hasAll [] args [.list .int]=true:=(pre_splitW hpre).1
 have hc:l.pre.holds [] { args:=args }=true:=(pre_splitW hpre).2
 obtain⟨d,r,rfl,h1,h2⟩:=hasAllW_cons hsh;obtain rfl:=hasAllW_nil h2;obtain⟨xs,rfl,h3⟩:=hasW_list h1;obtain⟨ns,rfl⟩:=items_int h3;have hlen:ns.length<=n:=by
  unfold OpenLaw.pre at hc;have h4:(WTm.not (.lt (.lit (.int (n:Int))) (.len (.arg 0)))).holds [] { args:=[.list (ns.map .int)] }=true:=by
   have h4:=(holds_andW hc).1
   rw[hn] at h4;exact h4
  have h5:=condW_of h4 (w_not (w_lt w_lit (w_len_list (w_arg rfl))));rw[Yab] at h5;refine Nat.le_of_not_lt fun q=>?_;have q':(n:Int)<((ns.length:Nat):Int):=by omega
  first
   | (rw[decide_eq_true q'] at h5;exact absurd h5 (by decide))
   | (simp at h5;omega)
 cases hwl with
 | cons w1 w2=>
  cases w2
  cases w1 with
  | list ho hall=>exact⟨_,_,ns,rfl,rfl,ho,ZcZ ns _ hall,hlen⟩
theorem Zhn (l:OpenLaw) (args:List WData):l.row.toRowW.claim.post args (.bool true) args=true :=
 postW_of (r:=l.row.toRowW) (X:=(true == true))
  (show WShape.has [] (.bool true) .bool=true by first | rfl | decide | simp[WShape.has,WShape.arms,WShape.armsAll])
  (show (WTm.eq .res (.lit (.bool true))).value [] { args:=args,res:=some (.bool true),after:=args }=some (.bool (true == true)) from w_eq_bool (w_res rfl) w_lit) rfl
theorem attach_call {l:OpenLaw}{n:Nat}{q:Program}{loose:List Str}{XP:(Str->Option Value)->Heap->Prop}{YP:World->Heap->Prop}{d:DefRec}
  (hn:l.most=some n) (hdf:d.params.defaults=[])
  (call:∀ (w:World) (s₀ s₁:Shared) (mg mb:Str->Option Value) (fa:Addr) (o:Obj) (pm cd doc:Value) (a:Addr) (vs:List Value) (ns:List Int),
   Ground q loose [] XP w s₀ mg mb s₁.heap->YP w s₁.heap ->
   s₁.heap.get? fa=some o->o.data=.func (docDef d.name d.params d.body d.scope pm cd doc)->s₁.heap.CodeRec cd d.name->mg d.name=some (.ref fa) ->
   s₁.heap.get? a=some { cls:=.type "list",data:=.seq vs.toArray }->IntsAre vs ns->ns.length<=n->s₁.gens=#[] ->
   codeAny (model l.prog w) callerA (.call (.ref fa) ⟨[.ref a],[]⟩) (fun r s'=>r=.ok (.ret (.bool true))/\OldK s₁.heap s'.heap/\s'.os=s₁.os/\AllBare s'.gens) s₁) :
  WalkO q loose XP YP l.row.toRowW d [] (fun f vs=>YeS f vs):=by
 intro w s₀ s₁ mg mb G Y fa o pm cd doc dV kV ho hd hcd hD hmg hg args vals as hpre hlay hrd hwl hlo;obtain rfl:dV=.none:=Dflts.none hD hdf;obtain rfl:kV=.none:=Dflts.noKw hD;obtain⟨a,vs,ns,rfl,rfl,hobj,hints,hlen⟩:=Zhc hn hpre hwl;refine enter_call (codeAny_mono (call w s₀ s₁ mg mb fa o pm cd doc a vs ns G Y ho (fd_plain hd) hcd hmg hobj hints hlen hg) fun r s' hq=>?_);obtain⟨rfl,h2,h3,h4⟩:=hq;exact⟨.inl ⟨.bool true,.bool true,[],rfl,fun _=>rfl,.bool true,Zhn l _,fun _=>⟨YbM,fun _ hm=>(nomatch hm)⟩⟩,h2,h3,h4⟩
section
variable {prog:Program}{w:World}{A:Around}{E:Value->Shared->Prop}{s:Shared}{K:Frag}
def Zmh (h:Heap) (L d:Addr):List (Addr × Obj):=(YaO h.objs.size).filterMap fun a=>if a=L∨a=d then none else (h.get? a).map fun o=>(a,o)
end
end Att
namespace L2
open PySem PySem.Spec PyProof.Rows
theorem Zes:∀ {vs:List Value}{ns:List Int},IntsAre vs ns->Vals (ns.map V.int) vs
 | _,_,.nil=>.nil
 | _,_,.cons n t h=>.cons ⟨t,rfl⟩ (Zes h)
def Only (H:Hp):Prop:=∀ b,H b=none∨∃ o xs,H b=some (.frz o (.lst xs))
theorem Zjn {P:Program}{w:World}{K:Yad}{mg mb:Str->Option Value}{CX:CXT}{k:Nat}{fa a:Addr}{fd:FuncData}{x:Str}{sp:Sp}{s₁:Shared}{vs:List Value}{ns:List Int}
  (KX:K.In s₁.heap) (hns:s₁.heap.Ns mainGlobals mg) (hb:s₁.heap.Ns builtinsNs mb) (hbb:∀ x:Str,x≠"__name__"->mb x=bootBuiltins x) (hlim:s₁.heap.NoLimit) (hg:s₁.gens=#[])
  (ha:s₁.heap.get? a=some { cls:=.type "list",data:=.seq vs.toArray }) (hi:IntsAre vs ns) (hl:ns.length<=sizeLine) (hr:Room k callerA)
  (F:∀ base:Heap,K.In base->base.Ns mainGlobals mg->FnOk P w K mg base CX k fa fd [x] sp) (hbind:∀ (s:Shared) (u:Value),BindsTo s fd ⟨[u],[]⟩ [(x,u)])
  (hsp:∀ H:Hp,Only H->SqL K H a (ns.map V.int)->sp [.ref a] H (fun v _=>v=.bl true) fun _ _ _=>False)
  (hCX:∀ H e s',CX [] H s₁ (fun _ _ _=>False) e s'->False) :
  codeAny (model P w) callerA (.call (.ref fa) ⟨[.ref a],[]⟩) (fun r s'=>r=.ok (.ret (.bool true))/\OldK s₁.heap s'.heap/\s'.os=s₁.os/\AllBare s'.gens) s₁:=by
 have rv:=Zes hi;have lenV:=hi.length;have core:∀ H:Hp,Only H->SqL K H a (ns.map V.int)->HOk P w H s₁.heap->(∀ b,H b≠none->b=a)->(H a≠none->K.lookup a=none) ->
   codeAny (model P w) callerA (.call (.ref fa) ⟨[.ref a],[]⟩) (fun r s'=>r=.ok (.ret (.bool true))/\OldK s₁.heap s'.heap/\s'.os=s₁.os/\AllBare s'.gens) s₁:=by
  intro H hO hS hok hA hK;have base_of:∀ {b:Addr}{o:Obj},s₁.heap.get? b=some o->H b=none->(hidT s₁.heap H).get? b=some o:=fun e n=>Zjp e n;have noA:∀ {b:Addr}{o:Obj}{es:Array DictEntry}{ep:Nat},s₁.heap.get? b=some o->o.data=.dict es ep->H b=none:=fun {b o es ep} e d=>by
   cases q:H b with
   | none=>rfl
   | some u=>
    have e':b=a:=hA b (by rw[q];simp);subst e';rw[ha] at e;cases e;have d':Data.seq vs.toArray _=Data.dict es ep:=d;cases d'
  have nsK:∀ {b:Addr}{m:Str->Option Value},s₁.heap.Ns b m->(hidT s₁.heap H).Ns b m:=fun {b m} ⟨o,es,ep,e,d,r⟩=>⟨o,es,ep,base_of e (noA e d),d,r⟩
  have hKb:K.In (hidT s₁.heap H):=fun b o e=>base_of (KX b o e) (by
   cases q:H b with
   | none=>rfl
   | some u=>
    have e':b=a:=hA b (by rw[q];simp);subst e';rw[hK (by rw[q];simp)] at e;cases e)
  have hM:Mod K mg (hidT s₁.heap H):=⟨hKb,nsK hns,⟨mb,nsK hb,hbb⟩,let ⟨mc,h1,h2⟩:=hlim;⟨mc,nsK h1,h2⟩⟩
  have e0:Env0 P w K mg (hidT s₁.heap H) callerA [] s₁ H:=⟨rfl,hM,fun b o e=>Zkz e,Nat.le_of_eq (Zh4 _ _),trivial,fun b hb=>absurd (show b∈([]:List Addr) from hb) (by simp),hok,.of_eq hg⟩
  refine codeAny_mono ((F _ hKb (nsK hns)).run callerA [] s₁ H ⟨[.ref a],[]⟩ [.ref a] [.ref a] _ _ hr e0 (hbind s₁ (.ref a)) (.cons rfl .nil) (hsp H hO hS)) fun r s' h=>?_
  cases r with
  | error e=>exact (hCX H e s' h).elim
  | ok fl=>
   cases fl with
   | next=>exact Yca h
   | brk=>exact Yca h
   | cont=>exact Yca h
   | ret u=>
    obtain⟨v,H',os,bare,un,hok',r',q⟩:=h;have q':v=.bl true:=q;subst q';obtain rfl:u=Yc6 true:=r';refine⟨rfl,OldK.of_keep fun b o e=>?_,os,bare⟩
    cases q:H b with
    | none=>exact un.keep b o e q (by intro z;exact absurd (show b∈([]:List Addr) from z) (by simp)) (by simp)
    | some u=>
     rcases hO b with z | ⟨ob,xs,z⟩
     ·rw[q] at z;cases z
     ·have z2:=un.frzs b ob _ z;obtain⟨e1,_⟩:=hok b _ z;obtain⟨e2,_⟩:=hok' b _ z2;rw[e] at e1;cases e1;exact e2
 cases hk:K.lookup a with
 | some o=>
  have e:=KX a o hk;rw[ha] at e;cases e;refine core (fun _=>none) (fun _=>.inl rfl) (.inr ⟨_,vs.toArray,_,hk,rfl,rfl,rfl,by rw[Yaj,lenV];exact hl,by simpa using rv⟩) (fun b u z=>by have z':(none:Option HO)=some u:=z;cases z') (fun b z=>absurd rfl z) fun z=>absurd rfl z
 | none=>
  refine core (fun b=>if b=a then some (.frz { cls:=.type "list",data:=.seq vs.toArray } (.lst (ns.map V.int))) else none) (fun b=>?_) (.inl (.inr ⟨{ cls:=.type "list",data:=.seq vs.toArray },if_pos rfl⟩)) (fun b u z=>?_) (fun b z=>?_) fun _=>hk
  ·by_cases hb:b=a
   ·exact .inr ⟨_,_,if_pos hb⟩
   ·exact .inl (if_neg hb)
  ·by_cases hb:b=a
   ·have z':=(if_pos hb).symm.trans z;cases z';subst hb;exact⟨ha,by rw[Yab];exact hl,vs,_,rv,ha⟩
   ·have z':=(if_neg hb).symm.trans z;cases z'
  ·by_cases hb:b=a
   ·exact hb
   ·exact absurd (if_neg hb) z
end L2
namespace L2
open PySem PySem.Spec PyProof.Rows
theorem walk_of {l:YdD}{n k:Nat}{q:Program}{loose:List Str}{XP:(Str->Option Value)->Heap->Prop}{YP:World->Heap->Prop}{d:DefRec}{K:Params->Yad}{CX:World->CXT}{sp:World->Sp}{x:Str}
  (hn:l.most=some n) (hn2:n<=sizeLine) (hdf:d.params.defaults=[]) (hr:Room k callerA)
  (hY:∀ (w:World) (h:Heap),YP w h->(K w.params).In h)
  (F:∀ (w:World) (mg:Str->Option Value) (fa:Addr) (h:Heap),(K w.params).In h->h.Ns mainGlobals mg->mg d.name=some (.ref fa) ->
   ∃ fd:FuncData,(∀ (s:Shared) (u:Value),BindsTo s fd ⟨[u],[]⟩ [(x,u)]) /\
    ∀ base:Heap,(K w.params).In base->base.Ns mainGlobals mg->FnOk l.prog w (K w.params) mg base (CX w) k fa fd [x] (sp w))
  (hsp:∀ (w:World) (H:Hp) (a:Addr) (ns:List Int),ns.length<=n->Only H->SqL (K w.params) H a (ns.map V.int)->sp w [.ref a] H (fun v _=>v=.bl true) fun _ _ _=>False)
  (hCX:∀ (w:World) (H:Hp) (s:Shared) (e:Value) (s':Shared),CX w [] H s (fun _ _ _=>False) e s'->False) :
  Ye9 q loose XP YP l.row.toRowW d [] (fun f vs=>YeS f vs):=by
 refine Att.attach_call hn hdf fun w s₀ s₁ mg mb fa o pm cd doc a vs ns G Y ho hd hcd hmg hobj hints hlen hg=>?_;have KX:=hY w _ Y;obtain⟨fd,hb,hF⟩:=F w mg fa _ KX G.T.g hmg;exact Zjn KX G.T.g G.T.b G.T.builtins G.T.nolimit hg hobj hints (Ybz hlen hn2) hr hF hb (fun H hO hS=>hsp w H a ns hlen hO hS) fun H e s'=>hCX w H s₁ e s'
end L2
namespace L2
open PySem PySem.Spec PyProof.Rows
def Zak (s:Stmt):Arguments:=match s with
 | .FunctionDef _ a _ _ _ _ _ _ _ _=>a
 | _=>{ posonlyargs:=[],args:=[],vararg:=none,kwonlyargs:=[],kw_defaults:=[],kwarg:=none,defaults:=[] }
def Zah (s:Stmt):List Stmt:=match s with
 | .FunctionDef _ _ b _ _ _ _ _ _ _=>b
 | _=>[]
def Zac (s:Stmt):Scope:=match s with
 | .FunctionDef _ _ _ _ _ _ sc _ _ _=>sc
 | _=>{ kind:=.function,names:=[],isGenerator:=false,isCoroutine:=false }
abbrev CX0:CXT:=fun _ _ _ _ _ _=>False
abbrev E0:XK:=fun _ _ _=>False
theorem Zln {X:Cx}:ZdH CX0 X E0:=fun _ _ _ _ _ _ _ h=>h.elim
structure Fun (K:Yad) (x qual:Str) (st:Stmt) (f:Addr) (fd:FuncData):Prop where
 ex:∃ (oc:Value) (od:Option Addr) (kV doc pm:Value) (an:Option Addr) (cdv ct:Value) (osl:Array (Option Value)),
  fd=YaB x qual (Zak st) (Zah st) (Zac st) .none kV doc pm an cdv ct/\K.lookup f=some ⟨oc,od,.func fd,osl⟩/\Yav K cdv qual=true
 kp:Yaq K (.ref f)=true
section
variable {P:Program}{w:World}{K:Yad}{mg:Str->Option Value}{base:Heap}
theorem Fun.ok {x qual:Str}{st:Stmt}{f:Addr}{fd:FuncData}{N ps:List Str}{k:Nat}{sp:Sp} (F:Fun K x qual st f fd) (S:FnScope N ps (Zac st)) (len:∀ vs H Q E,sp vs H Q E->vs.length=ps.length)
  (hbody:∀ (cdv:Value) (A:Around) (outer:List Env) (s:Shared) (H:Hp) (vs:List V) (Q:VK) (E:XK),Room k (A.deeper (envOfC qual (Zac st) s.heap.objs.size f cdv))->sp vs H Q E ->
   ∃ t,PSs (cxOf CX0 P w K mg base N qual (Zac st) f cdv A outer s H E).nox (Zah st) t/\t { nx:=fun _ H'=>Q .non H',rt:=Q } (start N vs) H):FnOk P w K mg base CX0 (k+1) f fd ps sp:=by
 obtain⟨oc,od,kV,doc,pm,an,cdv,ct,osl,rfl,lk,hcd⟩:=F.ex;refine ZlD lk hcd S len fun A outer s H vs Q E hr hsp=>?_;obtain⟨t,h,q⟩:=hbody cdv A outer s H vs Q E hr hsp;exact⟨t,h.nox,q⟩
theorem Fun.binds {x qual:Str}{st:Stmt}{f:Addr}{fd:FuncData}{ps:List Str} (F:Fun K x qual st f fd)
  (h:∀ (kV doc pm:Value) (an:Option Addr) (cdv ct:Value) (us:List Value),us.length=ps.length->bindArgs (YaB x qual (Zak st) (Zah st) (Zac st) .none kV doc pm an cdv ct) ⟨us,[]⟩=pure (ps.zip us)):Binds K fd ps []:=by
 obtain⟨oc,od,kV,doc,pm,an,cdv,ct,osl,rfl,lk,hcd⟩:=F.ex;exact .all (h kV doc pm an cdv ct)
theorem Zat {x qual:Str}{st:Stmt}{f:Addr}{oc:Value}{od an:Option Addr}{osl:Array (Option Value)}{kV doc pm cdv ct:Value} (l:K.lookup f=some ⟨oc,od,.func (YaB x qual (Zak st) (Zah st) (Zac st) .none kV doc pm an cdv ct),osl⟩)
  (c:Yav K cdv qual=true) (k:Yaq K (.ref f)=true):Fun K x qual st f (YaB x qual (Zak st) (Zah st) (Zac st) .none kV doc pm an cdv ct):=⟨⟨oc,od,kV,doc,pm,an,cdv,ct,osl,rfl,l,c⟩,k⟩
end
theorem ZaO {n:Nat} (h:n<=1000):n<sizeLine:=Ycq h (by decide)
section
variable {X:Cx}
theorem pv (i:Nat) {x:Str}{pos:Pos} (hN:X.N[i]?=some x:=by rfl) (hv:Vis X.env.scope x:=by first | exact YaW rfl | exact YcL (YaW rfl) | exact YcL (YcL rfl)) (hd:(x == ("__debug__":Str))=false:=by decide)
  (hcd:(x == ("__classdict__":Str))=false:=by decide):PE X (.Name x pos) (tVar i):=ZjS hN hv hd hcd
end
theorem iteF {A B:Prop} (h:B):if false=true then A else B:=by
 rw[if_neg YaF];exact h
theorem iteT {A B:Prop} (h:A):if true=true then A else B:=by
 rw[if_pos rfl];exact h
theorem ite2 {c A B:Prop} [Decidable c] (h1:c->A) (h2:¬ c->B):if c then A else B:=by
 by_cases h:c
 ·rw[if_pos h];exact h1 h
 ·rw[if_neg h];exact h2 h
def Same (H H':Hp):Prop:=∀ b o,H b=some o->H' b=some o
theorem Same.refl (H:Hp):Same H H:=fun _ _ h=>h
theorem Same.trans {H H1 H2:Hp} (a:Same H H1) (b:Same H1 H2):Same H H2:=fun c o h=>b c o (a c o h)
theorem Same.free {H H':Hp} (e:Same H H') {l:Addr} (h:H' l=Option.none):H l=Option.none:=by
 cases q:H l with
 | none=>rfl
 | some o=>
  rw[e l o q] at h;cases h
theorem Same.seq {K:Yad}{H H':Hp}{a:Addr}{xs:List V} (e:Same H H') (h:SqL K H a xs):SqL K H' a xs:=by
 rcases h with (h | ⟨o,h⟩) | h
 ·exact .inl (.inl (e _ _ h))
 ·exact .inl (.inr ⟨o,e _ _ h⟩)
 ·exact .inr h
end L2
set_option maxHeartbeats 4000000
namespace L2
open PySem PySem.Spec PyProof.Rows
def Zbz (env:Env):List (Str × NameKind)->List (Str × Addr)->List (Str × Addr)
 | [],cs=>cs
 | (n,k)::r,cs=>Zbz env r (if k == .free then (n,(env.cells.lookup n).getD 0)::cs else cs)
abbrev clOf (scope:Scope) (env:Env):List (Str × Addr):=Zbz env scope.names []
theorem Zcf {env:Env}:∀ (names:List (Str × NameKind)) (cs:List (Str × Addr)),(∀ x∈names,x.2=.free->∃ c,env.cells.lookup x.1=some c) ->
  (forIn names cs fun (x:Str × NameKind) r=>do
   if x.2 == .free then
    let c <- cellOf env x.1
    pure (Ya8 ((x.1,c)::r))
   else pure (Ya8 r):Sem (List (Str × Addr)))=pure (Zbz env names cs)
 | [],cs,_=>rfl
 | (n,k)::r,cs,h=>by
  rw[YdU];have ih:=fun cs'=>Zcf (env:=env) r cs' fun x hx=>h x (Yat _ hx);by_cases hk:k=.free
  ·subst hk;obtain⟨c,hc⟩:=h (n,.free) YaG rfl;have hc':env.cells.lookup n=some c:=hc;have ec:cellOf env n=pure c:=by unfold cellOf;rw[hc']
   dsimp only;rw[if_pos (by rfl),ec];show (forIn r ((n,c)::cs) _:Sem _)=_;rw[ih]
   conv=>rhs;unfold Zbz
   rw[if_pos (by rfl),hc'];rfl
  ·have hb:(k == Yb2)=false:=by simpa using hk
   dsimp only;rw[if_neg (by rw[hb];decide)];show (forIn r cs _:Sem _)=_;rw[ih]
   conv=>rhs;unfold Zbz
   rw[if_neg (by rw[hb];decide)]
theorem ZdC {scope:Scope}{env:Env} (h:∀ x∈scope.names,x.2=.free->∃ c,env.cells.lookup x.1=some c):closureFor scope env=pure (clOf scope env):=by
 unfold closureFor;have e:=Zcf (env:=env) scope.names [] h;simp only[bind_pure];exact e
theorem Ze1 {env:Env}{x:Str}{c:Addr}:∀ (names:List (Str × NameKind)) (cs:List (Str × Addr)),(Zbz env names cs).lookup x=some c->((x,Yb2)∈names/\c=(env.cells.lookup x).getD 0)∨cs.lookup x=some c
 | [],_,h=>.inr h
 | (n,k)::r,cs,h=>by
  unfold Zbz at h;rcases Ze1 r _ h with ⟨h1,h2⟩ | h1
  ·exact .inl ⟨Yat _ h1,h2⟩
  ·by_cases hk:k=.free
   ·subst hk;rw[if_pos (by rfl),YbF] at h1
    cases e:x == n with
    | true=>
     rw[e] at h1;have en:x=n:=eq_of_beq e;subst en;exact .inl ⟨YaG,(YaD h1).symm⟩
    | false=>rw[e] at h1;exact .inr h1
   ·have hb:(k == Yb2)=false:=by simpa using hk
    rw[if_neg (by rw[hb];decide)] at h1;exact .inr h1
theorem Zit {env:Env}{x:Str}:∀ (names:List (Str × NameKind)) (cs:List (Str × Addr)),(∃ c,cs.lookup x=some c)->∃ c,(Zbz env names cs).lookup x=some c
 | [],_,h=>h
 | (n,k)::r,cs,h=>by
  unfold Zbz;refine Zit r _ ?_;split
  ·rw[YbF];split
   ·exact⟨_,rfl⟩
   ·exact h
  ·exact h
theorem Ziu {env:Env}{x:Str}:∀ (names:List (Str × NameKind)) (cs:List (Str × Addr)),(x,Yb2)∈names->∃ c,(Zbz env names cs).lookup x=some c
 | [],_,h=>by simp at h
 | (n,k)::r,cs,h=>by
  unfold Zbz;rcases Yai.mp h with e | h
  ·cases e;refine Zit r _ ?_;rw[if_pos (by rfl),YbF];exact⟨(env.cells.lookup x).getD 0,by simp⟩
  ·exact Ziu r _ h
theorem ZgB {scope:Scope}{env:Env}{x:Str} (hcell:∀ y∈scope.names,y.2≠.cell) (h:(relabel scope env).names.lookup x=some .cell∨(relabel scope env).names.lookup x=some .free):(x,Yb2)∈scope.names:=by
 have hm:∃ k,(x,k)∈(relabel scope env).names/\(k=.cell∨k=.free):=by
  rcases h with h | h
  ·exact⟨_,YbB h,.inl rfl⟩
  ·exact⟨_,YbB h,.inr rfl⟩
 obtain⟨k,hm,hk⟩:=hm;obtain⟨⟨n,k'⟩,h1,h2⟩:=Ya6.mp hm;dsimp only at h2;split at h2
 ·rename_i hc;have:k'=.free:=by
   simp only[Ybx,beq_iff_eq] at hc;exact hc.1.1
  cases h2;subst this;exact h1
 ·cases h2;rcases hk with rfl | rfl
  ·exact absurd rfl (hcell _ h1)
  ·exact h1
theorem Zcv {env:Env}{x:Str}:∀ {names:List (Str × NameKind)},names.lookup x=some .free ->
  (names.map fun (n,k)=>if (k == Yb2 && env.scope.kind == .function && env.kindOf n == some .cell) then (n,Ye0) else (n,k)).lookup x=some .cell ∨
  (names.map fun (n,k)=>if (k == Yb2 && env.scope.kind == .function && env.kindOf n == some .cell) then (n,Ye0) else (n,k)).lookup x=some .free
 | [],h=>by simp at h
 | (n,k)::r,h=>by
  have ih:=@Zcv env x r;rw[YaK];dsimp only
  cases hx:x == n with
  | true=>
   simp only[YbF,hx] at h;cases h;split
   ·left;simp[YbF,hx]
   ·right;simp[YbF,hx]
  | false=>
   simp only[YbF,hx] at h;split
   ·simp only[YbF,hx];exact ih h
   ·simp only[YbF,hx];exact ih h
section
variable {prog:Program}{w:World}{A:Around}{R:Result->Shared->Prop}{s:Shared}
theorem Zb2 {elt target iter:Expr}{ifs:List Expr}{scope:Scope}{pos:Pos}{it acc:Value}{env:Env} (I:Nat->Shared->Prop)
  (turn:∀ n s,I n s->wpAny (model prog w) A (pyNext it) (fun r s₁=>match r with
   | none=>R (.ok .next) s₁
   | some v=>wpAny (model prog w) A (letOwnedTupleGo target it v) (fun _ s₁'=>wpAny (model prog w) A (assign target env v) (fun _ s₂=>
     wpAny (model prog w) A (forIn ifs true fun c r=>if r=true then do let ok <- isTrue c env (eval c env);pure (Ya8 ok) else pure (Ya8 r)) (fun ok s₃=>
      if ok=true then wpAny (model prog w) A (eval elt env) (fun x s₄=>
       wpAny (model prog w) A (call (.builtin "list.append") [acc,x]) (fun _ s₅=>∃ m,m<n/\I m s₅) (fun _ _=>False) s₄) (fun _ _=>False) s₃
      else ∃ m,m<n/\I m s₃) (fun _ _=>False) s₂) (fun _ _=>False) s₁') (fun _ _=>False) s₁) (fun _ _=>False) s)
  (n:Nat) (h:I n s) :
  codeAny (model prog w) A (.compLoop (.ListComp elt [⟨target,iter,ifs,0⟩] scope pos) 0 it acc env) R s:=by
 refine codeAny_loop rfl I (fun n s hI=>?_) n h;show wpAny _ A ((compTurn (.ListComp elt [⟨target,iter,ifs,0⟩] scope pos) 0 it acc env).onRaise (fun x=>do noteFrame x env;theTreesLotGoes x)) _ _ s;refine wpAny_noted ?_;rw[compTurn_list];refine wpAny_bind (wpAny_standAt (wpAny_bind (wpAny_mono (turn n s hI) (fun r s₁ h₁=>?_) fun _ _ h'=>h'.elim)))
 cases r with
 | none=>exact wpAny_pure h₁
 | some v=>
  refine wpAny_bind (wpAny_mono h₁ (fun _ s₁' h₁=>?_) fun _ _ h'=>h'.elim);refine wpAny_bind (wpAny_mono h₁ (fun _ s₂ h₂=>wpAny_bind (wpAny_mono h₂ (fun ok s₃ h₃=>?_) fun _ _ h'=>h'.elim)) fun _ _ h'=>h'.elim)
  cases ok with
  | false=>exact wpAny_pure ⟨rfl,h₃⟩
  | true=>
   exact wpAny_bind (wpAny_bind (wpAny_mono h₃ (fun x s₄ h₄=>wpAny_bind (wpAny_mono h₄ (fun _ s₅ h₅=>wpAny_pure (wpAny_pure ⟨rfl,h₅⟩)) fun _ _ h'=>h'.elim)) fun _ _ h'=>h'.elim))
end
def PTs (X:Cx) (ifs:List Expr) (t:TT):Prop :=
 ∀ (pins:List (Addr × Obj)) (s:Shared) (σ:St) (H:Hp) (Q:Bool->Hp->Prop),Inv X pins σ H s->t σ H Q ->
  wpAny (model X.prog X.w) X.A (forIn ifs true fun c r=>if r=true then do let ok <- isTrue c X.env (eval c X.env);pure (Ya8 ok) else pure (Ya8 r)) (TP X pins σ Q) X.xe s
def ZdK:TT:=fun _ H Q=>Q true H
theorem ZaH {X:Cx}:PTs X [] ZdK:=fun _ _ _ H _ I h=>wpAny_tests_nil ⟨H,I,h⟩
def Cx.blk (X:Cx) (scope:Scope) (own:List Str) (js:List Nat) (s₂:Shared) (H₂:Hp) (C:Addr) (fp:List Addr) (pins:List (Addr × Obj)):Cx where
 prog:=X.prog
 w:=X.w
 K:=X.K
 mg:=X.mg
 base:=X.base
 A:=X.A
 N:=own++js.map fun j=>X.N.getD j Yda
 s₀:=s₂
 H₀:=H₂
 env:=compEnvC scope (clOf scope X.env) C X.env
 outer:=X.stack
 stack:=X.stack
 ex:=fp
 fn:=fun _=>false
 calm:=X.calm
 pn:=X.pn++pins
 xe:=fun _ _=>False
def blkσ (own:List Str) (js:List Nat) (σ:St):St:=own.map (fun _=>none)++js.map fun j=>(σ[j]?).join
section
variable {X:Cx}{pins:List (Addr × Obj)}{σ:St}{H H':Hp}{s s':Shared}{scope:Scope}{own:List Str}{js:List Nat}{C:Addr}{fp:List Addr}
structure CompOk (X:Cx) (scope:Scope) (own:List Str) (js:List Nat):Prop where
 kind:scope.kind=.function
 cell:∀ y∈scope.names,y.2≠.cell
 free:∀ y∈scope.names,y.2=.free->X.env.kindOf y.1=some .cell∨X.env.kindOf y.1=some .free
 names:∀ y∈scope.names,y.2=.local -> scope.names.lookup y.1=some .local
 out:∀ j∈js,∃ x,X.N[j]?=some x/\scope.names.lookup x=some .free
theorem CompOk.cl (c:CompOk X scope own js) (I:Inv X pins σ H s):∀ x∈scope.names,x.2=.free->∃ c,X.env.cells.lookup x.1=some c:=fun x hx hf=>I.ok.has x.1 (c.free x hx hf)
theorem CompOk.look (c:CompOk X scope own js) (I:Inv X pins σ H s) {x:Str}{a:Addr} (h:(clOf scope X.env).lookup x=some a):X.env.cells.lookup x=some a:=by
 rcases Ze1 _ _ h with ⟨h1,h2⟩ | h1
 ·obtain⟨c',e⟩:=c.cl I (x,.free) h1 rfl;have e':X.env.cells.lookup x=some c':=e;rw[e'] at h2 ⊢;subst h2;rfl
 ·simp at h1
theorem ZlG (c:CompOk X scope own js) (I:Inv X pins σ H s) (hC:s.heap.objs.size<=C) (hf:∀ b∈fp,FpOk X pins H b) (ho:∀ b∈fp,∃ o,s.heap.get? b=some o):(X.blk scope own js s H C fp pins).Ok where
 mod:=I.ok.mod
 kind:=c.kind
 glob:=I.ok.glob
 blt:=I.ok.blt
 above:=hC
 inj:=fun x y a h1 h2=>I.ok.inj x y a (c.look I h1) (c.look I h2)
 has:=fun x hx=>Ziu _ _ (ZgB c.cell hx)
 cab:=fun x a h=>by cases h
 hd:=I.ok.hd
 frames:=I.ok.frames
 stk:=.inl rfl
 exf:=fun b hb=>by
  obtain⟨o,e⟩:=ho b hb;exact⟨Yaz (Yap (Yah e) hC),fun x a h=>(hf b hb).2.2.2.2.1 x a (c.look I h)⟩
 bs:=I.bs
 bsz:=Ybz I.ok.bsz I.sz
 noex:=fun b o e hb=>by
  rcases (hf b hb).2.2.2.1 with z | z
  ·exact I.ok.noex b o e z
  ·exact absurd (Yap (Yah e) (Ybz I.ok.bsz z)) (Ybe _)
 exfs:=fun b hb hm=>by
  rcases Yai.mp (I.stkSub b hm) with z | z
  ·exact (hf b hb).2.1 z
  ·exact (hf b hb).2.2.1 z
 funs:=I.stack
 frf:=I.stkFree
theorem ZfC (own:List Str) (js:List Nat) (σ:St) (X:Cx):(blkσ own js σ).length=(own++js.map fun j=>X.N.getD j Yda).length:=by
 unfold blkσ;simp
theorem Ze5 {acc:Addr}{m:Str->Option Value}{tk:Nat}{h':Heap} (c:CompOk X scope own js) (I:Inv X pins σ H s) (hC:s.heap.objs.size<=C) (hf:∀ b∈fp,FpOk X pins H b) (ho:∀ b∈fp,∃ o,s.heap.get? b=some o)
  (hn:h'.Ns C m) (k:∀ b u,s.heap.get? b=some u->h'.get? b=some u) (hacc:s.heap.objs.size<=acc) (haC:acc≠C) (hl:h'.get? acc=some { cls:=.type "list",data:=.seq ([]:List Value).toArray 0 }) :
  Inv (X.blk scope own js s H C fp pins) [] (blkσ own js σ) (upd H acc (.lst [])) { s with heap:=h',toks:=tk }:=by
 have ok:=ZlG c I hC hf ho;have fresh:∀ {a:Addr},s.heap.objs.size<=a->H a=none:=fun h=>I.hok.fresh h;have neA:∀ b o,s.heap.get? b=some o->b≠acc:=fun b o e=>Yaz (Yap (Yah e) hacc);refine⟨ok,rfl,I.bare,Un.laid k hacc (fresh hacc),⟨m,hn,fun i x v e1 e2 e3=>?_⟩,fun x a e=>?_,?_,fun x a e=>?_,fun p hp=>?_,I.hok.laid k hacc ⟨YaP _,[],0,.nil,hl⟩,ZfC own js σ X⟩
 ·
  have hi:own.length<=i:=by
   refine Nat.le_of_not_lt fun hi=>?_;unfold blkσ at e2;rw[Ya3 (by simpa using hi),Yal] at e2
   cases q:own[i]? with
   | none=>rw[q] at e2;cases e2
   | some z=>rw[q] at e2;cases e2
  have e1':(js.map fun j=>X.N.getD j Yda)[i - own.length]?=some x:=by
   have e1:(own++js.map fun j=>X.N.getD j Yda)[i]?=some x:=e1
   rwa [Ya1 hi] at e1
  have e2':(js.map fun j=>(σ[j]?).join)[i - own.length]?=some (some v):=by
   unfold blkσ at e2;rw[Ya1 (by simpa using hi)] at e2;simpa using e2
  rw[Yal] at e1' e2'
  cases q:js[i - own.length]? with
  | none=>rw[q] at e1';cases e1'
  | some j=>
   rw[q] at e1' e2';obtain⟨x',hx',hfree⟩:=c.out j (Yaw q);have ex:x'=x:=by
    have:X.N.getD j Yda=x:=YaD e1';rw[Yax,hx'] at this;exact this
   subst ex;have eσ:σ[j]?=some (some v):=by
    have e2'':(σ[j]?).join=some v:=YaD e2'
    cases r:σ[j]? with
    | none=>rw[r] at e2'';cases e2''
    | some z=>rw[r] at e2'';cases z with
     | none=>cases e2''
     | some y=>cases e2'';rfl
   have hmem:(x',Yb2)∈scope.names:=YbB hfree;have hkX:=c.free _ hmem rfl;have vis:Vis X.env.scope x':=by
    rcases hkX with z | z
    ·exact .inr (.inl z)
    ·exact .inr (.inr z)
   obtain⟨m0,hn0,hl0⟩:=I.loc;obtain⟨u,r,l⟩:=hl0 j x' v hx' eσ vis;refine⟨u,r,.inr ⟨Zcv hfree,?_⟩⟩;obtain⟨a,ha⟩:=Ziu (env:=X.env) scope.names [] hmem;refine⟨a,ha,?_⟩;have haX:=c.look I ha;rcases l with ⟨z,_⟩ | ⟨_,a',ha',⟨o,ho',hd⟩⟩
   ·have z:X.env.kindOf x'=some .local:=z;rcases hkX with y | y
    ·have y:X.env.kindOf x'=some .cell:=y;rw[z] at y;cases y
    ·have y:X.env.kindOf x'=some .free:=y;rw[z] at y;cases y
   ·rw[haX] at ha';cases ha';exact⟨o,k _ o ho',hd⟩
 ·obtain⟨v,o,ho',hd⟩:=I.cell x a (c.look I e);exact⟨v,o,k _ o ho',hd⟩
 ·show upd H acc (.lst []) C=none;rw[Zag (Ybj haC)];exact fresh hC
 ·have e':=c.look I e;obtain⟨v,o,ho',hd⟩:=I.cell x a e';rw[Zag (neA a o ho')];exact I.freeC x a e'
 ·have hp:p∈X.pn++pins:=by simpa[Cx.blk] using hp
  obtain⟨e,n,ne,nf,d⟩:=I.pin p hp;refine⟨k _ _ e,by rw[Zag (neA _ _ e)];exact n,Yaz (Yap (Yah e) hC),fun z=>?_,d⟩;rcases Yai.mp (I.stkSub _ z) with q | q
  ·exact ne q
  ·exact nf q
theorem ZiA {τ:St}{pl:List (Addr × Obj)} (I:Inv X pins σ H s) (hf:∀ b∈fp,FpOk X pins H b) (J:Inv (X.blk scope own js s H C fp pins) pl τ H' s'):Inv X pins σ H' s' :=
 I.call' J.os J.base J.hok J.bare fun b hb=>⟨(hf b hb).2.2.2.1,(hf b hb).2.1,(hf b hb).2.2.2.2.1,(hf b hb).2.2.2.2.2⟩
theorem Inv.other {h':Heap} (I:Inv X pins σ H s) (hs:Ycn C s.heap h') (hn:H C=none) (hL:C≠X.env.locals) (h1:X.s₀.heap.objs.size<=C) (h2:∀ x c,X.env.cells.lookup x=some c->c≠C) (h3:∀ p∈X.pn++pins,p.1≠C) :
  Inv X pins σ H { s with heap:=h' } :=
 I.turned (t':=s.toks) (fun b o hb e=>(hs.2 b hb).trans e) hn hL (.inr h1) h2 h3
end
def ZiI (own:List Str) (g:TG):Prop:=∀ (js:List Nat) (σ:St) (x:V) (H:Hp) (Q:St->Hp->Prop),g x (blkσ own js σ) H Q ->
 g x (blkσ own js σ) H fun τ H'=>(∀ (j:Nat) v,(blkσ own js σ)[j]?=some (some v)->τ[j]?=some (some v))/\Q τ H'
theorem ZaV {own:List Str}{js:List Nat}{σ:St}{i:Nat}{v:V} (hi:i<own.length):(blkσ own js σ)[i]?≠some (some v):=by
 unfold blkσ;rw[Ya3 (by simpa using hi),Yal]
 cases own[i]? with
 | none=>intro h;cases h
 | some z=>intro h;cases h
theorem ZaC {own:List Str}{i:Nat} (hi:i<own.length:=by decide):ZiI own (Zb0 i):=fun js σ x H Q h=>⟨fun j v e=>by
 have hj:j≠i:=by rintro rfl;exact ZaV hi e
 rw[YaN (Ybj hj)];exact e,h⟩
theorem Zh6 {K:Yad}{own:List Str}{i k:Nat} (hi:i<own.length:=by decide) (hk:k<own.length:=by decide):ZiI own (gTup K 2 (Zc0 (Zb0 i) (Zc0 (Zb0 k) gNil))):=fun js σ x H Q h=>by
 obtain⟨a,xs,rfl,hq,hl,v,r,rfl,w,r',rfl,e,h⟩:=h;refine⟨a,_,rfl,hq,hl,v,_,rfl,w,r',rfl,e,fun j z e=>?_,h⟩;have hj:j≠i:=by rintro rfl;exact ZaV hi e
 have hj':j≠k:=by rintro rfl;exact ZaV hk e
 rw[YaN (Ybj hj'),YaN (Ybj hj)];exact e
def Zbh (own:List Str) (js:List Nat) (g:TG) (tt:TT) (te:TE) (σ:St) (J:It) (H1:Hp) (Q:VK):Prop :=
 ∀ acc,H1 acc=none->∃ (W:Nat->Hp->Prop) (n:Nat),W 0 (upd H1 acc (.lst []))/\∀ i H2,W i H2 ->
  (J.stop i H2/\Q (.ref acc) H2)∨(i<n/\J.go i H2/\∀ x H3,J.yld i H2 x H3->g x (blkσ own js σ) H3 fun τ H4=>tt τ H4 fun c H5=>
   if c=true then te τ H5 fun y H6=>∃ ys,H6 acc=some (.lst ys)/\ys.length<sizeLine/\W (i+1) (upd H6 acc (.lst (ys++[y]))) else W (i+1) H5)
def ZlR (own:List Str) (js:List Nat) (wi:TI) (g:TG) (tt:TT) (te:TE):TE:=fun σ H Q=>wi σ H fun J H1=>Zbh own js g tt te σ J H1 Q
section
variable {X:Cx}{scope:Scope}{own:List Str}{js:List Nat}{elt iter target:Expr}{ifs:List Expr}{wi:TI}{g:TG}{tt:TT}{te:TE}{pos:Pos}
theorem ZkU {pins:List (Addr × Obj)}{σ:St}{H2:Hp}{s₂:Shared}{it:Addr}{fp:List Addr}{tn:Nat->Heap->Prop}{J:It}{Q:VK}{E:Value->Shared->Prop}{RR:Value->Addr->Result->Shared->Prop}
  (c:CompOk X scope own js) (hc:X.calm=true) (hgk:ZiI own g)
  (hg:∀ s H C fp pins,PG (X.blk scope own js s H C fp pins) target g) (ht:∀ s H C fp pins,PTs (X.blk scope own js s H C fp pins) ifs tt) (he:∀ s H C fp pins,PE (X.blk scope own js s H C fp pins) elt te)
  (I:Inv X pins σ H2 s₂) (T:Turn X.prog X.w X.K target J fp it tn) (st:tn 0 s₂.heap) (hf:∀ b∈fp,FpOk X pins H2 b) (h:Zbh own js g tt te σ J H2 Q)
  (hRR:∀ acc C H' s' m,s₂.heap.objs.size<=C->H' C=none->Inv X pins σ H' s'->s'.heap.Ns C m->Q (.ref acc) H'->RR (.ref acc) C (.ok .next) s') :
  wpAny (model X.prog X.w) X.A (newList []) (fun acc s₃=>wpAny (model X.prog X.w) X.A (newFunctionEnv scope X.env.globals (clOf scope X.env) [] X.env.qual none .none (some X.env)) (fun cenv s₄=>
   codeAny (model X.prog X.w) X.A (.compStart (.ListComp elt [⟨target,iter,ifs,0⟩] scope pos) 0 (.ref it) acc { cenv with scope:=relabel scope X.env }) (RR acc cenv.locals) s₄) E s₃) E s₂:=by
 refine wpAny_newObj_type (wpAny_newFunctionEnv c.cell (by intro y hy;simp at hy) (fun h₁ hns₁ hsb₁=>?_) c.kind);dsimp only at hns₁ hsb₁ ⊢;generalize hH2:s₂.heap.push { cls:=.type "list",dict:=none,data:=.seq ([]:List Value).toArray }=G2 at hns₁ hsb₁ ⊢;have hC:G2.objs.size=s₂.heap.objs.size+1:=by rw[<- hH2,Ya4]
 have hDC:s₂.heap.objs.size≠G2.objs.size:=by rw[hC];exact Yaz (Ybr _)
 have hCle:s₂.heap.objs.size<=G2.objs.size:=by rw[hC];exact Ycl _
 have old:∀ b o,s₂.heap.get? b=some o->h₁.get? b=some o:=fun b o e=>hsb₁.extBut b o (Yaz (Yap (Yah e) hCle)) (Yac _ (hH2 ▸ Yac _ e));have hacc:h₁.get? s₂.heap.objs.size=some { cls:=.type "list",data:=.seq ([]:List Value).toArray 0 }:=hsb₁.extBut _ _ hDC (Yac _ (hH2 ▸ Yas _ rfl));have ho2:∀ b∈fp,∃ o,s₂.heap.get? b=some o:=fun b hb=>let ⟨o,e,_⟩:=T.obj 0 _ st b hb;⟨o,e⟩
 have I0:∀ tk,Inv (X.blk scope own js s₂ H2 G2.objs.size fp pins) [] (blkσ own js σ) (upd H2 s₂.heap.objs.size (.lst [])) { s₂ with heap:=h₁,toks:=tk }:=fun tk=>
  Ze5 c I hCle hf ho2 hns₁ old (Yag _) hDC hacc
 obtain⟨W,nn,w0,turn⟩:=h s₂.heap.objs.size (I.hok.fresh (Yag _));generalize hacc':s₂.heap.objs.size=acc at *;generalize hGC:G2.objs.size=C at *;have st1:tn 0 h₁:=T.keep 0 _ _ st fun b _ o e=>old b o e;have fOk:∀ {H':Hp},(∀ b∈fp,H' b=none)->∀ b∈fp,FpOk (X.blk scope own js s₂ H2 C fp pins) [] H' b:=fun hn b hb=>by
  obtain⟨f0,f1,f2,f3,f4,f5⟩:=hf b hb;obtain⟨o,e⟩:=ho2 b hb;refine⟨hn b hb,Yaz (Yap (Yah e) (by rw[<- hacc'] at hCle;exact hCle)),fun z=>?_,.inl hb,fun x a h=>f4 x a (c.look I h),fun p hp=>f5 p (by simpa[Cx.blk] using hp)⟩;rcases Yai.mp (I.stkSub b z) with q | q
  ·exact f1 q
  ·exact f2 q
 have loop:∀ s₃:Shared,s₃={ s₂ with heap:=h₁,toks:=s₂.toks+([]:List (Str × Value)).length } ->
   codeAny (model X.prog X.w) X.A (.compLoop (.ListComp elt [⟨target,iter,ifs,0⟩] scope pos) 0 (.ref it) (.ref acc) (compEnvC scope (clOf scope X.env) C X.env)) (RR (.ref acc) C) s₃:=by
  rintro s₃ rfl;refine Zb2 (fun n s'=>∃ i H',n=nn - i/\Inv (X.blk scope own js s₂ H2 C fp pins) [] (blkσ own js σ) H' s'/\tn i s'.heap/\(∀ b∈fp,H' b=none)/\W i H') ?_ nn ⟨0,_,rfl,I0 _,st1,fun b hb=>?_,w0⟩
  ·rintro n s3 ⟨i,H3,en,I3,st3,fr3,w3⟩;rcases turn i H3 w3 with ⟨stop,qn⟩ | ⟨hin,go,step⟩
   ·refine thn (T.done (X.blk scope own js s₂ H2 C fp pins) rfl rfl rfl hc i [] s3 _ H3 (fun _ _=>False) I3 (fOk fr3) st3 stop) fun r s4 ⟨hr,I4⟩=>?_;subst hr;obtain⟨m,hn,_⟩:=I4.loc;exact hRR acc C H3 s4 m hCle I4.free (ZiA I hf I4) hn qn
   ·refine thn (T.item (X.blk scope own js s₂ H2 C fp pins) rfl rfl rfl hc i [] s3 _ H3 (fun _ _=>False) I3 (fOk fr3) st3 go) fun r s4 ⟨u,hr,h4⟩=>?_;subst hr;refine thn h4 fun _ s5 ⟨x,H5,I5,r5,y5,st5,fr5⟩=>?_;have I5':=I5.pinned (fOk fr5) (T.obj _ _ st5);have again:∀ {σ7:St}{H7:Hp}{s7:Shared},Inv (X.blk scope own js s₂ H2 C fp pins) ([]++ZcR fp s5.heap) σ7 H7 s7->(∀ (j:Nat) v,(blkσ own js σ)[j]?=some (some v)->σ7[j]?=some (some v))->W (i+1) H7 ->
      ∃ m,m<n/\∃ i H',m=nn - i/\Inv (X.blk scope own js s₂ H2 C fp pins) [] (blkσ own js σ) H' s7/\tn i s7.heap/\(∀ b∈fp,H' b=none)/\W i H':=fun {σ7 H7 s7} I7 hw w7=>by
     refine⟨nn - (i+1),by omega,i+1,H7,rfl,(I7.unpinned).weak ((ZfC own js σ X).trans I7.len.symm) hw,T.keep _ _ _ st5 fun b hb o e=>(I7.pin (b,o) (Yay _ (Yay _ (ZaN hb e)))).1,fun b hb=>?_,w7⟩;obtain⟨o,e,d⟩:=T.obj _ _ st5 b hb;exact (I7.pin (b,o) (Yay _ (Yay _ (ZaN hb e)))).2.1
    refine thn (hg s₂ H2 C fp pins _ s5 _ H5 x u _ I5' r5 (hgk _ _ _ _ _ (step x H5 y5))) fun _ s6 ⟨σ6,H6,I6,kp,q6⟩=>?_;refine thn (ht s₂ H2 C fp pins _ s6 σ6 H6 _ I6 q6) fun ok s7 ⟨H7,I7,q7⟩=>?_
    cases ok with
    | false=>
     exact again I7 kp q7
    | true=>
     refine thn (he s₂ H2 C fp pins _ s7 σ6 H7 _ I7 q7) fun y s8 ⟨v,H8,I8,r8,ys,hl,hz,w8⟩=>?_;refine thn (Zbb (X:=X.blk scope own js s₂ H2 C fp pins) _ s8 σ6 H8 (.ref acc) [v] (.ref acc) [y] (fun _ H9=>W (i+1) H9) I8 rfl (.cons r8 .nil) ⟨acc,ys,v,rfl,rfl,hl,hz,w8⟩) fun _ s9 ⟨_,H9,I9,_,w9⟩=>?_;exact again I9 kp w9
  ·rw[Zag ?_]
   ·exact (hf b hb).1
   ·obtain⟨o,e⟩:=ho2 b hb;rw[<- hacc'];exact Yaz (Yah e)
 exact codeAny_compStart_list (loop _ rfl) (T.self _ 0 _ _ _ st1 (loop _ rfl))
theorem ZaR (c:CompOk X scope own js) (hc:X.calm=true) (hi:PI X target iter wi) (hgk:ZiI own g)
  (hg:∀ s H C fp pins,PG (X.blk scope own js s H C fp pins) target g) (ht:∀ s H C fp pins,PTs (X.blk scope own js s H C fp pins) ifs tt) (he:∀ s H C fp pins,PE (X.blk scope own js s H C fp pins) elt te)
  (hs:∀ x,foldedSetIterable iter X.env x=pure x:=by intro _;rfl):PE X (.ListComp elt [⟨target,iter,ifs,0⟩] scope pos) (ZlR own js wi g tt te):=by
 intro pins s σ H Q I h;rw[eval_ListComp];refine wpAny_comprehension_free (use:=none) rfl hs (ZdC (c.cl I)) c.kind c.names (thn (hi pins s σ H _ I h) fun v s1 h1=>thn h1 fun itv s2 h2=>?_);obtain⟨it,fp,tn,J,H2,e,I2,T,st2,f2,hw⟩:=h2;subst e;refine ZkU (RR:=fun acc C=>compPost (model X.prog X.w) X.A X.xe none (EP X pins σ Q) acc C) c hc hgk hg ht he I2 T st2 f2 hw ?_;intro acc C H' s' m hCs hCn I' hn q;refine⟨m,hn,fun h' hs'=>⟨.ref acc,H',I'.other hs' hCn ?_ ?_ ?_ ?_,rfl,q⟩⟩
 ·exact Yby (Yap I2.lt hCs)
 ·exact Ybz I2.sz hCs
 ·intro x a e z;obtain⟨v,q⟩:=I2.cell x a e;exact absurd (Yap q.lt (by rw[z];exact hCs)) (Ybe _)
 ·intro p hp z;exact absurd (Yap (Yah (I2.pin p hp).1) (by rw[z];exact hCs)) (Ybe _)
end
section
variable {K:Yad}{own:List Str}{js:List Nat}{g:TG}{tt:TT}{te:TE}{σ:St}{H1:Hp}{Q:VK}
theorem Zip {a:Addr}{xs:List V} (Pv:Addr->Nat->Hp->Prop) (h0:∀ acc,H1 acc=none->Pv acc 0 (upd H1 acc (.lst []))) (hl:∀ acc i H,H1 acc=none->i<=xs.length->Pv acc i H->SqL K H a xs)
  (hs:∀ acc i x H,H1 acc=none->xs[i]?=some x->Pv acc i H->g x (blkσ own js σ) H fun τ H4=>tt τ H4 fun c H5=>
   if c=true then te τ H5 fun y H6=>∃ ys,H6 acc=some (.lst ys)/\ys.length<sizeLine/\(i+1<=xs.length/\Pv acc (i+1) (upd H6 acc (.lst (ys++[y])))) else (i+1<=xs.length/\Pv acc (i+1) H5))
  (hd:∀ acc H,H1 acc=none->Pv acc xs.length H->Q (.ref acc) H):Zbh own js g tt te σ (Itl K a) H1 Q:=by
 intro acc hacc;refine⟨fun i H=>i<=xs.length/\Pv acc i H,xs.length,⟨YaP _,h0 acc hacc⟩,?_⟩;rintro i H ⟨hi,p⟩;have q:=hl acc i H hacc hi p;by_cases hlt:i<xs.length
 ·refine .inr ⟨hlt,⟨xs,xs[i],q,by simp[hlt]⟩,fun x H' y=>?_⟩;obtain⟨e,y⟩:=y;subst e;exact hs acc i x _ hacc (y xs q) p
 ·have e:i=xs.length:=by omega
  subst e;exact .inl ⟨⟨xs,q,Yag _⟩,hd acc H hacc p⟩
theorem ZdB {lo:Int}{n:Nat} (Pv:Addr->Nat->Hp->Prop) (h0:∀ acc,H1 acc=none->Pv acc 0 (upd H1 acc (.lst [])))
  (hs:∀ acc i H,H1 acc=none->i<n->Pv acc i H->g (.int (lo+i)) (blkσ own js σ) H fun τ H4=>tt τ H4 fun c H5=>
   if c=true then te τ H5 fun y H6=>∃ ys,H6 acc=some (.lst ys)/\ys.length<sizeLine/\(i+1<=n/\Pv acc (i+1) (upd H6 acc (.lst (ys++[y])))) else (i+1<=n/\Pv acc (i+1) H5))
  (hd:∀ acc H,H1 acc=none->Pv acc n H->Q (.ref acc) H):Zbh own js g tt te σ (Itr lo n) H1 Q:=by
 intro acc hacc;refine⟨fun i H=>i<=n/\Pv acc i H,n,⟨YaP _,h0 acc hacc⟩,?_⟩;rintro i H ⟨hi,p⟩;by_cases hlt:i<n
 ·refine .inr ⟨hlt,hlt,fun x H' y=>?_⟩;obtain⟨e,y⟩:=y;subst e y;exact hs acc i _ hacc hlt p
 ·have e:i=n:=by omega
  subst e;exact .inl ⟨Yag _,hd acc H hacc p⟩
end
def Ziq (scope sc:Scope) (js:List Nat) (N:List Str):Bool :=
 (scope.kind == .function) && (scope.names.all fun y=>(y.2 != .cell) && ((y.2 != .free) || (sc.names.lookup y.1 == some .cell) || (sc.names.lookup y.1 == some .free)) && ((y.2 != .local) || (scope.names.lookup y.1 == some .local))) &&
 (js.all fun j=>match N[j]? with | some x=>scope.names.lookup x == some .free | none=>false)
theorem CompOk.by {X:Cx}{scope sc:Scope}{own N:List Str}{js:List Nat} (hX:X.env.scope=sc) (hN:X.N=N) (h:Ziq scope sc js N=true):CompOk X scope own js:=by
 unfold Ziq at h;simp only[Ybx,beq_iff_eq,YbZ,YdY,bne_iff_ne,ne_eq] at h;obtain⟨⟨h1,h2⟩,h3⟩:=h;refine⟨h1,fun y hy=>(h2 y hy).1.1,fun y hy hf=>?_,fun y hy hl=>?_,fun j hj=>?_⟩
 ·show X.env.scope.names.lookup y.1=_∨X.env.scope.names.lookup y.1=_;rw[hX];rcases (h2 y hy).1.2 with (z | z) | z
  ·exact absurd hf z
  ·exact .inl z
  ·exact .inr z
 ·rcases (h2 y hy).2 with z | z
  ·exact absurd hl z
  ·exact z
 ·have:=h3 j hj;rw[hN]
  cases e:N[j]? with
  | none=>rw[e] at this;cases this
  | some x=>rw[e] at this;exact⟨x,rfl,by simpa using this⟩
end L2
namespace L2
open PySem PySem.Spec PyProof.Rows PySem.SeqAt
section
variable {X:Cx}
theorem Vals.bl_get {bs:List Bool}{us:List Value} (r:Vals (bs.map V.bl) us) {i:Nat}{v:Value} (e:us[i]?=some v):∃ b,bs[i]?=some b/\v=.bool b:=by
 cases q:(bs.map V.bl)[i]? with
 | none=>
  have:=r.none_of q;rw[e] at this;cases this
 | some x=>
  obtain⟨u,h1,h2⟩:=r.get q;rw[e] at h1;cases h1;rw[Yal] at q
  cases z:bs[i]? with
  | none=>rw[z] at q;cases q
  | some b=>rw[z] at q;cases q;exact⟨b,rfl,h2⟩
theorem Zhj {bs:List Bool}:(YaO bs.length).all (fun i=>bs.getD i true)=bs.all id:=by
 rw[Ycp,YbZ,YbZ];constructor
 ·intro h b hb;obtain⟨i,hi,e⟩:=Ybk hb;have:=h i (Ya2.mpr hi);simpa[Yax,hi,e] using this
 ·intro h i hi;have hi':=Ya2.mp hi;have:=h bs[i] (Ybg hi');simpa[Yax,hi'] using this
theorem ZjB (hc:X.calm=true):Zbg X (.builtin "all") (fun xs H Q=>∃ (a:Addr) (bs:List Bool),xs=[.ref a]/\SqL X.K H a (bs.map V.bl)/\Q (.bl (bs.all id)) H):=by
 intro pins s σ H xs us Q I r h;obtain⟨a,bs,rfl,hq,q⟩:=h;obtain⟨u,rfl,r1⟩:=Zci r;cases r1;obtain⟨its,rv,p,hz⟩:=I.list hq;refine call_all_walk (wpAny_pyIter_list p.isList ?_);have hlt:=(let ⟨o,n,e,_⟩:=p;Yah e:a<s.heap.objs.size)
 have hne:a≠s.heap.objs.size:=Yaz hlt;have hlen:its.toArray.size=bs.length:=by rw[Yaj,<- rv.length,Yab]
 refine⟨s.heap.objs.size,_,_,_,_,_,fun i=>bs.getD i true,rfl,Yd6 (A:=X.A.in1) (I.ok.hd hc) _ a hne its.toArray,⟨⟨_,Yas _ rfl,rfl,rfl⟩,?_⟩,?_,?_⟩
 ·obtain⟨o,n,e,c,_,d⟩:=p;exact⟨o,Yac _ e,c,n,d⟩
 ·intro i v s' Q' E' hP hQ;have hP':its[i]?=some v:=by simpa using hP
  obtain⟨b,hb,rfl⟩:=rv.bl_get hP';refine wpAny_truthy_bool ?_;dsimp only at hQ;rw[Yax,hb] at hQ;exact hQ
 ·intro h' tk k;rw[hlen,Zhj];refine⟨.bl (bs.all id),H,I.kept (h':=h') (t':=tk) fun b o e=>k b o ?_ (Yac _ e),rfl,q⟩;intro hm;have:b=s.heap.objs.size:=by simpa using hm
  rw[this] at e;exact absurd (Yah e) (Ybe _)
theorem Vals.int_at {ns:List Int}{us:List Value} (r:Vals (ns.map V.int) us) {i:Nat} (h:i<ns.length):∃ t,us[i]?=some (.int ns[i] t):=by
 have q:(ns.map V.int)[i]?=some (V.int ns[i]):=by rw[Yal,Yaa h];rfl
 obtain⟨u,h1,t,rfl⟩:=r.get q;exact⟨t,h1⟩
theorem ZiZ:∀ {ns ms:List Int},ns.length=ms.length->((YaO ns.length).all fun i=>ns.getD i 0 == ms.getD i 0)=decide (ns=ms):=fun {ns ms} h=>by
 rw[Ycp,YbZ,decide_eq_true_iff];constructor
 ·intro q;refine Ybq h fun i h1 h2=>?_;have:=q i (Ya2.mpr h1);simpa[Yax,h1,h2] using this
 ·rintro rfl i hi;simp
theorem Zfv {ns:List Int}{its:List Value} (r:Vals (ns.map V.int) its) {j:Nat} (h:j<its.toArray.size):∃ t,its.toArray[j]=.int (ns.getD j 0) t:=by
 have hj:j<ns.length:=by rw[Yaj,<- r.length,Yab] at h;exact h
 obtain⟨t,q⟩:=r.int_at hj;obtain⟨_,q'⟩:=Yae.mp q;exact⟨t,by simpa[Yax,hj] using q'⟩
end
end L2
namespace L2
open PySem PySem.Spec PyProof.Rows PySem.SeqAt
section
variable {prog:Program}{w:World}{A:Around}{R:Result->Shared->Prop}{I:Addr}{fp wr:List Addr}{n:Nat}{P:Nat->Value->Prop}{St:Nat->Heap->Prop}
def ZlJ (prog:Program) (w:World) (A:Around) (P:Nat->Value->Prop) (bt:Nat->Nat->Bool) (g:Heap) (out:List Addr):Prop :=
 ∀ i j vi vj (s:Shared) (Q:Value->Shared->Prop) (E:Value->Shared->Prop),(∀ b o,b ∉ out->g.get? b=some o->s.heap.get? b=some o)->P i vi->P j vj->Q (.bool (bt i j)) s->wpAny (model prog w) A (richCompare .Lt vi vj) Q E s
theorem ZhJ (W:Walks prog w A.in1 I fp wr n P St) {g:Heap} (bt:Nat->Nat->Bool) (S:Addr) (hcmp:ZlJ prog w A.in1 P bt g (S::wr)) (hSf:S ∉ fp) :
  ∀ (k j:Nat) (s:Shared) (vb:Value) (c:Nat),n - (j+1)=k->j+1<=n->(∀ b o,b ∉ S::wr->g.get? b=some o->s.heap.get? b=some o)->St (j+1) s.heap->P (argBest bt j) vb ->
  s.heap.get? S=some { cls:=.type "list",dict:=none,data:=.seq #[vb,vb] c,slots:=#[] } ->
  (∀ v h' tk,P (argBest bt (n - 1)) v->(∀ b o,b ∉ S::wr->g.get? b=some o->h'.get? b=some o)->R (.ok (.ret v)) { s with heap:=h',toks:=tk }) ->
  codeAny (model prog w) A (.builtin "min.loop" ⟨[.ref I,.none,.ref S],[]⟩) R s:=by
 have hSw:S ∉ wr:=fun h=>hSf (W.sub _ h);have nm:(toString "min"++toString ".loop":String)="min.loop":=by decide
 intro k
 induction k with
 | zero=>
  intro j s vb c hk hj hg hst hPb hS hR;have hin:j+1=n:=by omega
  refine codeAny_builtin F.entry_min_loop ?_;rw[Ycd F.plain_min_loop _];show wpAny _ A.in1 (seqItems? (.ref S) >>= _) _ _ s;refine wpAny_bind (wpAny_seqItems hS rfl ?_);show wpAny _ A.in1 (tryCatch (pyNext (.ref I)) _ >>= _) _ _ s;refine wpAny_bind (wpAny_tryCatch (W.done s _ _ (hin ▸ hst) fun h' tk hk'=>?_));have hS':=hk' S _ hSw hS;show wpAny _ A.in1 (updateSeq S (fun _=>#[]) >>= _) _ _ _;refine wpAny_bind ?_;refine wpAny_updateSeq hS' rfl (wpAny_bind (wpAny_letGo (wpAny_pure ?_)));refine hR vb _ tk (by rw[<- hin];exact hPb) fun b o hb e=>?_;have hb':b≠S/\b ∉ wr:=by simpa using hb
  exact (YbA _ _ (Ybj hb'.1)).trans (hk' b o hb'.2 (hg b o hb e))
 | succ k ih=>
  intro j s vb c hk hj hg hst hPb hS hR;have hlt:j+1<n:=by omega
  refine codeAny_builtin F.entry_min_loop ?_;rw[Ycd F.plain_min_loop _];show wpAny _ A.in1 (seqItems? (.ref S) >>= _) _ _ s;refine wpAny_bind (wpAny_seqItems hS rfl ?_);show wpAny _ A.in1 (tryCatch (pyNext (.ref I)) _ >>= _) _ _ s;refine wpAny_bind (wpAny_tryCatch (W.item (j+1) s _ _ hlt hst fun v h' tk hP hst' hk'=>?_));have hS':=hk' S _ hSw hS;have hg':∀ b o,b ∉ S::wr->g.get? b=some o->h'.get? b=some o:=fun b o hb e=>hk' b o (fun z=>hb (Yat _ z)) (hg b o hb e);show wpAny _ A.in1 (tryCatch (holding [v,v] (richCompare .Lt v vb >>= _)) _ >>= _) _ _ _;refine wpAny_bind (wpAny_tryCatch (wpAny_holding (wpAny_bind (hcmp (j+1) (argBest bt j) v vb _ _ _ hg' hP hPb ?_))));refine wpAny_bind (wpAny_holding (wpAny_truthy_bool ?_));refine wpAny_bind (wpAny_letGo (wpAny_pure ?_))
  cases hb:bt (j+1) (argBest bt j) with
  | true=>
   simp only[if_true];refine wpAny_bind ?_;refine wpAny_updateSeq hS' rfl (wpAny_bind (wpAny_letGo ?_));rw[nm];refine wpAny_pure ⟨plainId_quiet F.plain_min_loop _,ih (j+1) _ v _ (by omega) hlt (fun b o hbo e=>?_) (W.frame _ _ _ hst' fun b hbf o e=>?_) (by simp only[argBest,hb,if_true];exact hP) (Yb6 _ hS' rfl)
    fun v' h'' tk'' hP' hk''=>hR v' h'' tk'' hP' hk''⟩
   ·have hb':b≠S/\b ∉ wr:=by simpa using hbo
    exact (YbA _ _ (Ybj hb'.1)).trans (hg' b o hbo e)
   ·exact (YbA _ _ (fun h:S=b=>hSf (by rw[h];exact hbf))).trans e
  | false=>
   simp only[Yar,if_false];refine wpAny_bind (wpAny_letGo ?_);rw[nm];exact wpAny_pure ⟨plainId_quiet F.plain_min_loop _,ih (j+1) _ vb c (by omega) hlt hg' hst' (by simp only[argBest,hb,Yar,if_false];exact hPb) hS' fun v' h'' tk'' hP' hk''=>hR v' h'' tk'' hP' hk''⟩
theorem ZhK (W:Walks prog w A.in1 I fp wr n P St) {g:Heap} (bt:Nat->Nat->Bool) (S:Addr) (hcmp:ZlJ prog w A.in1 P bt g (S::wr)) (hSf:S ∉ fp) (hn:0<n) {s:Shared}{c:Nat} (hg:∀ b o,b ∉ S::wr->g.get? b=some o->s.heap.get? b=some o) (hst:St 0 s.heap)
  (hS:s.heap.get? S=some { cls:=.type "list",dict:=none,data:=.seq #[] c,slots:=#[] })
  (hR:∀ v h' tk,P (argBest bt (n - 1)) v->(∀ b o,b ∉ S::wr->g.get? b=some o->h'.get? b=some o)->R (.ok (.ret v)) { s with heap:=h',toks:=tk }) :
  codeAny (model prog w) A (.builtin "min.loop" ⟨[.ref I,.none,.ref S],[]⟩) R s:=by
 have hSw:S ∉ wr:=fun h=>hSf (W.sub _ h);have nm:(toString "min"++toString ".loop":String)="min.loop":=by decide
 refine codeAny_builtin F.entry_min_loop ?_;rw[Ycd F.plain_min_loop _];show wpAny _ A.in1 (seqItems? (.ref S) >>= _) _ _ s;refine wpAny_bind (wpAny_seqItems hS rfl ?_);show wpAny _ A.in1 (tryCatch (pyNext (.ref I)) _ >>= _) _ _ s;refine wpAny_bind (wpAny_tryCatch (W.item 0 s _ _ hn hst fun v h' tk hP hst' hk'=>?_));have hS':=hk' S _ hSw hS;show wpAny _ A.in1 (updateSeq S (fun _=>#[v,v]) >>= _) _ _ _;refine wpAny_bind ?_;refine wpAny_updateSeq hS' rfl ?_;rw[nm];refine wpAny_pure ⟨plainId_quiet F.plain_min_loop _,ZhJ W bt S hcmp hSf _ 0 _ v _ rfl hn (fun b o hb e=>?_) (W.frame _ _ _ hst' fun b hbf o e=>?_) hP (Yb6 _ hS' rfl) hR⟩
 ·have hb':b≠S/\b ∉ wr:=by simpa using hb
  exact (YbA _ _ (Ybj hb'.1)).trans (hk' b o hb'.2 (hg b o hb e))
 ·exact (YbA _ _ (fun h:S=b=>hSf (by rw[h];exact hbf))).trans e
end
def ZcW (rs:List (List Int)):Nat:=argBest (fun i j=>HT.lexLt (rs.getD i []) (rs.getD j [])) (rs.length - 1)
section
variable {X:Cx}
theorem Zix (hc:X.calm=true) (hu:X.A.units+1<cLine):Zbg X (.builtin "min") (fun xs H Q=>∃ (a:Addr) (ts:List Addr) (rs:List (List Int)),xs=[.ref a]/\SqL X.K H a (ts.map V.ref)/\ts.length=rs.length/\0<rs.length /\
  (∀ (i:Nat) t r,ts[i]?=some t->rs[i]?=some r->SqT X.K H t (r.map V.int))/\∀ t,ts[ZcW rs]?=some t->Q (.ref t) H):=by
 intro pins s σ H xs us Q I r h;obtain⟨a,ts,rs,rfl,hq,hl,hp,hT,q⟩:=h;obtain⟨u,rfl,r1⟩:=Zci r;cases r1;obtain⟨its,rv,p,hz⟩:=I.list hq;have hlt:=(let ⟨o,n,e,_⟩:=p;Yah e:a<s.heap.objs.size)
 have hlen:its.length=rs.length:=by rw[<- rv.length,Yab,hl]
 refine call_function_tree F.kind_min F.plain_min F.entry_min (F.args_min1 _) ?_;show wpAny _ X.A.in1 (Yc9 "min" ["key","default"] 0 ⟨[],[]⟩ >>= _) _ _ s;refine wpAny_bind (wpAny_of_eq (show Yc9 "min" ["key","default"] 0 ⟨[],[]⟩=pure [none,none] from rfl) ?_);refine wpAny_bind (wpAny_pure ?_);refine wpAny_bind (wpAny_pyIter_list p.isList ?_);refine wpAny_bind (wpAny_newObj_type ?_);rw[show (toString "min"++toString ".loop":String)="min.loop" by decide];generalize hg1:s.heap.push { cls:=.type "list_iterator",data:=.fields #[.ref a,.int 0 0] }=g1;have e1:∀ b o,s.heap.get? b=some o->g1.get? b=some o:=fun b o e=>by rw[<- hg1];exact Yac _ e
 have z1:g1.objs.size=s.heap.objs.size+1:=by rw[<- hg1,Ya4]
 have itv:∀ {i:Nat}{v:Value},its.toArray[i]?=some v->∃ t r,ts[i]?=some t/\rs[i]?=some r/\v=.ref t:=fun {i v} e=>by
  have e':its[i]?=some v:=by simpa using e
  have hi:i<its.length:=(Yae.mp e').1
  have q1:(ts.map V.ref)[i]?=some (V.ref ts[i]):=by rw[Yal,Yaa (by omega)];rfl
  obtain⟨u,h1,h2⟩:=rv.get q1;rw[e'] at h1;cases h1;exact⟨ts[i],rs[i],Yaa _,Yaa _,h2⟩
 refine wpAny_pure ⟨plainId_quiet F.plain_min_loop _,ZhK (g:=s.heap) (fp:=_) (Yd6 (A:=X.A.in1) (I.ok.hd hc) s.heap.objs.size a (Yaz hlt) its.toArray) (fun i j=>HT.lexLt (rs.getD i []) (rs.getD j [])) g1.objs.size ?_ ?_ (by rw[Yaj,hlen];exact hp) (fun b o _ e=>Yac _ (e1 b o e)) ⟨⟨_,Yac _ (by rw[<- hg1];exact Yas _ rfl),rfl,rfl⟩,?_⟩ (Yas _ rfl) ?_⟩
 ·intro i j vi vj s' Q' E' hk hi hj hQ;obtain⟨t1,r1,a1,b1,rfl⟩:=itv hi;obtain⟨t2,r2,a2,b2,rfl⟩:=itv hj;obtain⟨i1,v1,p1,_⟩:=I.tuple (hT i t1 r1 a1 b1);obtain⟨i2,v2,p2,_⟩:=I.tuple (hT j t2 r2 a2 b2);have lift:∀ {t:Addr}{its:Array Value},IsTup s.heap t its->IsTup s'.heap t its:=fun {t its} ⟨o,e,c,n,d⟩=>by
   refine⟨o,hk t o (fun z=>?_) e,c,n,d⟩;have l:(t:Nat)<s.heap.objs.size:=Yah e;rcases Yai.mp z with z | z
   ·exact Yaz (Yap l (by rw[z1];exact Ycl _)) z
   ·exact Yaz l (by simpa using z)
  have x1:rs.getD i []=r1:=by rw[Yax,b1];rfl
  have x2:rs.getD j []=r2:=by rw[Yax,b2];rfl
  dsimp only at hQ;rw[x1,x2] at hQ;exact HT.lt_tupInts (lift p1) (lift p2) (Zbm v1) (Zbm v2) hu hQ
 ·intro z;simp only[Yai,YaZ,or_false] at z;rcases z with z | z
  ·exact Yby (by rw[z1];exact Ybr _) z
  ·exact Yby (Yap hlt (by rw[z1];exact Ycl _)) z
 ·obtain⟨o,n,e,c,_,d⟩:=p;exact⟨o,Yac _ (e1 _ _ e),c,n,d⟩
 ·intro v h' tk hP hk;rw[Yaj,hlen] at hP;obtain⟨t,r,a1,b1,rfl⟩:=itv hP;refine⟨.ref t,H,I.kept (h':=h') (t':=tk) fun b o e=>hk b o ?_ e,rfl,q t a1⟩;have l:(b:Nat)<s.heap.objs.size:=Yah e;intro z;simp only[Yai,YaZ,or_false] at z;rcases z with z | z
  ·exact Yaz (Yap l (by rw[z1];exact Ycl _)) z
  ·exact Yaz l z
end
end L2
namespace L2
open PySem PySem.Spec PyProof.Rows PySem.SeqAt
def Ite (K:Yad) (a:Addr):It :=
 ⟨fun i H=>∃ xs x,SqL K H a xs/\xs[i]?=some x,fun i H y H'=>∃ p x,H p=none/\y=.ref p/\H'=upd H p (.tup [.int i,x])/\∀ xs,SqL K H a xs->xs[i]?=some x,fun i H=>∃ xs,SqL K H a xs/\xs.length<=i⟩
theorem Zg3 {P:Program}{w:World}{K:Yad}{es:List Expr}{x1}{pos:Pos} (a it e:Addr) (hne:e≠it):Turn P w K (.Tuple es x1 pos) (Ite K a) [e,it] e (fun i h=>(∃ old,IsEnum h e it (i:Nat) old)/\h.IsListIter it a i) where
 mem:=by simp
 obj:=fun i h st b hb=>by
  obtain⟨⟨old,s1⟩,s2⟩:=st;rcases Yai.mp hb with z | z
  ·subst z;exact⟨_,s1,fun v z=>nomatch z⟩
  ·have z:b=it:=by simpa using z
   subst z;obtain⟨o,e,c,d⟩:=s2;exact⟨o,e,fun v z=>by rw[d] at z;cases z⟩
 keep:=fun i h h' st k=>by
  obtain⟨⟨old,s1⟩,s2⟩:=st;exact⟨⟨old,k e (by simp) _ s1⟩,s2.at fun o q=>k it (by simp) o q⟩
 item:=by
  intro X hP hw hK hc i pins s σ H E I hf st hg;subst hP hw hK;obtain⟨xs,x,hq,hx⟩:=hg;obtain⟨its,rv,p,hz⟩:=I.list hq;obtain⟨u,hu,ru⟩:=rv.get hx;obtain⟨⟨old,s1⟩,s2⟩:=st;refine wpAny_pyNext_enum_item s1 s2 p.isList (x:=u) (by simpa using hu) hne fun h' ho hit ht hsz hk=>?_;refine⟨_,rfl,?_⟩;refine wpAny_letOwnedTupleGo_enum ho fun h'' he hs=>?_;have fresh:H s.heap.objs.size=none:=I.hok.fresh (Yag _);have k:∀ b o,b ∉ [e,it]->s.heap.get? b=some o->h''.get? b=some o:=fun b o hb q=>by
   have hb':b≠e/\b≠it:=by simpa using hb
   exact (hs.2 b hb'.1).trans (hk b o hb'.1 hb'.2 q)
  have nE:∀ b∈[e,it],H b=none:=fun b hb=>(hf b hb).1
  have nit:∀ b u,H b=some u->b ∉ [e,it]:=fun b u q z=>by rw[nE b z] at q;cases q
  have hpe:s.heap.objs.size≠e:=Yby (Yah s1);have htup:h''.get? s.heap.objs.size=some { cls:=.type "tuple",data:=.seq #[.int i s.toks,u] }:=(hs.2 _ hpe).trans ht;have newOk:ObjOk X.prog X.w (upd H s.heap.objs.size (.tup [.int i,x])) h'' s.heap.objs.size (.tup [.int i,x]):=by
   refine⟨?_,[.int i s.toks,u],.cons ⟨_,rfl⟩ (.cons ru .nil),⟨_,htup,rfl,rfl,0,rfl⟩⟩;show 2<=sizeLine
   decide
  have I1:Inv X pins σ (upd H s.heap.objs.size (.tup [.int i,x])) { s with heap:=h'',toks:=s.toks+1 }:=by
   refine I.step (g':=s.gens) (d':=s.drawn) (ch:=[e,it]) (fun b hb=>?_) (fun b o _ _ hc q _=>k b o hc q) (fun b o _ _ hc q _=>⟨o.slots,k b o hc q⟩) (fun b o _ q n=>?_) (fun b o hc q=>⟨o,k b o hc q⟩)
    (fun b xs q=>by rw[Zag (Zae q fresh)];exact q) (fun b o xs q=>by rw[Zag (Zae q fresh)];exact q) (fun b ps q=>⟨#[],by rw[Zag (Zae q fresh),q];simp⟩) (fun m hm=>?_) (fun b ob q=>?_) I.bare
   ·obtain⟨f0,f1,f2,f3,f4,f5⟩:=hf b hb;exact⟨f3,f1,f4,f5⟩
   ·rw[Zag (Yaz (Yah q))];exact n
   ·obtain⟨o,es,ep,ho,r⟩:=hm;refine⟨o,es,ep,k _ o (fun z=>?_) ho,r⟩;exact (hf _ z).2.1 rfl
   ·by_cases hb:b=s.heap.objs.size
    ·subst hb;rw[Zab] at q;cases q;exact newOk
    ·rw[Zag hb] at q;refine (I.hok b ob q).stay (fun c v hc r=>k c v ?_ r) (fun c r=>by rw[Zag (Zae r fresh)];exact r) fun c xs r=>by rw[Zag (Zae r fresh)];exact r
     rcases hc with z | z
     ·rw[z];exact nit b ob q
     ·exact nit c _ z
  refine⟨.ref s.heap.objs.size,_,I1,rfl,⟨s.heap.objs.size,x,fresh,rfl,rfl,fun ys hy=>by rw[I.list_inj hy hq];exact hx⟩,⟨⟨u,?_⟩,?_⟩,fun b hb=>?_⟩
  ·have he:IsEnum h'' e it ((i:Int)+1) u:=he;show IsEnum h'' e it ((i+1:Nat):Int) u;rw[show ((i+1:Nat):Int)=(i:Int)+1 by omega];exact he
  ·exact hit.extBut hs.extBut (Ybj hne)
  ·have lt:b<s.heap.objs.size:=by
    rcases Yai.mp hb with z | z
    ·rw[z];exact Yah s1
    ·have z:b=it:=by simpa using z
     rw[z];obtain⟨o,q,_⟩:=s2;exact Yah q
   rw[Zag (Yaz lt)];exact nE b hb
 done:=by
  intro X hP hw hK hc i pins s σ H E I hf st hg;subst hP hw hK;obtain⟨xs,hq,hx⟩:=hg;obtain⟨its,rv,p,hz⟩:=I.list hq;obtain⟨⟨old,s1⟩,s2⟩:=st;obtain⟨f0,f1,f2,f3,f4,f5⟩:=hf it (by simp);have hl:=rv.length;exact wpAny_pyNext_enum_end (I.ok.hd hc) s1 s2 p.isList (by simp;omega) fun h' eb=>⟨rfl,I.turned (t':=s.toks) (fun b o hb q=>eb b o hb q) f0 f1 f3 f4 f5⟩
 self:=fun _ _ _ _ _ st h=>by
  obtain⟨⟨old,s1⟩,_⟩:=st;exact wpAny_pyIter_enum s1 h
section
variable {X:Cx}
theorem ZaM:Zbg X (.builtin "isinstance") (fun xs H Q=>∃ x T t b,xs=[x,.ty T]/\TyOf X.K H x t/\YbW X.K t (.type T)=some b/\Q (.bl b) H):=by
 intro pins s σ H xs us Q I r h;obtain⟨x,T,t,b,rfl,ty,e,q⟩:=h;obtain⟨u,u2,rfl,r1,r2⟩:=ZiL r;cases r2;exact Zh0 I r1 ty e fun tk=>⟨.bl b,H,I.tok _,rfl,q⟩
end
end L2
namespace L2
open PySem PySem.Spec PyProof.Rows
section
variable {κ:Type} [DecidableEq κ]
end
section
variable {P:Program}{w:World}{H:Hp}{h:Heap}{a:Addr}
end
section
variable {X:Cx}{pins:List (Addr × Obj)}{σ:St}{H:Hp}{s:Shared}{a:Addr}{y v:V}{u r:Value}{o:Option V}{A:Around}{E:Value->Shared->Prop}
end
section
variable {X:Cx}{pins:List (Addr × Obj)}{σ:St}{H:Hp}{s:Shared}{a:Addr}{kvs:List (Key × V)}{k:Key}{u:Value}{A:Around}{E:Value->Shared->Prop}
end
section
variable {X:Cx}{o i e value:Expr}{pos pos' tpos:Pos}{td ty tv:TE}
end
section
variable {X:Cx}{pos:Pos}
end
structure M1 (X:Cx) (o:Expr) (m:Str) (apos:Pos) (e:Expr) (cpos:Pos):Prop where
 base:attributeBase o m X.env (eval o X.env)=eval o X.env
 few:((backTo cpos (starEach [e] X.env)).all (fun x=>!x.1) && (backToKw cpos (keywordEach [] X.env)).all (fun x=>x.1.isSome)
  && decide (([e]:List Expr).length+([]:List Keyword).length+(if ([]:List Keyword).isEmpty then 0 else 1)<30))=true
 line:(apos.endLine == cpos.line)=true
 trees:backTo cpos (starEach [e] X.env)=[(false,eval e X.env)]
structure M2 (X:Cx) (o:Expr) (m:Str) (apos:Pos) (e f:Expr) (cpos:Pos):Prop where
 base:attributeBase o m X.env (eval o X.env)=eval o X.env
 few:((backTo cpos (starEach [e,f] X.env)).all (fun x=>!x.1) && (backToKw cpos (keywordEach [] X.env)).all (fun x=>x.1.isSome)
  && decide (([e,f]:List Expr).length+([]:List Keyword).length+(if ([]:List Keyword).isEmpty then 0 else 1)<30))=true
 line:(apos.endLine == cpos.line)=true
 trees:backTo cpos (starEach [e,f] X.env)=[(false,eval e X.env),(false,eval f X.env)]
section
variable {X:Cx}{pins:List (Addr × Obj)}{σ:St}{H:Hp}{s:Shared}{a:Addr}{y d:V}{u r:Value}{o:Option V}{A:Around}{E:Value->Shared->Prop}
end
section
variable {X:Cx}{o e f:Expr}{apos cpos:Pos}{td ty tx:TE}
end
section
variable {X:Cx}{pins:List (Addr × Obj)}{σ:St}{H:Hp}{s:Shared}{a:Addr}{kvs:List (Key × V)}{A:Around}{E:Value->Shared->Prop}
end
section
variable {X:Cx}{pins:List (Addr × Obj)}{σ:St}{H:Hp}{s:Shared}{a:Addr}{y:V}{u:Value}{A:Around}{E:Value->Shared->Prop}
end
end L2
namespace L2
open PySem PySem.Spec PyProof.Rows
section
variable {κ:Type} [DecidableEq κ]
end
end L2
namespace L2
open PySem PySem.Spec PyProof.Rows PySem.SeqAt
section
variable {prog:Program}{w:World}{A:Around}{E:Value->Shared->Prop}{s:Shared}
theorem Zdu {it t:Addr}{i:Nat}{items:Array Value}{x:Value}{Q:Value->Shared->Prop} (hit:s.heap.IsTupleIter it t i) (ht:s.heap.IsTuple t items) (hx:items[i]?=some x)
  (hQ:∀ h',h'.IsTupleIter it t (i+1)->Ycn it s.heap h'->Q x { s with heap:=h' }):wpAny (model prog w) A (YaX (.ref it)) Q E s:=by
 obtain⟨o,ho,hc,hd⟩:=id hit;obtain⟨ol,hol,_,nl,hdl⟩:=ht;unfold YaX;refine wpAny_bind (wpAny_callSpecial?_slot (name:=Yb8 "__next__") hit.typeIs F.slot_tuple_iterator_next (wpAny_call_entry F.slot_tuple_iterator_next hit.typeIs F.entry_tuple_iterator_next ?_ (F.args_tuple_iterator_next_1 _)));show wpAny _ _ (field (.ref it) 0 >>= _) _ _ s;refine wpAny_bind (wpAny_field ho hd (x:=.ref t) rfl ?_);show wpAny _ _ (if (YaH t == YbN)=true then _ else _) _ _ s;rw[if_neg (show ¬ ((YaH t == YbN)=true) from YaF)];show wpAny _ _ (field (.ref it) 1 >>= _) _ _ s;refine wpAny_bind (wpAny_field ho hd (x:=.int i 0) rfl ?_);show wpAny _ _ (seqItems? (.ref t) >>= _) _ _ s;refine wpAny_bind (wpAny_seqItems hol hdl ?_);simp only[Yba,hx];refine wpAny_bind (wpAny_setField ho hd (by simp) (wpAny_pure ⟨x,rfl,wpAny_pure (hQ _ ?_ (Ycu ..))⟩));exact⟨_,Yb6 _ ho (Obj.isFreed_of_fields (YeY hd _)),(Obj.cls_mapFields ..).trans hc,by rw[YeY hd];simp[rawInt]⟩
theorem Zbd {it t:Addr}{i:Nat}{items:Array Value}{Q:Value->Shared->Prop} (hh:A.handled=none) (hit:s.heap.IsTupleIter it t i) (ht:s.heap.IsTuple t items) (hx:items[i]?=none)
  (hE:∀ h' e,Ydk it s.heap h'->(∃ o,h'.get? e=some o/\o.cls=.type "StopIteration")->E (.ref e) { s with heap:=h' }):wpAny (model prog w) A (YaX (.ref it)) Q E s:=by
 obtain⟨o,ho,hc,hd⟩:=id hit;obtain⟨ol,hol,_,nl,hdl⟩:=ht;unfold YaX;refine wpAny_bind (wpAny_callSpecial?_slot (name:=Yb8 "__next__") hit.typeIs F.slot_tuple_iterator_next (wpAny_call_entry F.slot_tuple_iterator_next hit.typeIs F.entry_tuple_iterator_next ?_ (F.args_tuple_iterator_next_1 _)));show wpAny _ _ (field (.ref it) 0 >>= _) _ _ s;refine wpAny_bind (wpAny_field ho hd (x:=.ref t) rfl ?_);show wpAny _ _ (if (YaH t == YbN)=true then _ else _) _ _ s;rw[if_neg (show ¬ ((YaH t == YbN)=true) from YaF)];show wpAny _ _ (field (.ref it) 1 >>= _) _ _ s;refine wpAny_bind (wpAny_field ho hd (x:=.int i 0) rfl ?_);show wpAny _ _ (seqItems? (.ref t) >>= _) _ _ s;refine wpAny_bind (wpAny_seqItems hol hdl ?_);simp only[Yba,hx];refine wpAny_bind (wpAny_rule (wpAny_bind (wpAny_setField ho hd (by simp) ?_)));show wpAny _ _ (newExc (.type "StopIteration") [] >>= _) _ _ _;refine wpAny_bind ?_;simp only[newExc,newTuple];refine wpAny_bind (wpAny_newObj_type ?_ (by size_fits));refine wpAny_bind (m:=firstArgMember _ _) (wpAny_of_eq (a:=YbN) (by first | rfl | (simp only[firstArgMember];rfl)) ?_);refine wpAny_newObj_type ?_ (by size_fits);simp only[raiseNew];refine wpAny_bind (wpAny_handled ?_)
 first | rw[show A.in1.handled=none from hh] | rw[hh]
 refine wpAny_bind (wpAny_pure (wpAny_throw ?_));exact hE _ _ (((Ycu ..).extBut.push _).push _) ⟨_,Yas _ rfl,rfl⟩
theorem Zif (hh:A.handled=none) (it l:Addr) (hne:l≠it) (items:Array Value):Draws prog w A it [it,l] items.size (fun i v=>items[i]?=some v) (fun i h=>h.IsTupleIter it l i/\h.IsTuple l items) where
 live:=fun _ _ st=>let ⟨o,ho,_⟩:=st.1;⟨o,ho⟩
 frame:=fun _ _ _ st hk=>⟨st.1.at fun o e=>hk it (by simp) o e,let ⟨o,e,c⟩:=st.2;⟨o,hk l (by simp) o e,c⟩⟩
 item:=fun i s Q E hi st hQ=>by
  refine Zdu st.1 st.2 (x:=items[i]) (by simp[hi]) fun h' hit' hs'=>?_;exact hQ _ h' s.toks (by simp[hi]) ⟨hit',let ⟨o,e,c⟩:=st.2;⟨o,(hs'.2 l hne).trans e,c⟩⟩ hs'
 done:=fun s Q E st hE=>Zbd hh st.1 st.2 (by simp) hE
end
theorem Ze0 (l:Addr) (items:Array Value) (n:Nat) (dct:Option Addr) (sl:Array (Option Value)) :
  Meets (Builtin.«enumerate.__new__» ⟨[.type "enumerate",.ref l],[]⟩) (fun _ R s=>s.heap.get? l=some { cls:=.type "tuple",dict:=dct,data:=.seq items n,slots:=sl } /\
   R (.ok (.ret (.ref (s.heap.push { cls:=.type "tuple_iterator",data:=.fields #[.ref l,.int 0 0] }).objs.size)))
    { s with heap:=(s.heap.push { cls:=.type "tuple_iterator",data:=.fields #[.ref l,.int 0 0] }).push { cls:=.type "enumerate",data:=.fields #[.none,.bool false,.ref s.heap.objs.size,rawInt 0,.none,.none] } }) :=
 .of_wp fun prog w A R s h=>by
  obtain⟨hp,g,d,tk,os⟩:=s;obtain⟨hl,h⟩:=h;have hsub:=sub_enumerate;have hL:Yc8 (Ycg ⟨hp,g,d,tk,os⟩) l items:=⟨_,hl,rfl,n,rfl⟩
  wp_walk using Ycf hl
  refine wpAny_stack_any fun st=>wpAny_pure ?_;split
  ·rename_i c _ _ _ _ _;cases (c == Yci "enumerate")
   ·wp_walk using Ycf hl,wpAny_pyIter_tuple hL
    exact⟨_,rfl,h⟩
   ·wp_walk using Ycf hl,wpAny_pyIter_tuple hL
    exact⟨_,rfl,h⟩
  ·wp_walk using Ycf hl,wpAny_pyIter_tuple hL
   exact⟨_,rfl,h⟩
section
variable {prog:Program}{w:World}{A:Around}{E:Value->Shared->Prop}{s:Shared}
theorem ZeZ {e it l:Addr}{i:Nat}{items:Array Value}{old:Value}{Q:Option Value->Shared->Prop} (hh:A.handled=none) (he:IsEnum s.heap e it i old) (hit:s.heap.IsTupleIter it l i) (hl:s.heap.IsTuple l items) (hx:items[i]?=none)
  (hQ:∀ h',Ydk it s.heap h'->Q none { s with heap:=h' }):wpAny (model prog w) A (pyNext (.ref e)) Q E s:=by
 have hT:s.TypeIs (.ref e) "enumerate":=⟨_,he,rfl⟩
 unfold pyNext;refine wpAny_bind (wpAny_attempt (wpAny_callSpecial?_slot (name:=Yb8 "__next__") hT F.slot_enumerate_next (wpAny_call_entry F.slot_enumerate_next hT F.entry_enumerate_next ?_ (F.args_enumerate_next_1 _))));show wpAny _ _ (field (.ref e) 2 >>= _) _ _ _;refine wpAny_bind (wpAny_field he rfl (x:=.ref it) rfl ?_);refine wpAny_bind (Zbd hh hit hl hx fun h' x he' hx'=>?_);obtain⟨o,ho,hc⟩:=hx';refine wpAny_bind (wpAny_isInstance (T:="StopIteration") (b:=true) ⟨o,ho,hc⟩ isSubtype_stop ?_);exact wpAny_pure (hQ _ he')
theorem Zel {l:Addr}{items:Array Value}{Q:Value->Shared->Prop} (hL:s.heap.IsTuple l items)
  (h:∀ h',IsEnum h' (s.heap.objs.size+1) s.heap.objs.size 0 .none->h'.IsTupleIter s.heap.objs.size l 0->(∀ b o,s.heap.get? b=some o->h'.get? b=some o)->Q (.ref (s.heap.objs.size+1)) { s with heap:=h' }) :
  wpAny (model prog w) A (call (.type "enumerate") [.ref l]) Q E s:=by
 obtain⟨⟨c,dct,dt,sl⟩,hl,hc,n,hd⟩:=hL
 replace hc:c=.type "tuple":=hc
 replace hd:dt=.seq items n:=hd
 subst hc hd;refine callType_new F.called_enumerate (by decide) (F.typeCall_enumerate_1 _) (F.newCall_enumerate_1 _) (fun obj=>F.args_object_init_2 obj _) F.entry_enumerate_new (Ze0 l items n dct sl) ⟨hl,?_⟩;have hz:(s.heap.push { cls:=.type "tuple_iterator",data:=.fields #[.ref l,.int 0 0] }).objs.size=s.heap.objs.size+1:=Ya4 ..;show _/\_;rw[hz];have he:IsEnum ((s.heap.push { cls:=.type "tuple_iterator",data:=.fields #[.ref l,.int 0 0] }).push { cls:=.type "enumerate",data:=.fields #[.none,.bool false,.ref s.heap.objs.size,rawInt 0,.none,.none] }) (s.heap.objs.size+1) s.heap.objs.size 0 .none:=by
  have:=Yas (s.heap.push { cls:=.type "tuple_iterator",data:=.fields #[.ref l,.int 0 0] }) (o:={ cls:=.type "enumerate",data:=.fields #[.none,.bool false,.ref s.heap.objs.size,rawInt 0,.none,.none] }) rfl;rw[hz] at this;exact this
 exact⟨⟨_,he,rfl⟩,h _ he ⟨_,Yac _ (Yas _ rfl),rfl,rfl⟩ fun b o x=>Yac _ (Yac _ x)⟩
end
def IteT (K:Yad) (a:Addr):It :=
 ⟨fun i H=>∃ xs x,SqT K H a xs/\xs[i]?=some x,fun i H y H'=>∃ p x,H p=none/\y=.ref p/\H'=upd H p (.tup [.int i,x])/\∀ xs,SqT K H a xs->xs[i]?=some x,fun i H=>∃ xs,SqT K H a xs/\xs.length<=i⟩
theorem Zgn {P:Program}{w:World}{K:Yad}{es:List Expr}{x1}{pos:Pos} (a it e:Addr) (hne:e≠it):Turn P w K (.Tuple es x1 pos) (IteT K a) [e,it] e (fun i h=>(∃ old,IsEnum h e it (i:Nat) old)/\h.IsTupleIter it a i) where
 mem:=by simp
 obj:=fun i h st b hb=>by
  obtain⟨⟨old,s1⟩,s2⟩:=st;rcases Yai.mp hb with z | z
  ·subst z;exact⟨_,s1,fun v z=>nomatch z⟩
  ·have z:b=it:=by simpa using z
   subst z;obtain⟨o,e,c,d⟩:=s2;exact⟨o,e,fun v z=>by rw[d] at z;cases z⟩
 keep:=fun i h h' st k=>by
  obtain⟨⟨old,s1⟩,s2⟩:=st;exact⟨⟨old,k e (by simp) _ s1⟩,s2.at fun o q=>k it (by simp) o q⟩
 item:=by
  intro X hP hw hK hc i pins s σ H E I hf st hg;subst hP hw hK;obtain⟨xs,x,hq,hx⟩:=hg;obtain⟨its,rv,p,hz⟩:=I.tuple hq;obtain⟨u,hu,ru⟩:=rv.get hx;obtain⟨⟨old,s1⟩,s2⟩:=st;have hlt:(i:Nat)<its.toArray.size:=by
   have:=(Yae.mp hu).1
   simpa using this
  have nea:a≠it:=by
   rintro rfl;obtain⟨o1,q1,c1,_⟩:=p;obtain⟨o2,q2,c2,_⟩:=id s2;rw[q1] at q2;cases q2;rw[c1] at c2;injection c2 with z;exact absurd z (by decide)
  have nee:a≠e:=by
   rintro rfl;obtain⟨o1,q1,c1,_⟩:=p;have s1':s.heap.get? a=some _:=s1;rw[q1] at s1';cases s1';injection c1 with z;exact absurd z (by decide)
  have it2:s.heap.IsTuple a its.toArray:=p;refine wpAny_pyNext_enum_itemD (Zif (A:=X.A.in1) (I.ok.hd hc) it a nea its.toArray) s1 ⟨s2,it2⟩ hlt hne (by simp[hne,Ybj nee]) fun u' h' tk' hu' ho hst ht hsz hk=>?_;have eu:u'=u:=by
   have:its.toArray[i]?=some u:=by simpa using hu
   rw[this] at hu';exact (YaD hu').symm
  subst eu;have hit:=hst.1;refine⟨_,rfl,?_⟩;refine wpAny_letOwnedTupleGo_enum ho fun h'' he hs=>?_;have fresh:H s.heap.objs.size=none:=I.hok.fresh (Yag _);have k:∀ b o,b ∉ [e,it]->s.heap.get? b=some o->h''.get? b=some o:=fun b o hb q=>by
   have hb':b≠e/\b≠it:=by simpa using hb
   exact (hs.2 b hb'.1).trans (hk b o hb'.1 hb'.2 q)
  have nE:∀ b∈[e,it],H b=none:=fun b hb=>(hf b hb).1
  have nit:∀ b u,H b=some u->b ∉ [e,it]:=fun b u q z=>by rw[nE b z] at q;cases q
  have hpe:s.heap.objs.size≠e:=Yby (Yah s1);have htup:h''.get? s.heap.objs.size=some { cls:=.type "tuple",data:=.seq #[.int i tk',u'] }:=(hs.2 _ hpe).trans ht;have newOk:ObjOk X.prog X.w (upd H s.heap.objs.size (.tup [.int i,x])) h'' s.heap.objs.size (.tup [.int i,x]):=by
   refine⟨?_,[.int i tk',u'],.cons ⟨_,rfl⟩ (.cons ru .nil),⟨_,htup,rfl,rfl,0,rfl⟩⟩;show 2<=sizeLine
   decide
  have I1:Inv X pins σ (upd H s.heap.objs.size (.tup [.int i,x])) { s with heap:=h'',toks:=tk'+1 }:=by
   refine I.step (g':=s.gens) (d':=s.drawn) (ch:=[e,it]) (fun b hb=>?_) (fun b o _ _ hc q _=>k b o hc q) (fun b o _ _ hc q _=>⟨o.slots,k b o hc q⟩) (fun b o _ q n=>?_) (fun b o hc q=>⟨o,k b o hc q⟩)
    (fun b xs q=>by rw[Zag (Zae q fresh)];exact q) (fun b o xs q=>by rw[Zag (Zae q fresh)];exact q) (fun b ps q=>⟨#[],by rw[Zag (Zae q fresh),q];simp⟩) (fun m hm=>?_) (fun b ob q=>?_) I.bare
   ·obtain⟨f0,f1,f2,f3,f4,f5⟩:=hf b hb;exact⟨f3,f1,f4,f5⟩
   ·rw[Zag (Yaz (Yah q))];exact n
   ·obtain⟨o,es,ep,ho,r⟩:=hm;refine⟨o,es,ep,k _ o (fun z=>?_) ho,r⟩;exact (hf _ z).2.1 rfl
   ·by_cases hb:b=s.heap.objs.size
    ·subst hb;rw[Zab] at q;cases q;exact newOk
    ·rw[Zag hb] at q;refine (I.hok b ob q).stay (fun c v hc r=>k c v ?_ r) (fun c r=>by rw[Zag (Zae r fresh)];exact r) fun c xs r=>by rw[Zag (Zae r fresh)];exact r
     rcases hc with z | z
     ·rw[z];exact nit b ob q
     ·exact nit c _ z
  refine⟨.ref s.heap.objs.size,_,I1,rfl,⟨s.heap.objs.size,x,fresh,rfl,rfl,fun ys hy=>by rw[I.tuple_inj hy hq];exact hx⟩,⟨⟨u',?_⟩,?_⟩,fun b hb=>?_⟩
  ·have he:IsEnum h'' e it ((i:Int)+1) u':=he;show IsEnum h'' e it ((i+1:Nat):Int) u';rw[show ((i+1:Nat):Int)=(i:Int)+1 by omega];exact he
  ·exact hit.extBut hs.extBut (Ybj hne)
  ·have lt:b<s.heap.objs.size:=by
    rcases Yai.mp hb with z | z
    ·rw[z];exact Yah s1
    ·have z:b=it:=by simpa using z
     rw[z];obtain⟨o,q,_⟩:=s2;exact Yah q
   rw[Zag (Yaz lt)];exact nE b hb
 done:=by
  intro X hP hw hK hc i pins s σ H E I hf st hg;subst hP hw hK;obtain⟨xs,hq,hx⟩:=hg;obtain⟨its,rv,p,hz⟩:=I.tuple hq;obtain⟨⟨old,s1⟩,s2⟩:=st;obtain⟨f0,f1,f2,f3,f4,f5⟩:=hf it (by simp);have hl:=rv.length;exact ZeZ (I.ok.hd hc) s1 s2 (show s.heap.IsTuple a its.toArray from p) (by simp;omega) fun h' eb=>⟨rfl,I.turned (t':=s.toks) (fun b o hb q=>eb b o hb q) f0 f1 f3 f4 f5⟩
 self:=fun _ _ _ _ _ st h=>by
  obtain⟨⟨old,s1⟩,_⟩:=st;exact wpAny_pyIter_enum s1 h
def SqB (b:Bool) (K:Yad) (H:Hp) (a:Addr) (xs:List V):Prop:=match b with | true=>SqL K H a xs | false=>SqT K H a xs
def IteB (b:Bool) (K:Yad) (a:Addr):It:=match b with | true=>Ite K a | false=>IteT K a
def Zj3 (K:Yad) (ta:TA):TI:=fun σ H R=>ta σ H fun vs H1=>∃ a b,vs=[.ref a]/\(∃ xs,SqB b K H1 a xs)/\R (IteB b K a) H1
theorem ZcC {X:Cx}{es:List Expr}{x1}{tpos:Pos}{e:Expr}{ta:TA}{p pos:Pos} (hg:Gl X "enumerate") (hm:X.mg "enumerate"=none) (ha:PA X [e] ta) (hs:starEach [e] X.env=[(false,eval e X.env)]:=by rfl) :
  PI X (.Tuple es x1 tpos) (.Call (.Name "enumerate" p) [e] [] pos) (Zj3 X.K ta):=by
 intro pins s σ H R I h;refine Call_ (Zdw I hg hm (show bootBuiltins "enumerate"=some (.type "enumerate") by decide +kernel) (YbX (thn (ha pos pins s σ H _ I h) fun us s1 ⟨vs,H1,I1,r1,q1⟩=>?_) hs rfl));obtain⟨a,b,e1,⟨xs,hq⟩,q⟩:=q1;subst e1;obtain⟨u,rfl,r⟩:=Zci r1;cases r;have fp:∀ b∈[s1.heap.objs.size+1,s1.heap.objs.size],FpOk X pins H1 b:=fun b hb=>by
  have ge:s1.heap.objs.size<=b:=by
   rcases Yai.mp hb with z | z
   ·rw[z];exact Ycl _
   ·have z:b=s1.heap.objs.size:=by simpa using z
    rw[z];exact Yag _
  exact I1.fpOk ge (I1.hok.fresh ge)
 cases b with
 | true=>
  obtain⟨its,rv,pl,hz⟩:=I1.list hq;refine call_enumerate_list pl.isList fun h' he hi hsz k=>wpAny_pyIter_enum he ?_;exact⟨s1.heap.objs.size+1,[s1.heap.objs.size+1,s1.heap.objs.size],_,_,H1,rfl,I1.kept (t':=s1.toks) k,Zg3 a s1.heap.objs.size _ (Yby (Ybr _)),⟨⟨.none,he⟩,hi⟩,fp,q⟩
 | false=>
  obtain⟨its,rv,pl,hz⟩:=I1.tuple hq;refine Zel (show s1.heap.IsTuple a its.toArray from pl) fun h' he hi k=>wpAny_pyIter_enum he ?_;exact⟨s1.heap.objs.size+1,[s1.heap.objs.size+1,s1.heap.objs.size],_,_,H1,rfl,I1.kept (t':=s1.toks) k,Zgn a s1.heap.objs.size _ (Yby (Ybr _)),⟨⟨.none,he⟩,hi⟩,fp,q⟩
theorem Zh8 {b:Bool}{K:Yad}{a:Addr}{xs:List V}{g:TG}{tb:TS}{D:Ends}{σ:St}{H:Hp} (Pv:Nat->St->Hp->Prop) (h0:Pv 0 σ H) (hl:∀ i σ H,i<=xs.length->Pv i σ H->SqB b K H a xs)
  (hs:∀ i x p σ H,xs[i]?=some x->Pv i σ H->H p=none->g (.ref p) σ (upd H p (.tup [.int i,x])) fun σ2 H2=>tb { D with nx:=Pv (i+1),ct:=Pv (i+1),bk:=D.nx } σ2 H2) (hd:∀ σ H,Pv xs.length σ H->D.nx σ H) :
  ∃ W:Nat->Nat->St->Hp->Prop,(∃ m,W 0 m σ H)/\∀ i m σ H,W i m σ H ->
   ((IteB b K a).stop i H/\D.nx σ H)∨((IteB b K a).go i H/\∃ N:St->Hp->Prop,(∀ σ' H',N σ' H'->∃ m',m'<m/\W (i+1) m' σ' H')/\∀ x H',(IteB b K a).yld i H x H'->g x σ H' fun σ2 H2=>tb { D with nx:=N,ct:=N,bk:=D.nx } σ2 H2):=by
 refine⟨fun i m σ H=>m=xs.length - i/\i<=xs.length/\Pv i σ H,⟨xs.length,by simp,YaP _,h0⟩,?_⟩;rintro i m σ H ⟨rfl,hi,p⟩;have q:=hl i σ H hi p;by_cases hlt:i<xs.length
 ·have gx:xs[i]?=some xs[i]:=by simp[hlt]
  refine .inr ⟨by cases b <;> exact⟨xs,xs[i],q,gx⟩,Pv (i+1),fun σ' H' p'=>⟨xs.length - (i+1),by omega,rfl,hlt,p'⟩,fun x H' y=>?_⟩;have y:∃ pa z,H pa=none/\x=.ref pa/\H'=upd H pa (.tup [.int i,z])/\xs[i]?=some z:=by
   cases b with
   | true=>obtain⟨pa,z,hp,e1,e2,y⟩:=y;exact⟨pa,z,hp,e1,e2,y xs q⟩
   | false=>obtain⟨pa,z,hp,e1,e2,y⟩:=y;exact⟨pa,z,hp,e1,e2,y xs q⟩
  obtain⟨pa,z,hp,e1,e2,y'⟩:=y;subst e1 e2;exact hs i z pa σ H y' p hp
 ·have e:i=xs.length:=by omega
  subst e;exact .inl ⟨by cases b <;> exact⟨xs,q,Yag _⟩,hd σ H p⟩
end L2
namespace L2
open PySem PySem.Spec PyProof.Rows PySem.SeqAt
section
variable {X:Cx}
theorem ZdG (bt:Nat->Nat->Bool):∀ k,argBest bt k<=k
 | 0=>Yag _
 | k+1=>by
  unfold argBest;split
  ·exact Yag _
  ·exact Nat.le_succ_of_le (ZdG bt k)
theorem ZcQ (ns:List Int):∀ k,k<=ns.length->preSum (fun i=>ns.getD i 0) k=(ns.take k).sum
 | 0,_=>by simp[preSum]
 | k+1,h=>by
  have hk:k<ns.length:=by omega
  rw[Ydt hk,List.sum_append,<- ZcQ ns k (by omega)];simp[preSum,Yax,hk]
theorem ZbA (hc:X.calm=true):Zbg X (.builtin "sum") (fun xs H Q=>∃ (a:Addr) (ns:List Int),xs=[.ref a]/\SqL X.K H a (ns.map V.int)/\Q (.int ns.sum) H):=by
 intro pins s σ H xs us Q I r h;obtain⟨a,ns,rfl,hq,q⟩:=h;obtain⟨u,rfl,r1⟩:=Zci r;cases r1;obtain⟨its,rv,p,hz⟩:=I.list hq;refine call_sum_walkG (wpAny_pyIter_list p.isList ?_);have hlt:=(let ⟨o,n,e,_⟩:=p;Yah e:a<s.heap.objs.size)
 have hne:a≠s.heap.objs.size:=Yaz hlt;have hlen:its.toArray.size=ns.length:=by rw[Yaj,<- rv.length,Yab]
 refine⟨s.heap.objs.size,_,_,_,_,_,fun i=>ns.getD i 0,rfl,Yd6 (A:=X.A.in1) (I.ok.hd hc) _ a hne its.toArray,⟨⟨_,Yas _ rfl,rfl,rfl⟩,?_⟩,?_,?_,?_⟩
 ·obtain⟨o,n,e,c,_,d⟩:=p;exact⟨o,Yac _ e,c,n,d⟩
 ·intro b hb;rcases Yai.mp hb with z | z
  ·rw[z,Ya4];exact Ybr _
  ·have z:b=a:=by simpa using z
   rw[z,Ya4];exact YbJ hlt
 ·intro i v e;have hi:i<its.toArray.size:=(YaS.mp e).1
  obtain⟨t,q⟩:=Zfv rv hi;rw[YaL hi] at e;have e':=YaD e;rw[q] at e';exact⟨t,e'.symm⟩
 ·intro h' tk t' k;refine⟨.int ns.sum,H,I.kept (h':=h') (t':=tk) fun b o e=>k b o ?_ (Yac _ e),⟨t',?_⟩,q⟩
  ·intro hm;have:b=s.heap.objs.size:=by simpa using hm
   rw[this] at e;exact absurd (Yah e) (Ybe _)
  ·rw[hlen,ZcQ ns _ (Yag _),YaT]
end
end L2
namespace L2
open PySem PySem.Spec PyProof.Rows PySem.SeqAt
section
variable {X:Cx}
theorem Zer {ns:List Int}:∀ {us:List Value},IntsAre us ns->Vals (ns.map V.int) us:=by
 intro us h
 induction h with
 | nil=>exact .nil
 | cons=>rename_i ih;exact .cons ⟨_,rfl⟩ ih
end
end L2
namespace L2
open PySem PySem.Spec PyProof.Rows PySem.SeqAt
theorem Inv.pairOut {X:Cx}{pins:List (Addr × Obj)}{σ:St}{H:Hp}{s:Shared}{h':Heap}{fp:List Addr}{x y:V}{u v:Value}{tk:Nat} (I:Inv X pins σ H s) (hf:∀ b∈fp,FpOk X pins H b)
  (k:∀ b o,b ∉ fp->s.heap.get? b=some o->h'.get? b=some o) (ht:IsPair h' s.heap.objs.size u v) (hlf:∀ b∈fp,b<s.heap.objs.size) (hth:∀ b∈fp,∃ o,h'.get? b=some o) (rx:RelV x u) (ry:RelV y v) :
  Inv X pins σ (upd H s.heap.objs.size (.tup [x,y])) { s with heap:=h',toks:=tk }:=by
 have fresh:H s.heap.objs.size=none:=I.hok.fresh (Yag _);have nit:∀ b o,H b=some o->b ∉ fp:=fun b o q z=>by rw[(hf b z).1] at q;cases q
 have newOk:ObjOk X.prog X.w (upd H s.heap.objs.size (.tup [x,y])) h' s.heap.objs.size (.tup [x,y]):=by
  refine⟨?_,[u,v],.cons rx (.cons ry .nil),⟨_,ht,rfl,rfl,0,rfl⟩⟩;show 2<=sizeLine
  decide
 refine I.step (g':=s.gens) (d':=s.drawn) (ch:=fp) (fun b hb=>?_) (fun b o _ _ hc q _=>k b o hc q) (fun b o _ _ hc q _=>⟨o.slots,k b o hc q⟩) (fun b o _ q n=>?_) (fun b o hc q=>⟨o,k b o hc q⟩)
  (fun b xs q=>by rw[Zag (Zae q fresh)];exact q) (fun b o xs q=>by rw[Zag (Zae q fresh)];exact q) (fun b ps q=>⟨#[],by rw[Zag (Zae q fresh),q];simp⟩) (fun m hm=>?_) (fun b ob q=>?_) I.bare
 ·obtain⟨f0,f1,f2,f3,f4,f5⟩:=hf b hb;exact⟨f3,f1,f4,f5⟩
 ·rw[Zag (Yaz (Yah q))];exact n
 ·obtain⟨o,es,ep,ho,r⟩:=hm;exact⟨o,es,ep,k _ o (fun z=>(hf _ z).2.1 rfl) ho,r⟩
 ·by_cases hb:b=s.heap.objs.size
  ·subst hb;rw[Zab] at q;cases q;exact newOk
  ·rw[Zag hb] at q;refine (I.hok b ob q).stay (fun c v hc r=>k c v ?_ r) (fun c r=>by rw[Zag (Zae r fresh)];exact r) fun c xs r=>by rw[Zag (Zae r fresh)];exact r
   rcases hc with z | z
   ·rw[z];exact nit b ob q
   ·exact nit c _ z
theorem Inv.turnedAll {X:Cx}{pins:List (Addr × Obj)}{σ:St}{H:Hp}{s:Shared}{h':Heap}{fp:List Addr}{tk:Nat} (I:Inv X pins σ H s) (hf:∀ b∈fp,FpOk X pins H b) (k:∀ b o,b ∉ fp->s.heap.get? b=some o->h'.get? b=some o) :
  Inv X pins σ H { s with heap:=h',toks:=tk }:=by
 have nit:∀ b o,H b=some o->b ∉ fp:=fun b o q z=>by rw[(hf b z).1] at q;cases q
 refine I.step (g':=s.gens) (d':=s.drawn) (ch:=fp) (fun b hb=>?_) (fun b o _ _ hc q _=>k b o hc q) (fun b o _ _ hc q _=>⟨o.slots,k b o hc q⟩) (fun b o _ q n=>n) (fun b o hc q=>⟨o,k b o hc q⟩) (fun _ _ q=>q) (fun _ _ _ q=>q) (fun b ps q=>⟨#[],by rw[q];simp⟩) (fun m hm=>?_) (fun b ob q=>?_) I.bare
 ·obtain⟨f0,f1,f2,f3,f4,f5⟩:=hf b hb;exact⟨f3,f1,f4,f5⟩
 ·obtain⟨o,es,ep,ho,r⟩:=hm;exact⟨o,es,ep,k _ o (fun z=>(hf _ z).2.1 rfl) ho,r⟩
 ·refine (I.hok b ob q).stay (fun c v hc r=>k c v ?_ r) (fun _ q=>q) fun _ _ q=>q;rcases hc with z | z
  ·rw[z];exact nit b ob q
  ·exact nit c _ z
end L2
namespace L2
open PySem PySem.Spec PyProof.Rows PySem.SeqAt
section
variable {X:Cx}
theorem Zhx:OpR X (binaryOp .Mult) (rI (fun i j=>∃ m n,YaR i<=m/\YaR j<=n/\m+n<=134217728) fun i j=>.int (i*j)) :=
 opI fun _ _ _ _ _ _ _ hc q=>mul_int q (by obtain⟨m,n,h1,h2,h3⟩:=hc;exact IntMulOk.of_le h1 h2 h3)
theorem Zi8:OpR X (binaryOp .FloorDiv) (rI (fun _ j=>0<j/\YaR j<=8000) fun i j=>.int (i / j)):=opI fun i j _ _ _ _ _ hc q=>by
 have h1:(0:Int)<j:=hc.1;have h2:j.natAbs<2 ^ 8000:=intBits_le_iff.mp hc.2;refine floordiv_int (by omega) (by rw[Yec i (by omega)];exact q) (.inl (PyProof.noPylong_of_log2 ?_));have h3:j.natAbs.log2<8000:=(Nat.log2_lt (by omega)).mpr h2;omega
theorem Zhi {ns ms:List Int}:(((YaO (min ns.length ms.length)).all fun i=>ns.getD i 0 == ms.getD i 0) && (ns.length == ms.length))=decide (ns=ms):=by
 by_cases h:ns.length=ms.length
 ·rw[<- h,Nat.min_self,ZiZ h];simp
 ·rw[decide_eq_false (fun z=>h (by rw[z]))];simp[h]
def rNeT (K:Yad):R2:=fun x y H Q=>∃ (a b:Addr) (ns ms:List Int),x=.ref a/\y=.ref b/\SqT K H a (ns.map V.int)/\SqT K H b (ms.map V.int)/\Q (.bl (!decide (ns=ms))) H
theorem ZjV (hu:X.A.units<cLine):OpR X (compareOp .NotEq) (rNeT X.K):=by
 intro pins s σ H x y v u Q I rx ry h;obtain⟨a,b,ns,ms,rfl,rfl,ha,hb,q⟩:=h;cases rx;cases ry;obtain⟨its,r1,p1,_⟩:=I.tuple ha;obtain⟨its2,r2,p2,_⟩:=I.tuple hb;have l1:its.toArray.size=ns.length:=by rw[Yaj,<- r1.length,Yab]
 have l2:its2.toArray.size=ms.length:=by rw[Yaj,<- r2.length,Yab]
 refine RcNeAt.tuples (e:=fun i=>ns.getD i 0 == ms.getD i 0) (show s.heap.IsTuple a its.toArray from p1) (show s.heap.IsTuple b its2.toArray from p2) hu (fun j h1 h2=>?_) _ _ _ _ ?_
 ·obtain⟨t1,e1⟩:=Zfv r1 h1;obtain⟨t2,e2⟩:=Zfv r2 h2;rw[e1,e2];exact EqAt.int_int _ _ _ _
 ·rw[l1,l2,Zhi];exact⟨.bl _,H,I,rfl,q⟩
end
section
variable {prog:Program}{w:World}{A:Around}{E:Value->Shared->Prop}{s:Shared}
end
section
variable {X:Cx}
end
theorem Zeg {K:Yad}{own:List Str}{js:List Nat}{g:TG}{tt:TT}{te:TE}{σ:St}{H1:Hp}{Q:VK}{a:Addr}{xs:List V} (Pv:Addr->Nat->Hp->Prop) (h0:∀ acc,H1 acc=none->Pv acc 0 (upd H1 acc (.lst []))) (hl:∀ acc i H,H1 acc=none->i<=xs.length->Pv acc i H->SqT K H a xs)
  (hs:∀ acc i x H,H1 acc=none->xs[i]?=some x->Pv acc i H->g x (blkσ own js σ) H fun τ H4=>tt τ H4 fun c H5=>
   if c=true then te τ H5 fun y H6=>∃ ys,H6 acc=some (.lst ys)/\ys.length<sizeLine/\(i+1<=xs.length/\Pv acc (i+1) (upd H6 acc (.lst (ys++[y])))) else (i+1<=xs.length/\Pv acc (i+1) H5))
  (hd:∀ acc H,H1 acc=none->Pv acc xs.length H->Q (.ref acc) H):Zbh own js g tt te σ (Itt K a) H1 Q:=by
 intro acc hacc;refine⟨fun i H=>i<=xs.length/\Pv acc i H,xs.length,⟨YaP _,h0 acc hacc⟩,?_⟩;rintro i H ⟨hi,p⟩;have q:=hl acc i H hacc hi p;by_cases hlt:i<xs.length
 ·refine .inr ⟨hlt,⟨xs,xs[i],q,by simp[hlt]⟩,fun x H' y=>?_⟩;obtain⟨e,y⟩:=y;subst e;exact hs acc i x _ hacc (y xs q) p
 ·have e:i=xs.length:=by omega
  subst e;exact .inl ⟨⟨xs,q,Yag _⟩,hd acc H hacc p⟩
end L2
namespace Lv
open PySem L2
theorem Zfo {X:Cx}{x:Str}{T:String}{pos:Pos} (hg:Gl X x) (hm:X.mg x=none) (hv:bootBuiltins x=some (.type T)) (hn:x≠"__name__":=by decide) (hd:(x == ("__debug__":Str))=false:=by decide):PE X (.Name x pos) (tC (.ty T)) :=
 Zks hg hm hv rfl hn hd
theorem ZbU {X:Cx}{x:Str}{i:Int}{t:Tok}{pos:Pos} (hg:Gl X x) (hm:X.mg x=some (.int i t)) (hd:(x == ("__debug__":Str))=false:=by decide):PE X (.Name x pos) (tC (.int i)) :=
 Zfp hg hm ⟨t,rfl⟩ hd
structure Txt (mg:Str->Option Value):Prop where
 isinstance:mg "isinstance"=none
 int:mg "int"=none
 bool:mg "bool"=none
 list:mg "list"=none
 tuple:mg "tuple"=none
 min:mg "min"=none
 max:mg "max"=none
 len:mg "len"=none
 range:mg "range"=none
 all:mg "all"=none
 sum:mg "sum"=none
 sorted:mg "sorted"=none
 zip:mg "zip"=none
theorem Zay:bootBuiltins "isinstance"=some (.builtin "isinstance"):=by decide +kernel
theorem ZkX:bootBuiltins "int"=some (.type "int"):=by decide +kernel
theorem Zj7:bootBuiltins "bool"=some (.type "bool"):=by decide +kernel
theorem Zj6:bootBuiltins "list"=some (.type "list"):=by decide +kernel
theorem Zb3:bootBuiltins "tuple"=some (.type "tuple"):=by decide +kernel
theorem Zme:bootBuiltins "min"=some (.builtin "min"):=by decide +kernel
theorem Zmf:bootBuiltins "all"=some (.builtin "all"):=by decide +kernel
theorem ZiC:bootBuiltins "sum"=some (.builtin "sum"):=by decide +kernel
theorem ZcE:bootBuiltins "sorted"=some (.builtin "sorted"):=by decide +kernel
theorem Zft {K:Yad}:YbW K (.type "int") (.type "int")=some true:=by rfl
theorem ZeR {K:Yad}:YbW K (.type "int") (.type "bool")=some false:=by with_unfolding_all rfl
theorem Zbw {K:Yad}:YbW K (.type "tuple") (.type "tuple")=some true:=by rfl
theorem Zd9 {K:Yad}:YbW K (.type "list") (.type "list")=some true:=by rfl
structure Cal (P:Program) (w:World) (K:Yad) (mg:Str->Option Value) (base:Heap) (k:Nat) (x:Str) (ps:List Str) (sp:Sp) (f:Addr) (fd:FuncData):Prop where
 ok:FnOk P w K mg base CX0 k f fd ps sp
 mg:mg x=some (.ref f)
 kp:Yaq K (.ref f)=true
 bd:Binds K fd ps []
theorem ZaB {X:Cx}{k:Nat}{x:Str}{ps:List Str}{sp:Sp}{f:Addr}{fd:FuncData}{e:Expr}{es:List Expr}{t:TA}{p pos:Pos} (C:Cal X.prog X.w X.K X.mg X.base k x ps sp f fd) (hr:Room k X.A) (hg:Gl X x) (ha:PA X (e::es) t)
  (hdb:(x == ("__debug__":Str))=false:=by decide) (he:starEach (e::es) X.env=(false,eval e X.env)::starEach es X.env:=by rfl) (hpl:(backTo pos (starEach es X.env)).any (·.1)=false:=by rfl) :
  PE X (.Call (.Name x p) (e::es) [] pos) (ZiM sp [] E0 t):=Zhu C.ok hr hg C.mg C.kp C.bd .nil Zln ha hdb he hpl
theorem ZbH (K:Yad) {X:Cx} (hK:X.K=K:=by rfl):IxR X (rIxL K):=by subst hK;exact ZaT
theorem Zbp {xs:List Int}{i:Nat}{x:V} (h:(xs.map V.int)[i]?=some x):∃ p,xs[i]?=some p/\x=.int p:=by
 rw[Yal] at h
 cases e:xs[i]? with
 | none=>rw[e] at h;cases h
 | some p=>rw[e] at h;exact⟨p,rfl,(YaD h).symm⟩
theorem _root_.L2.Same.new {q:Addr}{H:Hp}{o:HO} (h:H q=none):Same H (upd H q o):=fun b u e=>by rw[Zag (Zae e h)];exact e
theorem _root_.L2.Same.put {q:Addr}{H H':Hp}{o:HO} (s:Same H H') (h:H q=none):Same H (upd H' q o):=fun b u e=>by rw[Zag (Zae e h)];exact s b u e
theorem _root_.L2.Same.tup {K:Yad}{H H':Hp}{a:Addr}{xs:List V} (e:Same H H') (h:SqT K H a xs):SqT K H' a xs:=by
 rcases h with (h | ⟨o,h⟩) | h
 ·exact .inl (.inl (e _ _ h))
 ·exact .inl (.inr ⟨o,e _ _ h⟩)
 ·exact .inr h
theorem Zj1 {n:Nat}{x:Int} (h0:0<=x) (h1:x<n):ixN n x=some x.toNat:=by
 unfold ixN;rw[if_pos h0,if_pos h1]
theorem ZiD {fs:List Int}{x:Int} (h0:0<=x) (h1:x<fs.length):atI (fs.map V.int) x=some (.int (fs.getD x.toNat 0)):=by
 unfold atI;have hx:x.toNat<fs.length:=by omega
 rw[Yab,Zj1 h0 h1];show (fs.map V.int)[x.toNat]?=_;rw[Yal,Yaa hx,Yax,Yaa hx];rfl
theorem cut1 {a R:TS}{D:Ends}{σ:St}{H:Hp} (M:St->Hp->Prop) (h1:∀ R':TS,(∀ σ' H',M σ' H'->R' D σ' H')->tSeq a R' D σ H) (h2:∀ σ' H',M σ' H'->R D σ' H'):tSeq a R D σ H:=h1 R h2
def Zcj:Sp:=fun vs H Q _=>∃ i,vs=[.int i]/\Q (.bl true) H
theorem ZbJ {m:Int} (h0:0<=m) (h1:m<2 ^ 64):YaR m<=8000:=Ybz (intBits_le_64 (by omega) h1) (by decide)
def ZbV (c:List Int):List Int:=(c.tail.map (c.getD 0 0+·))++[c.getD 0 0]
def ZeX (p:Nat):List Int:=1::Yau (p - 1) 0
def cnt (p:Nat):Nat->List Int
 | 0=>ZeX p
 | n+1=>ZbV (cnt p n)
theorem ZhF {c:List Int} (h:c≠[]):(ZbV c).length=c.length:=by
 cases c with
 | nil=>exact absurd rfl h
 | cons x r=>simp[ZbV]
theorem ZfB {p:Nat} (hp:1<=p):∀ n,(cnt p n).length=p
 | 0=>by simp[cnt,ZeX];omega
 | n+1=>by
  have:=ZfB hp n;show (ZbV (cnt p n)).length=p;rw[ZhF (by intro z;rw[z] at this;simp at this;omega),this]
def Down (c:List Int):Prop:=c.Pairwise (· ≥ ·)/\∀ x∈c,0<=x
theorem Zig {c:List Int} (h:Down c):Down (ZbV c):=by
 cases c with
 | nil=>exact⟨by simp[ZbV],by intro x hx;simp[ZbV] at hx;omega⟩
 | cons a r=>
  obtain⟨h1,h2⟩:=h;have h3:=YbQ.mp h1;have h0:0<=a:=h2 a (by simp);refine⟨?_,?_⟩
  ·show ((r.map (a+·))++[a]).Pairwise (· ≥ ·);rw[YaM];refine⟨?_,by simp,?_⟩
   ·rw[Ya9];exact h3.2.imp fun h=>by omega
   ·intro x hx y hy;obtain⟨z,hz,rfl⟩:=Ya6.mp hx;have:=h2 z (by simp[hz]);have:y=a:=by simpa using hy
    omega
  ·show ∀ x∈(r.map (a+·))++[a],0<=x;intro x hx;rcases Yan.mp hx with hx | hx
   ·obtain⟨z,hz,rfl⟩:=Ya6.mp hx;have:=h2 z (by simp[hz]);omega
   ·have:x=a:=by simpa using hx
    omega
theorem ZcD (p:Nat):∀ n,Down (cnt p n)
 | 0=>by
  refine⟨?_,?_⟩
  ·show (1::Yau (p - 1) (0:Int)).Pairwise (· ≥ ·);rw[YbQ];refine⟨fun y hy=>?_,?_⟩
   ·have:=(YcN.mp hy).2
    omega
   ·rw[List.pairwise_replicate];exact .inr (Ycv _)
  ·intro x hx;rcases Yai.mp hx with rfl | hx
   ·decide
   ·have:=(YcN.mp hx).2
    omega
 | n+1=>Zig (ZcD p n)
def Zg9:Sp:=fun vs H Q _=>∃ i,vs=[.int i]/\2<=i/\i<=7/\Q .non H
def ZiP (K:Yad):Sp:=fun vs H Q _=>∃ (a:Addr) (ns:List Int),vs=[.ref a]/\SqL K H a (ns.map V.int)/\ns.length<=63/\∀ H',Q (.bl true) H'
end Lv
namespace Lv
open PySem L2
def hd (p n:Nat):Int:=(cnt p n).getD 0 0
def tot (p n:Nat):Int:=(cnt p n).sum
theorem Zeh {p:Nat} (hp:2<=p) (n:Nat):∃ a b r,cnt p n=a::b::r/\r.length=p - 2:=by
 have h:=ZfB (p:=p) (by omega) n
 match hc:cnt p n with
 | []=>rw[hc] at h;simp at h;omega
 | [x]=>rw[hc] at h;simp at h;omega
 | a::b::r=>rw[hc] at h;exact⟨a,b,r,rfl,by simp at h;omega⟩
theorem Zgd {p:Nat} (hp:2<=p):∀ n,1<=hd p n
 | 0=>by simp[hd,cnt,ZeX]
 | n+1=>by
  obtain⟨a,b,r,e,_⟩:=Zeh hp n;have ih:=Zgd hp n;have nn:=(ZcD p n).2 b (by rw[e];simp);unfold hd at ih ⊢;show 1<=(ZbV (cnt p n)).getD 0 0;rw[e] at ih ⊢;simp[ZbV] at ih ⊢;omega
theorem Zg8 (c:Int):∀ r:List Int,(r.map (c+·)).sum=r.length*c+r.sum
 | []=>by simp
 | x::r=>by
  rw[YaK,Ybn,Zg8 c r,Ybn,Ya0,Int.natCast_succ,Int.add_mul];omega
theorem ZiN (a:Int) (r:List Int):(ZbV (a::r)).sum=(a::r).sum+r.length*a:=by
 show ((r.map (a+·))++[a]).sum=_;rw[List.sum_append,Zg8,Ybn,Ybn,List.sum_nil];omega
theorem ZfH {p:Nat} (hp:2<=p) (n:Nat):tot p (n+1)=tot p n+(p - 1:Nat)*hd p n:=by
 obtain⟨a,b,r,e,hr⟩:=Zeh hp n;unfold tot hd;show (ZbV (cnt p n)).sum=_;rw[e,ZiN];have:(b::r).length=p - 1:=by simp;omega
 rw[this];rfl
theorem ZjJ {p:Nat} (hp:2<=p) (n:Nat):tot p n+1<=tot p (n+1):=by
 rw[ZfH hp];have h1:=Zgd hp n;have h2:((1:Nat):Int)*1<=((p - 1:Nat):Int)*hd p n:=Int.mul_le_mul (by omega) h1 (by decide) (by omega);omega
theorem ZcB {p:Nat} (hp:2<=p) {m n:Nat} (h:m<=n):tot p m<=tot p n:=by
  induction n with
  | zero => have : m = 0 := by omega
            subst this;exact Ycv _
  | succ n ih=>
    by_cases e:m=n+1
    · subst e;exact Ycv _
    · have:=ih (by omega);have:=ZjJ hp n;omega
end Lv
namespace L2
open PySem PySem.Spec PyProof.Rows PySem.SeqAt
def HIt (b:Bool) (h:Heap) (it l:Addr) (i:Nat):Prop:=match b with | true=>h.IsListIter it l i | false=>h.IsTupleIter it l i
def HSq (b:Bool) (h:Heap) (l:Addr) (xs:Array Value):Prop:=match b with | true=>h.IsList l xs | false=>h.IsTuple l xs
theorem HIt.at {b:Bool}{h h':Heap}{it l:Addr}{i:Nat} (x:HIt b h it l i) (e:∀ o,h.get? it=some o->h'.get? it=some o):HIt b h' it l i:=by
 cases b
 ·exact Heap.IsTupleIter.at x e
 ·exact Heap.IsListIter.at x e
theorem HIt.ext {b:Bool}{h h':Heap}{it l c:Addr}{i:Nat} (x:HIt b h it l i) (hs:Ydk c h h') (n:it≠c):HIt b h' it l i:=x.at fun o e=>hs _ _ n e
theorem HIt.obj {b:Bool}{h:Heap}{it l:Addr}{i:Nat} (x:HIt b h it l i):∃ o,h.get? it=some o/\∀ v:Option Value,o.data≠.cell v:=by
 cases b
 ·obtain⟨o,e,_,d⟩:=x;exact⟨o,e,fun v q=>by rw[d] at q;cases q⟩
 ·obtain⟨o,e,_,d⟩:=x;exact⟨o,e,fun v q=>by rw[d] at q;cases q⟩
theorem HSq.ext {b:Bool}{h h':Heap}{l c:Addr}{xs:Array Value} (x:HSq b h l xs) (hs:Ydk c h h') (n:l≠c):HSq b h' l xs:=by
 cases b
 ·exact Heap.IsTuple.extBut x hs n
 ·exact Heap.IsList.extBut x hs n
section
variable {prog:Program}{w:World}{A:Around}{E:Value->Shared->Prop}{s:Shared}
theorem ZkA {b:Bool}{it l:Addr}{i:Nat}{items:Array Value}{x:Value}{Q:Value->Shared->Prop} (hit:HIt b s.heap it l i) (hl:HSq b s.heap l items) (hx:items[i]?=some x) (hQ:∀ h',HIt b h' it l (i+1)->Ycn it s.heap h'->Q x { s with heap:=h' }) :
  wpAny (model prog w) A (YaX (.ref it)) Q E s:=by
 cases b
 ·exact Zdu hit hl hx hQ
 ·exact wpAny_nextOf_list_item hit hl hx hQ
theorem ZeN {b:Bool}{it l:Addr}{i:Nat}{items:Array Value}{Q:Value->Shared->Prop} (hh:A.handled=none) (hit:HIt b s.heap it l i) (hl:HSq b s.heap l items) (hx:items[i]?=none)
  (hE:∀ h' e,Ydk it s.heap h'->(∃ o,h'.get? e=some o/\o.cls=.type "StopIteration")->E (.ref e) { s with heap:=h' }):wpAny (model prog w) A (YaX (.ref it)) Q E s:=by
 cases b
 ·exact Zbd hh hit hl hx hE
 ·exact wpAny_nextOf_list_end hh hit hl hx hE
theorem ZgY {b1 b2:Bool}{z TI TO i1 i2 l1 l2:Addr}{k1 k2:Nat}{xs ys:Array Value}{x y a b:Value}{Q:Value->Shared->Prop} (D:ZipApart z TI TO i1 i2 l1 l2) (hz:IsZip s.heap z TI TO .none) (hTI:IsPair s.heap TI (.ref i1) (.ref i2)) (hTO:IsPair s.heap TO a b)
  (h1:HIt b1 s.heap i1 l1 k1) (h2:HIt b2 s.heap i2 l2 k2) (hl1:HSq b1 s.heap l1 xs) (hl2:HSq b2 s.heap l2 ys) (hx:xs[k1]?=some x) (hy:ys[k2]?=some y)
  (hQ:∀ h',IsZip h' z TI TO (rawInt s.heap.objs.size)->IsPair h' TO x y->HIt b1 h' i1 l1 (k1+1)->HIt b2 h' i2 l2 (k2+1)->IsPair h' s.heap.objs.size x y->h'.objs.size=s.heap.objs.size+1 ->
   (∀ c o,c≠z->c≠TO->c≠i1->c≠i2->s.heap.get? c=some o->h'.get? c=some o)->Q (.ref s.heap.objs.size) { s with heap:=h' }) :
  wpAny (model prog w) A (Builtin.«zip.__next__» ⟨[.ref z],[]⟩) (fun fin s'=>∃ v,fin=.done (.ret v)/\Q v s') E s:=by
 refine wpAny_bind (m:=field (.ref z) 2) (wpAny_field hz rfl (x:=.bool false) rfl ?_);refine wpAny_bind (m:=field (.ref z) 3) (wpAny_field hz rfl (x:=.ref TI) rfl (wpAny_bind (wpAny_seqItems hTI rfl ?_)));refine wpAny_bind (m:=YbC (.ref z)) ?_;unfold YbC;refine wpAny_bind (wpAny_field hz rfl (x:=.none) rfl (wpAny_pure ?_));simp only[if_true];refine wpAny_bind (wpAny_rule (wpAny_bind (wpAny_field hz rfl (x:=.ref TO) rfl ?_)));refine wpAny_bind (wpAny_setField_rec hz (by simp) fun h₁ hz₁ hs₁=>?_)
 replace hz₁:IsZip h₁ z TI TO .ellipsis:=hz₁
 refine wpAny_bind ?_;simp only[YdH,List.zipIdx_nil,YdU,List.forIn_nil];refine wpAny_bind (wpAny_bind (wpAny_onRaise (wpAny_bind (m:=YaX (.ref i1)) ?_)));refine ZkA (h1.ext hs₁.extBut D.i1z) (hl1.ext hs₁.extBut D.l1z) hx fun h₂ h1₂ hs₂=>wpAny_pure ?_;have t2:IsPair h₂ TO a b:=hs₂.extBut _ _ D.TOi1 (hs₁.extBut _ _ D.TOz hTO);refine wpAny_bind (wpAny_seqItems t2 rfl (wpAny_bind (wpAny_updateSeq_pair t2 fun h₃ hTO₃ hs₃=>?_)))
 replace hTO₃:IsPair h₃ TO x b:=hTO₃
 refine wpAny_bind (wpAny_letGo (wpAny_pure (wpAny_bind (wpAny_bind (wpAny_onRaise (wpAny_bind (m:=YaX (.ref i2)) ?_))))));refine ZkA (((h2.ext hs₁.extBut D.i2z).ext hs₂.extBut D.i12.symm).ext hs₃.extBut D.TOi2.symm) (((hl2.ext hs₁.extBut D.l2z).ext hs₂.extBut D.l2i1).ext hs₃.extBut D.l2TO) hy fun h₄ h2₄ hs₄=>wpAny_pure ?_;have t4:IsPair h₄ TO x b:=hs₄.extBut _ _ D.TOi2 hTO₃;refine wpAny_bind (wpAny_seqItems t4 rfl (wpAny_bind (wpAny_updateSeq_pair t4 fun h₅ hTO₅ hs₅=>?_)))
 replace hTO₅:IsPair h₅ TO x y:=hTO₅
 refine wpAny_bind (wpAny_letGo (wpAny_pure (wpAny_pure (wpAny_bind (wpAny_seqItems hTO₅ rfl (wpAny_bind (wpAny_newTuple ?_)))))));have hsz:h₅.objs.size=s.heap.objs.size:=by rw[hs₅.1,hs₄.1,hs₃.1,hs₂.1,hs₁.1]
 have hz₅:IsZip h₅ z TI TO .ellipsis:=hs₅.extBut _ _ D.TOz.symm (hs₄.extBut _ _ D.i2z.symm (hs₃.extBut _ _ D.TOz.symm (hs₂.extBut _ _ D.i1z.symm hz₁)));have k5:∀ c o,c≠z->c≠TO->c≠i1->c≠i2->s.heap.get? c=some o->h₅.get? c=some o:=fun c o c1 c2 c3 c4 e=>hs₅.extBut _ _ c2 (hs₄.extBut _ _ c4 (hs₃.extBut _ _ c2 (hs₂.extBut _ _ c3 (hs₁.extBut _ _ c1 e))));have j1:HIt b1 h₅ i1 l1 (k1+1):=((h1₂.ext hs₃.extBut D.TOi1.symm).ext hs₄.extBut D.i12).ext hs₅.extBut D.TOi1.symm;have j2:HIt b2 h₅ i2 l2 (k2+1):=h2₄.ext hs₅.extBut D.TOi2.symm;have zlt:z<h₅.objs.size:=Yah hz₅;refine wpAny_bind (m:=YcK (.ref z) (.ref h₅.objs.size)) ?_;unfold YcK;have hz₆:IsZip (h₅.push { cls:=.type "tuple",data:=.seq #[x,y] }) z TI TO .ellipsis:=Yac _ hz₅;refine wpAny_bind (wpAny_setField_rec hz₆ (by simp) fun h₇ hz₇ hs₇=>?_)
 replace hz₇:IsZip h₇ z TI TO (rawInt h₅.objs.size):=hz₇
 refine wpAny_setField_rec hz₇ (by simp) fun h₈ hz₈ hs₈=>?_
 replace hz₈:IsZip h₈ z TI TO (rawInt h₅.objs.size):=hz₈
 have up:∀ c o,c≠z->h₅.get? c=some o->h₈.get? c=some o:=fun c o c1 e=>hs₈.extBut _ _ c1 (hs₇.extBut _ _ c1 (Yac _ e));have t8:IsPair h₈ h₅.objs.size x y:=hs₈.extBut _ _ (Yby zlt) (hs₇.extBut _ _ (Yby zlt) (Yas _ rfl));have z8:h₈.objs.size=h₅.objs.size+1:=by rw[hs₈.1,hs₇.1,Ya4]
 rw[hsz] at hz₈ t8 z8;refine wpAny_pure ⟨_,rfl,?_⟩;show Q (.ref h₅.objs.size) _;rw[hsz];exact hQ h₈ hz₈ (up _ _ D.TOz hTO₅) (j1.at fun o e=>up _ o D.i1z e) (j2.at fun o e=>up _ o D.i2z e) t8 z8 fun c o c1 c2 c3 c4 e=>up c o c1 (k5 c o c1 c2 c3 c4 e)
theorem ZiK {b1 b2:Bool}{z TI TO i1 i2 l1 l2:Addr}{k1 k2:Nat}{xs ys:Array Value}{a b:Value}{Q:Fin->Shared->Prop} (hh:A.handled=none) (D:ZipApart z TI TO i1 i2 l1 l2) (hz:IsZip s.heap z TI TO .none) (hTI:IsPair s.heap TI (.ref i1) (.ref i2)) (hTO:IsPair s.heap TO a b)
  (h1:HIt b1 s.heap i1 l1 k1) (h2:HIt b2 s.heap i2 l2 k2) (hl1:HSq b1 s.heap l1 xs) (hl2:HSq b2 s.heap l2 ys) (hend:xs[k1]?=none∨ys[k2]?=none)
  (hE:∀ h' e,(∀ c o,c≠z->c≠TO->c≠i1->c≠i2->s.heap.get? c=some o->h'.get? c=some o)->(∃ o,h'.get? e=some o/\o.cls=.type "StopIteration")->E (.ref e) { s with heap:=h' }):wpAny (model prog w) A (Builtin.«zip.__next__» ⟨[.ref z],[]⟩) Q E s:=by
 refine wpAny_bind (m:=field (.ref z) 2) (wpAny_field hz rfl (x:=.bool false) rfl ?_);refine wpAny_bind (m:=field (.ref z) 3) (wpAny_field hz rfl (x:=.ref TI) rfl (wpAny_bind (wpAny_seqItems hTI rfl ?_)));refine wpAny_bind (m:=YbC (.ref z)) ?_;unfold YbC;refine wpAny_bind (wpAny_field hz rfl (x:=.none) rfl (wpAny_pure ?_));simp only[if_true];refine wpAny_bind (wpAny_rule (wpAny_bind (wpAny_field hz rfl (x:=.ref TO) rfl ?_)));refine wpAny_bind (wpAny_setField_rec hz (by simp) fun h₁ hz₁ hs₁=>?_)
 replace hz₁:IsZip h₁ z TI TO .ellipsis:=hz₁
 refine wpAny_bind ?_;simp only[YdH,List.zipIdx_nil,YdU,List.forIn_nil];refine wpAny_bind (wpAny_bind (wpAny_onRaise (wpAny_bind (m:=YaX (.ref i1)) ?_)))
 cases hx:xs[k1]? with
 | none=>
  refine ZeN hh (h1.ext hs₁.extBut D.i1z) (hl1.ext hs₁.extBut D.l1z) hx fun h₂ e hs₂ ⟨oe,hoe,hce⟩=>?_;have hz₂:IsZip h₂ z TI TO .ellipsis:=hs₂ _ _ D.i1z.symm hz₁;have ez:e≠z:=fun x=>by subst x;rw[hz₂] at hoe;cases hoe;simp at hce
  exact wpAny_setField_rec hz₂ (by simp) fun h₃ _ hs₃=>hE h₃ e (fun c o c1 _ c3 _ x=>hs₃.extBut _ _ c1 (hs₂ _ _ c3 (hs₁.extBut _ _ c1 x))) ⟨oe,hs₃.extBut _ _ ez hoe,hce⟩
 | some x=>
  have hy:ys[k2]?=none:=hend.resolve_left (by rw[hx];simp);refine ZkA (h1.ext hs₁.extBut D.i1z) (hl1.ext hs₁.extBut D.l1z) hx fun h₂ h1₂ hs₂=>wpAny_pure ?_;have t2:IsPair h₂ TO a b:=hs₂.extBut _ _ D.TOi1 (hs₁.extBut _ _ D.TOz hTO);refine wpAny_bind (wpAny_seqItems t2 rfl (wpAny_bind (wpAny_updateSeq_pair t2 fun h₃ hTO₃ hs₃=>?_)));refine wpAny_bind (wpAny_letGo (wpAny_pure (wpAny_bind (wpAny_bind (wpAny_onRaise (wpAny_bind (m:=YaX (.ref i2)) ?_))))));refine ZeN hh (((h2.ext hs₁.extBut D.i2z).ext hs₂.extBut D.i12.symm).ext hs₃.extBut D.TOi2.symm) (((hl2.ext hs₁.extBut D.l2z).ext hs₂.extBut D.l2i1).ext hs₃.extBut D.l2TO) hy fun h₄ e hs₄ ⟨oe,hoe,hce⟩=>?_;have hz₄:IsZip h₄ z TI TO .ellipsis:=hs₄ _ _ D.i2z.symm (hs₃.extBut _ _ D.TOz.symm (hs₂.extBut _ _ D.i1z.symm hz₁));have ez:e≠z:=fun x=>by subst x;rw[hz₄] at hoe;cases hoe;simp at hce
  exact wpAny_setField_rec hz₄ (by simp) fun h₅ _ hs₅=>hE h₅ e (fun c o c1 c2 c3 c4 x=>hs₅.extBut _ _ c1 (hs₄ _ _ c4 (hs₃.extBut _ _ c2 (hs₂.extBut _ _ c3 (hs₁.extBut _ _ c1 x))))) ⟨oe,hs₅.extBut _ _ ez hoe,hce⟩
theorem ZeG {b1 b2:Bool}{z TI TO i1 i2 l1 l2:Addr}{k1 k2:Nat}{xs ys:Array Value}{x y a b:Value}{Q:Option Value->Shared->Prop} (D:ZipApart z TI TO i1 i2 l1 l2) (hz:IsZip s.heap z TI TO .none) (hTI:IsPair s.heap TI (.ref i1) (.ref i2)) (hTO:IsPair s.heap TO a b)
  (h1:HIt b1 s.heap i1 l1 k1) (h2:HIt b2 s.heap i2 l2 k2) (hl1:HSq b1 s.heap l1 xs) (hl2:HSq b2 s.heap l2 ys) (hx:xs[k1]?=some x) (hy:ys[k2]?=some y)
  (hQ:∀ h',IsZip h' z TI TO (rawInt s.heap.objs.size)->IsPair h' TO x y->HIt b1 h' i1 l1 (k1+1)->HIt b2 h' i2 l2 (k2+1)->IsPair h' s.heap.objs.size x y->h'.objs.size=s.heap.objs.size+1 ->
   (∀ c o,c≠z->c≠TO->c≠i1->c≠i2->s.heap.get? c=some o->h'.get? c=some o)->Q (some (.ref s.heap.objs.size)) { s with heap:=h' }):wpAny (model prog w) A (pyNext (.ref z)) Q E s:=by
 have hT:s.TypeIs (.ref z) "zip":=⟨_,hz,rfl⟩
 unfold pyNext;exact wpAny_bind (wpAny_attempt (wpAny_callSpecial?_slot (name:=Yb8 "__next__") hT F.slot_zip_next (wpAny_call_entry F.slot_zip_next hT F.entry_zip_next (ZgY D hz hTI hTO h1 h2 hl1 hl2 hx hy fun h' a1 a2 a3 a4 a5 a6 a7=>wpAny_pure (hQ h' a1 a2 a3 a4 a5 a6 a7)) (F.args_zip_next_1 _))))
theorem Zfk {b1 b2:Bool}{z TI TO i1 i2 l1 l2:Addr}{k1 k2:Nat}{xs ys:Array Value}{a b:Value}{Q:Option Value->Shared->Prop} (hh:A.handled=none) (D:ZipApart z TI TO i1 i2 l1 l2) (hz:IsZip s.heap z TI TO .none) (hTI:IsPair s.heap TI (.ref i1) (.ref i2)) (hTO:IsPair s.heap TO a b)
  (h1:HIt b1 s.heap i1 l1 k1) (h2:HIt b2 s.heap i2 l2 k2) (hl1:HSq b1 s.heap l1 xs) (hl2:HSq b2 s.heap l2 ys) (hend:xs[k1]?=none∨ys[k2]?=none)
  (hQ:∀ h',(∀ c o,c≠z->c≠TO->c≠i1->c≠i2->s.heap.get? c=some o->h'.get? c=some o)->Q none { s with heap:=h' }):wpAny (model prog w) A (pyNext (.ref z)) Q E s:=by
 have hT:s.TypeIs (.ref z) "zip":=⟨_,hz,rfl⟩
 unfold pyNext;refine wpAny_bind (wpAny_attempt (wpAny_callSpecial?_slot (name:=Yb8 "__next__") hT F.slot_zip_next (wpAny_call_entry F.slot_zip_next hT F.entry_zip_next (ZiK hh D hz hTI hTO h1 h2 hl1 hl2 hend fun h' e hk ⟨o,ho,hc⟩=>?_) (F.args_zip_next_1 _))));exact wpAny_bind (wpAny_isInstance (T:="StopIteration") (b:=true) ⟨o,ho,hc⟩ isSubtype_stop (wpAny_pure (hQ _ hk)))
def ZkH (b:Bool):String:=match b with | true=>"list_iterator" | false=>"tuple_iterator"
def zB1 (b1:Bool) (h:Heap) (l1:Addr):Heap:=h.push { cls:=.type (ZkH b1),data:=.fields #[.ref l1,.int 0 0] }
def zB2 (b1 b2:Bool) (h:Heap) (l1 l2:Addr):Heap:=(zB1 b1 h l1).push { cls:=.type (ZkH b2),data:=.fields #[.ref l2,.int 0 0] }
def zB3 (b1 b2:Bool) (h:Heap) (l1 l2:Addr):Heap:=(zB2 b1 b2 h l1 l2).push { cls:=.type "tuple",data:=.seq #[.ref h.objs.size,.ref (zB1 b1 h l1).objs.size] }
def zB4 (b1 b2:Bool) (h:Heap) (l1 l2:Addr):Heap:=(zB3 b1 b2 h l1 l2).push { cls:=.type "tuple",data:=.seq #[.none,.none] }
def zB5 (b1 b2:Bool) (h:Heap) (l1 l2:Addr):Heap:=(zB4 b1 b2 h l1 l2).push { cls:=.type "zip",data:=.fields #[.none,.bool false,.bool false,.ref (zB2 b1 b2 h l1 l2).objs.size,.ref (zB3 b1 b2 h l1 l2).objs.size] }
theorem ZiJ (b1 b2:Bool) (l1 l2:Addr) (xs ys:Array Value) :
  Meets (Builtin.«zip.__new__» ⟨[.type "zip",.ref l1,.ref l2],[]⟩) (fun _ R s=>HSq b1 s.heap l1 xs/\HSq b2 s.heap l2 ys/\R (.ok (.ret (.ref (zB4 b1 b2 s.heap l1 l2).objs.size))) { s with heap:=zB5 b1 b2 s.heap l1 l2 }) :=
 .of_wp fun prog w A R s h=>by
  obtain⟨hp,g,d,tk,os⟩:=s;obtain⟨hl1,hl2,h⟩:=h;have hsub:=sub_zip;cases b1 <;> cases b2
  ·have p1:Yc8 (Ycg ⟨hp,g,d,tk,os⟩) l1 xs:=hl1;have p2:Yc8 (Ycg ⟨hp.push { cls:=.type "tuple_iterator",data:=.fields #[.ref l1,.int 0 0] },g,d,tk,os⟩) l2 ys:=Yed hl2 _
   wp_walk using wpAny_pyIter_tuple p1,wpAny_pyIter_tuple p2
   exact⟨_,rfl,h⟩
  ·have p1:Yc8 (Ycg ⟨hp,g,d,tk,os⟩) l1 xs:=hl1;have p2:YdW (Ycg ⟨hp.push { cls:=.type "tuple_iterator",data:=.fields #[.ref l1,.int 0 0] },g,d,tk,os⟩) l2 ys:=Yeq hl2 _
   wp_walk using wpAny_pyIter_tuple p1,wpAny_pyIter_list p2
   exact⟨_,rfl,h⟩
  ·have p1:YdW (Ycg ⟨hp,g,d,tk,os⟩) l1 xs:=hl1;have p2:Yc8 (Ycg ⟨hp.push { cls:=.type "list_iterator",data:=.fields #[.ref l1,.int 0 0] },g,d,tk,os⟩) l2 ys:=Yed hl2 _
   wp_walk using wpAny_pyIter_list p1,wpAny_pyIter_tuple p2
   exact⟨_,rfl,h⟩
  ·have p1:YdW (Ycg ⟨hp,g,d,tk,os⟩) l1 xs:=hl1;have p2:YdW (Ycg ⟨hp.push { cls:=.type "list_iterator",data:=.fields #[.ref l1,.int 0 0] },g,d,tk,os⟩) l2 ys:=Yeq hl2 _
   wp_walk using wpAny_pyIter_list p1,wpAny_pyIter_list p2
   exact⟨_,rfl,h⟩
theorem HIt.made {b:Bool}{h:Heap}{it l:Addr} (e:h.get? it=some { cls:=.type (ZkH b),data:=.fields #[.ref l,.int 0 0] }):HIt b h it l 0:=by
 cases b
 ·exact⟨_,e,rfl,rfl⟩
 ·exact⟨_,e,rfl,rfl⟩
theorem Ziv {b1 b2:Bool}{l1 l2:Addr}{xs ys:Array Value}{Q:Value->Shared->Prop} (hl1:HSq b1 s.heap l1 xs) (hl2:HSq b2 s.heap l2 ys)
  (h:∀ h',IsZip h' (s.heap.objs.size+4) (s.heap.objs.size+2) (s.heap.objs.size+3) .none->IsPair h' (s.heap.objs.size+2) (.ref s.heap.objs.size) (.ref (s.heap.objs.size+1))->IsPair h' (s.heap.objs.size+3) .none .none ->
   HIt b1 h' s.heap.objs.size l1 0->HIt b2 h' (s.heap.objs.size+1) l2 0->(∀ c o,s.heap.get? c=some o->h'.get? c=some o)->Q (.ref (s.heap.objs.size+4)) { s with heap:=h' }):wpAny (model prog w) A (call (.type "zip") [.ref l1,.ref l2]) Q E s:=by
 refine callType_new F.called_zip (by decide) (F.typeCall_zip_2 _ _) (F.newCall_zip_2 _ _) (fun obj=>F.args_object_init_3 obj _ _) F.entry_zip_new (ZiJ b1 b2 l1 l2 xs ys) ⟨hl1,hl2,?_⟩;have z1:(zB1 b1 s.heap l1).objs.size=s.heap.objs.size+1:=Ya4 ..;have z2:(zB2 b1 b2 s.heap l1 l2).objs.size=s.heap.objs.size+2:=by unfold zB2;rw[Ya4,z1]
 have z3:(zB3 b1 b2 s.heap l1 l2).objs.size=s.heap.objs.size+3:=by unfold zB3;rw[Ya4,z2]
 have z4:(zB4 b1 b2 s.heap l1 l2).objs.size=s.heap.objs.size+4:=by unfold zB4;rw[Ya4,z3]
 have g5:(zB5 b1 b2 s.heap l1 l2).get? (zB4 b1 b2 s.heap l1 l2).objs.size=some _:=Yas _ rfl;have g4:(zB5 b1 b2 s.heap l1 l2).get? (zB3 b1 b2 s.heap l1 l2).objs.size=some _:=Yac _ (Yas _ rfl);have g3:(zB5 b1 b2 s.heap l1 l2).get? (zB2 b1 b2 s.heap l1 l2).objs.size=some _:=Yac _ (Yac _ (Yas _ rfl));have g2:(zB5 b1 b2 s.heap l1 l2).get? (zB1 b1 s.heap l1).objs.size=some _:=Yac _ (Yac _ (Yac _ (Yas _ rfl)));have g1:(zB5 b1 b2 s.heap l1 l2).get? s.heap.objs.size=some _:=Yac _ (Yac _ (Yac _ (Yac _ (Yas _ rfl))));show _/\_;rw[z2,z3,z4] at g5;rw[z1,z2] at g3;rw[z3] at g4;rw[z1] at g2;rw[z4];exact⟨⟨_,g5,rfl⟩,h _ g5 g3 g4 (HIt.made g1) (HIt.made g2) fun c o x=>Yac _ (Yac _ (Yac _ (Yac _ (Yac _ x))))⟩
end
theorem SqB.heap {X:Cx}{b:Bool}{pins:List (Addr × Obj)}{σ:St}{H:Hp}{s:Shared}{a:Addr}{xs:List V} (I:Inv X pins σ H s) (h:SqB b X.K H a xs):∃ its:List Value,Vals xs its/\HSq b s.heap a its.toArray:=by
 cases b
 ·obtain⟨its,r,p,_⟩:=I.tuple h;exact⟨its,r,p⟩
 ·obtain⟨its,r,p,_⟩:=I.list h;exact⟨its,r,p.isList⟩
theorem HSq.lt {b:Bool}{h:Heap}{l:Addr}{xs:Array Value} (x:HSq b h l xs):l<h.objs.size:=by
 cases b
 ·obtain⟨o,e,_⟩:=x;exact Yah e
 ·obtain⟨o,e,_⟩:=x;exact Yah e
theorem SqB.inj {X:Cx}{b:Bool}{pins:List (Addr × Obj)}{σ:St}{H:Hp}{s:Shared}{a:Addr}{xs ys:List V} (I:Inv X pins σ H s) (h:SqB b X.K H a xs) (g:SqB b X.K H a ys):xs=ys:=by
 cases b
 ·exact I.tuple_inj h g
 ·exact I.list_inj h g
def ItzB (b1 b2:Bool) (K:Yad) (a b:Addr):It :=
  ⟨fun i H=>∃ xs ys x y,SqB b1 K H a xs/\SqB b2 K H b ys/\xs[i]?=some x/\ys[i]?=some y,
   fun i H z H'=>∃ p x y,H p=none/\z=.ref p/\H'=upd H p (.tup [x,y])/\(∀ xs,SqB b1 K H a xs->xs[i]?=some x)/\∀ ys,SqB b2 K H b ys->ys[i]?=some y,
   fun i H=>∃ xs ys,SqB b1 K H a xs/\SqB b2 K H b ys/\(xs.length<=i∨ys.length<=i)⟩
end L2
namespace L2
open PySem PySem.Spec PyProof.Rows PySem.SeqAt
def ZjE (b1 b2:Bool) (z TI TO i1 i2 l1 l2:Addr) (i:Nat) (h:Heap):Prop:=IsZip h z TI TO .none/\IsPair h TI (.ref i1) (.ref i2)/\(∃ a b,IsPair h TO a b)/\HIt b1 h i1 l1 i/\HIt b2 h i2 l2 i
theorem Zg0 {P:Program}{w:World}{K:Yad}{es:List Expr}{x1}{pos:Pos}{b1 b2:Bool}{z TI TO i1 i2 l1 l2:Addr} (D:ZipApart z TI TO i1 i2 l1 l2):Turn P w K (.Tuple es x1 pos) (ItzB b1 b2 K l1 l2) [z,TI,TO,i1,i2] z (ZjE b1 b2 z TI TO i1 i2 l1 l2) where
 mem:=by simp
 obj:=fun i h st b hb=>by
  obtain⟨h1,h2,⟨a,c,h3⟩,h4,h5⟩:=st;simp only[Yai,YaZ,or_false] at hb;rcases hb with rfl | rfl | rfl | rfl | rfl
  ·exact⟨_,h1,fun v q=>nomatch q⟩
  ·exact⟨_,h2,fun v q=>nomatch q⟩
  ·exact⟨_,h3,fun v q=>nomatch q⟩
  ·exact h4.obj
  ·exact h5.obj
 keep:=fun i h h' st k=>by
  obtain⟨h1,h2,⟨a,c,h3⟩,h4,h5⟩:=st;exact⟨k z (by simp) _ h1,k TI (by simp) _ h2,⟨a,c,k TO (by simp) _ h3⟩,h4.at fun o q=>k i1 (by simp) o q,h5.at fun o q=>k i2 (by simp) o q⟩
 item:=by
  intro X hP hw hK hc i pins s σ H E I hf st hg;subst hP hw hK;obtain⟨xs,ys,x,y,hq1,hq2,hx,hy⟩:=hg;obtain⟨its,rv,p⟩:=hq1.heap I;obtain⟨its2,rv2,p2⟩:=hq2.heap I;obtain⟨u,hu,ru⟩:=rv.get hx;obtain⟨u2,hu2,ru2⟩:=rv2.get hy;obtain⟨s1,s2,⟨a,c,s3⟩,s4,s5⟩:=id st;refine ZeG D s1 s2 s3 s4 s5 p p2 (x:=u) (y:=u2) (by simpa using hu) (by simpa using hu2) fun h' g1 g2 g3 g4 g5 g6 hk=>?_;refine⟨_,rfl,?_⟩;refine wpAny_letOwnedTupleGo_zip g1 fun h'' he hs=>?_;have live:∀ b∈[z,TI,TO,i1,i2],b<s.heap.objs.size:=fun b hb=>by
   obtain⟨h1,h2,⟨a,c,h3⟩,h4,h5⟩:=st;obtain⟨o4,e4,_⟩:=h4.obj;obtain⟨o5,e5,_⟩:=h5.obj;simp only[Yai,YaZ,or_false] at hb;rcases hb with rfl | rfl | rfl | rfl | rfl
   ·exact Yah h1
   ·exact Yah h2
   ·exact Yah h3
   ·exact Yah e4
   ·exact Yah e5
  have hsz:s.heap.objs.size≠z:=Yby (live z (by simp));have k:∀ b o,b ∉ [z,TI,TO,i1,i2]->s.heap.get? b=some o->h''.get? b=some o:=fun b o hb q=>by
   simp only[Yai,YaZ,or_false,not_or] at hb;exact (hs.2 b hb.1).trans (hk b o hb.1 hb.2.2.1 hb.2.2.2.1 hb.2.2.2.2 q)
  have st':ZjE b1 b2 z TI TO i1 i2 l1 l2 (i+1) h'':=by
   refine⟨he,(hs.2 TI D.TIz).trans (hk TI _ D.TIz D.TITO D.TIi1 D.TIi2 s2),⟨u,u2,(hs.2 TO D.TOz).trans g2⟩,?_,?_⟩
   ·exact g3.ext hs.extBut D.i1z
   ·exact g4.ext hs.extBut D.i2z
  have th:∀ b∈[z,TI,TO,i1,i2],∃ o,h''.get? b=some o:=fun b hb=>by
   obtain⟨h1,h2,⟨a,c,h3⟩,h4,h5⟩:=st';obtain⟨o4,e4,_⟩:=h4.obj;obtain⟨o5,e5,_⟩:=h5.obj;simp only[Yai,YaZ,or_false] at hb;rcases hb with rfl | rfl | rfl | rfl | rfl
   ·exact⟨_,h1⟩
   ·exact⟨_,h2⟩
   ·exact⟨_,h3⟩
   ·exact⟨_,e4⟩
   ·exact⟨_,e5⟩
  have fresh:H s.heap.objs.size=none:=I.hok.fresh (Yag _);refine⟨.ref s.heap.objs.size,_,I.pairOut (fp:=[z,TI,TO,i1,i2]) (tk:=s.toks) hf k ((hs.2 _ hsz).trans g5) live th ru ru2,rfl,⟨s.heap.objs.size,x,y,fresh,rfl,rfl,fun ys hy=>by rw[hy.inj I hq1];exact hx,fun zs hz=>by rw[hz.inj I hq2];exact hy⟩,st',fun b hb=>?_⟩;rw[Zag (Yaz (live b hb))];exact (hf b hb).1
 done:=by
  intro X hP hw hK hc i pins s σ H E I hf st hg;subst hP hw hK;obtain⟨xs,ys,hq1,hq2,hx⟩:=hg;obtain⟨its,rv,p⟩:=hq1.heap I;obtain⟨its2,rv2,p2⟩:=hq2.heap I;obtain⟨s1,s2,⟨a,c,s3⟩,s4,s5⟩:=st;have e1:=rv.length;have e2:=rv2.length;refine Zfk (I.ok.hd hc) D s1 s2 s3 s4 s5 p p2 (by rcases hx with q | q;exact .inl (by simp;omega);exact .inr (by simp;omega)) fun h' hk=>⟨rfl,I.turnedAll (fp:=[z,TI,TO,i1,i2]) (tk:=s.toks) hf fun b o hb q=>?_⟩
  simp only[Yai,YaZ,or_false,not_or] at hb;exact hk b o hb.1 hb.2.2.1 hb.2.2.2.1 hb.2.2.2.2 q
 self:=fun _ _ _ _ _ st h=>wpAny_pyIter_zip st.1 h
def Zl9 (K:Yad) (ta:TA):TI:=fun σ H R=>ta σ H fun vs H1=>∃ b1 b2 a b,vs=[.ref a,.ref b]/\(∃ xs,SqB b1 K H1 a xs)/\(∃ ys,SqB b2 K H1 b ys)/\R (ItzB b1 b2 K a b) H1
theorem Zfn {X:Cx}{es:List Expr}{x1}{tpos:Pos}{e f:Expr}{ta:TA}{p pos:Pos} (hg:Gl X "zip") (hm:X.mg "zip"=none) (ha:PA X [e,f] ta) (hs:starEach [e,f] X.env=[(false,eval e X.env),(false,eval f X.env)]:=by rfl) (hs2:starEach [f] X.env=[(false,eval f X.env)]:=by rfl) :
  PI X (.Tuple es x1 tpos) (.Call (.Name "zip" p) [e,f] [] pos) (Zl9 X.K ta):=by
 intro pins s σ H R I h;refine Call_ (Zdw I hg hm (show bootBuiltins "zip"=some (.type "zip") by decide +kernel) (YbX (thn (ha pos pins s σ H _ I h) fun us s1 ⟨vs,H1,I1,r1,q1⟩=>?_) (by rw[hs,hs2]) (by rw[hs2];rfl)));obtain⟨b1,b2,a,b,e1,⟨xs,hq⟩,⟨ys,hq2⟩,q⟩:=q1;subst e1;obtain⟨u,u2,rfl,r,r2⟩:=ZiL r1;cases r;cases r2;obtain⟨its,rv,pl⟩:=hq.heap I1;obtain⟨its2,rv2,pl2⟩:=hq2.heap I1;have la:=pl.lt;have lb:=pl2.lt;have ne:∀ {i j:Nat},i≠j->s1.heap.objs.size+i≠s1.heap.objs.size+j:=fun h z=>h (Nat.add_left_cancel z);have nl:∀ {c:Addr} (i:Nat),c<s1.heap.objs.size->c≠s1.heap.objs.size+i:=fun i h=>Yaz (Yap h (Yc0 _ _));refine Ziv pl pl2 fun h' g1 g2 g3 g4 g5 k=>wpAny_pyIter_zip g1 ?_;have D:ZipApart (s1.heap.objs.size+4) (s1.heap.objs.size+2) (s1.heap.objs.size+3) (s1.heap.objs.size+0) (s1.heap.objs.size+1) a b :=
  ⟨ne (by decide),ne (by decide),ne (by decide),ne (by decide),ne (by decide),ne (by decide),ne (by decide),ne (by decide),ne (by decide),ne (by decide),nl 4 la,nl 3 la,nl 0 la,nl 1 la,nl 4 lb,nl 3 lb,nl 0 lb,nl 1 lb⟩
 refine⟨s1.heap.objs.size+4,[s1.heap.objs.size+4,s1.heap.objs.size+2,s1.heap.objs.size+3,s1.heap.objs.size+0,s1.heap.objs.size+1],_,_,H1,rfl,I1.kept (t':=s1.toks) k,Zg0 D,⟨g1,g2,⟨_,_,g3⟩,g4,g5⟩,fun c hc=>?_,q⟩;have ge:s1.heap.objs.size<=c:=by
  simp only[Yai,YaZ,or_false] at hc;rcases hc with rfl | rfl | rfl | rfl | rfl <;> exact Yc0 _ _
 exact I1.fpOk ge (I1.hok.fresh ge)
theorem Zjz {b1 b2:Bool}{K:Yad}{own:List Str}{js:List Nat}{g:TG}{tt:TT}{te:TE}{σ:St}{H1:Hp}{Q:VK}{a b:Addr}{xs ys:List V} (hlen:xs.length<=ys.length) (Pv:Addr->Nat->Hp->Prop) (h0:∀ acc,H1 acc=none->Pv acc 0 (upd H1 acc (.lst [])))
  (hl:∀ acc i H,H1 acc=none->i<=xs.length->Pv acc i H->SqB b1 K H a xs/\SqB b2 K H b ys)
  (hs:∀ acc i x y p H,H1 acc=none->xs[i]?=some x->ys[i]?=some y->Pv acc i H->H p=none->g (.ref p) (blkσ own js σ) (upd H p (.tup [x,y])) fun τ H4=>tt τ H4 fun c H5=>
   if c=true then te τ H5 fun y H6=>∃ ys,H6 acc=some (.lst ys)/\ys.length<sizeLine/\(i+1<=xs.length/\Pv acc (i+1) (upd H6 acc (.lst (ys++[y])))) else (i+1<=xs.length/\Pv acc (i+1) H5))
  (hd:∀ acc H,H1 acc=none->Pv acc xs.length H->Q (.ref acc) H):Zbh own js g tt te σ (ItzB b1 b2 K a b) H1 Q:=by
 intro acc hacc;refine⟨fun i H=>i<=xs.length/\Pv acc i H,xs.length,⟨YaP _,h0 acc hacc⟩,?_⟩;rintro i H ⟨hi,p⟩;obtain⟨q1,q2⟩:=hl acc i H hacc hi p;by_cases hlt:i<xs.length
 ·have hl2:i<ys.length:=by omega
  refine .inr ⟨hlt,⟨xs,ys,xs[i],ys[i],q1,q2,by simp[hlt],by simp[hl2]⟩,fun x H' y=>?_⟩;obtain⟨pa,z1,z2,hp,e1,e2,y1,y2⟩:=y;subst e1 e2;exact hs acc i z1 z2 pa H hacc (y1 xs q1) (y2 ys q2) p hp
 ·have e:i=xs.length:=by omega
  subst e;exact .inl ⟨⟨xs,ys,q1,q2,.inl (Yag _)⟩,hd acc H hacc p⟩
end L2
namespace Lv
open PySem L2
theorem ZbT (K:Yad) {X:Cx}{es:List Expr}{k:Nat}{t:TGs}{n:Nat}{pos:Pos} (hc:X.calm=true) (h:PGs X es t) (hK:X.K=K:=by rfl) (hn:(assignEach es X.env).length=n:=by rfl) (hst:(assignEach es X.env).findIdx? (·.1)=none:=by rfl):PG X (.Tuple es k pos) (gTup K n t):=by
 subst hK;exact ZcS hc h hn hst
end Lv
namespace L2
open PySem PySem.Spec PyProof.Rows PySem.SeqAt
theorem Zi9 (K:Yad) {X:Cx} (hK:X.K=K:=by rfl):OpR X (binaryOp .Add) (Zlg K):=by subst hK;exact Zkw
theorem Ze4 (K:Yad) {X:Cx} (hK:X.K=K:=by rfl):Zbg X (.builtin "len") (fun xs H Q=>∃ p ys,xs=[.ref p]/\(SqL K H p ys∨SqT K H p ys)/\Q (.int ys.length) H):=by subst hK;exact Zao
theorem CompOk.bare {X:Cx}{scope:Scope}{own:List Str} (h:((scope.kind == .function) && scope.names.all fun y=>(y.2 != .cell) && (y.2 != .free) && ((y.2 != .local) || (scope.names.lookup y.1 == some .local)))=true):CompOk X scope own []:=by
 simp only[Ybx,beq_iff_eq,YbZ,YdY,bne_iff_ne,ne_eq] at h;obtain⟨h1,h2⟩:=h;refine⟨h1,fun y hy=>(h2 y hy).1.1,fun y hy hf=>absurd hf (h2 y hy).1.2,fun y hy hl=>?_,fun j hj=>by cases hj⟩;rcases (h2 y hy).2 with z | z
 ·exact absurd hl z
 ·exact z
section
variable {X:Cx}
def LLs (H:Hp) (rs:List Addr) (N:List (List Int)):Prop:=rs.length=N.length/\∀ (j:Nat) r xs,rs[j]?=some r->N[j]?=some xs->H r=some (.lst (xs.map V.int))
def TTs (H:Hp) (rs:List Addr) (N:List (List Int)):Prop:=rs.length=N.length/\∀ (j:Nat) r xs,rs[j]?=some r->N[j]?=some xs->H r=some (.tup (xs.map V.int))
theorem LLs.same {H H':Hp}{rs:List Addr}{N:List (List Int)} (h:LLs H rs N) (s:Same H H'):LLs H' rs N:=⟨h.1,fun j r xs a b=>s _ _ (h.2 j r xs a b)⟩
theorem TTs.same {H H':Hp}{rs:List Addr}{N:List (List Int)} (h:TTs H rs N) (s:Same H H'):TTs H' rs N:=⟨h.1,fun j r xs a b=>s _ _ (h.2 j r xs a b)⟩
theorem TTs.lst {H:Hp}{rs:List Addr}{N:List (List Int)}{acc:Addr}{ys zs:List V} (h:TTs H rs N) (e:H acc=some (.lst zs)):TTs (upd H acc (.lst ys)) rs N:=⟨h.1,fun j r xs a b=>by
 have:=h.2 j r xs a b;rw[Zag (by intro z;subst z;rw[e] at this;cases this)];exact this⟩
theorem ZdU {α:Type}{xs:List α}{x y:α}{j:Nat} (h:(xs++[x])[j]?=some y):xs[j]?=some y∨(j=xs.length/\y=x):=by
 by_cases hj:j<xs.length
 ·rw[Ya3 hj] at h;exact .inl h
 ·rw[Ya1 (by omega)] at h;have:j - xs.length=0:=by
   cases e:j - xs.length with
   | zero=>rfl
   | succ m=>rw[e] at h;simp at h
  rw[this] at h;exact .inr ⟨by omega,by simpa using h.symm⟩
theorem TTs.snoc {H:Hp}{rs:List Addr}{N:List (List Int)}{r:Addr}{x:List Int} (h:TTs H rs N) (e:H r=some (.tup (x.map V.int))):TTs H (rs++[r]) (N++[x]):=⟨by simp[h.1],fun j r' xs a b=>by
 rcases ZdU a with a | ⟨a,rfl⟩
 ·rcases ZdU b with b | ⟨b,_⟩
  ·exact h.2 j r' xs a b
  ·have:=(Yae.mp a).1;have:=h.1;omega
 ·rcases ZdU b with b | ⟨_,rfl⟩
  ·have:=(Yae.mp b).1;have:=h.1;omega
  ·exact e⟩
theorem Zcg (n:Nat):((YaO n).all fun _=>true)=true:=by simp
end
end L2
namespace Lv
open PySem L2
def fstN (N:List (List Int)):List Int:=(N.headD []).map (·+1)
def Zfs (N:List (List Int)):List (List Int):=(N.tail.map (fstN N++·))++[fstN N]
def num0 (p:Nat):List (List Int):=[0]::Yau (p - 1) []
def num (p:Nat):Nat->List (List Int)
 | 0=>num0 p
 | n+1=>Zfs (num p n)
def lens (N:List (List Int)):List Int:=N.map fun l=>(l.length:Int)
theorem ZhT (N:List (List Int)):lens (Zfs N)=ZbV (lens N):=by
 cases N with
 | nil=>simp[lens,Zfs,ZbV,fstN]
 | cons a r=>
  simp[lens,Zfs,ZbV,fstN,Function.comp_def]
theorem Zcd (p:Nat):∀ n,lens (num p n)=cnt p n
 | 0=>by simp[lens,num,num0,cnt,ZeX]
 | n+1=>by
  show lens (Zfs (num p n))=ZbV (cnt p n);rw[ZhT,Zcd p n]
theorem Zcr {p:Nat} (hp:1<=p) (n:Nat):(num p n).length=p:=by
 have:=congrArg Ydj (Zcd p n);rw[ZfB hp] at this;simpa[lens] using this
theorem ZjZ {c:List Int} (h:∀ x∈c,0<=x) {x:Int} (hx:x∈c):x<=c.sum:=by
 induction c with
 | nil=>cases hx
 | cons a r ih=>
  have nn:∀ l:List Int,(∀ x∈l,0<=x)->0<=l.sum:=by
   intro l
   induction l with
   | nil=>intro _;simp
   | cons x y ih=>
    intro h;rw[Ybn];have:=h x (by simp);have:=ih fun z hz=>h z (by simp[hz]);omega
  rw[Ybn];have ha:=h a (by simp);have hr:∀ x∈r,0<=x:=fun x hx=>h x (by simp[hx]);rcases Yai.mp hx with rfl | hx
  ·have:=nn r hr;omega
  ·have:=ih hr hx;omega
theorem ZeM {p n:Nat}{xs:List Int} (h:xs∈num p n):(xs.length:Int)<=tot p n:=by
 refine ZjZ (ZcD p n).2 ?_;rw[<- Zcd p n];exact Ya6.mpr ⟨xs,h,rfl⟩
theorem Zji {p:Nat} (hp:2<=p) (n:Nat):∃ a r,num p n=a::r/\a≠[]/\r.length=p - 1:=by
 have h:=Zcr (p:=p) (by omega) n
 cases e:num p n with
 | nil=>rw[e] at h;simp at h;omega
 | cons a r=>
  rw[e] at h;refine⟨a,r,rfl,?_,by simp at h;omega⟩;rintro rfl;have h1:=Zgd hp n;unfold hd at h1;rw[<- Zcd p n,e] at h1;simp[lens] at h1
theorem Zbu {n:Nat} (h:n<=8000):n<sizeLine:=Ycq h (by decide)
theorem ZlL {p:Nat} (hp:2<=p) (h7:p<=7):4000<tot p 20:=by
 have:p=2∨p=3∨p=4∨p=5∨p=6∨p=7:=by omega
 rcases this with rfl | rfl | rfl | rfl | rfl | rfl <;> decide +kernel
theorem Zl6 {p n:Nat} (hp:2<=p) (h7:p<=7) (h:tot p n<=4000):n<=19:=by
 refine Classical.byContradiction fun z=>?_;have:=ZcB hp (show 20<=n by omega);have:=ZlL hp h7;omega
def ZdO:Sp:=fun vs H Q _=>∃ (a:Addr) (rs:List Addr) (N:List (List Int)),vs=[.ref a]/\H a=some (.tup (rs.map V.ref))/\TTs H rs N/\2<=N.length/\N.length<=7/\N.headD []≠[]/\(∀ xs∈N,xs.length<=4000) /\
 ∀ l qs H',H l=none->H' l=some (.tup (qs.map V.ref))->TTs H' qs (Zfs N)->Same H H'->Q (.ref l) H'
theorem Zhg {α:Type}{n j:Nat}{x y:α} (h:(Yau n x)[j]?=some y):y=x:=by
 rw[YbY] at h;split at h
 ·exact (YaD h).symm
 ·cases h
theorem ZbW {rs:List Addr}{i:Nat}{x:V} (h:(rs.map V.ref)[i]?=some x):∃ r,rs[i]?=some r/\x=.ref r:=by
 rw[Yal] at h
 cases e:rs[i]? with
 | none=>rw[e] at h;cases h
 | some p=>rw[e] at h;exact⟨p,rfl,(YaD h).symm⟩
def ZdQ:Sp:=fun vs H Q _=>∃ p:Nat,vs=[.int p]/\2<=p/\p<=7/\∀ l qs H',H l=none->H' l=some (.tup (qs.map V.ref))->TTs H' qs (num0 p)->Same H H'->Q (.ref l) H'
end Lv
namespace Lv
open PySem L2 PySem.Spec PyProof.Rows
structure FunD (K:Yad) (x qual:Str) (st:Stmt) (f da:Addr) (fd:FuncData):Prop where
 ex:∃ (oc:Value) (od:Option Addr) (kV doc pm:Value) (an:Option Addr) (cdv ct:Value) (osl:Array (Option Value)),
  fd=YaB x qual (Zak st) (Zah st) (Zac st) (.ref da) kV doc pm an cdv ct/\K.lookup f=some ⟨oc,od,.func fd,osl⟩/\Yav K cdv qual=true
 kp:Yaq K (.ref f)=true
section
variable {P:Program}{w:World}{K:Yad}{mg:Str->Option Value}{base:Heap}
theorem FunD.binds {x qual:Str}{st:Stmt}{f da:Addr}{fd:FuncData}{ps:List Str}{o:Obj}{items:Array Value}{n:Nat} (F:FunD K x qual st f da fd) (ho:K.lookup da=some o) (hs:o.data=.seq items n) (ds:List Value) (qs:List Str) (hq:qs.length+ds.length=ps.length)
  (h:∀ (kV doc pm:Value) (an:Option Addr) (cdv ct:Value) (us:List Value),us.length=qs.length ->
   ∃ k:Option (Array Value)->Sem (List (Str × Value)),bindArgs (YaB x qual (Zak st) (Zah st) (Zac st) (.ref da) kV doc pm an cdv ct) ⟨us,[]⟩=seqItems? (.ref da) >>= k/\k (some items)=pure (ps.zip (us++ds))):Binds K fd ps ds:=by
 obtain⟨oc,od,kV,doc,pm,an,cdv,ct,osl,rfl,lk,hcd⟩:=F.ex;intro s us X hl;obtain⟨k,h1,h2⟩:=h kV doc pm an cdv ct us (by rw[Yak] at hl;omega);exact PySem.W.binds_K X rfl ho hs h1 h2
theorem ZkN {x qual:Str}{st:Stmt}{f da:Addr}{oc:Value}{od an:Option Addr}{osl:Array (Option Value)}{kV doc pm cdv ct:Value} (l:K.lookup f=some ⟨oc,od,.func (YaB x qual (Zak st) (Zah st) (Zac st) (.ref da) kV doc pm an cdv ct),osl⟩)
  (c:Yav K cdv qual=true) (k:Yaq K (.ref f)=true):FunD K x qual st f da (YaB x qual (Zak st) (Zah st) (Zac st) (.ref da) kV doc pm an cdv ct):=⟨⟨oc,od,kV,doc,pm,an,cdv,ct,osl,rfl,l,c⟩,k⟩
end
structure CalD (P:Program) (w:World) (K:Yad) (mg:Str->Option Value) (base:Heap) (k:Nat) (x:Str) (ps:List Str) (dvs:List V) (sp:Sp) (f:Addr) (fd:FuncData):Prop where
 ok:FnOk P w K mg base CX0 k f fd ps sp
 mg:mg x=some (.ref f)
 kp:Yaq K (.ref f)=true
 bd:∃ ds,Binds K fd ps ds/\Vals dvs ds
def Zk9 (j:Nat) (f:Addr) (t:TE):TE:=fun σ H Q=>σ[j]?=some (some (.ref f))/\t σ H Q
theorem Zkr {X:Cx}{k:Nat}{x y:Str}{ps:List Str}{sp:Sp}{f:Addr}{fd:FuncData}{e:Expr}{es:List Expr}{t:TA}{p pos:Pos} (j:Nat) (C:Cal X.prog X.w X.K X.mg X.base k y ps sp f fd) (hr:Room k X.A) (ha:PA X (e::es) t) (hN:X.N[j]?=some x:=by rfl) (hv:Vis X.env.scope x:=by first | exact YaW rfl | exact YcL (YaW rfl) | exact YcL (YcL rfl))
  (hdb:(x == ("__debug__":Str))=false:=by decide) (hcd:(x == ("__classdict__":Str))=false:=by decide) (he:starEach (e::es) X.env=(false,eval e X.env)::starEach es X.env:=by rfl) (hpl:(backTo pos (starEach es X.env)).any (·.1)=false:=by rfl) :
  PE X (.Call (.Name x p) (e::es) [] pos) (Zk9 j f (ZiM sp [] E0 t)):=by
 intro pins s σ H Q I h;obtain⟨h0,h⟩:=h;refine wpAny_Call_Name_kw ?_;refine thn (ZjS hN hv hdb hcd pins s σ H (fun v H1=>v=.ref f/\t σ H1 fun vs H2=>sp (vs++[]) H2 Q E0) I ⟨_,h0,rfl,h⟩) fun u s1 ⟨v,H1,I1,r,ev,q⟩=>?_;subst ev;obtain rfl:u=YaH f:=r;refine Yes (h₀:=X.base) I.ok.mod.kin C.kp (thn (ha pos pins s1 σ H1 _ I1 q) fun us s2 ⟨vs,H2,I2,r2,q2⟩=>⟨I2.kIn,?_⟩) he hpl;exact ZjO C.ok hr C.bd .nil Zln I2 r2 q2
theorem Zll {X:Cx}{k:Nat}{x:Str}{ps:List Str}{sp:Sp}{f:Addr}{fd:FuncData}{pos:Pos} (C:Cal X.prog X.w X.K X.mg X.base k x ps sp f fd) (hg:Gl X x) (hd:(x == ("__debug__":Str))=false:=by decide):PE X (.Name x pos) (tC (.ref f)) :=
 Zfp hg C.mg rfl hd
end Lv
namespace L2
open PySem PySem.Spec PyProof.Rows
def DK (h h':Heap):Prop:=∀ (b:Nat) (o:Obj),h.objs[b]?=some o->∃ o':Obj,h'.objs[b]?=some o'/\o'.dict=o.dict
theorem DK.refl (h:Heap):DK h h:=fun _ o e=>⟨o,e,rfl⟩
theorem DK.trans {a b c:Heap} (x:DK a b) (y:DK b c):DK a c:=fun i o e=>by
 obtain⟨o1,e1,d1⟩:=x i o e;obtain⟨o2,e2,d2⟩:=y i o1 e1;exact⟨o2,e2,d2.trans d1⟩
theorem ZjQ {h:Heap}{a:Addr}{o:Obj} (e:h.get? a=some o):h.objs[a]?=some o:=(Heap.get?_some_iff.mp e).1
theorem DK.at {h h':Heap}{a:Addr}{o o':Obj} (x:DK h h') (e:h.get? a=some o) (e':h'.get? a=some o'):o'.dict=o.dict:=by
 obtain⟨o2,q1,q2⟩:=x a o (ZjQ e);rw[ZjQ e'] at q1;cases q1;exact q2
theorem DK.push (h:Heap) (o:Obj):DK h (h.push o):=fun b ob e=>⟨ob,by
 have hb:b<h.objs.size:=(YaS.mp e).1
 unfold Heap.push;show (h.objs.push o)[b]?=some ob;rw[Array.getElem?_push_lt hb];exact (YaS.mp e).2 ▸ rfl,rfl⟩
theorem DK.update (h:Heap) (a:Addr) (f:Obj->Obj) (hf:∀ o,(f o).dict=o.dict):DK h (h.update a f):=fun b ob e=>by
 by_cases z:a=b
 ·subst z;exact⟨f ob,by unfold Heap.update;simp[Yc5,e],hf ob⟩
 ·exact⟨ob,by unfold Heap.update;simp[Yc5,z,e],rfl⟩
def DC {α:Type}:Sem α->Prop
 | .pure _=>True
 | .raise _=>True
 | .unsupported _=>True
 | .rule _ k=>DC (k ())
 | .at _ k=>DC (k ())
 | .load _ _ k=>∀ o,DC (k o)
 | .update _ _ f k=>(∀ o,(f o).dict=o.dict)/\DC (k ())
 | .alloc _ k=>∀ a,DC (k a)
 | .loadIfAlive _ k=>∀ o,DC (k o)
 | .point _ k=>DC (k ())
 | .fresh k=>∀ t,DC (k t)
 | .ask k=>∀ x,DC (k x)
 | .handled _ k=>∀ v,DC (k v)
 | .stack k=>∀ l,DC (k l)
 | _=>False
theorem Zbf {α β:Type}{m:Sem α}{f:α->Sem β} (hm:DC m) (hf:∀ a,DC (f a)):DC (m >>= f):=by
 show DC (m.bind f)
 induction m with
 | pure a=>exact hf a
 | raise e=>trivial
 | unsupported w=>trivial
 | rule t k ih=>exact ih () hm
 | «at» p k ih=>exact ih () hm
 | load a p k ih=>exact fun o=>ih o (hm o)
 | update a p g k ih=>exact⟨hm.1,ih () hm.2⟩
 | alloc o k ih=>exact fun a=>ih a (hm a)
 | loadIfAlive a k ih=>exact fun o=>ih o (hm o)
 | point l k ih=>exact ih () hm
 | fresh k ih=>exact fun a=>ih a (hm a)
 | ask k ih=>exact fun a=>ih a (hm a)
 | handled w k ih=>exact fun a=>ih a (hm a)
 | stack k ih=>exact fun a=>ih a (hm a)
 | finish _=>exact hm.elim
 | register _ _ _=>exact hm.elim
 | choose _ _ _ _=>exact hm.elim
 | os _ _ _ _=>exact hm.elim
 | call _ _ _ _ _ _=>exact hm.elim
 | newGen _ _ _=>exact hm.elim
 | genState _ _ _=>exact hm.elim
 | resume _ _ _ _ _=>exact hm.elim
 | yield _ _ _ _ _=>exact hm.elim
 | fork _ _ _=>exact hm.elim
 | thread _ _=>exact hm.elim
 | await _ _ _ _ _ _=>exact hm.elim
theorem ZlK {α:Type} (M:Model) (Γ:PySem.Ctx) {t:Sem α} (d:DC t):∀ (Q:α->Pos->Shared->Prop) (E:Value->Pos->Shared->Prop) (p:Pos) (s:Shared),Sem.wp M Γ t Q E p s ->
  Sem.wp M Γ t (fun a p' s'=>Q a p' s'/\DK s.heap s'.heap) (fun e p' s'=>E e p' s'/\DK s.heap s'.heap) p s:=by
 have up:∀ {α:Type}{t:Sem α}{Q:α->Pos->Shared->Prop}{E:Value->Pos->Shared->Prop}{p:Pos}{s:Shared}{h0 h1:Heap},DK h0 h1 ->
   Sem.wp M Γ t (fun a p' s'=>Q a p' s'/\DK h1 s'.heap) (fun e p' s'=>E e p' s'/\DK h1 s'.heap) p s->Sem.wp M Γ t (fun a p' s'=>Q a p' s'/\DK h0 s'.heap) (fun e p' s'=>E e p' s'/\DK h0 s'.heap) p s:=fun k h=>
  Sem.wp_mono M Γ _ (fun _ _ _ z=>⟨z.1,k.trans z.2⟩) (fun _ _ _ z=>⟨z.1,k.trans z.2⟩) _ _ h
 induction t with
 | pure a=>exact fun _ _ _ _ h=>⟨h,.refl _⟩
 | raise e=>exact fun _ _ _ _ h=>⟨h,.refl _⟩
 | unsupported w=>exact fun _ _ _ _ h=>h
 | rule t k ih=>exact fun _ _ _ _ h=>ih () d _ _ _ _ h
 | «at» p k ih=>exact fun _ _ _ _ h=>ih () d _ _ _ _ h
 | load a p k ih=>exact fun _ _ _ _ ⟨o,ho,h⟩=>⟨o,ho,ih o (d o) _ _ _ _ h⟩
 | update a p g k ih=>exact fun _ _ _ _ ⟨ho,h⟩=>⟨ho,up (.update _ _ _ d.1) (ih () d.2 _ _ _ _ h)⟩
 | alloc o k ih=>exact fun _ _ _ _ h=>up (.push _ _) (ih _ (d _) _ _ _ _ h)
 | loadIfAlive a k ih=>exact fun _ _ _ _ h=>ih _ (d _) _ _ _ _ h
 | point l k ih=>exact fun _ _ _ _ h=>ih () d _ _ _ _ h
 | fresh k ih=>exact fun _ _ _ _ h=>ih _ (d _) _ _ _ _ h
 | ask k ih=>exact fun _ _ _ _ h=>ih _ (d _) _ _ _ _ h
 | handled w k ih=>exact fun _ _ _ _ h=>ih _ (d _) _ _ _ _ h
 | stack k ih=>exact fun _ _ _ _ h=>ih _ (d _) _ _ _ _ h
 | finish _=>exact d.elim
 | register _ _ _=>exact d.elim
 | choose _ _ _ _=>exact d.elim
 | os _ _ _ _=>exact d.elim
 | call _ _ _ _ _ _=>exact d.elim
 | newGen _ _ _=>exact d.elim
 | genState _ _ _=>exact d.elim
 | resume _ _ _ _ _=>exact d.elim
 | yield _ _ _ _ _=>exact d.elim
 | fork _ _ _=>exact d.elim
 | thread _ _=>exact d.elim
 | await _ _ _ _ _ _=>exact d.elim
theorem Zb5 {α:Type}{M:Model}{A:Around}{t:Sem α}{Q:α->Shared->Prop}{E:Value->Shared->Prop}{s:Shared} (d:DC t) (h:wpAny M A t (fun a s'=>DK s.heap s'.heap->Q a s') (fun e s'=>DK s.heap s'.heap->E e s') s):wpAny M A t Q E s :=
 fun Γ p hΓ=>Sem.wp_mono M Γ t (fun _ _ _ z=>z.1 z.2) (fun _ _ _ z=>z.1 z.2) p s (ZlK M Γ d _ _ _ _ (h Γ p hΓ))
theorem Zfz {a:Addr}:DC (load a):=fun _=>trivial
theorem Zee:DC stack:=fun _=>trivial
theorem ZkT {o:Obj}{f:Array Value->Array Value}:(Obj.mapFields f o).dict=o.dict:=by
 unfold Obj.mapFields;split <;> rfl
theorem Zef {v:Value}{i:Nat}:DC (field v i):=by
 unfold field fieldsOf
 repeat (first | trivial | exact Zfz | (refine Zbf ?_ fun _=>?_) | split)
theorem Zc2 {v:Value}{i:Nat}{x:Value}:DC (setField v i x):=by
 unfold setField updateField
 repeat (first | trivial | exact Zfz | exact⟨fun _=>ZkT,trivial⟩ | (refine Zbf ?_ fun _=>?_) | split)
theorem Zby {v:Value}{f:Option Addr}:DC (setFlight v f):=by
 unfold setFlight
 repeat (first | trivial | exact Zef | exact Zc2 | (refine Zbf ?_ fun _=>?_) | split)
theorem Zgh:∀ l:List Env,DC (readyFrames l)
 | []=>trivial
 | env::outer=>by
  unfold readyFrames behindIsImport keptBack underTheClaimsCaller
  repeat (first | trivial | exact Zfz | exact Zee | exact Zef | exact Zgh outer | exact⟨fun _=>rfl,trivial⟩ | (refine Zbf ?_ fun _=>?_) | split)
theorem ZgS {env:Env}:DC (PySem.frameOf env):=by
 unfold PySem.frameOf frameEnvs;refine Zbf (Zbf Zee fun _=>trivial) fun l=>Zbf ?_ fun o=>?_
 ·generalize (List.dropWhile (fun x=>x.frame != env.frame) l)=m
  cases m with
  | nil=>trivial
  | cons e r=>exact Zbf (Zgh _) fun _=>trivial
 ·split <;> trivial
theorem Zcx {e:Value}{env:Env}:DC (noteFrame e env):=by
 unfold noteFrame EntryCells.newEntry newFields newObj newObjAsIs entryPlaceOf
 repeat (first | trivial | exact Zef | exact Zc2 | exact ZgS | exact Zee | exact fun _=>trivial | (refine Zbf ?_ fun _=>?_) | split)
theorem ZdA {e:Value}{env:Env}:DC (leaving env e):=Zbf Zcx fun _=>Zby
end L2
namespace L2
open PySem PySem.Spec PyProof.Rows
theorem ObjOk.there {P:Program}{w:World}{H:Hp}{h:Heap}{a:Addr}{o:HO} (x:ObjOk P w H h a o):∃ ob,h.get? a=some ob:=by
 cases o with
 | lst xs=>obtain⟨_,_,_,_,e⟩:=x;exact⟨_,e⟩
 | tup xs=>obtain⟨_,_,_,o,e,_⟩:=x;exact⟨_,e⟩
 | dK kvs=>obtain⟨_,_,_,_,o,_,_,e,_⟩:=x;exact⟨_,e⟩
 | dT kvs=>obtain⟨_,_,_,_,o,_,_,e,_⟩:=x;exact⟨_,e⟩
 | set S n=>obtain⟨o,_,_,_,e,_⟩:=x;exact⟨_,e⟩
 | ins C dx fs=>obtain⟨_,_,_,e,_⟩:=x;exact⟨_,e⟩
 | own y=>exact x
 | xd fs=>obtain⟨_,⟨_,_,_,e,_⟩,_⟩:=x;exact⟨_,e⟩
 | rng lo hi=>obtain⟨_,_,_,e⟩:=x;exact⟨_,e⟩
 | frz ob u=>obtain⟨e,_⟩:=x;exact⟨_,e⟩
 | tbl ps=>exact⟨_,(show h.get? a=some _ from x)⟩
 | met f y=>exact⟨_,(show h.get? a=some _ from x)⟩
 | ext φ=>obtain⟨_,e,_⟩:=x;exact e
theorem HOk.none_of {P:Program}{w:World}{H:Hp}{h:Heap}{a:Addr} (x:HOk P w H h) (e:h.get? a=none):H a=none:=by
 cases q:H a with
 | none=>rfl
 | some o=>obtain⟨ob,z⟩:=(x a o q).there;rw[e] at z;cases z
def ZbZ (h:Heap):List Addr->Heap
 | []=>h
 | a::r=>(ZbZ h r).hide a
theorem ZaJ {h:Heap}:∀ {l:List Addr}{a:Addr},a∈l->(ZbZ h l).get? a=none
 | b::r,a,m=>by
  by_cases e:a=b
  ·subst e;exact Heap.hide_self _ _
  ·rw[ZbZ,Heap.hide_ne _ e];exact ZaJ ((Yai.mp m).resolve_left e)
theorem ZbI {h:Heap}:∀ {l:List Addr}{a:Addr},a ∉ l->(ZbZ h l).get? a=h.get? a
 | [],_,_=>rfl
 | b::r,a,n=>by
  rw[ZbZ,Heap.hide_ne _ (fun e=>n (by rw[e];exact YaG))];exact ZbI fun z=>n (Yat _ z)
theorem ZbY {h:Heap}{l:List Addr}:(ZbZ h l).StaysIn h:=fun b o e=>by
 by_cases m:b∈l
 ·rw[ZaJ m] at e;cases e
 ·rwa [ZbI m] at e
theorem Zbr {h base B:Heap}:∀ {l:List Env},h.FunFrames base l->(∀ b∈frs l,B.get? b=none)->h.FunFrames B l
 | [],_,_=>trivial
 | env::rest,⟨hk,⟨L,o,hf,hn,ho,hd⟩,hr⟩,n=>⟨hk,⟨L,o,hf,n L (by unfold frs;rw[Ybl,hf];exact YaG),ho,hd⟩,Zbr hr fun b hb=>n b (by
   unfold frs;rw[Ybl,hf];exact Yat _ hb)⟩
theorem Un.hide {fs Z:List Addr}{H H':Hp}{h h1 h2:Heap} (u:Un fs [] H H' h h1) (hz:∀ z∈Z,z∈fs∨h.get? z=none) (k:∀ b o,h1.get? b=some o->b ∉ Z->h2.get? b=some o)
  (ks:∀ b∈fs,∀ o,h1.get? b=some o->∃ sl,h2.get? b=some { o with slots:=sl }):Un fs [] H H' h h2 where
 keep:=fun b o e n hb hx=>k b o (u.keep b o e n hb hx) fun z=>by
  rcases hz b z with y | y
  ·exact hb y
  ·rw[e] at y;cases y
 slot:=fun b o e n hb hx=>by
  obtain⟨sl,e1⟩:=u.slot b o e n hb hx;obtain⟨sl',e2⟩:=ks b hb _ e1;exact⟨sl',e2⟩
 free:=u.free
 there:=fun b o e hx=>by
  obtain⟨o',e1⟩:=u.there b o e hx;by_cases m:b∈Z
  ·rcases hz b m with y | y
   ·obtain⟨sl,e2⟩:=ks b y _ e1;exact⟨_,e2⟩
   ·rw[e] at y;cases y
  ·exact⟨_,k b _ e1 m⟩
 tups:=u.tups
 frzs:=u.frzs
 tbls:=u.tbls
theorem HOk.hide {P:Program}{w:World}{H:Hp}{h1 h2:Heap}{Z:List Addr} (x:HOk P w H h1) (hz:∀ z∈Z,H z=none) (k:∀ b o,h1.get? b=some o->b ∉ Z->h2.get? b=some o):HOk P w H h2:=fun a o e=>
 (x a o e).stay (fun b u hb hu=>k b u hu fun z=>by
  have:=hz b z;rcases hb with rfl | hb
  ·rw[e] at this;cases this
  ·rw[hb] at this;cases this) (fun _ z=>z) fun _ _ z=>z
def Fly (H:Hp) (h0 h:Heap) (ea:Addr) (cls:Value) (od:Option Addr) (fl:Value):Prop :=
 ∃ (a0:Value) (T:Addr) (oe oT:Obj) (vs ts:Array Value),(H ea=none/\H T=none/\h0.get? ea=none/\h0.get? T=none) /\
  h.get? ea=some oe/\((oe.cls=cls/\vs[0]?=some a0)/\oe.dict=od)/\oe.data=.fields vs/\vs[1]?=some (.ref T)/\T≠ea/\h.get? T=some oT/\oT.data=.fields ts/\ts[3]?=some fl
def CX1 (P:Program) (w:World):CXT:=fun outer H s E e s'=>∃ (ea:Addr) (cls:Value) (od:Option Addr) (H':Hp),e=.ref ea/\s'.os=s.os/\AllBare s'.gens/\Un (frs outer) [] H H' s.heap s'.heap/\HOk P w H' s'.heap/\Fly H' s.heap s'.heap ea cls od .none/\E cls od H'
theorem Zj4 {P:Program}{w:World}{l:List Env}{H:Hp}{h0 h1 h2 base:Heap}{ea:Addr}{cls a0 fl:Value}{od:Option Addr}{Z:List Addr} (hok:HOk P w H h1) (hZ:∀ z∈Z,z ∉ frs l->z≠ea->H z=none/\h0.get? z=none) (hea:H ea=none) (he0:h0.get? ea=none)
  (hl:h1.FunFrames base l) (hs:h1.UpToSlots h2) (h01:∀ b o,h0.get? b=some o->∃ o',h1.get? b=some o') (t:h2.TracedAtW (ZbZ h1 Z) ea cls a0 fl) (hod:∀ o,h2.get? ea=some o->o.dict=od):Fly H h0 h2 ea cls od fl:=by
 obtain⟨oe,vs,T,oT,ts,he,hc,hd,hv1,hnT,hTe,hT,hdT,h3⟩:=t;refine⟨a0,T,oe,oT,vs,ts,?_,he,⟨hc,hod oe he⟩,hd,hv1,hTe,hT,hdT,h3⟩;have hTf:T ∉ frs l:=fun m=>by
  obtain⟨_,o,ho,hnf⟩:=hl.mem m;obtain⟨sl,hs'⟩:=hs T o ho hnf;rw[hT] at hs';cases hs';exact hnf ts hdT
 by_cases m:T∈Z
 ·obtain⟨q1,q2⟩:=hZ T m hTf hTe;exact⟨hea,q1,he0,q2⟩
 ·rw[ZbI m] at hnT;refine⟨hea,hok.none_of hnT,he0,?_⟩
  cases q:h0.get? T with
  | none=>rfl
  | some o=>obtain⟨o',z⟩:=h01 T o q;rw[hnT] at z;cases z
def ZlH (X:Cx) (E:XK):Prop:=∀ (pins:List (Addr × Obj)) (σ:St) (H:Hp) (s:Shared) (ea:Addr) (oe:Obj) (vs:Array Value) (a0:Value),Inv X pins σ H s->H ea=none->X.s₀.heap.get? ea=none->s.heap.get? ea=some oe->oe.data=.fields vs->vs[1]?=some .none->vs[0]?=some a0->E oe.cls oe.dict H->X.xe (.ref ea) s
section
variable {P:Program}{w:World}{K:Yad}{mg:Str->Option Value}{base:Heap}{N:List Str}{qual:Str}{scope:Scope}{f:Addr}{cd:Value}{A:Around}{outer:List Env}{s:Shared}{H:Hp}{E:XK}
theorem ZjY (X:Cx) (hs:X.stack=X.env::X.outer) (hf:X.env.frame=some X.env.locals):frs X.stack=X.env.locals::X.fs:=by
 unfold Cx.fs frs;rw[hs,Ybl,hf]
theorem Zk1:ZlH (cxOf (CX1 P w) P w K mg base N qual scope f cd A outer s H E) E:=by
 intro pins σ H1 s1 ea oe vs a0 I hea hen he hd h1 h0 hE
 let X:=cxOf (CX1 P w) P w K mg base N qual scope f cd A outer s H E
 have hst:frs X.stack=X.env.locals::X.fs:=ZjY X rfl rfl;have hfr:X.A.frames=some (X.env::outer):=I.ok.frames;have hff:s1.heap.FunFrames X.base X.stack:=I.stack;have hB:∀ b∈frs X.stack,(ZbZ s1.heap (ea::frs X.stack)).get? b=none:=fun b hb=>ZaJ (Yat _ hb);refine Zb5 ZdA (wpAny_leaving_firstW (base:=ZbZ s1.heap (ea::frs X.stack)) hfr (Zbr hff hB) rfl he ZbY (ZaJ YaG) hd h1 h0 fun h' hL dk=>?_);obtain⟨k1,k2,k3,k4⟩:=hL;have hkeep:∀ b o,s1.heap.get? b=some o->b ∉ (ea::frs X.stack)->h'.get? b=some o:=fun b o e n=>k1 b o (by rw[ZbI n];exact e);have hloc:X.s₀.heap.get? X.env.locals=none:=Yde I.ok.above;have hzl:∀ z∈ea::frs X.stack,z∈frs outer∨X.s₀.heap.get? z=none:=fun z hz=>by
  rcases Yai.mp hz with rfl | hz
  ·exact .inr hen
  ·rw[hst] at hz;rcases Yai.mp hz with rfl | hz
   ·exact .inr hloc
   ·exact .inl hz
 refine⟨ea,oe.cls,oe.dict,H1,rfl,I.os,I.bare,Un.hide (Z:=ea::frs X.stack) I.base hzl hkeep ?_,I.hok.hide (Z:=ea::frs X.stack) ?_ hkeep,?_,hE⟩
 ·intro b hb o e;have hm:b∈frs X.stack:=by rw[hst];exact Yat _ hb
  obtain⟨_,o',ho',hnf⟩:=hff.mem hm;rw[e] at ho';cases ho';exact k4 b o e hnf
 ·intro z hz;rcases Yai.mp hz with rfl | hz
  ·exact hea
  ·exact I.stkFree z hz
 ·refine Zj4 (l:=X.stack) (Z:=ea::frs X.stack) I.hok (fun z hz hf hne=>?_) hea hen hff k4 (fun b o e=>I.base.there b o e (by intro z;cases z)) k3 (fun o q=>dk.at he q);rcases Yai.mp hz with z | z
  ·exact absurd z hne
  ·exact absurd z hf
theorem Zhv:ZdH (CX1 P w) (cxOf (CX1 P w) P w K mg base N qual scope f cd A outer s H E) E:=by
 intro pins σ H1 s1 e s' I hcx;obtain⟨ea,cls,od,H',rfl,os',bare',un',hok',hfly,hE⟩:=hcx
 let X:=cxOf (CX1 P w) P w K mg base N qual scope f cd A outer s H E
 have J:Inv X pins σ H' s':=I.call' (ch:=[]) os' un' hok' bare' fun b z=>absurd z (by simp);obtain⟨a0,T,oe,oT,vs,ts,⟨f1,f2,f3,f4⟩,he,⟨hc,hod⟩,hd,hv1,hTe,hT,hdT,h3⟩:=hfly;have hst:frs X.stack=X.env.locals::X.fs:=ZjY X rfl rfl;have hfr:X.A.frames=some (X.env::outer):=J.ok.frames;have hff:s'.heap.FunFrames X.base X.stack:=J.stack;have h01:∀ b o,X.s₀.heap.get? b=some o->∃ o',s1.heap.get? b=some o':=fun b o e=>I.base.there b o e (by intro z;cases z);have n0:∀ z,s1.heap.get? z=none->X.s₀.heap.get? z=none:=fun z e=>by
  cases q:X.s₀.heap.get? z with
  | none=>rfl
  | some o=>obtain⟨o',y⟩:=h01 z o q;rw[e] at y;cases y
 let Z:=ea::T::frs X.stack
 have hB:∀ b∈frs X.stack,(ZbZ s'.heap Z).get? b=none:=fun b hb=>ZaJ (Yat _ (Yat _ hb));refine Zb5 ZdA (wpAny_leaves_onW (base:=ZbZ s'.heap Z) hfr rfl ⟨ZbY,ZaJ YaG,Zbr hff hB,⟨oe,vs,T,oT,ts,he,hc,hd,hv1,ZaJ (Yat _ YaG),hTe,hT,hdT,h3⟩⟩ fun h' hL k4 dk=>?_);obtain⟨k1,k2,k2',k3⟩:=hL;have hkeep:∀ b o,s'.heap.get? b=some o->b ∉ Z->h'.get? b=some o:=fun b o e n=>k1 b o (by rw[ZbI n];exact e);have hloc:X.s₀.heap.get? X.env.locals=none:=Yde J.ok.above;have hzl:∀ z∈Z,z∈frs outer∨X.s₀.heap.get? z=none:=fun z hz=>by
  rcases Yai.mp hz with rfl | hz
  ·exact .inr (n0 _ f3)
  ·rcases Yai.mp hz with rfl | hz
   ·exact .inr (n0 _ f4)
   ·rw[hst] at hz;rcases Yai.mp hz with rfl | hz
    ·exact .inr hloc
    ·exact .inl hz
 refine⟨ea,cls,od,H',rfl,J.os,J.bare,Un.hide (Z:=Z) J.base hzl hkeep ?_,J.hok.hide (Z:=Z) ?_ hkeep,?_,hE⟩
 ·intro b hb o e;have hm:b∈frs X.stack:=by rw[hst];exact Yat _ hb
  obtain⟨_,o',ho',hnf⟩:=hff.mem hm;rw[e] at ho';cases ho';exact k4 b o e hnf
 ·intro z hz;rcases Yai.mp hz with rfl | hz
  ·exact f1
  ·rcases Yai.mp hz with rfl | hz
   ·exact f2
   ·exact J.stkFree z hz
 ·refine Zj4 (l:=X.stack) (Z:=Z) J.hok (fun z hz hf hne=>?_) f1 (n0 _ f3) hff k4 (fun b o e=>J.base.there b o e (by intro z;cases z)) k3 (fun o q=>(dk.at he q).trans hod);rcases Yai.mp hz with z | z
  ·exact absurd z hne
  ·rcases Yai.mp z with rfl | z
   ·exact⟨f2,n0 _ f4⟩
   ·exact absurd z hf
end
end L2
namespace L2
open PySem PySem.Spec PyProof.Rows PySem.W
section
variable {prog:Program}{w:World}{A:Around}{E:Value->Shared->Prop}{s:Shared}{K:Frag}{x C D:Addr}{ox:Obj}
theorem Zjw {M:Model}{h:Heap}{n:Str}{a g:Value} (X:K.In h) (ha:findIn K (.ref D) n=some (some a)) (hg:specialIn K a "__get__"=some (some g)) (ht:takesIn K a=some true):Looks M h (Ycz (.ref x) (.ref D) n) (.bind g a):=by
 have L1:=looks_findIn (M:=M) X ha;have L2:Looks M h (Ye4 (some a)) (some g):=looks_specialIn X hg;have L3:Looks M h (Ye5 (some a) (some g)) (some (g,a)):=(looks_takesIn X ht).andThen .now;exact L1.andThen (L2.andThen (L3.andThen (Looks.tag .now)))
theorem ZkR {tp:Value}{R:Result->Shared->Prop} (X:K.In s.heap) (LT:Looks (model prog w) s.heap (typeOf (.ref x)) (.ref C)) (hm:mroIn K C (.type "object")=some true)
  (h:R (.ok (.ret (.ref C))) s):codeAny (model prog w) A (.call (.builtin "getset_descriptor.__get__") ⟨[.builtin "object.__class__",.ref x,tp],[]⟩) R s:=by
 have L1:=looks_mroIn (M:=model prog w) X hm;obtain⟨hh,g,dr,t,os⟩:=s;refine codeAny_call_builtin KF.slot_gs.plain KF.entry_gs (KF.slot_gs.check _ _ _ _ _ _ _ _ KF.type_class (KF.args_gs _ _ _) (?_));unfold Builtin.«getset_descriptor.__get__»;unfold Yej;rw[dga_obj];refine wpAny_bind (wpAny_pure ?_);unfold Yei;unfold Yek;unfold Yeh isInstance;simp only[KF.owner_class]
 repeat lk
 refine⟨Ydr _ (by decide +kernel),(codeAny_builtin KF.entry_class ?_)⟩;unfold Builtin.«object.__class__»;unfold shownTypeOf
 repeat lk
 exact h
theorem Zic {tk:Tok}{Q:Fin->Shared->Prop} (X:K.In s.heap) (L0:Looks (model prog w) s.heap (typeOf (.ref x)) (.ref D)) (L1:Looks (model prog w) s.heap (Ycz (.ref x) (.ref D) "__class__") (.bind (.builtin "getset_descriptor.__get__") (.builtin "object.__class__"))) (hm:mroIn K D (.type "object")=some true)
  (hq:Q (.done (.ret (.ref D))) s):wpAny (model prog w) A (Builtin.«object.__getattribute__» ⟨[.ref x,.str "__class__" tk],[]⟩) Q E s:=by
 obtain⟨hh,gg,d,t,os⟩:=s;unfold Builtin.«object.__getattribute__»;refine wpAny_bind (wpAny_pure (wpAny_bind (wpAny_pure (wpAny_bind (L0.at (wpAny_bind (L1.at ?_)))))));dsimp only;unfold Ye6;dsimp only;refine wpAny_bind (wpAny_holding (wpAny_call (ZkR X L0 hm ?_)));exact wpAny_pure hq
theorem Zid {Q:Option Value->Shared->Prop} (X:K.In s.heap) (L0:Looks (model prog w) s.heap (typeOf (.ref x)) (.ref D)) (hga:findIn K (.ref D) "__getattribute__"=some (some (.builtin "BaseException.__getattribute__"))) (hk:findIn K (.ref D) "__getattr__"=some none) (hbx:mroIn K D (.type "BaseException")=some true)
   (hf:Looks (model prog w) s.heap (Ycz (.ref x) (.ref D) "__class__") (.bind (.builtin "getset_descriptor.__get__") (.builtin "object.__class__"))) (hm:mroIn K D (.type "object")=some true)
   (h:Q (some (.ref D)) { s with toks:=s.toks+1 }):wpAny (model prog w) A (getAttr? (.ref x) "__class__") Q E s:=by
  obtain⟨hh,g,d,t,os⟩:=s;have L1:=looks_findIn (M:=model prog w) X hga;have L2:=looks_findIn (M:=model prog w) X hk;have L3:=looks_mroIn (M:=model prog w) X hbx;unfold getAttr? getAttrBy? getAttrBy;refine wpAny_bind (wpAny_mkText (wpAny_bind (wpAny_attempt (wpAny_holding (wpAny_bind (L0.at (wpAny_bind (L1.at (?_)))))))));have hx2:(Value.builtin "BaseException.__getattribute__" == Value.builtin "object.__getattribute__")=false:=by decide +kernel
  dsimp only;rw[hx2,Ydg,if_neg YaF];unfold getAttrByItsOwn hookBefore onTheHeap;dsimp only;rw[if_pos rfl];refine wpAny_bind (L2.at (wpAny_bind (wpAny_attempt (wpAny_holding ?_))));unfold callGetattribute boundAndCalled onTheHeap;dsimp only;rw[Ydg,if_neg YaF];have f3:=F.attr_ValueError.ga.bind (.ref x);refine wpAny_bind (wpAny_of_eq f3 ?_);refine wpAny_call (codeAny_call_builtin F.attr_ValueError.ga.plain F.entry_bexc_ga ?_);have hk1:builtinKind "BaseException.__getattribute__"=some .slot:=by decide +kernel
  have hs1:splitId "BaseException.__getattribute__"=some ("BaseException","__getattribute__"):=by decide +kernel
  have ha:=F.args_bexc_ga (.ref x) (.str "__class__" t);simp only[checkBuiltinCall,hk1,hs1];refine wpAny_bind ?_;unfold isInstance;refine wpAny_bind (L0.at ?_);refine L3.at ?_;rw[if_neg (by decide)]
  repeat (first | assumption | refine Zic X L0 hf hm ?_ | wp_step)
def Zb1 (K:Frag) (C:Addr):Bool:=findIn K (.ref C) "__getattribute__" == some (some (.builtin "BaseException.__getattribute__")) && (findIn K (.ref C) "__getattr__" == some none &&
 (findIn K (.ref C) "__class__" == some (some (.builtin "object.__class__")) && (mroIn K C (.type "object") == some true && (mroIn K C (.type "BaseException") == some true && ((clsIn K C).isSome &&
 (specialIn K (.builtin "object.__class__") "__get__" == some (some (.builtin "getset_descriptor.__get__")) && takesIn K (.builtin "object.__class__") == some true))))))
def excAll (K:Frag) (C:Addr):Bool:=excIn K C [.type "ValueError",.type "Exception",.type "BaseException",.type "object"] "ValueError.__new__" && Zb1 K C
theorem excAll.rest {K:Frag}{C:Addr} (z:excAll K C=true):Zb1 K C=true:=by
 simp only[excAll,Ybx] at z;exact z.2
def ZgW (ea C:Addr) (od:Option Addr) (h:Heap):Prop:=∃ oe,h.get? ea=some oe/\oe.cls=.ref C/\oe.dict=od/\∃ vs,oe.data=.fields vs
theorem Zf6 {ea C:Addr}{od:Option Addr} (z:Zb1 K C=true):KitX K (.ref ea) (.ref C) (ZgW ea C od):=by
 simp only[Zb1,Ybx,beq_iff_eq] at z;obtain⟨z2,z3,z4,z5,z6,z7,z8,z9⟩:=z;have inst:∀ {M:Model}{h:Heap},ZgW ea C od h->Looks M h (typeOf (.ref ea)) (.ref C):=fun {M h} p=>by
  obtain⟨oe,e1,e2,_⟩:=p;rw[<- e2];exact (Looks.ld e1).andThen .now
 obtain⟨cd,hcd⟩:=Yd3.mp z7;have lk:∃ o,K.lookup C=some o/\∃ cd,o.data=.cls cd:=by
  unfold clsIn at hcd;split at hcd
  ·rename_i c' d' cd' sl' ho;exact⟨_,ho,cd',rfl⟩
  ·cases hcd
 obtain⟨oC,hlk,cdd,hdat⟩:=lk;refine⟨fun M h X p=>inst p,fun M h X p=>?_,fun h tp dd its n sl X htp=>?_,fun X p k=>Zid X (inst p) z2 z3 z6 (Zjw X z4 z8 z9) z5 k⟩
 ·intro A' Q' E' s' k q;unfold isType loadHead;refine wpAny_bind (wpAny_loadPart (k _ _ (X _ _ hlk)) ?_);obtain⟨_,_,dt,_⟩:=oC;dsimp only at hdat;subst hdat;exact wpAny_pure q
 ·refine Ye7.mpr fun q=>?_;have e:C=tp:=Value.ref.inj (beq_iff_eq.mp q);subst e;rw[X _ _ hlk] at htp;cases htp;cases hdat
end
section
variable {X:Cx}
def Zbe (ea C:Addr) (od:Option Addr:=none):HO:=.ext (ZgW ea C od)
theorem Zgg {H:Hp}{P:Program}{w:World}{h:Heap}{ea C:Addr}{od:Option Addr} (x:HOk P w H h) (e:H ea=some (Zbe ea C od)):ZgW ea C od h:=(show ObjOk P w H h ea (Zbe ea C od) from x _ _ e).1
theorem Zek:Zbg X (.builtin "isinstance") (fun xs H Q=>∃ (ea C:Addr) (y:V) (c:Value) (b:Bool),xs=[.ref ea,y]/\(∃ od,H ea=some (Zbe ea C od))/\Zb1 X.K C=true/\(y=.ty "ValueError"/\c=.type "ValueError"∨∃ D,y=.ref D/\c=.ref D)/\kitOne X.K (.ref C) c=some b/\Q (.bl b) H):=by
 intro pins s σ H xs us Q I r h;obtain⟨ea,C,y,c,b,rfl,⟨od,he⟩,hz,hy,hk,q⟩:=h;obtain⟨u,u2,rfl,r1,r2⟩:=ZiL r;cases r1;have hc:u2=c:=by
  rcases hy with ⟨rfl,rfl⟩ | ⟨D,rfl,rfl⟩
  ·exact r2
  ·exact r2
 subst hc;exact kia_one (Zf6 hz) I.kIn (Zgg I.hok he) hk (fun z=>nomatch z) fun tk=>⟨.bl b,H,I.tok _,rfl,q⟩
theorem Ze3:Zbg X (.builtin "isinstance") (fun xs H Q=>∃ (ea C:Addr) (y:V) (c:Value) (b:Bool),xs=[.ref ea,y]/\H ea=some (Zbe ea C)/\excAll X.K C=true/\(y=.ty "ValueError"/\c=.type "ValueError"∨∃ D,y=.ref D/\c=.ref D)/\kitOne X.K (.ref C) c=some b/\Q (.bl b) H) :=
 fun pins s σ H xs us Q I r ⟨ea,C,y,c,b,ex,he,hz,q⟩=>Zek pins s σ H xs us Q I r ⟨ea,C,y,c,b,ex,⟨none,he⟩,(excAll.rest hz),q⟩
theorem ZeY:∀ {cs:List Addr}{its:List Value},Vals (cs.map V.ref) its->its=cs.map YaH
 | [],_,r=>by cases r;rfl
 | c::cs,_,r=>by
  cases r with
  | cons r1 r2=>
   rw[ZeY r2];cases (show _=YaH c from r1);rfl
theorem Zdf:Zbg X (.builtin "isinstance") (fun xs H Q=>∃ (ea C tp:Addr) (cs:List Addr) (b:Bool),xs=[.ref ea,.ref tp]/\(∃ od,H ea=some (Zbe ea C od))/\Zb1 X.K C=true/\H tp=some (.tup (cs.map V.ref))/\kitAny X.K (.ref C) (cs.map YaH)=some b/\Q (.bl b) H):=by
 intro pins s σ H xs us Q I r h;obtain⟨ea,C,tp,cs,b,rfl,⟨od,he⟩,hz,htp,hk,q⟩:=h;obtain⟨u,u2,rfl,r1,r2⟩:=ZiL r;cases r1;cases r2;obtain⟨_,its,rv,⟨oc,od,oa,osl⟩,h1,h2,h3,n,h4⟩:=(show ObjOk X.prog X.w H s.heap tp (.tup (cs.map V.ref)) from I.hok tp _ htp)
 dsimp only at h2 h3 h4;subst h2;subst h3;subst h4;rw[ZeY rv] at h1;exact kia_tup (Zf6 hz) I.kIn (Zgg I.hok he) h1 hk (fun z=>nomatch z) fun tk=>⟨.bl b,H,I.tok _,rfl,q⟩
theorem Zej:Zbg X (.builtin "isinstance") (fun xs H Q=>∃ (ea C tp:Addr) (cs:List Addr) (b:Bool),xs=[.ref ea,.ref tp]/\H ea=some (Zbe ea C)/\excAll X.K C=true/\H tp=some (.tup (cs.map V.ref))/\kitAny X.K (.ref C) (cs.map YaH)=some b/\Q (.bl b) H) :=
 fun pins s σ H xs us Q I r ⟨ea,C,tp,cs,b,ex,he,hz,q⟩=>Zdf pins s σ H xs us Q I r ⟨ea,C,tp,cs,b,ex,⟨none,he⟩,(excAll.rest hz),q⟩
end
end L2
namespace L2
open PySem PySem.Spec PyProof.Rows PySem.W
section
variable {P:Program}{w:World}{K:Yad}{mg:Str->Option Value}{base:Heap}
theorem Fun.okE {x qual:Str}{st:Stmt}{f:Addr}{fd:FuncData}{N ps:List Str}{k:Nat}{sp:Sp} (F:Fun K x qual st f fd) (S:FnScope N ps (Zac st)) (len:∀ vs H Q E,sp vs H Q E->vs.length=ps.length)
  (hbody:∀ (cdv:Value) (A:Around) (outer:List Env) (s:Shared) (H:Hp) (vs:List V) (Q:VK) (E:XK),Room k (A.deeper (envOfC qual (Zac st) s.heap.objs.size f cdv))->sp vs H Q E ->
   ∃ t,PSs (cxOf (CX1 P w) P w K mg base N qual (Zac st) f cdv A outer s H E) (Zah st) t/\t { nx:=fun _ H'=>Q .non H',rt:=Q } (start N vs) H):FnOk P w K mg base (CX1 P w) (k+1) f fd ps sp:=by
 obtain⟨oc,od,kV,doc,pm,an,cdv,ct,osl,rfl,lk,hcd⟩:=F.ex;exact ZlD lk hcd S len fun A outer s H vs Q E hr hsp=>hbody cdv A outer s H vs Q E hr hsp
end
structure CalE (P:Program) (w:World) (K:Yad) (mg:Str->Option Value) (base:Heap) (k:Nat) (x:Str) (ps:List Str) (dvs:List V) (sp:Sp) (f:Addr) (fd:FuncData):Prop where
 ok:FnOk P w K mg base (CX1 P w) k f fd ps sp
 mg:mg x=some (.ref f)
 kp:Yaq K (.ref f)=true
 bd:∃ ds,Binds K fd ps ds/\Vals dvs ds
section
variable {X:Cx}
theorem Zd5 {k:Nat}{x:Str}{ps:List Str}{dvs:List V}{sp:Sp}{f:Addr}{fd:FuncData}{e:Expr}{es:List Expr}{t:TA}{p pos:Pos}{E:XK} (C:CalE X.prog X.w X.K X.mg X.base k x ps dvs sp f fd) (hr:Room k X.A) (hx:ZdH (CX1 X.prog X.w) X E) (hg:Gl X x) (ha:PA X (e::es) t)
  (hdb:(x == ("__debug__":Str))=false:=by decide) (he:starEach (e::es) X.env=(false,eval e X.env)::starEach es X.env:=by rfl) (hpl:(backTo pos (starEach es X.env)).any (·.1)=false:=by rfl) :
  PE X (.Call (.Name x p) (e::es) [] pos) (ZiM sp dvs E t):=by
 obtain⟨ds,h1,h2⟩:=C.bd;exact Zhu C.ok hr hg C.mg C.kp h1 h2 hx ha hdb he hpl
inductive FParts (X:Cx):List Expr->List TE->Prop
 | nil:FParts X [] []
 | con {x:Str}{j pos}{es:List Expr}{ts:List TE} (h:x.length<=1000) (r:FParts X es ts):FParts X (.Constant (.str x) j pos::es) ts
 | val {v:Expr}{t:TE}{pos:Pos}{es:List Expr}{ts:List TE} (h:PE X v t) (r:FParts X es ts):FParts X (.FormattedValue v (-1) none pos::es) (t::ts)
def tFs:List TE->TE
 | []=>fun _ H Q=>∀ x:Str,Q (.str x) H
 | t::r=>fun σ H Q=>t σ H fun v H1=>∃ i:Int,v=.int i/\i.natAbs.log2<1920/\(Yb8 (toString i)).length<=1000/\tFs r σ H1 Q
theorem Zea {pins:List (Addr × Obj)}{σ:St}:∀ {es:List Expr}{ts:List TE},FParts X es ts->∀ (acc:Str) (s:Shared) (H:Hp) (Q:VK) (R:Str->Shared->Prop),es.length<=50->acc.length+es.length*1000<=100000->Inv X pins σ H s->tFs ts σ H Q->(∀ x s' H',x.length<=100000->Inv X pins σ H' s'->(∀ y:Str,Q (.str y) H')->R x s')->Joins (model X.prog X.w) X.A X.xe (evalEach es X.env) acc R s
 | _,_,.nil,acc,s,H,Q,R,h50,hl,I,h,k=>k acc s H (by simpa using hl) I h
 | _,_,.con (x:=x) (es:=es) hx r,acc,s,H,Q,R,h50,hl,I,h,k=>by
  have hz:100000<sizeLine:=by decide
  have hl:acc.length+(es.length+1)*1000<=100000:=hl;have ha:(acc++x).length=acc.length+x.length:=strLen_append ..;refine YeP ⟨x,_,rfl,by omega,?_⟩;exact Zea r _ _ H Q R (by simpa using Yfa h50) (by omega) (I.tok _) h k
 | _,_,.val (v:=v) (t:=t) (es:=es) (ts:=ts) hv r,acc,s,H,Q,R,h50,hl,I,h,k=>by
  have hz:100000<sizeLine:=by decide
  have hl:acc.length+(es.length+1)*1000<=100000:=hl;refine wpAny_FormattedValue_plain (thn (hv pins s σ H _ I h) fun u s1 ⟨y,H1,I1,r1,q1⟩=>?_);obtain⟨i,rfl,hd,hlen,q⟩:=q1;obtain⟨tk,rfl⟩:=r1;refine wpAny_formatField_int hd ?_;have ha:(acc++Yb8 (toString i)).length=acc.length+(Yb8 (toString i)).length:=strLen_append ..;refine⟨_,_,rfl,by omega,?_⟩;exact Zea r _ _ H1 Q R (by simpa using Yfa h50) (by omega) ((I1.tok _).tok _) q k
theorem Zkq {v1 v2:Expr}{rest:List Expr}{ts:List TE}{pos:Pos} (h:FParts X (v1::v2::rest) ts) (hl:(v1::v2::rest).length<=50:=by decide):PE X (.JoinedStr (v1::v2::rest) pos) (tFs ts):=by
 intro pins s σ H Q I hq;have hz:100000<sizeLine:=by decide
 have e0:Yda.length=0:=rfl;refine wpAny_JoinedStr (Zea h _ _ H Q _ hl (by rw[e0];omega) I hq fun x s' H' hx I' k=>?_);exact⟨by omega,.str x,H',I'.tok _,⟨_,rfl⟩,k x⟩
theorem ZkQ {K:Frag}{h:Heap}{C:Addr}{bmB:List Value}{newId:String} (X:K.In h) (q:excIn K C bmB newId=true):∃ bm N nm qn bs hd sn sub ab col dd k0 k1 k2 k3 k5 mN,
  h.get? C=some (excClassObj nm qn C N bs bm hd sn sub ab col dd k0 k1 k2 k3 k5 newId)/\h.Ns N mN/\mN "__init__"=none/\OwnTail h bmB bm:=by
 unfold excIn at q;split at q
 ·rename_i dd cd sl lk;split at q
  ·rename_i C1 bm k0 k1 k2 k3 n1 k5 e1 e2;simp only[Ybx,beq_iff_eq,Bool.not_eq_true'] at q;obtain⟨⟨⟨⟨⟨c1,c2⟩,c3⟩,c4⟩,c5⟩,c6⟩:=q;obtain⟨nm,bs,mro,ns,qn,hd,sn,sub,ab,col,del⟩:=cd;obtain⟨ls⟩:=sl;dsimp only at e1 e2 c3 c5 c6;subst c1 c2 c3 e1 e2;refine⟨bm,ns,nm,qn,bs,hd,sn,sub,ab,col,dd,k0,k1,k2,k3,k5,_,X _ _ lk,.of_isNs (isNs_of_in X c5),nsMap_none_of_in X c5 c6,tail_of_in X c4⟩
  ·cases q
 ·cases q
def Zk4 (C:Addr) (E:XK) (t:TA):TS:=fun _ σ H=>t σ H fun vs H1=>vs.length<=1000/\E (.ref C) none H1
theorem Zi1 {E:XK}{x:Str}{C:Addr}{e0:Expr}{rest:List Expr}{t:TA}{np cpos pos:Pos} (hT:ZlH X E) (hg:Gl X x) (hm:X.mg x=some (.ref C)) (hz:excAll X.K C=true) (ha:PA X (e0::rest) t) (hc:X.calm=true:=by rfl) (hex:X.ex=[]:=by rfl)
  (he:starEach (e0::rest) X.env=(false,eval e0 X.env)::starEach rest X.env:=by rfl) (hpl:(backTo cpos (starEach rest X.env)).any (·.1)=false:=by rfl) (hd:(x == ("__debug__":Str))=false:=by decide) :
  PS X (.Raise (some (.Call (.Name x np) (e0::rest) [] cpos)) none pos) (Zk4 C E t):=by
 intro pins s σ H D I h;have hin:excIn X.K C [.type "ValueError",.type "Exception",.type "BaseException",.type "object"] "ValueError.__new__"=true:=by
  simp only[excAll,Ybx] at hz;exact hz.1
 obtain⟨bm,N,nm,qn,bs,hd',sn,sub,ab,col,dd,k0,k1,k2,k3,k5,mN,hC,hN,hni,hT2⟩:=ZkQ I.ok.mod.kin hin;refine wpAny_Raise_call_subT (C:=C) (nm:=nm) (q:=qn) (N:=N) (bs:=bs) (bm:=bm) (hdct:=hd') (sn:=sn) (sub:=sub) (ab:=ab) (col:=col) (dd:=dd) (k0:=k0) (k1:=k1) (k2:=k2) (k3:=k3) (k5:=k5) (newId:="ValueError.__new__")
  YdG (mN:=mN) (hT2.hasType YdG.hasBase) (I.ok.hd hc) (by rw[he];show (false || (backTo cpos (starEach rest X.env)).any (·.1))=false;rw[hpl];rfl) hni (Zd8 I hg hm ⟨rfl,?_⟩ hd)
 have hA:=ha cpos pins s σ H _ I h;rw[he] at hA ⊢;refine YeA (wpAny_mono hA (fun us s2 h2=>?_) fun _ _ y=>y);obtain⟨vs,H1,I1,rv,hlen,hE⟩:=h2;have hz2:100000<sizeLine:=by decide
 have hus:=rv.length;refine⟨rfl,by show us.length<=sizeLine;omega,I1.bk _ _ hC,hN.keeps I1.bk,hT2.keeps I1.bk,fun h' e hm=>?_⟩;obtain⟨tt,ht,_,_⟩:=hm.there;refine hT pins σ H1 { s2 with heap:=h' } e _ _ _ (I1.kept (t':=s2.toks) hm.keeps) ?_ ?_ ht rfl rfl rfl hE
 ·exact I1.hok.none_of hm.new
 ·cases q:X.s₀.heap.get? e with
  | none=>rfl
  | some o=>
   obtain⟨o',z⟩:=I1.base.there e o q (by rw[hex];intro y;cases y);rw[hm.new] at z;cases z
end
abbrev Cx.inTry (X:Cx) (pn':List (Addr × Obj)) (xe':Value->Shared->Prop):Cx:={ X with pn:=pn',xe:=xe' }
abbrev Cx.inSuite (X:Cx) (ea:Addr):Cx:={ X with A:=X.A.mark (some (.ref ea)),calm:=false,xe:=fun _ _=>False }
section
variable {X:Cx}{pins:List (Addr × Obj)}{σ:St}{H:Hp}{s:Shared}
theorem Cx.Ok.inTry (ok:X.Ok) (pn':List (Addr × Obj)) (xe':Value->Shared->Prop):(X.inTry pn' xe').Ok :=
 ⟨ok.mod,ok.kind,ok.glob,ok.blt,ok.above,ok.inj,ok.has,ok.cab,ok.hd,ok.frames,ok.stk,ok.exf,ok.bs,ok.bsz,ok.noex,ok.exfs,ok.funs,ok.frf⟩
theorem Cx.Ok.outTry {pn':List (Addr × Obj)}{xe':Value->Shared->Prop} (ok:(X.inTry pn' xe').Ok):X.Ok :=
 ⟨ok.mod,ok.kind,ok.glob,ok.blt,ok.above,ok.inj,ok.has,ok.cab,ok.hd,ok.frames,ok.stk,ok.exf,ok.bs,ok.bsz,ok.noex,ok.exfs,ok.funs,ok.frf⟩
theorem Cx.Ok.inSuite (ok:X.Ok) (ea:Addr):(X.inSuite ea).Ok :=
 ⟨ok.mod,ok.kind,ok.glob,ok.blt,ok.above,ok.inj,ok.has,ok.cab,fun z=>Bool.noConfusion z,ok.frames,ok.stk,ok.exf,ok.bs,ok.bsz,ok.noex,ok.exfs,ok.funs,ok.frf⟩
theorem Inv.inTry (I:Inv X pins σ H s) (xe':Value->Shared->Prop):Inv (X.inTry (X.pn++pins) xe') [] σ H s :=
 ⟨I.ok.inTry _ _,I.os,I.bare,I.base,I.loc,I.cell,I.free,I.freeC,fun p hp=>I.pin p (by simpa using hp),I.hok,I.len⟩
theorem Inv.outTry {xe':Value->Shared->Prop}{q:List (Addr × Obj)} (I:Inv (X.inTry (X.pn++pins) xe') q σ H s):Inv X pins σ H s :=
 ⟨I.ok.outTry,I.os,I.bare,I.base,I.loc,I.cell,I.free,I.freeC,fun p hp=>I.pin p (YaU _ hp),I.hok,I.len⟩
theorem Inv.inSuite (I:Inv X pins σ H s) (ea:Addr):Inv (X.inSuite ea) pins σ H s :=
 ⟨I.ok.inSuite _,I.os,I.bare,I.base,I.loc,I.cell,I.free,I.freeC,I.pin,I.hok,I.len⟩
theorem Inv.outSuite {ea:Addr} (ok:X.Ok) (I:Inv (X.inSuite ea) pins σ H s):Inv X pins σ H s :=
 ⟨ok,I.os,I.bare,I.base,I.loc,I.cell,I.free,I.freeC,I.pin,I.hok,I.len⟩
theorem Un.ext {fs ex:List Addr}{H H':Hp}{h h':Heap}{ea:Addr}{o:HO} (u:Un fs ex H H' h h') (h1:H' ea=none) (h2:h.get? ea=none):Un fs ex H (upd H' ea o) h h' where
 keep:=u.keep
 slot:=u.slot
 free:=fun b ob e n hx=>by rw[Zag (fun z=>by rw[z,h2] at e;cases e)];exact u.free b ob e n hx
 there:=u.there
 tups:=fun b xs e=>by rw[Zag (Zae (u.tups b xs e) h1)];exact u.tups b xs e
 frzs:=fun b ob xs e=>by rw[Zag (Zae (u.frzs b ob xs e) h1)];exact u.frzs b ob xs e
 tbls:=fun b ps e=>by
  obtain⟨more,q⟩:=u.tbls b ps e;exact⟨more,by rw[Zag (Zae q h1)];exact q⟩
theorem HOk.ext {P:Program}{w:World}{H:Hp}{h:Heap}{ea C:Addr}{od:Option Addr} (x:HOk P w H h) (h1:H ea=none) (h2:ZgW ea C od h):HOk P w (upd H ea (Zbe ea C od)) h:=fun a o e=>by
 by_cases ha:a=ea
 ·subst ha;rw[Zab] at e;cases e;obtain⟨oe,e1,e2⟩:=h2;exact⟨⟨oe,e1,e2⟩,⟨oe,e1⟩,fun g1 g2 ⟨o1,z1,z2⟩ k=>⟨o1,k _ z1,z2⟩⟩
 ·rw[Zag ha] at e;exact (x a o e).stay (fun _ _ _ z=>z) (fun b z=>by rw[Zag (Zae z h1)];exact z) fun b xs z=>by rw[Zag (Zae z h1)];exact z
theorem Zb6 {M:Model}{A:Around}{E:Value->Shared->Prop}{i:Nat}{x:Str}{pos:Pos}{Q:Unit->Shared->Prop} (I:Inv X pins σ H s) (hN:X.N.Nodup) (hi:X.N[i]?=some x) (hx:X.env.scope.names.lookup x=some .local)
  (h:∀ s',Inv X pins (σ.set i none) H s'->Q () s'):wpAny M A (do bindName X.env x .none;unbindBehindTheSuite X.env x pos) Q E s:=by
 obtain⟨m,hn,hl⟩:=id I.loc;have hcls:(X.env.scope.kind == .class || (X.env.scope.kind == .module && X.env.locals != X.env.globals))=false:=by rw[I.ok.kind];rfl
 have cne:=I.cne;obtain⟨oL,_,_,hoL,_⟩:=id hn;refine wpAny_nameGoes_keeps hx hn hcls fun h' v hn' hs=>?_;have far:∀ {b:Addr}{o:Obj},X.s₀.heap.get? b=some o->b≠X.env.locals:=fun e=>Yaz (Yap (Yah e) I.ok.above);refine h _ ⟨I.ok,I.os,I.bare,⟨fun b o e n hb hx=>(hs.2 b (far e)).trans (I.base.keep b o e n hb hx),fun b o e n hb hx=>?_,I.base.free,fun b o e hx=>?_,I.base.tups,I.base.frzs,I.base.tbls⟩,⟨_,hn',fun j y v' e1 e2 e3=>?_⟩,fun y c e=>?_,I.free,I.freeC,fun p hp=>?_,fun b ob e=>?_,by simpa using I.len⟩
 ·obtain⟨sl,q⟩:=I.base.slot b o e n hb hx;exact⟨sl,(hs.2 b (far e)).trans q⟩
 ·obtain⟨o',q⟩:=I.base.there b o e hx;exact⟨o',(hs.2 b (far e)).trans q⟩
 ·have hj:j≠i:=fun z=>by
   subst z;rw[List.getElem?_set] at e2;split at e2
   ·split at e2 <;> cases e2
   ·exact absurd rfl ‹¬ j=j›
  rw[YaN (Ybj hj)] at e2;obtain⟨u',r',q⟩:=hl j y v' e1 e2 e3;refine⟨u',r',?_⟩;rcases q with ⟨k,q⟩ | ⟨k,c,q,z⟩
  ·have hy:y≠x:=fun z=>hj (Zd6 hN e1 (z ▸ hi));exact .inl ⟨k,by simp[hy,q]⟩
  ·exact .inr ⟨k,c,q,z.sameBut hs (cne y c q)⟩
 ·obtain⟨w',z⟩:=I.cell y c e;exact⟨w',z.sameBut hs (cne y c e)⟩
 ·obtain⟨e,n,ne,nf,d⟩:=I.pin p hp;exact⟨(hs.2 p.1 ne).trans e,n,ne,nf,d⟩
 ·refine (I.hok b ob e).stay (fun c w' hc q=>(hs.2 c ?_).trans q) (fun _ q=>q) fun _ _ q=>q;rintro rfl;rcases hc with rfl | hc
  ·rw[I.free] at e;cases e
  ·rw[I.free] at hc;cases hc
end
def Ends.without (D:Ends) (i:Nat):Ends:={ nx:=fun σ H=>D.nx (σ.set i none) H,rt:=D.rt,bk:=fun σ H=>D.bk (σ.set i none) H,ct:=fun σ H=>D.ct (σ.set i none) H }
def Zmc (K:Frag) (n i:Nat) (c:Value) (ts:TS) (D:Ends):XK:=fun cls od H'=>∃ C:Addr,cls=.ref C/\exmOne K cls c=some true/\∀ ea,H' ea=none->ts (D.without i) ((Yau n none).set i (some (.ref ea))) (upd H' ea (Zbe ea C od))
def tTry (K:Frag) (n i:Nat) (c:Value) (tb:XK->TS) (ts:TS):TS:=fun D σ H=>tb (Zmc K n i c ts D) D σ H
section
variable {X:Cx}
theorem Zlh {body:List Stmt}{b0:Stmt}{suite:List Stmt}{cx n:Str}{c:Addr}{np hpos pos:Pos}{i:Nat}{tb:XK->TS}{ts:TS} (hN:X.N.Nodup) (hi:X.N[i]?=some n) (hx:X.env.scope.names.lookup n=some .local) (hg:Gl X cx) (hm:X.mg cx=some (.ref c))
  (hb:∀ (Ex:XK) (pn':List (Addr × Obj)) (xe':Value->Shared->Prop),ZdH (CX1 X.prog X.w) (X.inTry pn' xe') Ex->PSs (X.inTry pn' xe') body (tb Ex)) (hs:∀ ea:Addr,PSs (X.inSuite ea) (b0::suite) ts)
  (hst:X.stack=X.env::X.outer:=by rfl) (hf:X.env.frame=some X.env.locals:=by rfl) (hd:(cx == ("__debug__":Str))=false:=by decide) :
  PS X (.Try body [.ExceptHandler (some (.Name cx np)) (some n) (b0::suite) hpos] [] [] pos) (tTry X.K X.N.length i (.ref c) tb ts):=by
 intro pins s σ H D I h;refine wpAny_Try_except (wpAny_mono (hb _ (X.pn++pins) _ ?_ [] s σ H D (I.inTry _) h) (fun f s1 q=>?_) fun _ _ z=>z)
 ·intro pins2 σ2 H2 s2 e s2' J hcx;obtain⟨ea,cls,od,H',rfl,os',bare',un',hok',⟨a0,T,oe,oT,vs,ts',⟨f1,f2,f3,f4⟩,he,⟨hc,hod⟩,hdd,hv1,hTe,hT,hdT,h3⟩,C,rfl,hex,hrd⟩:=hcx;have J1:Inv (X.inTry (X.pn++pins) _) pins2 σ2 H' s2':=J.call' (ch:=[]) os' un' hok' bare' fun b z=>absurd z (by simp);have hfr:X.A.frames=some (X.env::X.outer):=J.ok.frames.trans (by rw[<- hst]);have hff:s2'.heap.FunFrames X.base X.stack:=J1.stack
  let Z:=ea::T::frs X.stack
  have hB:∀ b∈frs X.stack,(ZbZ s2'.heap Z).get? b=none:=fun b hb=>ZaJ (Yat _ (Yat _ hb));have hff2:s2'.heap.FunFrames (ZbZ s2'.heap Z) (X.env::X.outer):=by rw[<- hst];exact Zbr hff hB
  have at_:∀ h':Heap,Heap.FlyingW (ZbZ s2'.heap Z) (X.env::X.outer) ea (.ref C) a0 h'->s2'.heap.UpToSlots h'->DK s2'.heap h'->Inv (X.inSuite ea) pins (Yau X.N.length none) (upd H' ea (Zbe ea C od)) { s2' with heap:=h' }:=fun h' hfl up dk=>by
   have hkeep:∀ b o,s2'.heap.get? b=some o->b ∉ Z->h'.get? b=some o:=fun b o e n=>hfl.1 b o (by rw[ZbI n];exact e);have hzl:∀ z∈Z,z∈frs X.stack∨s2.heap.get? z=none:=fun z hz=>by
    rcases Yai.mp hz with rfl | hz
    ·exact .inr f3
    ·rcases Yai.mp hz with rfl | hz
     ·exact .inr f4
     ·exact .inl hz
   have hzn:∀ z∈Z,H' z=none:=fun z hz=>by
    rcases Yai.mp hz with rfl | hz
    ·exact f1
    ·rcases Yai.mp hz with rfl | hz
     ·exact f2
     ·exact J1.stkFree z hz
   have u2:Un (frs X.stack) [] H2 H' s2.heap h':=un'.hide hzl hkeep fun b hb o e=>by
    obtain⟨_,o',ho',hnf⟩:=hff.mem hb;rw[e] at ho';cases ho';exact up b o e hnf
   have hx2:ZgW ea C od h':=by
    obtain⟨ob,ws,q1,q2,q3,_⟩:=hfl.first
    exact⟨ob,q1,q2,(dk.at he q1).trans hod,ws,q3⟩
   have J2:Inv (X.inTry (X.pn++pins) _) pins2 σ2 (upd H' ea (Zbe ea C od)) { s2' with heap:=h' }:=J.call' (ch:=[]) os' (u2.ext f1 f3) ((hok'.hide hzn hkeep).ext f1 hx2) bare' fun b z=>absurd z (by simp);have J3:Inv X pins σ2 (upd H' ea (Zbe ea C od)) { s2' with heap:=h' }:=J2.outTry;exact (J3.weak (σ':=Yau X.N.length none) (by rw[YbS];exact J3.len.symm) fun j v z=>by
    rw[YbY] at z;split at z <;> cases z).inSuite ea
  have hX:X.Ok:=I.ok;refine Zb5 Zcx (wpAny_looks_onW (base:=ZbZ s2'.heap Z) hfr hf ⟨ZbY,ZaJ YaG,hff2,⟨oe,vs,T,oT,ts',he,hc,hdd,hv1,ZaJ (Yat _ YaG),hTe,hT,hdT,h3⟩⟩ fun h1 held up1 dk1=>?_);refine Zb5 Zby (wpAny_landsW held fun h2 fly2 up2 dk2=>?_);have JS:=at_ h2 fly2 (up1.trans up2) (dk1.trans dk2);refine wpAny_handleBy_cons (codeAny_handlers_test ?_) (by intro q;cases q);refine Zd8 JS hg hm ?_ hd;have LT:Looks (model X.prog X.w) h2 (typeOf (.ref ea)) (.ref C):=by
   obtain⟨ob,e1,e2⟩:=fly2.there;rw[<- e2];exact (Looks.ld e1).andThen .now
  refine (exm_one JS.kIn LT hex).here ?_;refine codeAny_handlers_suite_as (Zb5 Zby (lands_againW fly2 fun h3' fly3 up3 dk3=>?_));have JS3:=at_ h3' fly3 ((up1.trans up2).trans up3) ((dk1.trans dk2).trans dk3);refine ZdL (X:=X.inSuite ea) JS3 hN hi (.inl hx) (v:=.ref ea) rfl (fun s4 J4=>?_) (.inr hx);refine wpAny_mono (hs ea pins s4 _ _ _ J4 (hrd ea f1)) (fun f s5 q=>?_) fun _ _ z=>Yca z
  cases f with
  | next=>
   obtain⟨σ',H'',I',r⟩:=q;exact Zb6 (I'.outSuite hX) hN hi hx fun s6 I6=>⟨_,_,I6,r⟩
  | brk=>
   obtain⟨σ',H'',I',r⟩:=q;exact Zb6 (I'.outSuite hX) hN hi hx fun s6 I6=>⟨_,_,I6,r⟩
  | cont=>
   obtain⟨σ',H'',I',r⟩:=q;exact Zb6 (I'.outSuite hX) hN hi hx fun s6 I6=>⟨_,_,I6,r⟩
  | ret u=>
   obtain⟨v,σ',H'',I',rv,r⟩:=q;exact Zb6 (I'.outSuite hX) hN hi hx fun s6 I6=>⟨v,_,_,I6,rv,r⟩
 ·cases f with
  | next=>
   obtain⟨σ',H',I',r⟩:=q;exact wpAny_execs_nil ⟨σ',H',I'.outTry,r⟩
  | brk=>obtain⟨σ',H',I',r⟩:=q;exact⟨σ',H',I'.outTry,r⟩
  | cont=>obtain⟨σ',H',I',r⟩:=q;exact⟨σ',H',I'.outTry,r⟩
  | ret u=>obtain⟨v,σ',H',I',rv,r⟩:=q;exact⟨v,σ',H',I'.outTry,rv,r⟩
end
end L2
namespace L2
open PySem PySem.Spec PyProof.Rows
def Zf1:Expr->Bool
 | .Starred ..=>false
 | _=>true
theorem Zgr {e:Expr}{es:List Expr}{env:Env} (h:Zf1 e=true):starEach (e::es) env=(false,eval e env)::starEach es env:=by
 cases e <;> first | rfl | (cases h)
structure WA (X:Cx) (es:List Expr) (t:TA):Prop where
 out:PA X es t
structure WS (X:Cx) (st:Stmt) (t:TS):Prop where
 out:PS X st t
structure WSs (X:Cx) (sts:List Stmt) (t:TS):Prop where
 out:PSs X sts t
section
variable {X:Cx}{st:Stmt}{rest a b:List Stmt}{t u:TS}{c e:Expr}{tc:TT}{pos:Pos}{es:List Expr}{te:TE}{ta:TA}
theorem Zai (h1:WS X st t) (h2:WSs X rest u):WSs X (st::rest) (tSeq t u):=⟨Zaq h1.out h2.out⟩
theorem Zax (h:WS X st t):WSs X [st] t:=⟨Zav h.out⟩
theorem Zbn:WSs X [] Zk5:=⟨Zcp⟩
theorem wss {sts:List Stmt} (h:PSs X sts t):WSs X sts t:=⟨h⟩
theorem Zc9 (hc:PT X c tc) (ha:WSs X a t) (hb:WSs X b u):WS X (.If c a b pos) (tIfS tc t u):=⟨Zfl hc ha.out hb.out⟩
theorem ws (h:PS X st t):WS X st t:=⟨h⟩
theorem ZfE:WA X [] tNil:=⟨Zad⟩
theorem ZaA (hn:Zf1 e=true) (ha:PE X e te) (hr:WA X es ta):WA X (e::es) (Zk7 te ta):=⟨Zaa ha hr.out (Zgr hn)⟩
end
section
variable {P:Program}{w:World}{K:Yad}{mg:Str->Option Value}{base:Heap}
theorem okW {x qual:Str}{st:Stmt}{f:Addr}{fd:FuncData}{N ps:List Str}{k:Nat}{sp:Sp} (F:Fun K x qual st f fd) (S:FnScope N ps (Zac st)) (len:∀ vs H Q E,sp vs H Q E->vs.length=ps.length)
  (hbody:∀ (cdv:Value) (A:Around) (outer:List Env) (s:Shared) (H:Hp) (vs:List V) (Q:VK) (E:XK),Room k (A.deeper (envOfC qual (Zac st) s.heap.objs.size f cdv))->sp vs H Q E ->
   ∃ t,WSs (cxOf CX0 P w K mg base N qual (Zac st) f cdv A outer s H E).nox (Zah st) t/\t { nx:=fun _ H'=>Q .non H',rt:=Q } (start N vs) H):FnOk P w K mg base CX0 (k+1) f fd ps sp :=
 F.ok S len fun cdv A outer s H vs Q E hr hsp=>by
  obtain⟨t,h,q⟩:=hbody cdv A outer s H vs Q E hr hsp;exact⟨t,h.out,q⟩
end
end L2
namespace L2
open PySem PySem.Spec PyProof.Rows PySem.SeqAt
section
variable {X:Cx}{pins:List (Addr × Obj)}{σ:St}{H:Hp}{s:Shared}{a:Addr}{u v:HO}{kvs:List (Key × V)}
end
section
variable {X:Cx}
end
section
variable {X:Cx}
end
section
variable {prog:Program}{w:World}{A:Around}{R:Result->Shared->Prop}{s:Shared}
end
section
variable {X:Cx}{pins:List (Addr × Obj)}{σ:St}{H H':Hp}{s s':Shared}{scope:Scope}{own:List Str}{js:List Nat}{C:Addr}{fp:List Addr}
end
section
variable {X:Cx}{scope:Scope}{own:List Str}{js:List Nat}{kx vx iter target:Expr}{ifs:List Expr}{wi:TI}{g:TG}{tt:TT}{tk tv:TE}{pos:Pos}
end
end L2
namespace L2
open PySem PyProof.Rows
structure KO extends KeyOrd where
 ky:Keyed->α
namespace KO
variable {O:KO}{x y z:Keyed}
def le (O:KO) (x y:Keyed):Prop:=O.blt (O.ky y) (O.ky x)=false
theorem le_refl:O.le x x:=O.irrefl _
theorem le_trans (h1:O.le x y) (h2:O.le y z):O.le x z:=Ycy (O:=O.toKeyOrd) h1 h2
theorem le_of_lt (h:O.blt (O.ky x) (O.ky y)=true):O.le x y:=KeyOrd.klt_asymm (O:=O.toKeyOrd) h
abbrev Srt (O:KO) (l:List Keyed):Prop:=l.Pairwise O.le
end KO
def Zfw:Bool->Keyed->Array Keyed->Nat->Nat->Nat->StateT SortSt Sem (Option Nat):=sortPriv% PySem.Builtin.gallop
def Zjl:Array Keyed->Array Keyed->StateT SortSt Sem (Array Keyed):=sortPriv% PySem.Builtin.mergeLo
def Zjm:Array Keyed->Array Keyed->StateT SortSt Sem (Array Keyed):=sortPriv% PySem.Builtin.mergeHi
def Zgx:Nat->StateT SortSt Sem Unit:=sortPriv% PySem.Builtin.setMinGallop
section
variable {prog:Program}{w:World}{A:Around}{E:Value->Shared->Prop}{s:Shared}{O:KO}{knd:SortKind}{ok:Keyed->Prop}{st:SortSt}
def Asks (prog:Program) (w:World) (A:Around) (s:Shared) (O:KO) (knd:SortKind) (ok:Keyed->Prop):Prop :=
 ∀ x y,ok x->ok y->∀ (E:Value->Shared->Prop) (Q:Bool->Shared->Prop),Q (O.blt (O.ky x) (O.ky y)) s->wpAny (model prog w) A (keyLt' knd x.1 y.1) Q E s
theorem Zep {x y:Keyed}{Q:Option Bool->SortSt->Prop} (hA:Asks prog w A s O knd ok) (hk:kindOf st=knd) (hx:ok x) (hy:ok y) (h:Q (some (O.blt (O.ky x) (O.ky y))) st):wpS (model prog w) A E s (lt' x y) Q st:=by
 rw[lt'_eq];refine wpS_bind (wpS_get ?_);rw[hk];refine wpS_bind (wpS_lift (wpAny_attempt (hA x y hx hy _ _ ⟨rfl,?_⟩)));exact wpS_pure h
theorem Zal {arr:Array Keyed}{i:Nat}{x:Keyed}{Q:Keyed->SortSt->Prop} (e:arr[i]?=some x) (h:Q x st):wpS (model prog w) A E s (elem' arr i) Q st:=by
 rw[elem'_eq,e];exact wpS_pure h
def ZiB (left:Bool) (key:Keyed) (arr:Array Keyed) (base i:Nat):StateT SortSt Sem (Option Bool) :=
 elem' arr (base+i) >>= fun x=>if left=true then lt' x key else lt' key x >>= fun r=>pure (r.map (! ·))
theorem Zdj {left:Bool}{key:Keyed}{arr:Array Keyed}{base n hint:Nat}{Q:Option Nat->SortSt->Prop} (hA:Asks prog w A s O knd ok) (hk:kindOf st=knd) (hkey:ok key) (B:Nat->Bool)
    (hB:∀ i,i<n->∃ x,arr[base+i]?=some x/\ok x/\B i=if left=true then O.blt (O.ky x) (O.ky key) else !(O.blt (O.ky key) (O.ky x)))
    (mono:∀ i j,i<=j->j<n->B j=true->B i=true) (hh:hint<n)
    (h:∀ k,k<=n->(∀ i,i<k->B i=true)->(∀ i,k<=i->i<n->B i=false)->Q (some k) st):wpS (model prog w) A E s (Zfw left key arr base n hint) Q st:=by
  have bey:∀ i,i<n->∀ {Q':Option Bool->SortSt->Prop},Q' (some (B i)) st->wpS (model prog w) A E s (ZiB left key arr base i) Q' st:=by
    intro i hi Q' hq;obtain⟨x,e,hx,eb⟩:=hB i hi;refine wpS_bind (Zal e ?_);rw[eb] at hq
    cases left with
    | true=>simp only[if_true] at hq ⊢;exact Zep hA hk hx hkey hq
    | false=>
      simp only[Yar,if_false] at hq ⊢;exact wpS_bind (Zep hA hk hkey hx (wpS_pure hq))
  have monoF:∀ i j,i<=j->j<n->B i=false->B j=false:=by
    intro i j hij hj hf
    cases e:B j with
    | false=>rfl
    | true=>rw[mono i j hij hj e] at hf;cases hf
  have jp:∀ lo hi,lo<=hi->hi<=n->(∀ i,i<lo->B i=true)->(∀ i,hi<=i->i<n->B i=false) ->
      wpS (model prog w) A E s (forIn [:n] ((none : Option (Option Nat)), lo, hi) fun _ c => if c.2.1 ≥ c.2.2 then pure (Yb9 (none, c.2.1, c.2.2)) else ZiB left key arr base (c.2.1 + (c.2.2 - c.2.1) / 2) >>= fun x => match x with
          | some more=>if more=true then pure (Ya8 (none,c.2.1+(c.2.2 - c.2.1) / 2+1,c.2.2)) else pure (Ya8 (none,c.2.1,c.2.1+(c.2.2 - c.2.1) / 2))
          | _=>pure (Yb9 (some none,c.2.1,c.2.2)))
        (fun c st'=>st'=st/\∃ l k,c=(none,l,k)/\Q (some k) st) st:=by
    intro lo hi hle hin hlo hhi;refine wpS_forRange (I:=fun x c st'=>st'=st/\∃ l k,c=(none,l,k)/\l<=k/\k<=n/\k - l<=n - x/\(∀ i,i<l->B i=true)/\(∀ i,k<=i->i<n->B i=false)) ?step ?fin ⟨rfl,lo,hi,rfl,hle,hin,by omega,hlo,hhi⟩
    case fin=>
      rintro c st' ⟨rfl,l,k,rfl,h1,h2,h3,h4,h5⟩;have e:l=k:=by omega
      subst e;exact⟨rfl,l,l,rfl,h l h2 h4 h5⟩
    case step=>
      rintro x c st' _ hx ⟨rfl,l,k,rfl,h1,h2,h3,h4,h5⟩;dsimp only;by_cases hge:l ≥ k
      · rw[if_pos hge];have e:l=k:=by omega
        subst e;exact wpS_pure ⟨rfl,l,l,rfl,h l h2 h4 h5⟩
      · rw[if_neg hge];have hm:l+(k - l) / 2<k:=by omega
        refine wpS_bind (bey _ (by omega) ?_)
        cases e:B (l+(k - l) / 2) with
        | true=>
          simp only[if_true];exact wpS_pure ⟨rfl,_,_,rfl,by omega,h2,by omega,fun i hi=>mono i _ (by omega) (by omega) e,h5⟩
        | false=>
          simp only[Yar,if_false];exact wpS_pure ⟨rfl,_,_,rfl,by omega,by omega,by omega,h4,fun i h6 h7=>monoF _ i h6 h7 e⟩
  refine wpS_bind (bey hint hh ?_);dsimp only
  cases e0:B hint with
  | true=>
    simp only[if_true];refine wpS_bind (wpS_mono (wpS_forRange (I:=fun x c st'=>st'=st/\∃ l k,c=((none:Option (Option Nat)),l,k)/\l<k/\x+1<=k/\hint+l<n/\B (hint+l)=true)
      (Q:=fun c st'=>st'=st/\∃ l k,c=((none:Option (Option Nat)),l,k)/\l<k/\hint+l<n/\B (hint+l)=true/\(n - hint<=k∨(hint+k<n/\B (hint+k)=false))) ?step ?fin ⟨rfl,0,1,rfl,by omega,by omega,hh,e0⟩) ?post)
    case fin=>
      rintro c st' ⟨rfl,l,k,rfl,h1,h2,h3,h4⟩;exact⟨rfl,l,k,rfl,h1,h3,h4,.inl (by omega)⟩
    case step=>
      rintro x c st' _ hx ⟨rfl,l,k,rfl,h1,h2,h3,h4⟩;dsimp only;by_cases hge:k ≥ n - hint
      · rw[if_pos hge];exact wpS_pure ⟨rfl,l,k,rfl,h1,h3,h4,.inl hge⟩
      · rw[if_neg hge];refine wpS_bind (bey (hint+k) (by omega) ?_)
        cases e:B (hint+k) with
        | true=>
          simp only[YbT,Yar,if_false];exact wpS_pure ⟨rfl,_,_,rfl,by omega,by omega,by omega,e⟩
        | false=>
          simp only[Yee,if_true];exact wpS_pure ⟨rfl,l,k,rfl,h1,h3,h4,.inr ⟨by omega,e⟩⟩
    case post=>
      rintro c st' ⟨rfl,l,k,rfl,h1,h3,h4,h5⟩;dsimp only;refine wpS_bind (wpS_mono (jp (hint+l+1) (hint+min k (n - hint)) (by omega) (by omega) (fun i hi=>mono i (hint+l) (by omega) h3 h4) (fun i h6 h7=>?_)) ?_)
      · rcases h5 with h5 | ⟨h5,h8⟩
        · omega
        · exact monoF (hint+k) i (by omega) h7 h8
      · rintro c st' ⟨rfl,l,k,rfl,q⟩;exact wpS_pure q
  | false=>
    simp only[Yar,if_false];refine wpS_bind (wpS_mono (wpS_forRange (I:=fun x c st'=>st'=st/\∃ l k,c=((none:Option (Option Nat)),l,k)/\l<k/\x+1<=k/\l<=hint/\B (hint - l)=false)
      (Q:=fun c st'=>st'=st/\∃ l k,c=((none:Option (Option Nat)),l,k)/\l<k/\l<=hint/\B (hint - l)=false/\(hint+1<=k∨(k<=hint/\B (hint - k)=true))) ?step ?fin ⟨rfl,0,1,rfl,by omega,by omega,by omega,e0⟩) ?post)
    case fin=>
      rintro c st' ⟨rfl,l,k,rfl,h1,h2,h3,h4⟩;exact⟨rfl,l,k,rfl,h1,h3,h4,.inl (by omega)⟩
    case step=>
      rintro x c st' _ hx ⟨rfl,l,k,rfl,h1,h2,h3,h4⟩;dsimp only;by_cases hge:k ≥ hint+1
      · rw[if_pos hge];exact wpS_pure ⟨rfl,l,k,rfl,h1,h3,h4,.inl hge⟩
      · rw[if_neg hge];refine wpS_bind (bey (hint - k) (by omega) ?_)
        cases e:B (hint - k) with
        | true=>
          simp only[if_true];exact wpS_pure ⟨rfl,l,k,rfl,h1,h3,h4,.inr ⟨by omega,e⟩⟩
        | false=>
          simp only[Yar,if_false];exact wpS_pure ⟨rfl,_,_,rfl,by omega,by omega,by omega,e⟩
    case post=>
      rintro c st' ⟨rfl,l,k,rfl,h1,h3,h4,h5⟩;dsimp only;refine wpS_bind (wpS_mono (jp (hint+1 - min k (hint+1)) (hint - l) (by omega) (by omega) (fun i hi=>?_) (fun i h6 h7=>monoF _ i h6 h7 h4)) ?_)
      · rcases h5 with h5 | ⟨h5,h8⟩
        · omega
        · exact mono i (hint - k) (by omega) (by omega) h8
      · rintro c st' ⟨rfl,l,k,rfl,q⟩;exact wpS_pure q
end
section
variable {O:KO}{a b out:List Keyed}{ia ib:Nat}{x:Keyed}
theorem Zfy {l:List Keyed}{i:Nat}{x:Keyed} (e:l[i]?=some x):l.drop i=x::l.drop (i+1):=by
 obtain⟨h,rfl⟩:=Yae.mp e;exact Yeb h
theorem Zgf (a:Array Keyed) (i:Nat):(a.extract i a.size).toList=a.toList.drop i:=by
 rw[YcC];simp only[Yex];exact Ybo (by simp)
theorem Zfx (a:Array Keyed) (i k:Nat):(a.extract i (i+k)).toList=(a.toList.drop i).take k:=by
 rw[YcC];simp[Yex]
structure MI (O:KO) (a b out:List Keyed) (ia ib:Nat):Prop where
 perm:(out++(a.drop ia++b.drop ib)).Perm (a++b)
 srt:O.Srt out
 le:∀ x∈out,∀ y∈a.drop ia++b.drop ib,O.le x y
theorem ZfI (h:O.Srt out) (hx:∀ y∈out,O.le y x):O.Srt (out++[x]) :=
 YaM.mpr ⟨h,Yeo _ _,fun y hy z hz=>by rw[YaE.mp hz];exact hx y hy⟩
theorem MI.takeA (h:MI O a b out ia ib) (sa:O.Srt a) (e:a[ia]?=some x) (hb:∀ y∈b.drop ib,O.le x y):MI O a b (out++[x]) (ia+1) ib:=by
 have ed:=Zfy e;have sd:O.Srt (x::a.drop (ia+1)):=ed ▸ sa.drop;refine⟨?_,ZfI h.srt fun y hy=>h.le y hy x (by rw[ed];simp),fun y hy z hz=>?_⟩
 ·have p:=h.perm;rw[ed] at p;simpa using p
 ·rcases Yan.mp hy with hy | hy
  ·refine h.le y hy z ?_;rw[ed];rcases Yan.mp hz with hz | hz
   ·exact YaU _ (Yat _ hz)
   ·exact Yay _ hz
  ·rw[YaE.mp hy];rcases Yan.mp hz with hz | hz
   ·exact (YbQ.mp sd).1 z hz
   ·exact hb z hz
theorem MI.takeB (h:MI O a b out ia ib) (sb:O.Srt b) (e:b[ib]?=some x) (ha:∀ y∈a.drop ia,O.le x y):MI O a b (out++[x]) ia (ib+1):=by
 have ed:=Zfy e;have sd:O.Srt (x::b.drop (ib+1)):=ed ▸ sb.drop;refine⟨?_,ZfI h.srt fun y hy=>h.le y hy x (by rw[ed];simp),fun y hy z hz=>?_⟩
 ·have p:=h.perm;rw[ed] at p;refine Ydu ?_ p;rw[YaI];exact Yb0 _ (show List.Perm (x::(a.drop ia++b.drop (ib+1))) _ from Yfb.symm)
 ·rcases Yan.mp hy with hy | hy
  ·refine h.le y hy z ?_;rw[ed];rcases Yan.mp hz with hz | hz
   ·exact YaU _ hz
   ·exact Yay _ (Yat _ hz)
  ·rw[YaE.mp hy];rcases Yan.mp hz with hz | hz
   ·exact ha z hz
   ·exact (YbQ.mp sd).1 z hz
theorem Zey {l:List Keyed}{i k:Nat}{x:Keyed} (e:l[i+k]?=some x):(l.drop i).take (k+1)=(l.drop i).take k++[x]:=by
 rw[List.take_succ,YcP,e];rfl
theorem MI.takeAs (h:MI O a b out ia ib) (sa:O.Srt a):∀ k,ia+k<=a.length->(∀ i z,i<k->a[ia+i]?=some z->∀ y∈b.drop ib,O.le z y)->MI O a b (out++(a.drop ia).take k) (ia+k) ib
 | 0,_,_=>by simpa using h
 | k+1,hl,hz=>by
  have q:=MI.takeAs h sa k (by omega) fun i z hi e=>hz i z (by omega) e;have e:a[ia+k]?=some a[ia+k]:=Yaa (by omega);have r:=q.takeA sa e (hz k _ (by omega) e);rw[YaI,<- Zey e] at r;exact r
theorem MI.takeBs (h:MI O a b out ia ib) (sb:O.Srt b):∀ k,ib+k<=b.length->(∀ i z,i<k->b[ib+i]?=some z->∀ y∈a.drop ia,O.le z y)->MI O a b (out++(b.drop ib).take k) ia (ib+k)
 | 0,_,_=>by simpa using h
 | k+1,hl,hz=>by
  have q:=MI.takeBs h sb k (by omega) fun i z hi e=>hz i z (by omega) e;have e:b[ib+k]?=some b[ib+k]:=Yaa (by omega);have r:=q.takeB sb e (hz k _ (by omega) e);rw[YaI,<- Zey e] at r;exact r
def Mg (O:KO) (a b r:List Keyed):Prop:=r.Perm (a++b)/\O.Srt r
theorem MI.doneA (h:MI O a b out ia ib) (sa:O.Srt a) (e:b.length<=ib):Mg O a b (out++a.drop ia++b.drop ib):=by
 have eb:b.drop ib=[]:=List.drop_eq_nil_of_le e;refine⟨by rw[YaI];exact h.perm,?_⟩;rw[eb,Ybw];exact YaM.mpr ⟨h.srt,sa.drop,fun x hx y hy=>h.le x hx y (YaU _ hy)⟩
theorem MI.doneB (h:MI O a b out ia ib) (sa:O.Srt a) (sb:O.Srt b) (hl:∀ x∈b.drop ib,∀ y∈a.drop ia,O.le x y):Mg O a b (out++b.drop ib++a.drop ia):=by
 refine⟨by rw[YaI];exact (Yb0 _ Yeu).trans h.perm,?_⟩;rw[YaI];refine YaM.mpr ⟨h.srt,YaM.mpr ⟨sb.drop,sa.drop,hl⟩,fun x hx y hy=>h.le x hx y ?_⟩;rcases Yan.mp hy with hy | hy
 ·exact Yay _ hy
 ·exact YaU _ hy
end
section
variable {prog:Program}{w:World}{A:Around}{E:Value->Shared->Prop}{s:Shared}{O:KO}{knd:SortKind}{ok:Keyed->Prop}{st:SortSt}
theorem Zaz {α:Type}{c:Prop} [Decidable c] {p q:StateT SortSt Sem α}{Q:α->SortSt->Prop} (h1:c->wpS (model prog w) A E s p Q st) (h2:¬ c->wpS (model prog w) A E s q Q st):wpS (model prog w) A E s (if c then p else q) Q st:=by
 by_cases h:c
 ·rw[if_pos h];exact h1 h
 ·rw[if_neg h];exact h2 h
def Gal (st st':SortSt):Prop:=kindOf st'=kindOf st/\arrOf st'=arrOf st/\pendingOf st'=pendingOf st/\failedOf st'=failedOf st
theorem Gal.refl:Gal st st:=⟨rfl,rfl,rfl,rfl⟩
theorem Za5 {g:Nat}{st1:SortSt}{Q:Unit->SortSt->Prop} (hG:Gal st st1) (h:∀ st',Gal st st'->Q () st'):wpS (model prog w) A E s (Zgx g) Q st1 :=
 wpS_modify (h _ ⟨hG.1,hG.2.1,hG.2.2.1,hG.2.2.2⟩)
theorem Zca {l:List Keyed} (sl:O.Srt l) {i j:Nat}{x y:Keyed} (hij:i<=j) (hx:l[i]?=some x) (hy:l[j]?=some y):O.le x y:=by
 obtain⟨h1,rfl⟩:=Yae.mp hx;obtain⟨h2,rfl⟩:=Yae.mp hy;rcases YeZ hij with h | h
 ·exact YcR.mp sl i j h1 h2 h
 ·subst h;exact KO.le_refl
theorem ZaL {l:List Keyed}{i:Nat}{y:Keyed} (h:y∈l.drop i):∃ j,i<=j/\l[j]?=some y:=by
 obtain⟨j,hj,e⟩:=YeG.mp h;exact⟨i+j,by omega,by rw[<- YcP,Yaa hj,e]⟩
theorem Zcs {l:List Keyed} (sl:O.Srt l) {i:Nat}{x:Keyed} (hx:l[i]?=some x):∀ y∈l.drop i,O.le x y:=fun y hy=>
 let ⟨_,hj,e⟩:=ZaL hy
 Zca sl hj hx e
theorem ZaD {a:Array Keyed}{i:Nat} (h:i<a.size):∃ x,a[i]?=some x/\a.toList[i]?=some x/\x∈a.toList :=
 ⟨a[i],YaL h,by rw[Yaf];exact YaL h,by simp⟩
theorem ZdF {a:Array Keyed}{i:Nat}{x:Keyed} (h:a[i]?=some x):a.toList[i]?=some x:=by rw[Yaf];exact h
theorem ZbQ {key:Keyed}{a:Array Keyed}{i n hint:Nat}{Q:Option Nat->SortSt->Prop} (hA:Asks prog w A s O knd ok) (hk:kindOf st=knd) (hkey:ok key) (oka:∀ x∈a.toList,ok x) (hi:i+n<=a.size)
  (sa:∀ p q x y,i<=p->p<=q->q<i+n->a[p]?=some x->a[q]?=some y->O.le x y) (hh:hint<n)
  (h:∀ k,k<=n->(∀ j z,j<k->a[i+j]?=some z->O.le z key)->(∀ j z,k<=j->j<n->a[i+j]?=some z->O.blt (O.ky key) (O.ky z)=true)->Q (some k) st):wpS (model prog w) A E s (Zfw false key a i n hint) Q st:=by
 refine Zdj hA hk hkey (fun j=>!(O.blt (O.ky key) (O.ky (a.getD (i+j) key)))) ?_ ?_ hh ?_
 ·intro j hj;obtain⟨x,e1,_,e3⟩:=ZaD (a:=a) (i:=i+j) (by omega);refine⟨x,e1,oka x e3,?_⟩;have e4:a.getD (i+j) key=x:=by rw[YaV,e1];rfl
  simp[e4]
 ·intro p q hpq hq hb;obtain⟨x,e1,_,_⟩:=ZaD (a:=a) (i:=i+p) (by omega);obtain⟨y,f1,_,_⟩:=ZaD (a:=a) (i:=i+q) (by omega);have e4:a.getD (i+p) key=x:=by rw[YaV,e1];rfl
  have f4:a.getD (i+q) key=y:=by rw[YaV,f1];rfl
  rw[f4] at hb;rw[e4];have z:O.le x key:=KO.le_trans (sa _ _ x y (by omega) (by omega) (by omega) e1 f1) (show O.blt _ _=false by simpa using hb);have z:O.blt (O.ky key) (O.ky x)=false:=z;simpa using z
 ·intro k hk1 h1 h2;refine h k hk1 (fun j z hj e=>?_) (fun j z hj hj2 e=>?_)
  ·have e4:a.getD (i+j) key=z:=by rw[YaV,e];rfl
   have:=h1 j hj;rw[e4] at this;exact (show O.blt _ _=false by simpa using this)
  ·have e4:a.getD (i+j) key=z:=by rw[YaV,e];rfl
   have:=h2 j hj hj2;rw[e4] at this;simpa using this
theorem Za7 {key:Keyed}{a:Array Keyed}{i n hint:Nat}{Q:Option Nat->SortSt->Prop} (hA:Asks prog w A s O knd ok) (hk:kindOf st=knd) (hkey:ok key) (oka:∀ x∈a.toList,ok x) (hi:i+n<=a.size)
  (sa:∀ p q x y,i<=p->p<=q->q<i+n->a[p]?=some x->a[q]?=some y->O.le x y) (hh:hint<n)
  (h:∀ k,k<=n->(∀ j z,j<k->a[i+j]?=some z->O.blt (O.ky z) (O.ky key)=true)->(∀ j z,k<=j->j<n->a[i+j]?=some z->O.le key z)->Q (some k) st):wpS (model prog w) A E s (Zfw true key a i n hint) Q st:=by
 refine Zdj hA hk hkey (fun j=>O.blt (O.ky (a.getD (i+j) key)) (O.ky key)) ?_ ?_ hh ?_
 ·intro j hj;obtain⟨x,e1,_,e3⟩:=ZaD (a:=a) (i:=i+j) (by omega);refine⟨x,e1,oka x e3,?_⟩;have e4:a.getD (i+j) key=x:=by rw[YaV,e1];rfl
  simp[e4]
 ·intro p q hpq hq hb;obtain⟨x,e1,_,_⟩:=ZaD (a:=a) (i:=i+p) (by omega);obtain⟨y,f1,_,_⟩:=ZaD (a:=a) (i:=i+q) (by omega);have e4:a.getD (i+p) key=x:=by rw[YaV,e1];rfl
  have f4:a.getD (i+q) key=y:=by rw[YaV,f1];rfl
  rw[f4] at hb;rw[e4];exact KeyOrd.klt_of_kle_of_klt (O:=O.toKeyOrd) (sa _ _ x y (by omega) (by omega) (by omega) e1 f1) hb
 ·intro k hk1 h1 h2;refine h k hk1 (fun j z hj e=>?_) (fun j z hj hj2 e=>?_)
  ·have e4:a.getD (i+j) key=z:=by rw[YaV,e];rfl
   have:=h1 j hj;rw[e4] at this;exact this
  ·have e4:a.getD (i+j) key=z:=by rw[YaV,e];rfl
   have:=h2 j hj hj2;rw[e4] at this;exact this
theorem srtA {a:Array Keyed} (sa:O.Srt a.toList) (i n:Nat):∀ p q x y,i<=p->p<=q->q<i+n->a[p]?=some x->a[q]?=some y->O.le x y:=fun p q x y _ h _ e1 e2=>Zca sa h (ZdF e1) (ZdF e2)
theorem Zfb {a b:Array Keyed}{Q:Array Keyed->SortSt->Prop} (hA:Asks prog w A s O knd ok) (hk:kindOf st=knd) (oka:∀ x∈a.toList,ok x) (okb:∀ x∈b.toList,ok x) (sa:O.Srt a.toList) (sb:O.Srt b.toList) (ha:1<=a.size) (hb:1<=b.size)
  (hfirst:∀ y,b[0]?=some y->∀ x∈a.toList,O.le y x) (hlast:∀ z,a[a.size - 1]?=some z->∀ y∈b.toList,O.blt (O.ky y) (O.ky z)=true)
  (h:∀ r st',Gal st st'->Mg O a.toList b.toList r.toList->Q r st'):wpS (model prog w) A E s (Zjl a b) Q st:=by
 obtain⟨b0,eb0,eb0',_⟩:=ZaD (a:=b) (i:=0) (by omega);have done:∀ {out:Array Keyed}{ia ib:Nat},MI O a.toList b.toList out.toList ia ib->b.size<=ib->Mg O a.toList b.toList (out++a.extract ia a.size++b.extract ib b.size).toList:=by
  intro out ia ib m hl;rw[YaY,YaY,Zgf,Zgf];exact m.doneA sa hl
 have last:∀ {out:Array Keyed}{ia ib:Nat},MI O a.toList b.toList out.toList ia ib->ia+1=a.size->Mg O a.toList b.toList (out++b.extract ib b.size++a.extract ia a.size).toList:=by
  intro out ia ib m hl;rw[YaY,YaY,Zgf,Zgf];refine m.doneB sa sb fun x hx y hy=>?_;obtain⟨j,hj,e⟩:=ZaL hy;have hj2:j<a.size:=(Yae.mp e).1
  have e2:j=a.size - 1:=by omega
  rw[e2] at e;rw[Yaf] at e;exact KO.le_of_lt (hlast y e x (YbH hx))
 have pB:∀ {out:Array Keyed}{ia ib:Nat}{y:Keyed},MI O a.toList b.toList out.toList ia ib->b[ib]?=some y->(∀ z∈a.toList.drop ia,O.le y z)->MI O a.toList b.toList (out.push y).toList ia (ib+1):=by
  intro out ia ib y m e hz;rw[Ycr];exact m.takeB sb (ZdF e) hz
 have pA:∀ {out:Array Keyed}{ia ib:Nat}{y:Keyed},MI O a.toList b.toList out.toList ia ib->a[ia]?=some y->(∀ z∈b.toList.drop ib,O.le y z)->MI O a.toList b.toList (out.push y).toList (ia+1) ib:=by
  intro out ia ib y m e hz;rw[Ycr];exact m.takeA sa (ZdF e) hz
 refine wpS_bind (wpS_lift (wpAny_rule ⟨rfl,?_⟩));refine wpS_bind (Zal eb0 ?_);have m0:MI O a.toList b.toList #[b0].toList 0 1 :=
  MI.takeB (out:=[]) (ib:=0) ⟨by simp,YbM,fun x hx=>by cases hx⟩ sb eb0' (by simpa using hfirst b0 eb0)
 dsimp only;by_cases c1:1=b.size
 ·rw[if_pos (by simpa using c1)];exact wpS_pure (h _ _ Gal.refl (done m0 (by omega)))
 rw[if_neg (by simpa using c1)];by_cases c2:0+1=a.size
 ·rw[if_pos (by simpa using c2)];exact wpS_pure (h _ _ Gal.refl (last m0 (by omega)))
 rw[if_neg (by simpa using c2)];refine wpS_bind (wpS_get ?_);refine wpS_bind (wpS_mono (wpS_forRange
  (I:=fun x c st'=>Gal st st'/\∃ (out:Array Keyed) (ia ib g:Nat),c=((none:Option (Array Keyed)),out,ia,ib,g)/\MI O a.toList b.toList out.toList ia ib/\ia+1<a.size/\ib<b.size/\x<=ia+ib)
  (Q:=fun c st'=>Gal st st'/\∃ (r out:Array Keyed) (ia ib g:Nat),c=(some r,out,ia,ib,g)/\Mg O a.toList b.toList r.toList) ?step ?fin ⟨Gal.refl,#[b0],0,1,gallopOf st,rfl,m0,by omega,by omega,by omega⟩) ?post)
 case fin=>
  rintro c st' ⟨_,out,ia,ib,g,rfl,_,h1,h2,h3⟩;omega
 case post=>
  rintro c st' ⟨hG,r,out,ia,ib,g,rfl,hm⟩;exact wpS_pure (h r st' hG hm)
 case step=>
  rintro x c st1 _ hx ⟨hG1,out,ia,ib,g,rfl,hm,h1,h2,h3⟩;dsimp only;have hk1:kindOf st1=knd:=hG1.1.trans hk;refine wpS_bind (wpS_mono (wpS_forRange
   (I:=fun y c st'=>st'=st1/\∃ (out:Array Keyed) (ia ib p q:Nat),c=((none:Option (Array Keyed)),out,ia,ib,p,q)/\MI O a.toList b.toList out.toList ia ib/\ia+1<a.size/\ib<b.size/\x+y<=ia+ib)
   (Q:=fun c st'=>st'=st1/\((∃ (r out:Array Keyed) (ia ib p q:Nat),c=(some r,out,ia,ib,p,q)/\Mg O a.toList b.toList r.toList) ∨
    (∃ (out:Array Keyed) (ia ib p q:Nat),c=(none,out,ia,ib,p,q)/\MI O a.toList b.toList out.toList ia ib/\ia+1<a.size/\ib<b.size/\x+1<=ia+ib))) ?step1 ?fin1 ⟨rfl,out,ia,ib,0,0,rfl,hm,h1,h2,by omega⟩) ?post1)
  case fin1=>
   rintro c st' ⟨rfl,out,ia,ib,p,q,rfl,hm,h1,h2,h3⟩;exact⟨rfl,.inr ⟨out,ia,ib,p,q,rfl,hm,h1,h2,by omega⟩⟩
  case step1=>
   rintro y c st' _ hy ⟨rfl,out,ia,ib,p,q,rfl,hm,h1,h2,h3⟩;dsimp only;obtain⟨u,eu,eu',mu⟩:=ZaD (a:=b) h2;obtain⟨v,ev,ev',mv⟩:=ZaD (a:=a) (i:=ia) (by omega);refine wpS_bind (Zal eu (wpS_bind (Zal ev ?_)));refine wpS_bind (Zep hA hk1 (okb u mu) (oka v mv) ?_)
   cases e:O.blt (O.ky u) (O.ky v) with
   | true=>
    simp only[if_true];refine wpS_bind (Zal eu ?_);have m2:=pB hm eu fun z hz=>KO.le_trans (KO.le_of_lt e) (Zcs sa ev' z hz);by_cases c3:ib+1=b.size
    ·rw[if_pos (by simpa using c3)];exact wpS_pure ⟨rfl,.inl ⟨_,_,_,_,_,_,rfl,done m2 (by omega)⟩⟩
    rw[if_neg (by simpa using c3)];refine Zaz (fun _=>?_) (fun _=>?_)
    ·exact wpS_pure ⟨rfl,.inr ⟨_,_,_,_,_,rfl,m2,by omega,by omega,by omega⟩⟩
    ·exact wpS_pure ⟨rfl,_,_,_,_,_,rfl,m2,by omega,by omega,by omega⟩
   | false=>
    simp only[Yar,if_false];refine wpS_bind (Zal ev ?_);have m2:=pA hm ev fun z hz=>KO.le_trans (show O.le v u from e) (Zcs sb eu' z hz);by_cases c3:ia+1+1=a.size
    ·rw[if_pos (by simpa using c3)];exact wpS_pure ⟨rfl,.inl ⟨_,_,_,_,_,_,rfl,last m2 c3⟩⟩
    rw[if_neg (by simpa using c3)];refine Zaz (fun _=>?_) (fun _=>?_)
    ·exact wpS_pure ⟨rfl,.inr ⟨_,_,_,_,_,rfl,m2,by omega,by omega,by omega⟩⟩
    ·exact wpS_pure ⟨rfl,_,_,_,_,_,rfl,m2,by omega,by omega,by omega⟩
  case post1=>
   rintro c st' ⟨rfl,⟨r,out,ia,ib,p,q,rfl,hr⟩ | ⟨out,ia,ib,p,q,rfl,hm,h1,h2,h3⟩⟩
   ·exact wpS_pure ⟨hG1,_,_,_,_,_,rfl,hr⟩
   dsimp only;refine wpS_bind (wpS_lift (wpAny_rule ⟨rfl,?_⟩));refine wpS_bind (wpS_mono (wpS_forRange
    (I:=fun y c st'=>Gal st st'/\∃ (out:Array Keyed) (ia ib g p q:Nat),c=((none:Option (Array Keyed)),out,ia,ib,g,p,q)/\MI O a.toList b.toList out.toList ia ib/\ia+1<a.size/\ib<b.size/\x+1<=ia+ib)
    (Q:=fun c st'=>Gal st st'/\((∃ (r out:Array Keyed) (ia ib g p q:Nat),c=(some r,out,ia,ib,g,p,q)/\Mg O a.toList b.toList r.toList) ∨
     (∃ (out:Array Keyed) (ia ib g p q:Nat),c=(none,out,ia,ib,g,p,q)/\MI O a.toList b.toList out.toList ia ib/\ia+1<a.size/\ib<b.size/\x+1<=ia+ib))) ?step2 ?fin2 ⟨hG1,out,ia,ib,g+1,p,q,rfl,hm,h1,h2,h3⟩) ?post2)
   case fin2=>
    rintro c st' ⟨hG,out,ia,ib,g,p,q,rfl,hm,h1,h2,h3⟩;exact⟨hG,.inr ⟨out,ia,ib,g,p,q,rfl,hm,h1,h2,h3⟩⟩
   case post2=>
    rintro c st' ⟨hG,⟨r,out,ia,ib,g,p,q,rfl,hr⟩ | ⟨out,ia,ib,g,p,q,rfl,hm,h1,h2,h3⟩⟩
    ·exact wpS_pure ⟨hG,_,_,_,_,_,rfl,hr⟩
    exact wpS_bind (Za5 hG fun st2 hG2=>wpS_pure ⟨hG2,_,_,_,_,rfl,hm,h1,h2,h3⟩)
   case step2=>
    rintro y c st' _ hy ⟨hG,out,ia,ib,g,p,q,rfl,hm,h1,h2,h3⟩;dsimp only;obtain⟨u,eu,eu',mu⟩:=ZaD (a:=b) h2;refine Zaz (fun cg=>?_) (fun cg=>?_)
    all_goals
     refine wpS_bind (Za5 hG fun st2 hG2=>wpS_bind (Zal eu ?_));refine wpS_bind (ZbQ hA (hG2.1.trans hk) (okb u mu) oka (by omega) (srtA sa _ _) (by omega) fun k hk1 b1 b2=>?_);have m3:=hm.takeAs sa k (by simp;omega) fun i z hi e y hy=>KO.le_trans (b1 i z hi (by rw[<- Yaf];exact e)) (Zcs sb eu' y hy);have hu:∀ z∈a.toList.drop (ia+k),O.le u z:=by
      intro z hz;obtain⟨j,hj,e⟩:=ZaL hz;have hj2:j<a.size:=(Yae.mp e).1
      refine KO.le_of_lt (b2 (j - ia) z (by omega) (by omega) ?_);rw[show ia+(j - ia)=j by omega,<- Yaf];exact e
     have hka:ia+k<a.size:=by
      rcases YeZ hk1 with z | z
      ·omega
      ·obtain⟨zl,el,_,_⟩:=ZaD (a:=a) (i:=a.size - 1) (by omega);have q1:=hlast zl el u mu;have q2:=b1 (a.size - 1 - ia) zl (by omega) (by rw[show ia+(a.size - 1 - ia)=a.size - 1 by omega];exact el);rw[show O.blt (O.ky u) (O.ky zl)=false from q2] at q1;cases q1
     dsimp only;by_cases ck:k > 0
     ·rw[if_pos ck];rw[<- Zfx,<- YaY] at m3;by_cases c3:ia+k+1=a.size
      ·rw[if_pos (by simpa using c3)];exact wpS_pure ⟨hG2,.inl ⟨_,_,_,_,_,_,_,rfl,last m3 c3⟩⟩
      rw[if_neg (by simpa using c3),if_neg (by simp;omega)];refine wpS_bind (Zal eu ?_);have m4:=pB m3 eu hu;by_cases c4:ib+1=b.size
      ·rw[if_pos (by simpa using c4)];exact wpS_pure ⟨hG2,.inl ⟨_,_,_,_,_,_,_,rfl,done m4 (by omega)⟩⟩
      rw[if_neg (by simpa using c4)];obtain⟨v,ev,ev',mv⟩:=ZaD (a:=a) (i:=ia+k) (by omega);refine wpS_bind (Zal ev ?_);refine wpS_bind (Za7 hA (hG2.1.trans hk) (oka v mv) okb (by omega) (srtA sb _ _) (by omega) fun k2 hk2 d1 d2=>?_);have m5:=m4.takeBs sb k2 (by simp;omega) fun i z hi e y hy=>KO.le_trans (KO.le_of_lt (d1 i z hi (by rw[<- Yaf];exact e))) (Zcs sa ev' y hy);have hv:∀ z∈b.toList.drop (ib+1+k2),O.le v z:=by
       intro z hz;obtain⟨j,hj,e⟩:=ZaL hz;have hj2:j<b.size:=(Yae.mp e).1
       refine d2 (j - (ib+1)) z (by omega) (by omega) ?_;rw[show ib+1+(j - (ib+1))=j by omega,<- Yaf];exact e
      dsimp only;by_cases ck2:k2 > 0
      ·rw[if_pos ck2];rw[<- Zfx,<- YaY] at m5;by_cases c6:ib+1+k2=b.size
       ·rw[if_pos (by simpa using c6)];exact wpS_pure ⟨hG2,.inl ⟨_,_,_,_,_,_,_,rfl,done m5 (by omega)⟩⟩
       rw[if_neg (by simpa using c6)];refine wpS_bind (Zal ev ?_);have m7:=pA m5 ev hv;by_cases c7:ia+k+1+1=a.size
       ·rw[if_pos (by simpa using c7)];exact wpS_pure ⟨hG2,.inl ⟨_,_,_,_,_,_,_,rfl,last m7 c7⟩⟩
       rw[if_neg (by simpa using c7)];refine Zaz (fun _=>?_) (fun _=>?_)
       ·exact wpS_pure ⟨hG2,.inr ⟨_,_,_,_,_,_,rfl,m7,by omega,by omega,by omega⟩⟩
       ·exact wpS_pure ⟨hG2,_,_,_,_,_,_,rfl,m7,by omega,by omega,by omega⟩
      ·rw[if_neg ck2];have k0:k2=0:=by omega
       subst k0;rw[Ych,Ybw] at m5;refine wpS_bind (Zal ev ?_);have m7:=pA m5 ev hv;by_cases c7:ia+k+1+1=a.size
       ·rw[if_pos (by simpa using c7)];exact wpS_pure ⟨hG2,.inl ⟨_,_,_,_,_,_,_,rfl,last m7 c7⟩⟩
       rw[if_neg (by simpa using c7)];refine Zaz (fun _=>?_) (fun _=>?_)
       ·exact wpS_pure ⟨hG2,.inr ⟨_,_,_,_,_,_,rfl,m7,by omega,by omega,by omega⟩⟩
       ·exact wpS_pure ⟨hG2,_,_,_,_,_,_,rfl,m7,by omega,by omega,by omega⟩
     ·rw[if_neg ck];have k0:k=0:=by omega
      subst k0;rw[Ych,Ybw] at m3;refine wpS_bind (Zal eu ?_);have m4:=pB m3 eu hu;by_cases c4:ib+1=b.size
      ·rw[if_pos (by simpa using c4)];exact wpS_pure ⟨hG2,.inl ⟨_,_,_,_,_,_,_,rfl,done m4 (by omega)⟩⟩
      rw[if_neg (by simpa using c4)];obtain⟨v,ev,ev',mv⟩:=ZaD (a:=a) (i:=ia+0) (by omega);refine wpS_bind (Zal ev ?_);refine wpS_bind (Za7 hA (hG2.1.trans hk) (oka v mv) okb (by omega) (srtA sb _ _) (by omega) fun k2 hk2 d1 d2=>?_);have m5:=m4.takeBs sb k2 (by simp;omega) fun i z hi e y hy=>KO.le_trans (KO.le_of_lt (d1 i z hi (by rw[<- Yaf];exact e))) (Zcs sa ev' y hy);have hv:∀ z∈b.toList.drop (ib+1+k2),O.le v z:=by
       intro z hz;obtain⟨j,hj,e⟩:=ZaL hz;have hj2:j<b.size:=(Yae.mp e).1
       refine d2 (j - (ib+1)) z (by omega) (by omega) ?_;rw[show ib+1+(j - (ib+1))=j by omega,<- Yaf];exact e
      dsimp only;by_cases ck2:k2 > 0
      ·rw[if_pos ck2];rw[<- Zfx,<- YaY] at m5;by_cases c6:ib+1+k2=b.size
       ·rw[if_pos (by simpa using c6)];exact wpS_pure ⟨hG2,.inl ⟨_,_,_,_,_,_,_,rfl,done m5 (by omega)⟩⟩
       rw[if_neg (by simpa using c6)];refine wpS_bind (Zal ev ?_);have m7:=pA m5 ev hv;by_cases c7:ia+0+1+1=a.size
       ·rw[if_pos (by simpa using c7)];exact wpS_pure ⟨hG2,.inl ⟨_,_,_,_,_,_,_,rfl,last m7 c7⟩⟩
       rw[if_neg (by simpa using c7)];refine Zaz (fun _=>?_) (fun _=>?_)
       ·exact wpS_pure ⟨hG2,.inr ⟨_,_,_,_,_,_,rfl,m7,by omega,by omega,by omega⟩⟩
       ·exact wpS_pure ⟨hG2,_,_,_,_,_,_,rfl,m7,by omega,by omega,by omega⟩
      ·rw[if_neg ck2];have k0:k2=0:=by omega
       subst k0;rw[Ych,Ybw] at m5;refine wpS_bind (Zal ev ?_);have m7:=pA m5 ev hv;by_cases c7:ia+0+1+1=a.size
       ·rw[if_pos (by simpa using c7)];exact wpS_pure ⟨hG2,.inl ⟨_,_,_,_,_,_,_,rfl,last m7 c7⟩⟩
       rw[if_neg (by simpa using c7)];refine Zaz (fun _=>?_) (fun _=>?_)
       ·exact wpS_pure ⟨hG2,.inr ⟨_,_,_,_,_,_,rfl,m7,by omega,by omega,by omega⟩⟩
       ·exact wpS_pure ⟨hG2,_,_,_,_,_,_,rfl,m7,by omega,by omega,by omega⟩
end
section
variable {O:KO}{a b out:List Keyed}{na nb:Nat}{x:Keyed}
structure MH (O:KO) (a b out:List Keyed) (na nb:Nat):Prop where
 perm:(a.take na++b.take nb++out.reverse).Perm (a++b)
 srt:O.Srt out.reverse
 le:∀ x∈a.take na++b.take nb,∀ y∈out,O.le x y
theorem Zg7 {l:List Keyed}{i:Nat}{x:Keyed} (e:l[i]?=some x):l.take (i+1)=l.take i++[x]:=by
 rw[List.take_succ,e];rfl
theorem MH.takeA (h:MH O a b out (na+1) nb) (sa:O.Srt a) (e:a[na]?=some x) (hb:∀ y∈b.take nb,O.le y x):MH O a b (out++[x]) na nb:=by
 have ed:=Zg7 e;have sd:O.Srt (a.take na++[x]):=ed ▸ sa.take;have hx:x∈a.take (na+1)++b.take nb:=by rw[ed];simp
 refine⟨?_,?_,fun y hy z hz=>?_⟩
 ·have p:=h.perm;rw[ed] at p;refine Ydu ?_ p;rw[YcE];simp only[Ycs,YcX,YdT,YaI,List.singleton_append];refine Yb0 _ ?_;exact (Yfb (a:=x) (l₁:=b.take nb) (l₂:=out.reverse))
 ·rw[YcE];exact YbQ.mpr ⟨fun y hy=>h.le x hx y (YcY.mp hy),h.srt⟩
 ·rcases Yan.mp hz with hz | hz
  ·refine h.le y ?_ z hz;rw[ed];rcases Yan.mp hy with hy | hy
   ·exact YaU _ (YaU _ hy)
   ·exact Yay _ hy
  ·rw[YaE.mp hz];rcases Yan.mp hy with hy | hy
   ·exact (YaM.mp sd).2.2 y hy x (by simp)
   ·exact hb y hy
theorem MH.takeB (h:MH O a b out na (nb+1)) (sb:O.Srt b) (e:b[nb]?=some x) (ha:∀ y∈a.take na,O.le y x):MH O a b (out++[x]) na nb:=by
 have ed:=Zg7 e;have sd:O.Srt (b.take nb++[x]):=ed ▸ sb.take;have hx:x∈a.take na++b.take (nb+1):=by rw[ed];simp
 refine⟨?_,?_,fun y hy z hz=>?_⟩
 ·have p:=h.perm;rw[ed] at p;rw[YcE];simpa using p
 ·rw[YcE];exact YbQ.mpr ⟨fun y hy=>h.le x hx y (YcY.mp hy),h.srt⟩
 ·rcases Yan.mp hz with hz | hz
  ·refine h.le y ?_ z hz;rw[ed];rcases Yan.mp hy with hy | hy
   ·exact YaU _ hy
   ·exact Yay _ (YaU _ hy)
  ·rw[YaE.mp hz];rcases Yan.mp hy with hy | hy
   ·exact ha y hy
   ·exact (YaM.mp sd).2.2 y hy x (by simp)
theorem ZfK {l:List Keyed}{i d:Nat}{x:Keyed} (e:l[i]?=some x):(l.drop i).take (d+1)=x::(l.drop (i+1)).take d:=by
 rw[Zfy e];rfl
theorem MH.takeAs (h:MH O a b out na nb) (sa:O.Srt a) (hn:na<=a.length):∀ d,d<=na->(∀ i z,na - d<=i->i<na->a[i]?=some z->∀ y∈b.take nb,O.le y z)->MH O a b (out++((a.drop (na - d)).take d).reverse) (na - d) nb
 | 0,_,_=>by simpa using h
 | d+1,hl,hz=>by
  have q:=MH.takeAs h sa hn d (by omega) fun i z h1 h2 e=>hz i z (by omega) h2 e;have e:a[na - (d+1)]?=some a[na - (d+1)]:=Yaa (by omega);rw[show na - d=na - (d+1)+1 by omega] at q;have r:=q.takeA sa e (hz _ _ (by omega) (by omega) e);rw[YaI,<- Ycs,<- ZfK e] at r;exact r
theorem MH.takeBs (h:MH O a b out na nb) (sb:O.Srt b) (hn:nb<=b.length):∀ d,d<=nb->(∀ i z,nb - d<=i->i<nb->b[i]?=some z->∀ y∈a.take na,O.le y z)->MH O a b (out++((b.drop (nb - d)).take d).reverse) na (nb - d)
 | 0,_,_=>by simpa using h
 | d+1,hl,hz=>by
  have q:=MH.takeBs h sb hn d (by omega) fun i z h1 h2 e=>hz i z (by omega) h2 e;have e:b[nb - (d+1)]?=some b[nb - (d+1)]:=Yaa (by omega);rw[show nb - d=nb - (d+1)+1 by omega] at q;have r:=q.takeB sb e (hz _ _ (by omega) (by omega) e);rw[YaI,<- Ycs,<- ZfK e] at r;exact r
theorem MH.doneA (h:MH O a b out 0 nb) (sb:O.Srt b):Mg O a b (a.take 0++b.take nb++out.reverse):=by
 refine⟨h.perm,?_⟩;rw[Ych,YdT];exact YaM.mpr ⟨sb.take,h.srt,fun x hx y hy=>h.le x (Yay _ hx) y (YcY.mp hy)⟩
theorem MH.doneB (h:MH O a b out na nb) (sa:O.Srt a) (sb:O.Srt b) (hl:∀ x∈b.take nb,∀ y∈a.take na,O.le x y):Mg O a b (b.take nb++a.take na++out.reverse):=by
 refine⟨(YcS _ Yeu).trans h.perm,?_⟩;refine YaM.mpr ⟨YaM.mpr ⟨sb.take,sa.take,hl⟩,h.srt,fun x hx y hy=>h.le x ?_ y (YcY.mp hy)⟩;rcases Yan.mp hx with hx | hx
 ·exact Yay _ hx
 ·exact YaU _ hx
theorem ZaK {l:List Keyed}{i:Nat}{y:Keyed} (h:y∈l.take i):∃ j,j<i/\l[j]?=some y:=by
 obtain⟨j,hj,e⟩:=YeG.mp h;rw[YaA] at hj;refine⟨j,by omega,?_⟩;rw[Yct] at e;rw[Yaa (by omega),e]
theorem ZhU {l:List Keyed} (sl:O.Srt l) {i:Nat}{x:Keyed} (hx:l[i]?=some x):∀ y∈l.take (i+1),O.le y x:=fun y hy=>
 let ⟨_,hj,e⟩:=ZaK hy
 Zca sl (by omega) e hx
theorem Zed (a:Array Keyed) (i:Nat):(a.extract 0 i).toList=a.toList.take i:=by
 rw[YcC];simp[Yex]
theorem Zec (a:Array Keyed) (i n:Nat):(a.extract i n).toList=(a.toList.drop i).take (n - i):=by
 rw[YcC]
end
section
variable {prog:Program}{w:World}{A:Around}{E:Value->Shared->Prop}{s:Shared}{O:KO}{knd:SortKind}{ok:Keyed->Prop}{st:SortSt}
theorem Zfc {a b:Array Keyed}{Q:Array Keyed->SortSt->Prop} (hA:Asks prog w A s O knd ok) (hk:kindOf st=knd) (oka:∀ x∈a.toList,ok x) (okb:∀ x∈b.toList,ok x) (sa:O.Srt a.toList) (sb:O.Srt b.toList) (ha:1<=a.size) (hb:1<=b.size)
  (hfirst:∀ y,b[0]?=some y->∀ x∈a.toList,O.blt (O.ky y) (O.ky x)=true) (hlast:∀ z,a[a.size - 1]?=some z->∀ y∈b.toList,O.le y z)
  (h:∀ r st',Gal st st'->Mg O a.toList b.toList r.toList->Q r st'):wpS (model prog w) A E s (Zjm a b) Q st:=by
 obtain⟨a0,ea0,ea0',_⟩:=ZaD (a:=a) (i:=a.size - 1) (by omega);have done:∀ {out:Array Keyed}{nb:Nat},MH O a.toList b.toList out.toList 0 nb->Mg O a.toList b.toList (a.extract 0 0++b.extract 0 nb++out.reverse).toList:=by
  intro out nb m;rw[YaY,YaY,Zed,Zed,Yce];exact m.doneA sb
 have first:∀ {out:Array Keyed}{na:Nat},MH O a.toList b.toList out.toList na 1->Mg O a.toList b.toList (b.extract 0 1++a.extract 0 na++out.reverse).toList:=by
  intro out na m;rw[YaY,YaY,Zed,Zed,Yce];refine m.doneB sa sb fun x hx y hy=>?_;obtain⟨j,hj,e⟩:=ZaK hx;have e2:j=0:=by omega
  rw[e2,Yaf] at e;exact KO.le_of_lt (hfirst x e y (YbG hy))
 have pB:∀ {out:Array Keyed}{na nb:Nat}{y:Keyed},1<=nb->MH O a.toList b.toList out.toList na nb->b[nb - 1]?=some y->(∀ z∈a.toList.take na,O.le z y)->MH O a.toList b.toList (out.push y).toList na (nb - 1):=by
  intro out na nb y hn m e hz;rw[Ycr];exact MH.takeB (by rw[show nb - 1+1=nb by omega];exact m) sb (ZdF e) hz
 have pA:∀ {out:Array Keyed}{na nb:Nat}{y:Keyed},1<=na->MH O a.toList b.toList out.toList na nb->a[na - 1]?=some y->(∀ z∈b.toList.take nb,O.le z y)->MH O a.toList b.toList (out.push y).toList (na - 1) nb:=by
  intro out na nb y hn m e hz;rw[Ycr];exact MH.takeA (by rw[show na - 1+1=na by omega];exact m) sa (ZdF e) hz
 have leT:∀ {l:List Keyed}{i:Nat}{x:Keyed},O.Srt l->1<=i->l[i - 1]?=some x->∀ y∈l.take i,O.le y x:=by
  intro l i x sl hi e y hy;exact ZhU sl e y (by rw[show i - 1+1=i by omega];exact hy)
 refine wpS_bind (wpS_lift (wpAny_rule ⟨rfl,?_⟩));refine wpS_bind (Zal ea0 ?_);have m0:MH O a.toList b.toList #[a0].toList (a.size - 1) b.size:=by
  refine MH.takeA (out:=[]) (na:=a.size - 1) (nb:=b.size) ⟨?_,YbM,fun x hx y hy=>by cases hy⟩ sa ea0' fun y hy=>hlast a0 ea0 y (YbG hy);rw[show a.size - 1+1=a.size by omega,Ybo (by simp),Ybo (by simp)];simp
 dsimp only;by_cases c1:a.size - 1=0
 ·rw[if_pos (by simpa using c1)];rw[c1] at m0 ⊢;exact wpS_pure (h _ _ Gal.refl (done m0))
 rw[if_neg (by simpa using c1)];by_cases c2:b.size=1
 ·rw[if_pos (by simpa using c2)];rw[c2] at m0;rw[c2];exact wpS_pure (h _ _ Gal.refl (first m0))
 rw[if_neg (by simpa using c2)];refine wpS_bind (wpS_get ?_);refine wpS_bind (wpS_mono (wpS_forRange
  (I:=fun x c st'=>Gal st st'/\∃ (out:Array Keyed) (na nb g:Nat),c=((none:Option (Array Keyed)),na,nb,out,g)/\MH O a.toList b.toList out.toList na nb/\1<=na/\na<=a.size/\2<=nb/\nb<=b.size/\x+na+nb<=a.size+b.size)
  (Q:=fun c st'=>Gal st st'/\∃ (r out:Array Keyed) (na nb g:Nat),c=(some r,na,nb,out,g)/\Mg O a.toList b.toList r.toList) ?step ?fin ⟨Gal.refl,#[a0],a.size - 1,b.size,gallopOf st,rfl,m0,by omega,by omega,by omega,by omega,show 0+(a.size - 1)+b.size<=_ by omega⟩) ?post)
 case fin=>
  rintro c st' ⟨_,out,na,nb,g,rfl,_,h1,h1',h2,h2',h3⟩;omega
 case post=>
  rintro c st' ⟨hG,r,out,na,nb,g,rfl,hm⟩;exact wpS_pure (h r st' hG hm)
 case step=>
  rintro x c st1 _ hx ⟨hG1,out,na,nb,g,rfl,hm,h1,h1',h2,h2',h3⟩;dsimp only;have hk1:kindOf st1=knd:=hG1.1.trans hk;refine wpS_bind (wpS_mono (wpS_forRange
   (I:=fun y c st'=>st'=st1/\∃ (out:Array Keyed) (na nb p q:Nat),c=((none:Option (Array Keyed)),na,nb,out,p,q)/\MH O a.toList b.toList out.toList na nb/\1<=na/\na<=a.size/\2<=nb/\nb<=b.size/\x+y+na+nb<=a.size+b.size)
   (Q:=fun c st'=>st'=st1/\((∃ (r out:Array Keyed) (na nb p q:Nat),c=(some r,na,nb,out,p,q)/\Mg O a.toList b.toList r.toList) ∨
    (∃ (out:Array Keyed) (na nb p q:Nat),c=(none,na,nb,out,p,q)/\MH O a.toList b.toList out.toList na nb/\1<=na/\na<=a.size/\2<=nb/\nb<=b.size/\x+1+na+nb<=a.size+b.size))) ?step1 ?fin1 ⟨rfl,out,na,nb,0,0,rfl,hm,h1,h1',h2,h2',by omega⟩) ?post1)
  case fin1=>
   rintro c st' ⟨rfl,out,na,nb,p,q,rfl,hm,h1,h1',h2,h2',h3⟩;exact⟨rfl,.inr ⟨out,na,nb,p,q,rfl,hm,h1,h1',h2,h2',by omega⟩⟩
  case step1=>
   rintro y c st' _ hy ⟨rfl,out,na,nb,p,q,rfl,hm,h1,h1',h2,h2',h3⟩;dsimp only;obtain⟨u,eu,eu',mu⟩:=ZaD (a:=b) (i:=nb - 1) (by omega);obtain⟨v,ev,ev',mv⟩:=ZaD (a:=a) (i:=na - 1) (by omega);refine wpS_bind (Zal eu (wpS_bind (Zal ev ?_)));refine wpS_bind (Zep hA hk1 (okb u mu) (oka v mv) ?_)
   cases e:O.blt (O.ky u) (O.ky v) with
   | true=>
    simp only[if_true];refine wpS_bind (Zal ev ?_);have m2:=pA h1 hm ev fun z hz=>KO.le_trans (leT sb (by omega) eu' z hz) (KO.le_of_lt e);by_cases c3:na - 1=0
    ·rw[if_pos (by simpa using c3)];rw[c3] at m2 ⊢;exact wpS_pure ⟨rfl,.inl ⟨_,_,_,_,_,_,rfl,done m2⟩⟩
    rw[if_neg (by simpa using c3)];refine Zaz (fun _=>?_) (fun _=>?_)
    ·exact wpS_pure ⟨rfl,.inr ⟨_,_,_,_,_,rfl,m2,by omega,by omega,by omega,by omega,by omega⟩⟩
    ·exact wpS_pure ⟨rfl,_,_,_,_,_,rfl,m2,by omega,by omega,by omega,by omega,by omega⟩
   | false=>
    simp only[Yar,if_false];refine wpS_bind (Zal eu ?_);have m2:=pB (by omega) hm eu fun z hz=>KO.le_trans (leT sa (by omega) ev' z hz) (show O.le v u from e);by_cases c3:nb - 1=1
    ·rw[if_pos (by simpa using c3)];rw[c3] at m2 ⊢;exact wpS_pure ⟨rfl,.inl ⟨_,_,_,_,_,_,rfl,first m2⟩⟩
    rw[if_neg (by simpa using c3)];refine Zaz (fun _=>?_) (fun _=>?_)
    ·exact wpS_pure ⟨rfl,.inr ⟨_,_,_,_,_,rfl,m2,by omega,by omega,by omega,by omega,by omega⟩⟩
    ·exact wpS_pure ⟨rfl,_,_,_,_,_,rfl,m2,by omega,by omega,by omega,by omega,by omega⟩
  case post1=>
   rintro c st' ⟨rfl,⟨r,out,na,nb,p,q,rfl,hr⟩ | ⟨out,na,nb,p,q,rfl,hm,h1,h1',h2,h2',h3⟩⟩
   ·exact wpS_pure ⟨hG1,_,_,_,_,_,rfl,hr⟩
   dsimp only;refine wpS_bind (wpS_lift (wpAny_rule ⟨rfl,?_⟩));refine wpS_bind (wpS_mono (wpS_forRange
    (I:=fun y c st'=>Gal st st'/\∃ (out:Array Keyed) (na nb g p q:Nat),c=((none:Option (Array Keyed)),na,nb,out,g,p,q)/\MH O a.toList b.toList out.toList na nb/\1<=na/\na<=a.size/\2<=nb/\nb<=b.size/\x+1+na+nb<=a.size+b.size)
    (Q:=fun c st'=>Gal st st'/\((∃ (r out:Array Keyed) (na nb g p q:Nat),c=(some r,na,nb,out,g,p,q)/\Mg O a.toList b.toList r.toList) ∨
     (∃ (out:Array Keyed) (na nb g p q:Nat),c=(none,na,nb,out,g,p,q)/\MH O a.toList b.toList out.toList na nb/\1<=na/\na<=a.size/\2<=nb/\nb<=b.size/\x+1+na+nb<=a.size+b.size))) ?step2 ?fin2 ⟨hG1,out,na,nb,g+1,p,q,rfl,hm,h1,h1',h2,h2',h3⟩) ?post2)
   case fin2=>
    rintro c st' ⟨hG,out,na,nb,g,p,q,rfl,hm,h1,h1',h2,h2',h3⟩;exact⟨hG,.inr ⟨out,na,nb,g,p,q,rfl,hm,h1,h1',h2,h2',h3⟩⟩
   case post2=>
    rintro c st' ⟨hG,⟨r,out,na,nb,g,p,q,rfl,hr⟩ | ⟨out,na,nb,g,p,q,rfl,hm,h1,h1',h2,h2',h3⟩⟩
    ·exact wpS_pure ⟨hG,_,_,_,_,_,rfl,hr⟩
    exact wpS_bind (Za5 hG fun st2 hG2=>wpS_pure ⟨hG2,_,_,_,_,rfl,hm,h1,h1',h2,h2',h3⟩)
   case step2=>
    rintro y c st' _ hy ⟨hG,out,na,nb,g,p,q,rfl,hm,h1,h1',h2,h2',h3⟩;dsimp only;obtain⟨u,eu,eu',mu⟩:=ZaD (a:=b) (i:=nb - 1) (by omega);refine Zaz (fun cg=>?_) (fun cg=>?_)
    all_goals
     refine wpS_bind (Za5 hG fun st2 hG2=>wpS_bind (Zal eu ?_));refine wpS_bind (ZbQ hA (hG2.1.trans hk) (okb u mu) oka (by omega) (srtA sa _ _) (by omega) fun k hk1 b1 b2=>?_);have m3:=hm.takeAs sa (by simp;omega) (na - k) (by omega) fun i z h6 h7 e y hy=>KO.le_trans (leT sb (by omega) eu' y hy) (KO.le_of_lt (b2 i z (by omega) (by omega) (by rw[YbD,<- Yaf];exact e)));rw[show na - (na - k)=k by omega] at m3;have hu:∀ z∈a.toList.take k,O.le z u:=by
      intro z hz;obtain⟨j,hj,e⟩:=ZaK hz;refine b1 j z hj ?_;rw[YbD,<- Yaf];exact e
     dsimp only;by_cases ck:na - k > 0
     ·rw[if_pos ck];rw[<- Zec,<- Yce,<- YaY] at m3;by_cases c3:k=0
      ·rw[if_pos (by simpa using c3)];rw[c3] at m3 ⊢;exact wpS_pure ⟨hG2,.inl ⟨_,_,_,_,_,_,_,rfl,done m3⟩⟩
      rw[if_neg (by simpa using c3)];refine wpS_bind (Zal eu ?_);have m4:=pB (by omega) m3 eu hu;by_cases c4:nb - 1=1
      ·rw[if_pos (by simpa using c4)];rw[c4] at m4 ⊢;exact wpS_pure ⟨hG2,.inl ⟨_,_,_,_,_,_,_,rfl,first m4⟩⟩
      rw[if_neg (by simpa using c4)];obtain⟨v,ev,ev',mv⟩:=ZaD (a:=a) (i:=k - 1) (by omega);refine wpS_bind (Zal ev ?_);refine wpS_bind (Za7 hA (hG2.1.trans hk) (oka v mv) okb (by omega) (srtA sb _ _) (by omega) fun k2 hk2 d1 d2=>?_);have hk20:1<=k2:=by
       rcases Yds k2 with z | z
       ·obtain⟨zl,el,_,_⟩:=ZaD (a:=b) (i:=0) (by omega);have q1:=hfirst zl el v mv;have q2:=d2 0 zl (by omega) (by omega) (by rw[YbD];exact el);rw[show O.blt (O.ky zl) (O.ky v)=false from q2] at q1;cases q1
       ·exact z
      have m5:=m4.takeBs sb (by simp;omega) (nb - 1 - k2) (by omega) fun i z h6 h7 e y hy=>KO.le_trans (leT sa (by omega) ev' y hy) (d2 i z (by omega) (by omega) (by rw[YbD,<- Yaf];exact e));rw[show nb - 1 - (nb - 1 - k2)=k2 by omega] at m5;have hv:∀ z∈b.toList.take k2,O.le z v:=by
       intro z hz;obtain⟨j,hj,e⟩:=ZaK hz;refine KO.le_of_lt (d1 j z hj ?_);rw[YbD,<- Yaf];exact e
      dsimp only;by_cases ck2:nb - 1 - k2 > 0
      ·rw[if_pos ck2];rw[<- Zec,<- Yce,<- YaY] at m5;by_cases c6:k2=1
       ·rw[if_pos (by simpa using c6)];rw[c6] at m5 ⊢;exact wpS_pure ⟨hG2,.inl ⟨_,_,_,_,_,_,_,rfl,first m5⟩⟩
       rw[if_neg (by simpa using c6),if_neg (by simp;omega)];obtain⟨v2,ev2,ev2',mv2⟩:=ZaD (a:=a) (i:=k - 1) (by omega);refine wpS_bind (Zal ev2 ?_);have ee:v2=v:=YaD (ev2.symm.trans ev);subst ee;have m7:=pA (by omega) m5 ev2 hv;by_cases c7:k - 1=0
       ·rw[if_pos (by simpa using c7)];rw[c7] at m7 ⊢;exact wpS_pure ⟨hG2,.inl ⟨_,_,_,_,_,_,_,rfl,done m7⟩⟩
       rw[if_neg (by simpa using c7)];refine Zaz (fun _=>?_) (fun _=>?_)
       ·exact wpS_pure ⟨hG2,.inr ⟨_,_,_,_,_,_,rfl,m7,by omega,by omega,by omega,by omega,by omega⟩⟩
       ·exact wpS_pure ⟨hG2,_,_,_,_,_,_,rfl,m7,by omega,by omega,by omega,by omega,by omega⟩
      ·rw[if_neg ck2];have k0:nb - 1=k2:=by omega
       rw[show nb - 1 - k2=0 by omega,Ych,YcX,Ybw] at m5;rw[k0];obtain⟨v2,ev2,ev2',mv2⟩:=ZaD (a:=a) (i:=k - 1) (by omega);refine wpS_bind (Zal ev2 ?_);have ee:v2=v:=YaD (ev2.symm.trans ev);subst ee;have m7:=pA (by omega) m5 ev2 hv;by_cases c7:k - 1=0
       ·rw[if_pos (by simpa using c7)];rw[c7] at m7 ⊢;exact wpS_pure ⟨hG2,.inl ⟨_,_,_,_,_,_,_,rfl,done m7⟩⟩
       rw[if_neg (by simpa using c7)];refine Zaz (fun _=>?_) (fun _=>?_)
       ·exact wpS_pure ⟨hG2,.inr ⟨_,_,_,_,_,_,rfl,m7,by omega,by omega,by omega,by omega,by omega⟩⟩
       ·exact wpS_pure ⟨hG2,_,_,_,_,_,_,rfl,m7,by omega,by omega,by omega,by omega,by omega⟩
     ·rw[if_neg ck];have k0:na=k:=by omega
      rw[show na - k=0 by omega,Ych,YcX,Ybw] at m3;rw[k0];refine wpS_bind (Zal eu ?_);have m4:=pB (by omega) m3 eu hu;by_cases c4:nb - 1=1
      ·rw[if_pos (by simpa using c4)];rw[c4] at m4 ⊢;exact wpS_pure ⟨hG2,.inl ⟨_,_,_,_,_,_,_,rfl,first m4⟩⟩
      rw[if_neg (by simpa using c4)];obtain⟨v,ev,ev',mv⟩:=ZaD (a:=a) (i:=k - 1) (by omega);refine wpS_bind (Zal ev ?_);refine wpS_bind (Za7 hA (hG2.1.trans hk) (oka v mv) okb (by omega) (srtA sb _ _) (by omega) fun k2 hk2 d1 d2=>?_);have hk20:1<=k2:=by
       rcases Yds k2 with z | z
       ·obtain⟨zl,el,_,_⟩:=ZaD (a:=b) (i:=0) (by omega);have q1:=hfirst zl el v mv;have q2:=d2 0 zl (by omega) (by omega) (by rw[YbD];exact el);rw[show O.blt (O.ky zl) (O.ky v)=false from q2] at q1;cases q1
       ·exact z
      have m5:=m4.takeBs sb (by simp;omega) (nb - 1 - k2) (by omega) fun i z h6 h7 e y hy=>KO.le_trans (leT sa (by omega) ev' y hy) (d2 i z (by omega) (by omega) (by rw[YbD,<- Yaf];exact e));rw[show nb - 1 - (nb - 1 - k2)=k2 by omega] at m5;have hv:∀ z∈b.toList.take k2,O.le z v:=by
       intro z hz;obtain⟨j,hj,e⟩:=ZaK hz;refine KO.le_of_lt (d1 j z hj ?_);rw[YbD,<- Yaf];exact e
      dsimp only;by_cases ck2:nb - 1 - k2 > 0
      ·rw[if_pos ck2];rw[<- Zec,<- Yce,<- YaY] at m5;by_cases c6:k2=1
       ·rw[if_pos (by simpa using c6)];rw[c6] at m5 ⊢;exact wpS_pure ⟨hG2,.inl ⟨_,_,_,_,_,_,_,rfl,first m5⟩⟩
       rw[if_neg (by simpa using c6),if_neg (by simp;omega)];obtain⟨v2,ev2,ev2',mv2⟩:=ZaD (a:=a) (i:=k - 1) (by omega);refine wpS_bind (Zal ev2 ?_);have ee:v2=v:=YaD (ev2.symm.trans ev);subst ee;have m7:=pA (by omega) m5 ev2 hv;by_cases c7:k - 1=0
       ·rw[if_pos (by simpa using c7)];rw[c7] at m7 ⊢;exact wpS_pure ⟨hG2,.inl ⟨_,_,_,_,_,_,_,rfl,done m7⟩⟩
       rw[if_neg (by simpa using c7)];refine Zaz (fun _=>?_) (fun _=>?_)
       ·exact wpS_pure ⟨hG2,.inr ⟨_,_,_,_,_,_,rfl,m7,by omega,by omega,by omega,by omega,by omega⟩⟩
       ·exact wpS_pure ⟨hG2,_,_,_,_,_,_,rfl,m7,by omega,by omega,by omega,by omega,by omega⟩
      ·rw[if_neg ck2];have k0:nb - 1=k2:=by omega
       rw[show nb - 1 - k2=0 by omega,Ych,YcX,Ybw] at m5;rw[k0];obtain⟨v2,ev2,ev2',mv2⟩:=ZaD (a:=a) (i:=k - 1) (by omega);refine wpS_bind (Zal ev2 ?_);have ee:v2=v:=YaD (ev2.symm.trans ev);subst ee;have m7:=pA (by omega) m5 ev2 hv;by_cases c7:k - 1=0
       ·rw[if_pos (by simpa using c7)];rw[c7] at m7 ⊢;exact wpS_pure ⟨hG2,.inl ⟨_,_,_,_,_,_,_,rfl,done m7⟩⟩
       rw[if_neg (by simpa using c7)];refine Zaz (fun _=>?_) (fun _=>?_)
       ·exact wpS_pure ⟨hG2,.inr ⟨_,_,_,_,_,_,rfl,m7,by omega,by omega,by omega,by omega,by omega⟩⟩
       ·exact wpS_pure ⟨hG2,_,_,_,_,_,_,rfl,m7,by omega,by omega,by omega,by omega,by omega⟩
def ka (O:KO) (xs:Array Keyed) (i:Nat):O.α:=O.ky ((xs[i]?).getD (.none,.none))
def Up (O:KO) (lo n:Nat) (xs:Array Keyed):Prop:=∀ i j,i<=j->j<n->O.kle (ka O xs (lo+i)) (ka O xs (lo+j))
def Dn (O:KO) (lo n:Nat) (xs:Array Keyed):Prop:=∀ i j,i<=j->j<n->O.kle (ka O xs (lo+j)) (ka O xs (lo+i))
structure FB (knd:SortKind) (b₀:Array Keyed) (p₀:Array (Nat × Nat × Nat)) (lo:Nat) (st:SortSt):Prop where
 perm:(arrOf st).Perm b₀
 keep:∀ i,i<lo->(arrOf st)[i]?=b₀[i]?
 kind:kindOf st=knd
 failed:failedOf st=none
 pend:pendingOf st=p₀
section
variable {b₀:Array Keyed}{p₀:Array (Nat × Nat × Nat)}{lo:Nat}
theorem FB.size (h:FB knd b₀ p₀ lo st):(arrOf st).size=b₀.size:=h.perm.size_eq
theorem FB.put {xs:Array Keyed} (h:FB knd b₀ p₀ lo st) (hp:xs.Perm (arrOf st)) (hx:∀ i,i<lo->xs[i]?=(arrOf st)[i]?):FB knd b₀ p₀ lo (setArr st xs) :=
 ⟨hp.trans h.perm,fun i hi=>(hx i hi).trans (h.keep i hi),h.kind,h.failed,h.pend⟩
theorem FB.mir (h:FB knd b₀ p₀ lo st) {i j:Nat} (hi:lo<=i) (hj:j<=b₀.size):FB knd b₀ p₀ lo (setArr st (mirror (arrOf st) i j ((j - i) / 2))) :=
 h.put (mirror_perm _ _ _ _) fun k hk=>by rw[getElem?_mirror_all (by rw[h.size];exact hj),if_neg (by omega)]
theorem Zce {xs ys:Array Keyed}{i j:Nat} (h:xs[i]?=ys[j]?):ka O xs i=ka O ys j:=by unfold ka;rw[h]
theorem ZhV {xs:Array Keyed}{i j:Nat} (hj:j<=xs.size) (k:Nat):ka O (mirror xs i j ((j - i) / 2)) k=if i<=k/\k<j then ka O xs (i+j - 1 - k) else ka O xs k:=by
 have e:=getElem?_mirror_all (i:=i) hj k;split
 ·rename_i c;rw[if_pos c] at e;exact Zce e
 ·rename_i c;rw[if_neg c] at e;exact Zce e
theorem ZbX {xs:Array Keyed}{i j:Nat} (hj:j<=xs.size) (he:∀ k,i<=k->k<j->ka O xs k=ka O xs (j - 1)) (k:Nat):ka O (mirror xs i j ((j - i) / 2)) k=ka O xs k:=by
 rw[ZhV hj];split
 ·rw[he _ (by omega) (by omega),he k (by omega) (by omega)]
 ·rfl
theorem Zj0 {xs:Array Keyed}{src d:Nat} (hs:src<xs.size) (hd:d<=src) (k:Nat):ka O (bubble xs src d) k=if k=src - d then ka O xs src else if src - d<k/\k<=src then ka O xs (k - 1) else ka O xs k:=by
 have e:=getElem?_bubble hs d hd k;split
 ·rename_i c;rw[if_pos c] at e;exact Zce e
 ·rename_i c;rw[if_neg c] at e;split
  ·rename_i c2;rw[if_pos c2] at e;exact Zce e
  ·rename_i c2;rw[if_neg c2] at e;exact Zce e
theorem ZcF {i j:Nat}{Q:Option Bool->SortSt->Prop} (hA:Asks prog w A s O knd ok) (h0:∀ x∈b₀.toList,ok x) (hF:FB knd b₀ p₀ lo st) (hi:i<b₀.size) (hj:j<b₀.size) (h:Q (some (O.blt (ka O (arrOf st) i) (ka O (arrOf st) j))) st):wpS (model prog w) A E s (ltAt' i j) Q st:=by
 obtain⟨x,ex,_,mx⟩:=ZaD (a:=arrOf st) (i:=i) (by rw[hF.size];exact hi);obtain⟨y,ey,_,my⟩:=ZaD (a:=arrOf st) (i:=j) (by rw[hF.size];exact hj);have pm:=Yd0.mp hF.perm;rw[ltAt'_eq];refine wpS_bind (wpS_get ?_);refine wpS_bind (Zal ex (wpS_bind (Zal ey ?_)));refine Zep hA hF.kind (h0 x (pm.mem_iff.mp mx)) (h0 y (pm.mem_iff.mp my)) ?_;unfold ka at h;rw[ex,ey] at h;exact h
theorem Zbs {i j:Nat}{Q:Unit->SortSt->Prop} (h:Q () (setArr st (mirror (arrOf st) i j ((j - i) / 2)))):wpS (model prog w) A E s (reverseSlice' i j) Q st:=by
 rw[reverseSlice'_eq];exact wpS_modify h
def ascL (lo a nrem:Nat):StateT SortSt Sem (Option (Option Nat) × Nat) :=
 forIn [a:nrem] ((none,a):Option (Option Nat) × Nat) fun _ c=>ltAt' (lo+c.2) (lo+c.2 - 1) >>= fun x=>match x with
  | some sm=>if sm=true then pure (Yb9 (none,c.2)) else pure (Ya8 (none,c.2+1))
  | _=>pure (Yb9 (some none,c.2))
theorem Zb4 {a nrem:Nat}{Q:Option (Option Nat) × Nat->SortSt->Prop} (hA:Asks prog w A s O knd ok) (h0:∀ x∈b₀.toList,ok x) (hF:FB knd b₀ p₀ lo st) (hn:lo+nrem<=b₀.size) (ha:1<=a) (hl:a<=nrem) (hu:Up O lo a (arrOf st))
  (h:∀ n,a<=n->n<=nrem->Up O lo n (arrOf st)->(n=nrem∨O.klt (ka O (arrOf st) (lo+n)) (ka O (arrOf st) (lo+n - 1)))->Q (none,n) st):wpS (model prog w) A E s (ascL lo a nrem) Q st:=by
 unfold ascL;refine wpS_forRange (I:=fun n c τ=>τ=st/\c=((none:Option (Option Nat)),n)/\Up O lo n (arrOf st)) ?go ?out ⟨rfl,rfl,hu⟩
 case out=>
  rintro c τ ⟨rfl,rfl,u⟩;rw[YdM hl] at u ⊢;exact h nrem hl (Yag _) u (.inl rfl)
 case go=>
  rintro n c τ h1 h2 ⟨rfl,rfl,u⟩;refine wpS_bind (ZcF hA h0 hF (by dsimp only;omega) (by dsimp only;omega) ?_);dsimp only
  cases e:O.blt (ka O (arrOf τ) (lo+n)) (ka O (arrOf τ) (lo+n - 1)) with
  | true=>
   simp only[if_true];exact wpS_pure (h n h1 (by omega) u (.inr e))
  | false=>
   simp only[Yar,if_false];refine wpS_pure ⟨rfl,rfl,fun i j hij hj=>?_⟩;rcases Ya7 j n with z | z
   ·exact u i j hij z
   ·obtain rfl:j=n:=by omega
    rcases Ya7 i j with y | y
    ·exact Ycy (u i (j - 1) (by omega) (by omega)) (by rw[show lo+(j - 1)=lo+j - 1 by omega];exact e)
    ·obtain rfl:i=j:=by omega
     exact Yb3 _
theorem ZfF {n:Nat}{xs:Array Keyed} (hd:Dn O lo n xs) (hsz:lo+n<=xs.size):Up O lo n (mirror xs lo (lo+n) ((lo+n - lo) / 2)):=by
 intro i j hij hj;rw[ZhV hsz,ZhV hsz,if_pos (by omega),if_pos (by omega)];have q:=hd (n - 1 - j) (n - 1 - i) (by omega) (by omega);rw[show lo+(n - 1 - j)=lo+(lo+n) - 1 - (lo+j) by omega,show lo+(n - 1 - i)=lo+(lo+n) - 1 - (lo+i) by omega] at q;exact q
def dscL (lo n nrem:Nat):StateT SortSt Sem (Option (Option Nat) × Nat × Nat) :=
 forIn [n:nrem] ((none,n,0):Option (Option Nat) × Nat × Nat) fun _ c=>ltAt' (lo+c.2.1) (lo+c.2.1 - 1) >>= fun x=>match x with
  | some sm=>if sm=true then (if c.2.2 > 0 then reverseSlice' (lo+c.2.1 - (c.2.2+1)) (lo+c.2.1) >>= fun _=>pure (Ya8 (none,c.2.1+1,0)) else pure (Ya8 (none,c.2.1+1,0)))
   else ltAt' (lo+c.2.1 - 1) (lo+c.2.1) >>= fun y=>match y with
    | some lg=>if lg=true then pure (Yb9 (none,c.2.1,c.2.2)) else pure (Ya8 (none,c.2.1+1,c.2.2+1))
    | _=>pure (Yb9 (some none,c.2.1,c.2.2))
  | _=>pure (Yb9 (some none,c.2.1,c.2.2))
theorem ZfD {n nrem:Nat}{Q:Option (Option Nat) × Nat × Nat->SortSt->Prop} (hA:Asks prog w A s O knd ok) (h0:∀ x∈b₀.toList,ok x) (hF:FB knd b₀ p₀ lo st) (hn:lo+nrem<=b₀.size) (h1:1<=n) (hl:n<=nrem) (hd:Dn O lo n (arrOf st))
  (h:∀ m e τ,FB knd b₀ p₀ lo τ->n<=m->m<=nrem->Dn O lo m (arrOf τ)->e+1<=m->(∀ i,m - (e+1)<=i->i<m->ka O (arrOf τ) (lo+i)=ka O (arrOf τ) (lo+m - 1))->Q (none,m,e) τ):wpS (model prog w) A E s (dscL lo n nrem) Q st:=by
 unfold dscL;refine wpS_forRange (I:=fun m c τ=>∃ e,c=((none:Option (Option Nat)),m,e)/\FB knd b₀ p₀ lo τ/\Dn O lo m (arrOf τ)/\e+1<=m/\∀ i,m - (e+1)<=i->i<m->ka O (arrOf τ) (lo+i)=ka O (arrOf τ) (lo+m - 1)) ?go ?out
  ⟨0,rfl,hF,hd,by omega,fun i h2 h3=>by congr 1;omega⟩
 case out=>
  rintro c τ ⟨e,rfl,hT,d,q,he⟩;rw[YdM hl] at d q he ⊢;exact h nrem e τ hT hl (Yag _) d q he
 case go=>
  rintro m c τ h2 h3 ⟨e,rfl,hT,d,q,he⟩;have hsz:lo+m<=(arrOf τ).size:=by rw[hT.size];omega
  have more:∀ xs:Array Keyed,(∀ k,ka O xs k=ka O (arrOf τ) k)->O.kle (ka O (arrOf τ) (lo+m)) (ka O (arrOf τ) (lo+m - 1))->Dn O lo (m+1) xs:=by
   intro xs hk hle i j hij hj;rw[hk,hk];rcases Ya7 j m with z | z
   ·exact d i j hij z
   ·obtain rfl:j=m:=by omega
    rcases Ya7 i j with y | y
    ·exact Ycy hle (by rw[show lo+j - 1=lo+(j - 1) by omega];exact d i (j - 1) (by omega) (by omega))
    ·obtain rfl:i=j:=by omega
     exact Yb3 _
  have eq1:∀ k,lo+m - (e+1)<=k->k<lo+m->ka O (arrOf τ) k=ka O (arrOf τ) (lo+m - 1):=fun k k1 k2=>by
   have:=he (k - lo) (by omega) (by omega)
   rwa [show lo+(k - lo)=k by omega] at this
  refine wpS_bind (ZcF hA h0 hT (by dsimp only;omega) (by dsimp only;omega) ?_);dsimp only
  cases ew:O.blt (ka O (arrOf τ) (lo+m)) (ka O (arrOf τ) (lo+m - 1)) with
  | true=>
   simp only[if_true];refine Zaz (fun _=>?_) (fun _=>?_)
   ·exact wpS_bind (Zbs (wpS_pure ⟨0,rfl,hT.mir (by omega) (by omega),more _ (ZbX hsz eq1) (Yb5 ew),by omega,fun i h2 h3=>by congr 1;omega⟩))
   ·exact wpS_pure ⟨0,rfl,hT,more _ (fun _=>rfl) (Yb5 ew),by omega,fun i h2 h3=>by congr 1;omega⟩
  | false=>
   simp only[Yar,if_false];refine wpS_bind (ZcF hA h0 hT (by omega) (by omega) ?_);dsimp only
   cases eg:O.blt (ka O (arrOf τ) (lo+m - 1)) (ka O (arrOf τ) (lo+m)) with
   | true=>
    simp only[if_true];exact wpS_pure (h m e τ hT h2 (by omega) d q he)
   | false=>
    simp only[Yar,if_false];have hx:ka O (arrOf τ) (lo+m)=ka O (arrOf τ) (lo+m - 1):=Yey (O:=O.toKeyOrd) eg ew;refine wpS_pure ⟨e+1,rfl,hT,more _ (fun _=>rfl) eg,by omega,fun i i1 i2=>?_⟩;rw[show lo+(m+1) - 1=lo+m by omega];rcases Ya7 i m with z | z
    ·rw[hx];exact he i (by omega) z
    ·obtain rfl:i=m:=by omega
     rfl
theorem Zkd {nrem:Nat}{Q:Option Nat->SortSt->Prop} (hA:Asks prog w A s O knd ok) (h0:∀ x∈b₀.toList,ok x) (hF:FB knd b₀ p₀ lo st) (hn:lo+nrem<=b₀.size) (h1:1<=nrem)
  (h:∀ m τ,FB knd b₀ p₀ lo τ->1<=m->m<=nrem->Up O lo m (arrOf τ)->Q (some m) τ):wpS (model prog w) A E s (countRun' lo nrem) Q st:=by
 refine wpS_bind (Zb4 (a:=1) hA h0 hF hn (Yag 1) h1 (fun i j hij hj=>?_) fun n n1 n2 u hor=>?_)
 ·obtain rfl:i=j:=by omega
  exact Yb3 _
 dsimp only;by_cases c:n=nrem
 ·rw[if_pos (by simpa using c)];exact wpS_pure (h n st hF n1 n2 u)
 rw[if_neg (by simpa using c)];have hlt:=hor.resolve_left c;have hsz:lo+n<=(arrOf st).size:=by rw[hF.size];omega
 by_cases cg:n > 1
 ·rw[if_pos cg];refine wpS_bind (ZcF hA h0 hF (by omega) (by omega) ?_)
  cases e:O.blt (ka O (arrOf st) lo) (ka O (arrOf st) (lo+n - 1)) with
  | true=>
   simp only[if_true];exact wpS_pure (h n st hF n1 n2 u)
  | false=>
   simp only[Yar,if_false];have all:∀ k,lo<=k->k<lo+n->ka O (arrOf st) k=ka O (arrOf st) (lo+n - 1):=by
    intro k k1 k2;have a1:=u 0 (k - lo) (by omega) (by omega);have a2:=u (k - lo) (n - 1) (by omega) (by omega);rw[show lo+(k - lo)=k by omega] at a1 a2;rw[show lo+(n - 1)=lo+n - 1 by omega] at a2;exact Yey a2 (Ycy (O:=O.toKeyOrd) e a1)
   refine wpS_bind (Zbs ?_);have hF7:=FB.mir hF (i:=lo) (j:=lo+n) (Yag _) (by omega);have d7:Dn O lo (n+1) (arrOf (setArr st (mirror (arrOf st) lo (lo+n) ((lo+n - lo) / 2)))):=by
    intro i j hij hj;show O.kle (ka O (mirror (arrOf st) _ _ _) _) (ka O (mirror (arrOf st) _ _ _) _);rw[ZbX hsz all,ZbX hsz all];rcases Ya7 j n with z | z
    ·rw[all _ (by omega) (show lo+j<lo+n by omega),all _ (by omega) (show lo+i<lo+n by omega)];exact Yb3 _
    ·obtain rfl:j=n:=by omega
     rcases Ya7 i j with y | y
     ·rw[all _ (by omega) (show lo+i<lo+j by omega)];exact Yb5 hlt
     ·obtain rfl:i=j:=by omega
      exact Yb3 _
   refine wpS_bind (wpS_lift (wpAny_rule ⟨rfl,?_⟩));refine wpS_bind (ZfD hA h0 hF7 hn (by omega) (by omega) d7 fun m e τ hT m1 m2 d q he=>?_);dsimp only;have hsz:lo+m<=(arrOf τ).size:=by rw[hT.size];omega
   have eq1:∀ k,lo+m - (e+1)<=k->k<lo+m->ka O (arrOf τ) k=ka O (arrOf τ) (lo+m - 1):=fun k k1 k2=>by
    have:=he (k - lo) (by omega) (by omega)
    rwa [show lo+(k - lo)=k by omega] at this
   refine Zaz (fun _=>?_) (fun _=>?_)
   ·refine wpS_bind (Zbs ?_);have hF8:=FB.mir hT (i:=lo+m - (e+1)) (j:=lo+m) (by omega) (by omega);have d8:Dn O lo m (arrOf (setArr τ (mirror (arrOf τ) (lo+m - (e+1)) (lo+m) ((lo+m - (lo+m - (e+1))) / 2)))):=by
     intro i j hij hj;show O.kle (ka O (mirror (arrOf τ) _ _ _) _) (ka O (mirror (arrOf τ) _ _ _) _);rw[ZbX hsz eq1,ZbX hsz eq1];exact d i j hij hj
    refine wpS_bind (Zbs ?_);have hF9:=FB.mir hF8 (i:=lo) (j:=lo+m) (Yag _) (by omega);refine wpS_bind (Zb4 hA h0 hF9 hn (by omega) m2 (ZfF d8 (by rw[FB.size hF8];omega)) fun m' m1' m2' u' _=>wpS_pure (h m' _ hF9 (by omega) m2' u'))
   ·
    refine wpS_bind (Zbs ?_);have hF9:=FB.mir hT (i:=lo) (j:=lo+m) (Yag _) (by omega);refine wpS_bind (Zb4 hA h0 hF9 hn (by omega) m2 (ZfF d (by rw[FB.size hT];omega)) fun m' m1' m2' u' _=>wpS_pure (h m' _ hF9 (by omega) m2' u'))
 ·rw[if_neg cg];obtain rfl:n=1:=by omega
  have d7:Dn O lo (1+1) (arrOf st):=by
   intro i j hij hj;rcases Ya7 i j with y | y
   ·obtain rfl:i=0:=by omega
    obtain rfl:j=1:=by omega
    exact Yb5 hlt
   ·obtain rfl:i=j:=by omega
    exact Yb3 _
  refine wpS_bind (wpS_lift (wpAny_rule ⟨rfl,?_⟩));refine wpS_bind (ZfD hA h0 hF hn (by omega) (by omega) d7 fun m e τ hT m1 m2 d q he=>?_);dsimp only;have hsz:lo+m<=(arrOf τ).size:=by rw[hT.size];omega
  have eq1:∀ k,lo+m - (e+1)<=k->k<lo+m->ka O (arrOf τ) k=ka O (arrOf τ) (lo+m - 1):=fun k k1 k2=>by
   have:=he (k - lo) (by omega) (by omega)
   rwa [show lo+(k - lo)=k by omega] at this
  refine Zaz (fun _=>?_) (fun _=>?_)
  ·refine wpS_bind (Zbs ?_);have hF8:=FB.mir hT (i:=lo+m - (e+1)) (j:=lo+m) (by omega) (by omega);have d8:Dn O lo m (arrOf (setArr τ (mirror (arrOf τ) (lo+m - (e+1)) (lo+m) ((lo+m - (lo+m - (e+1))) / 2)))):=by
    intro i j hij hj;show O.kle (ka O (mirror (arrOf τ) _ _ _) _) (ka O (mirror (arrOf τ) _ _ _) _);rw[ZbX hsz eq1,ZbX hsz eq1];exact d i j hij hj
   refine wpS_bind (Zbs ?_);have hF9:=FB.mir hF8 (i:=lo) (j:=lo+m) (Yag _) (by omega);refine wpS_bind (Zb4 hA h0 hF9 hn (by omega) m2 (ZfF d8 (by rw[FB.size hF8];omega)) fun m' m1' m2' u' _=>wpS_pure (h m' _ hF9 (by omega) m2' u'))
  ·
   refine wpS_bind (Zbs ?_);have hF9:=FB.mir hT (i:=lo) (j:=lo+m) (Yag _) (by omega);refine wpS_bind (Zb4 hA h0 hF9 hn (by omega) m2 (ZfF d (by rw[FB.size hT];omega)) fun m' m1' m2' u' _=>wpS_pure (h m' _ hF9 (by omega) m2' u'))
end
end
end L2
namespace L2
open PySem PyProof.Rows
section
variable {prog:Program}{w:World}{A:Around}{E:Value->Shared->Prop}{s:Shared}{O:KO}{knd:SortKind}{ok:Keyed->Prop}{st:SortSt}{b₀:Array Keyed}{p₀:Array (Nat × Nat × Nat)}{lo:Nat}
theorem Zls {l r:Nat} (h:l<r):l<=(l+r) / 2/\(l+r) / 2<r:=by omega
theorem Zl4 {l r k x N:Nat} (m1:l<=(l+r) / 2) (m2:(l+r) / 2<r) (hx:x<N) (e2:r<=k) (e3:r - l<=k - x):(l+r) / 2 - l<=k - (x+1):=by omega
theorem Zl3 {l r k x N:Nat} (m1:l<=(l+r) / 2) (m2:(l+r) / 2<r) (hx:x<N) (e2:r<=k) (e3:r - l<=k - x):r - ((l+r) / 2+1)<=k - (x+1):=by omega
theorem Zke {n m:Nat}{Q:Bool->SortSt->Prop} (hA:Asks prog w A s O knd ok) (h0:∀ x∈b₀.toList,ok x) (hF:FB knd b₀ p₀ lo st) (hn:lo+n<=b₀.size) (h1:1<=m) (hm:m<=n) (hu:Up O lo m (arrOf st))
  (h:∀ τ,FB knd b₀ p₀ lo τ->Up O lo n (arrOf τ)->Q true τ):wpS (model prog w) A E s (binarySort' lo n m) Q st:=by
 rw[binarySort'_eq,Nat.max_eq_left h1];refine wpS_bind (wpS_mono (wpS_forRange (I:=fun k c τ=>c=(none,())/\FB knd b₀ p₀ lo τ/\Up O lo k (arrOf τ))
  (Q:=fun c τ=>c=(none,())/\FB knd b₀ p₀ lo τ/\Up O lo n (arrOf τ)) ?go ?out ⟨rfl,hF,hu⟩) ?fin)
 case fin=>
  rintro c τ ⟨rfl,hT,u⟩;exact wpS_pure (h τ hT u)
 case out=>
  rintro c τ ⟨hc,hT,u⟩;rw[YdM hm] at u;exact⟨hc,hT,u⟩
 case go=>
  rintro k c τ k1 k2 ⟨rfl,hT,u⟩;refine wpS_bind (wpS_mono (wpS_forRange (I:=fun x c τ'=>τ'=τ/\∃ l r,c=(none,l,r)/\l<=r/\r<=k/\r - l<=k - x /\
    (∀ i,i<l->O.kle (ka O (arrOf τ) (lo+i)) (ka O (arrOf τ) (lo+k)))/\∀ i,r<=i->i<k->O.klt (ka O (arrOf τ) (lo+k)) (ka O (arrOf τ) (lo+i)))
   (Q:=fun c τ'=>τ'=τ/\∃ l,c=(none,l,l)/\l<=k/\(∀ i,i<l->O.kle (ka O (arrOf τ) (lo+i)) (ka O (arrOf τ) (lo+k)))/\∀ i,l<=i->i<k->O.klt (ka O (arrOf τ) (lo+k)) (ka O (arrOf τ) (lo+i))) ?go2 ?out2
   ⟨rfl,0,k,rfl,YaP _,Yag _,Yag _,fun i hi=>absurd hi (Ybp _),fun i i1 i2=>absurd i2 (Nat.not_lt.mpr i1)⟩) ?fin2)
  case out2=>
   rintro c τ' ⟨rfl,l,r,rfl,e1,e2,e3,e4,e5⟩;obtain rfl:l=r:=by omega
   exact⟨rfl,l,rfl,e2,e4,e5⟩
  case go2=>
   rintro x c τ' _ hx ⟨rfl,l,r,rfl,e1,e2,e3,e4,e5⟩;dsimp only;by_cases hge:l ≥ r
   ·rw[if_pos hge];obtain rfl:l=r:=by omega
    exact wpS_pure ⟨rfl,l,rfl,e2,e4,e5⟩
   rw[if_neg hge];obtain⟨m1,m2⟩:=Zls (Nat.lt_of_not_le hge);have mk:(l+r) / 2<k:=Yap m2 e2;have kn:lo+k<b₀.size:=Yap (YeU k2 lo) hn;refine wpS_bind (ZcF hA h0 hT kn (Nat.lt_trans (YeU mk lo) kn) ?_)
   cases e:O.blt (ka O (arrOf τ') (lo+k)) (ka O (arrOf τ') (lo+(l+r) / 2)) with
   | true=>
    simp only[if_true];exact wpS_pure ⟨rfl,l,(l+r) / 2,rfl,m1,Ybs mk,Zl4 m1 m2 hx e2 e3,e4,fun i i1 i2=>KeyOrd.klt_of_klt_of_kle e (u _ _ i1 i2)⟩
   | false=>
    simp only[Yar,if_false];exact wpS_pure ⟨rfl,(l+r) / 2+1,r,rfl,m2,e2,Zl3 m1 m2 hx e2 e3,fun i i1=>Ycy (u i ((l+r) / 2) (Nat.le_of_lt_succ i1) mk) e,e5⟩
  case fin2=>
   rintro c τ' ⟨rfl,l,rfl,e2,e4,e5⟩;dsimp only;rw[moveDown'_eq];have hks:lo+k<(arrOf τ').size:=by rw[hT.size];omega
   refine wpS_bind (wpS_modify (wpS_pure ⟨rfl,hT.put (bubble_perm _ _ _) (fun i hi=>?_),?_⟩))
   ·rw[getElem?_bubble hks _ (by omega),if_neg (by omega),if_neg (by omega)]
   ·intro i j hij hj;show O.kle (ka O (bubble (arrOf τ') (lo+k) (lo+k - (lo+l))) _) (ka O (bubble (arrOf τ') (lo+k) (lo+k - (lo+l))) _);rw[Zj0 hks (by omega),Zj0 hks (by omega),show lo+k - (lo+k - (lo+l))=lo+l by omega]
    repeat' split
    all_goals first
     | (exfalso;omega)
     | exact Yb3 _
     | exact e4 _ (by omega)
     | (rw[show lo+j - 1=lo+(j - 1) by omega];exact Yb5 (e5 _ (by omega) (by omega)))
     | exact Yb5 (e5 _ (by omega) (by omega))
     | (rw[show lo+i - 1=lo+(i - 1) by omega,show lo+j - 1=lo+(j - 1) by omega];exact u _ _ (by omega) (by omega))
     | (rw[show lo+j - 1=lo+(j - 1) by omega];exact u _ _ (by omega) (by omega))
     | exact u _ _ (by omega) (by omega)
def pos:Nat->List (List Keyed)->List (Nat × Nat)
 | _,[]=>[]
 | o,r::rs=>(o,r.length)::pos (o+r.length) rs
theorem ZbG:∀ (o:Nat) (xs ys:List (List Keyed)),pos o (xs++ys)=pos o xs++pos (o+xs.flatten.length) ys
 | o,[],ys=>by simp[pos]
 | o,r::rs,ys=>by
  simp only[Yfd,pos,ZbG,Ya5,Yak];rw[Nat.add_assoc]
theorem Zcq:∀ (o:Nat) (xs:List (List Keyed)),(pos o xs).length=xs.length
 | _,[]=>rfl
 | o,r::rs=>by simp only[pos,Ya0,Zcq]
def pr (p:Nat × Nat × Nat):Nat × Nat:=(p.1,p.2.1)
structure RI (O:KO) (knd:SortKind) (a₀:List Keyed) (runs:List (List Keyed)) (rest:List Keyed) (st:SortSt):Prop where
 arr:(arrOf st).toList=runs.flatten++rest
 perm:(arrOf st).toList.Perm a₀
 srt:∀ r∈runs,O.Srt r
 ne:∀ r∈runs,1<=r.length
 kind:kindOf st=knd
 failed:failedOf st=none
 pend:(pendingOf st).toList.map pr=pos 0 runs
theorem Zdi:∀ (l:List Keyed) (n sa:Nat) (xs:Array Keyed) (P M S:List Keyed),xs.toList=P++M++S->M.length=l.length->P.length=sa+n ->
  ((l.zipIdx n).foldl (fun a (q:Keyed × Nat)=>a.setIfInBounds (sa+q.2) q.1) xs).toList=P++l++S
 | [],n,sa,xs,P,M,S,e,h1,h2=>by
  have:M=[]:=YcV.mp h1;subst this;simpa using e
 | x::l,n,sa,xs,P,[],S,e,h1,h2=>by cases h1
 | x::l,n,sa,xs,P,y::M,S,e,h1,h2=>by
  rw[YdH,YdV];have q:=Zdi l (n+1) sa (xs.setIfInBounds (sa+n) x) (P++[x]) M S ?_ (by simpa using h1) (by simp;omega)
  ·rw[q];simp
  ·rw[YdZ,e,<- h2];simp
theorem ZhL {α β:Type}{f:α->β}{l:List α}{X Z:List β}{x y:β} (h:l.map f=X++x::y::Z):∃ P p q S,l=P++p::q::S/\P.map f=X/\f p=x/\f q=y/\S.map f=Z:=by
 obtain⟨P,l2,e1,e2,e3⟩:=List.map_eq_append_iff.mp h;obtain⟨p,l3,e4,e5,e6⟩:=YeH.mp e3;obtain⟨q,S,e7,e8,e9⟩:=YeH.mp e6;exact⟨P,p,q,S,by rw[e1,e4,e7],e2,e5,e8,e9⟩
theorem Zcy {α:Type}{pre m post:List α}{l:List α}{i:Nat} (e:l=pre++m++post) (hi:i<m.length):l[pre.length+i]?=m[i]?:=by
 rw[e,YaI,Ya1 (by omega),YcW,Ya3 hi]
theorem ZjM {xs:Array Keyed}{pre m post:List Keyed} (e:xs.toList=pre++m++post) (sm:O.Srt m):∀ p q x y,pre.length<=p->p<=q->q<pre.length+m.length->xs[p]?=some x->xs[q]?=some y->O.le x y:=by
 intro p q x y h1 h2 h3 e1 e2;have f1:=Zcy (i:=p - pre.length) e (by omega);have f2:=Zcy (i:=q - pre.length) e (by omega);rw[show pre.length+(p - pre.length)=p by omega,Yaf,e1] at f1;rw[show pre.length+(q - pre.length)=q by omega,Yaf,e2] at f2;exact Zca sm (by omega) f1.symm f2.symm
theorem Zib {xs:Array Keyed}{P M S:List Keyed}{i j:Nat} (e:xs.toList=P++M++S) (hi:i=P.length) (hj:j=P.length+M.length):(xs.extract i j).toList=M:=by
 rw[Zec,e,hi,hj,YaI,List.drop_left,YcW,List.take_left]
theorem srt3 {x y z:List Keyed} (hx:O.Srt x) (hy:O.Srt y) (hz:O.Srt z) (xy:∀ p∈x,∀ q∈y,O.le p q) (yz:∀ p∈y,∀ q∈z,O.le p q) (xz:∀ p∈x,∀ q∈z,O.le p q):O.Srt (x++y++z):=by
 refine YaM.mpr ⟨YaM.mpr ⟨hx,hy,xy⟩,hz,fun p hp q hq=>?_⟩;rcases Yan.mp hp with hp | hp
 ·exact xz p hp q hq
 ·exact yz p hp q hq
theorem Zkc {M:Model}{σ:Type}{x y:σ}{Q:PUnit->σ->Prop} (h:Q ⟨⟩ x):wpS M A E s (set x:StateT σ Sem PUnit) Q y:=by
 unfold wpS;rw[StateT.run_set];exact wpAny_pure ⟨rfl,h⟩
theorem ZbP {a₀ rest:List Keyed}{R1 R2:List (List Keyed)}{a b:List Keyed}{i:Nat}{Q:Bool->SortSt->Prop} (hA:Asks prog w A s O knd ok) (h0:∀ x∈a₀,ok x) (hR:RI O knd a₀ (R1++a::b::R2) rest st) (hi:R1.length=i)
  (h:∀ m τ,m.Perm (a++b)->RI O knd a₀ (R1++m::R2) rest τ->Q true τ):wpS (model prog w) A E s (mergeAt' i) Q st:=by
 have hp:=hR.pend;rw[ZbG] at hp;obtain⟨P,p,q,S,ep,e1,e2,e3,e4⟩:=ZhL hp;obtain⟨p1,p2,w1⟩:=p;obtain⟨q1,q2,w2⟩:=q;simp only[pr,Prod.mk.injEq,YbD] at e2 e3;obtain⟨rfl,rfl⟩:=e2;obtain⟨rfl,rfl⟩:=e3;have hP:P.length=i:=by rw[<- hi,<- Zcq 0 R1,<- e1,Yab]
 have g1:(pendingOf st)[i]?=some (R1.flatten.length,a.length,w1):=by
  rw[<- Yaf,ep,Ya1 (by omega),hP,Nat.sub_self];rfl
 have g2:(pendingOf st)[i+1]?=some (R1.flatten.length+a.length,b.length,w2):=by
  rw[<- Yaf,ep,Ya1 (by omega),hP,YcW];rfl
 have ea:(arrOf st).toList=R1.flatten++a++(b++(R2.flatten++rest)):=by
  rw[hR.arr];simp
 have eb:(arrOf st).toList=(R1.flatten++a)++b++(R2.flatten++rest):=by
  rw[hR.arr];simp
 have sa:O.Srt a:=hR.srt a (by simp);have sb:O.Srt b:=hR.srt b (by simp);have la:1<=a.length:=hR.ne a (by simp);have lb:1<=b.length:=hR.ne b (by simp);have oks:∀ x∈(arrOf st).toList,ok x:=fun x hx=>h0 x (hR.perm.mem_iff.mp hx);have oka:∀ x∈a,ok x:=fun x hx=>oks x (by rw[ea];simp[hx]);have okb:∀ x∈b,ok x:=fun x hx=>oks x (by rw[eb];simp[hx]);have fin:∀ (τ:SortSt) (m:List Keyed),m.Perm (a++b)->O.Srt m->(arrOf τ).toList=R1.flatten++m++(R2.flatten++rest)->kindOf τ=knd->failedOf τ=none->(pendingOf τ).toList=P++(R1.flatten.length,a.length+b.length,w1)::S->Q true τ:=by
  intro τ m pm sm em k1 k2 k3;have lm:m.length=a.length+b.length:=by rw[pm.length_eq,Yak]
  refine h m τ pm ⟨by rw[em];simp,?_,?_,?_,k1,k2,?_⟩
  ·refine Ydu ?_ hR.perm;rw[em,ea];have:=Yb0 R1.flatten (YcS (R2.flatten++rest) pm);simpa using this
  ·intro r hr;rcases Yan.mp hr with hr | hr
   ·exact hR.srt r (YaU _ hr)
   ·rcases Yai.mp hr with hr | hr
    ·rw[hr];exact sm
    ·exact hR.srt r (by simp[hr])
  ·intro r hr;rcases Yan.mp hr with hr | hr
   ·exact hR.ne r (YaU _ hr)
   ·rcases Yai.mp hr with hr | hr
    ·rw[hr];omega
    ·exact hR.ne r (by simp[hr])
  ·rw[k3,ZbG,YaC,e1,YaK,e4,YbD];simp only[pos,pr,lm,Nat.add_assoc]
 have new:(((pendingOf st).setIfInBounds i (R1.flatten.length,a.length+b.length,w1)).eraseIdxIfInBounds (i+1)).toList=P++(R1.flatten.length,a.length+b.length,w1)::S:=by
  rw[Array.toList_eraseIdxIfInBounds,YdZ,ep,<- hP];simp[List.eraseIdx_append_of_length_le]
 refine wpS_bind (wpS_get ?_);rw[show (pendingOf st)[i]?=_ from g1,show (pendingOf st)[i+1]?=_ from g2];dsimp only;refine wpS_bind (Zkc ?_);have eb0:(arrOf st).toList[(R1.flatten++a).length+0]?=b[0]?:=Zcy eb (by omega);have hb0:b[0]?=some b[0]:=Yaa lb;have eb1:(arrOf st)[R1.flatten.length+a.length]?=some b[0]:=by
  rw[<- Yaf,<- hb0,<- eb0,Yak,Ydb]
 have mb0:b[0]∈b:=Ybg _;refine wpS_bind (Zal eb1 ?_);have hlen:(arrOf st).size=R1.flatten.length+a.length+b.length+(R2.flatten++rest).length:=by
  rw[<- Yao,eb];simp only[Yak]
 refine wpS_bind (ZbQ hA hR.kind (okb _ mb0) oks (show R1.flatten.length+a.length<=(arrOf st).size by omega) (ZjM ea sa) (by omega) fun k hk1 u1 u2=>?_);have ka1:∀ z∈a.take k,O.le z b[0]:=by
  intro z hz;obtain⟨j,hj,e⟩:=ZaK hz;refine u1 j z hj ?_;rw[<- Yaf,Zcy ea (by omega)];exact e
 have ka2:∀ z∈a.drop k,O.blt (O.ky b[0]) (O.ky z)=true:=by
  intro z hz;obtain⟨j,hj,e⟩:=ZaL hz;have hj2:j<a.length:=(Yae.mp e).1
  refine u2 j z hj hj2 ?_;rw[<- Yaf,Zcy ea hj2];exact e
 have bb:∀ z∈b,O.le b[0] z:=fun z hz=>Zcs sb hb0 z (by simpa using hz);dsimp only;by_cases ck:a.length - k=0
 ·rw[if_pos (by simpa using ck)];have ek:a.take k=a:=Ybo (by omega);rw[ek] at ka1;refine wpS_pure (fin _ (a++b) (YeN _) (YaM.mpr ⟨sa,sb,fun x hx y hy=>KO.le_trans (ka1 x hx) (bb y hy)⟩) ?_ hR.kind hR.failed new);show (arrOf st).toList=_;rw[ea];simp
 rw[if_neg (by simpa using ck)];have hla:a[a.length - 1]?=some a[a.length - 1]:=Yaa (by omega);have mla:a[a.length - 1]∈a:=Ybg _;have mla2:a[a.length - 1]∈a.drop k:=by
  refine YbR.mpr ⟨a.length - 1 - k,?_⟩;rw[YcP,show k+(a.length - 1 - k)=a.length - 1 by omega];exact hla
 have ela:(arrOf st)[R1.flatten.length+k+(a.length - k) - 1]?=some a[a.length - 1]:=by
  rw[<- Yaf,show R1.flatten.length+k+(a.length - k) - 1=R1.flatten.length+(a.length - 1) by omega,Zcy ea (by omega)];exact hla
 refine wpS_bind (Zal ela ?_);refine wpS_bind (Za7 hA hR.kind (oka _ mla) oks (show R1.flatten.length+a.length+b.length<=(arrOf st).size by omega) (by rw[<- Yak];exact ZjM eb sb) (by omega) fun n hn1 v1 v2=>?_);have kb1:∀ z∈b.take n,O.blt (O.ky z) (O.ky a[a.length - 1])=true:=by
  intro z hz;obtain⟨j,hj,e⟩:=ZaK hz;refine v1 j z hj ?_;rw[<- Yaf,<- Yak,Zcy eb (by omega)];exact e
 have kb2:∀ z∈b.drop n,O.le a[a.length - 1] z:=by
  intro z hz;obtain⟨j,hj,e⟩:=ZaL hz;have hj2:j<b.length:=(Yae.mp e).1
  refine v2 j z hj hj2 ?_;rw[<- Yaf,<- Yak,Zcy eb hj2];exact e
 have hn0:1<=n:=by
  rcases Yds n with z | z
  ·subst z;have q1:=ka2 _ mla2;rw[show O.blt (O.ky b[0]) (O.ky a[a.length - 1])=false from kb2 b[0] (by simpa using mb0)] at q1;cases q1
  ·exact z
 have aa:∀ z∈a,O.le z a[a.length - 1]:=fun z hz=>ZhU sa hla z (by rw[show a.length - 1+1=a.length by omega,YaT];exact hz);dsimp only;rw[if_neg (by simp;omega)];have exx:((arrOf st).extract (R1.flatten.length+k) (R1.flatten.length+a.length)).toList=a.drop k :=
  Zib (P:=R1.flatten++a.take k) (S:=b++(R2.flatten++rest)) (by rw[ea];simp[<- YaI];simp[YaI,YaJ]) (by simp;omega) (by simp;omega)
 have exy:((arrOf st).extract (R1.flatten.length+a.length) (R1.flatten.length+a.length+n)).toList=b.take n :=
  Zib (P:=R1.flatten++a) (S:=b.drop n++(R2.flatten++rest)) (by rw[eb];simp only[YaI];rw[<- YaI (b.take n),YaJ]) (by simp) (by simp;omega)
 have sx:O.Srt (a.drop k):=sa.drop;have sy:O.Srt (b.take n):=sb.take;have after:∀ (r:Array Keyed) (τ:SortSt),Gal (Ydp (kindOf st) (arrOf st) (((pendingOf st).setIfInBounds i (R1.flatten.length,a.length+b.length,w1)).eraseIdxIfInBounds (i+1)) (gallopOf st) (failedOf st)) τ->Mg O (a.drop k) (b.take n) r.toList ->
   Q true (Ydp (kindOf τ) (r.toList.zipIdx.foldl (fun a (q:Keyed × Nat)=>a.setIfInBounds (R1.flatten.length+k+q.2) q.1) (arrOf τ)) (pendingOf τ) (gallopOf τ) (failedOf τ)):=by
  intro r τ hG hM;have mem:∀ z∈r.toList,z∈a.drop k∨z∈b.take n:=fun z hz=>Yan.mp (hM.1.mem_iff.mp hz);refine fin _ (a.take k++r.toList++b.drop n) ?_ (srt3 sa.take hM.2 sb.drop (fun p hp q hq=>?_) (fun p hp q hq=>?_) fun p hp q hq=>?_) ?_ (hG.1.trans hR.kind) (hG.2.2.2.trans hR.failed) (by rw[show pendingOf τ=_ from hG.2.2.1];exact new)
  ·have p1:(a.take k++r.toList++b.drop n).Perm (a.take k++(a.drop k++b.take n)++b.drop n):=YcS _ (Yb0 _ hM.1);refine p1.trans (Ydv ?_);rw[<- YaI,YaJ,YaI,YaJ]
  ·rcases mem q hq with m | m
   ·refine (YaM.mp (show O.Srt (a.take k++a.drop k) from by rw[YaJ];exact sa)).2.2 p hp q m
   ·exact KO.le_trans (ka1 p hp) (bb q (YbG m))
  ·rcases mem p hp with m | m
   ·exact KO.le_trans (aa p (YbH m)) (kb2 q hq)
   ·refine (YaM.mp (show O.Srt (b.take n++b.drop n) from by rw[YaJ];exact sb)).2.2 p m q hq
  ·exact KO.le_trans (ka1 p hp) (bb q (YbH hq))
  ·show (Yeg _ (arrOf τ) _).toList=_;rw[show arrOf τ=arrOf st from hG.2.1];have:=Zdi r.toList 0 (R1.flatten.length+k) (arrOf st) (R1.flatten++a.take k) (a.drop k++b.take n) (b.drop n++(R2.flatten++rest)) ?_ (by rw[hM.1.length_eq]) (by simp;omega)
   ·rw[this];simp
   ·rw[eb];simp only[YaI];rw[<- YaI (a.take k),YaJ,<- YaI (b.take n),YaJ]
 have xsz:((arrOf st).extract (R1.flatten.length+k) (R1.flatten.length+a.length)).size=a.length - k:=by
  rw[<- Yao,exx,Ybm]
 have ysz:((arrOf st).extract (R1.flatten.length+a.length) (R1.flatten.length+a.length+n)).size=n:=by
  rw[<- Yao,exy,YaA];omega
 have y0:∀ y,((arrOf st).extract (R1.flatten.length+a.length) (R1.flatten.length+a.length+n))[0]?=some y->y=b[0]:=by
  intro y e;rw[<- Yaf,exy,Ycm (by omega),hb0] at e;exact (YaD e).symm
 have xl:∀ z,((arrOf st).extract (R1.flatten.length+k) (R1.flatten.length+a.length))[((arrOf st).extract (R1.flatten.length+k) (R1.flatten.length+a.length)).size - 1]?=some z->z=a[a.length - 1]:=by
  intro z e;rw[xsz,<- Yaf,exx,YcP,show k+(a.length - k - 1)=a.length - 1 by omega,hla] at e;exact (YaD e).symm
 have hx1:1<=((arrOf st).extract (R1.flatten.length+k) (R1.flatten.length+a.length)).size:=by rw[xsz];omega
 have hy1:1<=((arrOf st).extract (R1.flatten.length+a.length) (R1.flatten.length+a.length+n)).size:=by rw[ysz];omega
 refine Zaz (fun _=>?_) (fun _=>?_)
 ·refine wpS_bind (Zfb hA hR.kind (by rw[exx];exact fun x hx=>oka x (YbH hx)) (by rw[exy];exact fun x hx=>okb x (YbG hx)) (by rw[exx];exact sx) (by rw[exy];exact sy) hx1 hy1 ?_ ?_ ?_)
  ·intro y e x hx;rw[y0 y e];rw[exx] at hx;exact KO.le_of_lt (ka2 x hx)
  ·intro z e y hy;rw[xl z e];rw[exy] at hy;exact kb1 y hy
  ·intro r τ hG hM;rw[exx,exy] at hM;refine wpS_bind (wpS_modify (wpS_bind (wpS_get ?_)));have e9:failedOf τ=none:=hG.2.2.2.trans hR.failed;refine wpS_pure ?_;show Q (failedOf τ).isNone _;rw[e9];exact after r τ hG hM
 ·refine wpS_bind (Zfc hA hR.kind (by rw[exx];exact fun x hx=>oka x (YbH hx)) (by rw[exy];exact fun x hx=>okb x (YbG hx)) (by rw[exx];exact sx) (by rw[exy];exact sy) hx1 hy1 ?_ ?_ ?_)
  ·intro y e x hx;rw[y0 y e];rw[exx] at hx;exact ka2 x hx
  ·intro z e y hy;rw[xl z e];rw[exy] at hy;exact KO.le_of_lt (kb1 y hy)
  ·intro r τ hG hM;rw[exx,exy] at hM;refine wpS_bind (wpS_modify (wpS_bind (wpS_get ?_)));have e9:failedOf τ=none:=hG.2.2.2.trans hR.failed;refine wpS_pure ?_;show Q (failedOf τ).isNone _;rw[e9];exact after r τ hG hM
end
end L2
namespace L2
open PySem PyProof.Rows
section
variable {prog:Program}{w:World}{A:Around}{E:Value->Shared->Prop}{s:Shared}{O:KO}{knd:SortKind}{ok:Keyed->Prop}{st τ:SortSt}
theorem ZkG {c:Prop} [Decidable c] {a b n:Nat} (h1:a<=n) (h2:b<=n):(if c then a else b)<=n:=by split <;> assumption
theorem Zb8 {α:Type}:∀ {l:List α}{i:Nat},i+1<l.length->∃ R1 a b R2,l=R1++a::b::R2/\R1.length=i
 | [],_,h=>by simp at h
 | [_],_,h=>by simp at h
 | a::b::l,0,_=>⟨[],a,b,l,rfl,rfl⟩
 | a::b::l,i+1,h=>by
  obtain⟨R1,x,y,R2,e,q⟩:=Zb8 (l:=b::l) (i:=i) (by simpa using h);exact⟨a::R1,x,y,R2,by rw[e];rfl,by simp[q]⟩
theorem RI.len {a₀ rest:List Keyed}{runs:List (List Keyed)} (h:RI O knd a₀ runs rest st):(pendingOf st).size=runs.length:=by
 rw[<- Yao,<- Zcq 0 runs,<- h.pend,Yab]
theorem RI.size {a₀ rest:List Keyed}{runs:List (List Keyed)} (h:RI O knd a₀ runs rest st):(arrOf st).size=runs.flatten.length+rest.length:=by
 rw[<- Yao,h.arr,Yak]
theorem RI.size0 {a₀ rest:List Keyed}{runs:List (List Keyed)} (h:RI O knd a₀ runs rest st):(arrOf st).size=a₀.length:=by
 rw[<- Yao,h.perm.length_eq]
theorem Zhe:∀ {runs:List (List Keyed)},(∀ r∈runs,1<=r.length)->runs.length<=runs.flatten.length
 | [],_=>by simp
 | r::rs,h=>by
  have q:=Zhe (runs:=rs) fun x hx=>h x (by simp[hx]);have:=h r (by simp);simp only[Ya0,Ya5,Yak];omega
theorem ZlE {a₀ rest:List Keyed}{runs:List (List Keyed)}{n:Nat} (h:RI O knd a₀ runs rest st) (hF:FB knd (arrOf st) (pendingOf st) runs.flatten.length τ) (hu:Up O runs.flatten.length n (arrOf τ)) (hn:n<=rest.length) :
  ∃ r rest',r.length=n/\O.Srt r/\rest.length=n+rest'.length/\RI O knd a₀ runs (r++rest') τ:=by
 have hpm:=Yd0.mp hF.perm;have hsz:(arrOf τ).size=runs.flatten.length+rest.length:=by rw[hF.size,h.size]
 have e1:(arrOf τ).toList.take runs.flatten.length=runs.flatten:=by
  have:(arrOf τ).toList.take runs.flatten.length=(arrOf st).toList.take runs.flatten.length:=by
   apply YdA;intro i;rcases Ya7 i runs.flatten.length with hi | hi
   ·rw[Ycm hi,Ycm hi,Yaf,Yaf];exact hF.keep i hi
   ·rw[Ycx (by rw[YaA];omega),Ycx (by rw[YaA];omega)]
  rw[this,h.arr,List.take_left]
 have e2:(arrOf τ).toList=runs.flatten++(arrOf τ).toList.drop runs.flatten.length:=by
  conv=>lhs;rw[<- YaJ runs.flatten.length (arrOf τ).toList,e1]
 have lr:((arrOf τ).toList.drop runs.flatten.length).length=rest.length:=by
  rw[Ybm,Yao];omega
 refine⟨((arrOf τ).toList.drop runs.flatten.length).take n,((arrOf τ).toList.drop runs.flatten.length).drop n,by rw[YaA];omega,?_,by rw[Ybm];omega,⟨by rw[YaJ];exact e2,hpm.trans h.perm,h.srt,h.ne,hF.kind,hF.failed,by rw[hF.pend];exact h.pend⟩⟩;refine YcR.mpr fun i j hi hj hij=>?_;rw[YaA] at hi hj;have q:=hu i j (by omega) (by omega);rw[Yct,Yct,YcT,YcT];have g:∀ k (hk:runs.flatten.length+k<(arrOf τ).toList.length),ka O (arrOf τ) (runs.flatten.length+k)=O.ky ((arrOf τ).toList[runs.flatten.length+k]):=by
  intro k hk;unfold ka;rw[<- Yaf,Yaa hk];rfl
 have hlt:(arrOf τ).toList.length=runs.flatten.length+rest.length:=by rw[Yao];exact hsz
 rw[g i (by omega),g j (by omega)] at q;exact q
theorem RI.push {a₀ rest r:List Keyed}{runs:List (List Keyed)}{lo n:Nat} (h:RI O knd a₀ runs (r++rest) st) (hs:O.Srt r) (hr:r.length=n) (hn:1<=n) (hl:lo=runs.flatten.length):RI O knd a₀ (runs++[r]) rest (setPending st ((pendingOf st).push (lo,n,0))):=by
 refine⟨?_,h.perm,?_,?_,h.kind,h.failed,?_⟩
 ·show (arrOf st).toList=_;rw[h.arr];simp
 ·intro x hx;rcases Yan.mp hx with hx | hx
  ·exact h.srt x hx
  ·rw[YaE.mp hx];exact hs
 ·intro x hx;rcases Yan.mp hx with hx | hx
  ·exact h.ne x hx
  ·rw[YaE.mp hx];omega
 ·show ((pendingOf st).push (lo,n,0)).toList.map pr=_;rw[Ycr,YaC,h.pend,ZbG,hl,<- hr];simp[pos,pr]
theorem RI.pow {a₀ rest:List Keyed}{runs:List (List Keyed)}{pw:Nat} (h:RI O knd a₀ runs rest st):RI O knd a₀ runs rest (setPending st ((pendingOf st).modify ((pendingOf st).size - 1) fun x=>(x.1,x.2.1,pw))):=by
 refine⟨h.arr,h.perm,h.srt,h.ne,h.kind,h.failed,?_⟩;show ((pendingOf st).modify _ _).toList.map pr=_;rw[<- h.pend];apply YdA;intro i;rw[Yal,Yal,Yaf,Yaf,Yc5];split
 ·cases (pendingOf st)[i]? <;> rfl
 ·rfl
theorem Zfa {a₀:Array Keyed}{Q:Unit->SortSt->Prop} (hA:Asks prog w A s O knd ok) (h0:∀ x∈a₀.toList,ok x) (ha:arrOf st=a₀) (hk:kindOf st=knd) (hf:failedOf st=none) (hp:pendingOf st=#[])
  (h:∀ τ,(arrOf τ).toList.Perm a₀.toList->failedOf τ=none->O.Srt (arrOf τ).toList->Q () τ):wpS (model prog w) A E s sortRuns' Q st:=by
 refine wpS_bind (wpS_get ?_);dsimp only;have hN:(arrOf st).size=a₀.size:=by rw[ha]
 have hN2:a₀.toList.length=a₀.size:=Yao;rw[hN];refine wpS_bind (wpS_mono (wpS_forRange
  (I:=fun x c τ=>∃ lo runs rest,c=((none:Option Unit),lo)/\RI O knd a₀.toList runs rest τ/\lo=runs.flatten.length/\(x<=lo))
  (Q:=fun c τ=>∃ lo runs,c=((none:Option Unit),lo)/\RI O knd a₀.toList runs [] τ) ?go ?out ⟨0,[],a₀.toList,rfl,⟨by rw[ha];simp,by rw[ha],(fun r hr=>nomatch hr),(fun r hr=>nomatch hr),hk,hf,by rw[hp];rfl⟩,rfl,Yag 0⟩) ?fin)
 case out=>
  rintro c τ ⟨lo,runs,rest,rfl,hR,e1,e2⟩;have q1:=hR.size;have q2:=hR.size0;have q3:=hN2;have:rest=[]:=YcV.mp (by
   have q4:max 0 a₀.size<=lo:=e2;omega)
  subst this;exact⟨lo,runs,rfl,hR⟩
 case fin=>
  rintro c τ ⟨lo,runs,rfl,hR⟩;dsimp only;have q1:=hR.size;have q2:=Zhe hR.ne;have q3:=hN2;have q4:=hR.size0;refine wpS_bind (wpS_mono (wpS_forRange (I:=fun x c τ'=>c=((none:Option Unit),())/\∃ runs',RI O knd a₀.toList runs' [] τ'/\runs'.length+x<=a₀.size)
   (Q:=fun c τ'=>c=((none:Option Unit),())/\∃ runs',RI O knd a₀.toList runs' [] τ'/\runs'.length<=1) ?g2 ?o2 ⟨rfl,runs,hR,by simp only[YcG] at q1;omega⟩) ?f2)
  case o2=>
   rintro c τ' ⟨hc,runs',hR',e⟩;have e:runs'.length+max 0 a₀.size<=a₀.size:=e;exact⟨hc,runs',hR',by omega⟩
  case f2=>
   rintro c τ' ⟨rfl,runs',hR',e⟩;refine wpS_pure (h τ' hR'.perm hR'.failed ?_);rw[hR'.arr,Ybw]
   match runs',e,hR' with
   | [],_,_=>exact YbM
   | [r],_,hR'=>simpa using hR'.srt r (by simp)
  case g2=>
   rintro x c τ' _ _ ⟨rfl,runs',hR',e⟩;refine wpS_bind (wpS_get ?_);by_cases c1:(pendingOf τ').size<=1
   ·rw[if_pos c1];exact wpS_pure ⟨rfl,runs',hR',by rw[<- hR'.len];exact c1⟩
   rw[if_neg c1];have key:∀ j,j<=(pendingOf τ').size - 2->wpS (model prog w) A E s (mergeAt' j) (fun b τ3=>b=true/\∃ runs',RI O knd a₀.toList runs' [] τ3/\runs'.length+(x+1)<=a₀.size) τ':=by
    intro j hj;obtain⟨R1,a,b,R2,e3,e4⟩:=Zb8 (l:=runs') (i:=j) (by rw[<- hR'.len];omega);subst e3;refine ZbP hA h0 hR' e4 fun m τ3 pm hR3=>⟨rfl,_,hR3,?_⟩
    simp only[Yak,Ya0] at e ⊢;omega
   refine wpS_bind (wpS_mono (key _ ?_) ?_)
   ·have:=hR'.len;rw[show (pendingOf τ').size=runs'.length from this];exact ZkG (by omega) (by omega)
   ·rintro b τ3 ⟨rfl,runs3,hR3,e3⟩;simp only[YbT,Yar,if_false];exact wpS_pure ⟨rfl,runs3,hR3,e3⟩
 case go=>
  rintro x c τ _ hx ⟨lo,runs,rest,rfl,hR,e1,e2⟩;have q1:=hR.size;have q2:=hR.size0;have q3:=hN2;dsimp only;by_cases c0:lo ≥ a₀.size
  ·rw[if_pos c0];have:rest=[]:=YcV.mp (by omega);subst this;exact wpS_pure ⟨lo,runs,rfl,hR⟩
  rw[if_neg c0];have oks:∀ x∈(arrOf τ).toList,ok x:=fun x hx=>h0 x (hR.perm.mem_iff.mp hx);refine wpS_bind (Zkd (b₀:=arrOf τ) (p₀:=pendingOf τ) (lo:=lo) hA oks ⟨Array.Perm.refl _,fun _ _=>rfl,hR.kind,hR.failed,rfl⟩ (by omega) (by omega) fun m τ1 hF m1 m2 u=>?_);dsimp only;refine Zaz (fun cm=>?_) (fun cm=>?_)
  ·refine wpS_bind (wpS_lift (wpAny_rule ⟨rfl,?_⟩));refine wpS_bind (Zke hA oks hF (by omega) m1 (by omega) u fun τ2 hF2 u2=>?_);simp only[YbT,Yar,if_false];rw[e1] at hF2 u2;obtain⟨r,rest',hr,hs,hl,hR2⟩:=ZlE hR hF2 u2 (by omega);rw[<- e1] at hr;have h1n:1<=r.length:=by omega
   rw[hr] at h1n;refine wpS_bind (wpS_get ?_)
   cases eb:(pendingOf τ2).back? with
   | none=>
    dsimp only;exact wpS_bind (wpS_modify (wpS_pure ⟨_,runs++[r],rest',rfl,hR2.push hs hr h1n e1,by simp[hr,e1],by omega⟩))
   | some p=>
    obtain⟨s1,n1,w1⟩:=p;dsimp only;refine wpS_bind (wpS_mono (wpS_forRange (I:=fun _ c τ'=>c=((none:Option Unit),())/\∃ runs',RI O knd a₀.toList runs' (r++rest') τ'/\runs'.flatten.length=lo)
     (Q:=fun c τ'=>c=((none:Option Unit),())/\∃ runs',RI O knd a₀.toList runs' (r++rest') τ'/\runs'.flatten.length=lo) ?g2 (fun _ _ z=>z) ⟨rfl,runs,hR2,e1.symm⟩) ?f2)
    case f2=>
     rintro c τ' ⟨rfl,runs',hR',e⟩;exact wpS_bind (wpS_modify (wpS_bind (wpS_modify (wpS_pure ⟨_,runs'++[r],rest',rfl,hR'.pow.push hs hr h1n e.symm,by simp[hr,e],by omega⟩))))
    case g2=>
     rintro y c τ' _ _ ⟨rfl,runs',hR',e⟩;refine wpS_bind (wpS_get ?_);by_cases c1:(pendingOf τ').size > 1
     ·rw[if_pos c1]
      cases ep:(pendingOf τ')[(pendingOf τ').size - 2]? with
      | none=>exact wpS_pure ⟨rfl,runs',hR',e⟩
      | some p=>
       obtain⟨s3,n3,w3⟩:=p;dsimp only;refine Zaz (fun _=>wpS_pure ⟨rfl,runs',hR',e⟩) (fun _=>?_);obtain⟨R1,a,b,R2,e3,e4⟩:=Zb8 (l:=runs') (i:=(pendingOf τ').size - 2) (by rw[<- hR'.len];omega);subst e3;refine wpS_bind (ZbP hA h0 hR' e4 fun m τ3 pm hR3=>?_);simp only[YbT,Yar,if_false];refine wpS_pure ⟨rfl,_,hR3,?_⟩;rw[<- e];have:=pm.length_eq;simp only[Yck,Ya5,Yak] at this ⊢;omega
     ·rw[if_neg c1];exact wpS_pure ⟨rfl,runs',hR',e⟩
  ·rw[e1] at hF u;obtain⟨r,rest',hr,hs,hl,hR2⟩:=ZlE hR hF u (by omega);have h1n:1<=m:=m1;refine wpS_bind (wpS_get ?_)
   cases eb:(pendingOf τ1).back? with
   | none=>
    dsimp only;exact wpS_bind (wpS_modify (wpS_pure ⟨_,runs++[r],rest',rfl,hR2.push hs hr h1n e1,by simp[hr,e1],by omega⟩))
   | some p=>
    obtain⟨s1,n1,w1⟩:=p;dsimp only;refine wpS_bind (wpS_mono (wpS_forRange (I:=fun _ c τ'=>c=((none:Option Unit),())/\∃ runs',RI O knd a₀.toList runs' (r++rest') τ'/\runs'.flatten.length=lo)
     (Q:=fun c τ'=>c=((none:Option Unit),())/\∃ runs',RI O knd a₀.toList runs' (r++rest') τ'/\runs'.flatten.length=lo) ?g2 (fun _ _ z=>z) ⟨rfl,runs,hR2,e1.symm⟩) ?f2)
    case f2=>
     rintro c τ' ⟨rfl,runs',hR',e⟩;exact wpS_bind (wpS_modify (wpS_bind (wpS_modify (wpS_pure ⟨_,runs'++[r],rest',rfl,hR'.pow.push hs hr h1n e.symm,by simp[hr,e],by omega⟩))))
    case g2=>
     rintro y c τ' _ _ ⟨rfl,runs',hR',e⟩;refine wpS_bind (wpS_get ?_);by_cases c1:(pendingOf τ').size > 1
     ·rw[if_pos c1]
      cases ep:(pendingOf τ')[(pendingOf τ').size - 2]? with
      | none=>exact wpS_pure ⟨rfl,runs',hR',e⟩
      | some p=>
       obtain⟨s3,n3,w3⟩:=p;dsimp only;refine Zaz (fun _=>wpS_pure ⟨rfl,runs',hR',e⟩) (fun _=>?_);obtain⟨R1,a,b,R2,e3,e4⟩:=Zb8 (l:=runs') (i:=(pendingOf τ').size - 2) (by rw[<- hR'.len];omega);subst e3;refine wpS_bind (ZbP hA h0 hR' e4 fun m τ3 pm hR3=>?_);simp only[YbT,Yar,if_false];refine wpS_pure ⟨rfl,_,hR3,?_⟩;rw[<- e];have:=pm.length_eq;simp only[Yck,Ya5,Yak] at this ⊢;omega
     ·rw[if_neg c1];exact wpS_pure ⟨rfl,runs',hR',e⟩
end
end L2
namespace L2
open PySem PySem.Spec PyProof.Rows PySem.SeqAt
section
variable {prog:Program}{w:World}{A:Around}{E:Value->Shared->Prop}{s:Shared}
end
section
variable {X:Cx}
end
theorem ZgT {b:Bool}{K:Yad}{own:List Str}{js:List Nat}{g:TG}{tt:TT}{te:TE}{σ:St}{H1:Hp}{Q:VK}{a:Addr}{xs:List V} (Pv:Addr->Nat->Hp->Prop) (h0:∀ acc,H1 acc=none->Pv acc 0 (upd H1 acc (.lst []))) (hl:∀ acc i H,H1 acc=none->i<=xs.length->Pv acc i H->SqB b K H a xs)
  (hs:∀ acc i x p H,H1 acc=none->xs[i]?=some x->Pv acc i H->H p=none->g (.ref p) (blkσ own js σ) (upd H p (.tup [.int i,x])) fun τ H4=>tt τ H4 fun c H5=>
   if c=true then te τ H5 fun y H6=>∃ ys,H6 acc=some (.lst ys)/\ys.length<sizeLine/\(i+1<=xs.length/\Pv acc (i+1) (upd H6 acc (.lst (ys++[y])))) else (i+1<=xs.length/\Pv acc (i+1) H5))
  (hd:∀ acc H,H1 acc=none->Pv acc xs.length H->Q (.ref acc) H):Zbh own js g tt te σ (IteB b K a) H1 Q:=by
 intro acc hacc;refine⟨fun i H=>i<=xs.length/\Pv acc i H,xs.length,⟨YaP _,h0 acc hacc⟩,?_⟩;rintro i H ⟨hi,p⟩;have q:=hl acc i H hacc hi p;by_cases hlt:i<xs.length
 ·refine .inr ⟨hlt,by cases b <;> exact⟨xs,xs[i],q,by simp[hlt]⟩,fun x H' y=>?_⟩;have y:∃ pa z,H pa=none/\x=.ref pa/\H'=upd H pa (.tup [.int i,z])/\xs[i]?=some z:=by
   cases b with
   | true=>obtain⟨pa,z,hp,e1,e2,y⟩:=y;exact⟨pa,z,hp,e1,e2,y xs q⟩
   | false=>obtain⟨pa,z,hp,e1,e2,y⟩:=y;exact⟨pa,z,hp,e1,e2,y xs q⟩
  obtain⟨pa,z,hp,e1,e2,y'⟩:=y;subst e1 e2;exact hs acc i z pa H hacc y' p hp
 ·have e:i=xs.length:=by omega
  subst e;exact .inl ⟨by cases b <;> exact⟨xs,q,Yag _⟩,hd acc H hacc p⟩
end L2
namespace L2
open PySem PyProof.Rows
section
variable {prog:Program}{w:World}{A:Around}{E:Value->Shared->Prop}{s:Shared}{O:KO}{knd:SortKind}{ok:Keyed->Prop}
def Ord2 (O:KO) (b:Bool) (us:List Value):Prop:=us.Pairwise fun u v=>if b=true then O.le (v,v) (u,u) else O.le (u,u) (v,v)
theorem Zlo {vs:List Value}{out:List Keyed} (hp:out.Perm (vs.zip vs)) (hs:O.Srt out) (b:Bool):∃ us:List Value,(if b=true then (out.map (·.2)).reverse else out.map (·.2))=us/\us.Perm vs/\Ord2 O b us:=by
 have hm:∀ p∈out,p=(p.2,p.2):=fun p hp'=>by
  have:=(mem_zip_self (hp.mem_iff.mp hp')).1
  exact Prod.ext this rfl
 have p1:(out.map (·.2)).Perm vs:=by
  have:=hp.map (·.2)
  rwa [List.map_snd_zip (Yag _)] at this
 have s1:(out.map (·.2)).Pairwise fun u v=>O.le (u,u) (v,v):=by
  rw[Ya9];refine hs.imp_of_mem fun {x y} hx hy q=>?_;rw[hm x hx,hm y hy] at q;exact q
 cases b with
 | false=>exact⟨_,rfl,p1,by simpa[Ord2] using s1⟩
 | true=>exact⟨_,rfl,(Ye2 _).trans p1,by simp only[Ord2,if_true,Yev];exact s1⟩
theorem Zha {a:Addr}{vs:List Value}{n:Nat}{h:Heap} (ho:h.get? a=some (seqObj "list" vs.toArray n)) {b:Addr}{o:Obj} (hb:h.get? b=some o) (hne:b≠a):(((h.update a (YbO fun _=>#[])).push (seqObj "tuple" vs.toArray 0)).push (seqObj "list" #[] 0)).get? b=some o :=
 Yac _ (Yac _ (by rw[YeO _ _ _ _ hne];exact hb))
theorem ZiQ {a:Addr}{vs:List Value}{n:Nat}{P:PySem.Fin->Shared->Prop} (ho:s.heap.get? a=some (seqObj "list" vs.toArray n)) (hz:vs.length<=sizeLine)
  (hkk:∀ h',(∀ b o,s.heap.get? b=some o->b≠a->h'.get? b=some o)->2<=vs.length->∀ Q:SortKind->Shared->Prop,Q knd { s with heap:=h' }->wpAny (model prog w) A (keyKind' vs.toArray) Q E { s with heap:=h' })
  (hA:∀ h',(∀ b o,s.heap.get? b=some o->b≠a->h'.get? b=some o)->Asks prog w A { s with heap:=h' } O knd ok) (hok:∀ v∈vs,ok (v,v))
  (h:∀ us:List Value,us.Perm vs->Ord2 O false us->P (.done (.ret .none)) { s with heap:=sortedHeap s.heap a vs us.toArray }):wpAny (model prog w) A (Builtin.«list.sort» ⟨[.ref a],[]⟩) P E s:=by
 have ha:a<s.heap.objs.size:=Yah ho;have keep:=fun (b:Addr) (o:Obj) (hb:s.heap.get? b=some o) (hne:b≠a)=>Zha ho hb hne;obtain⟨e1,ho1⟩:∃ c,(s.heap.update a (YbO fun _=>#[])).get? a=some (seqObj "list" #[] c):=⟨_,get?_update_seq ho (fun _=>#[])⟩
 have ho6:=Yac (seqObj "list" #[] 0) (Yac (seqObj "tuple" vs.toArray 0) ho1);have hsv:vs.toArray.size=vs.length:=Yaj;have hz1:vs.toArray.size<=sizeLine:=by rw[hsv];exact hz
 have fin:∀ (τ:SortSt),(arrOf τ).toList.Perm (vs.zip vs)->O.Srt (arrOf τ).toList->P (.done (.ret .none)) { s with heap:=sortedHeap s.heap a vs ((arrOf τ).map (·.2)) }:=by
  intro τ hp hs;obtain⟨us,e,p1,p2⟩:=Zlo hp hs false;have e2:(arrOf τ).map (·.2)=us.toArray:=by rw[<- e];apply Array.toList_inj.mp;simp
  rw[e2];exact h us p1 p2
 have osz:∀ τ:SortSt,(arrOf τ).toList.Perm (vs.zip vs)->((arrOf τ).map (·.2)).size<=sizeLine+1:=by
  intro τ hp;rw[Array.size_map,<- Yao,hp.length_eq,List.length_zip];omega
 rw[list_sort_plain];refine wpAny_bind (listItems_at ho rfl (wpAny_bind (listUpdate_at ho rfl ?_ hz1 (YaP _))));refine wpAny_bind (seqEpoch_at ho1 rfl (wpAny_bind (wpAny_newTuple ?_ hz)));refine wpAny_bind (wpAny_newList ?_ (YaP _));refine wpAny_holding ?_;show wpAny (model prog w) A _ P E ({ s with heap:=((s.heap.update a (YbO fun _=>#[])).push (seqObj "tuple" vs.toArray 0)).push (seqObj "list" #[] 0) }:Shared);dsimp only;by_cases h2:vs.toArray.size<2
 ·rw[if_pos h2,if_pos h2];refine wpAny_bind (wpAny_pure ?_);rw[StateT.run_pure];have hp0:(vs.toArray.zip vs.toArray).toList.Perm (vs.zip vs):=by simp
  refine wpAny_bind (wpAny_pure (wpAny_bind (seqEpoch_at ho6 rfl (wpAny_bind (listUpdate_at ho6 rfl ?_ (YaP _) (osz (Ydp general' (vs.toArray.zip vs.toArray) #[] 7 none) hp0))))));simp only[bne_self_eq_false,Yar,if_false];refine wpAny_pure (fin (Ydp general' (vs.toArray.zip vs.toArray) #[] 7 none) hp0 ?_);show O.Srt (vs.toArray.zip vs.toArray).toList;rw[show (vs.toArray.zip vs.toArray).toList=vs.zip vs by simp]
  match vs,h2 with
  | [],_=>exact YbM
  | [v],_=>exact Yeo _ _
 ·rw[if_neg h2,if_neg h2];refine wpAny_bind (hkk _ keep (by omega) _ ?_);refine wpAny_bind (wpAny_mono (Zfa (a₀:=vs.toArray.zip vs.toArray) (st:=Ydp knd (vs.toArray.zip vs.toArray) #[] 7 none) (Q:=fun _ τ=>(arrOf τ).toList.Perm (vs.zip vs)/\failedOf τ=none/\O.Srt (arrOf τ).toList)
   (hA _ keep) (fun x hx=>?_) rfl rfl rfl rfl fun τ a1 a2 a3=>⟨by simpa using a1,a2,a3⟩) ?_ fun _ _ z=>z)
  ·have hx:x∈vs.zip vs:=by simpa using hx
   have q:=mem_zip_self hx;rw[show x=(x.1,x.1) from Prod.ext rfl q.1.symm];exact hok _ q.2
  ·rintro⟨⟨⟩,τ⟩ s' ⟨rfl,hp,hf,hs⟩;refine wpAny_bind (seqEpoch_at ho6 rfl (wpAny_bind (listUpdate_at ho6 rfl ?_ (YaP _) (osz τ hp))));dsimp only;rw[hf];simp only[bne_self_eq_false,Yar,if_false];exact wpAny_pure (fin τ hp hs)
theorem Zgu {l:Addr}{vs:List Value} (h:Heap):∀ b o,h.get? b=some o->(((h.push (seqObj "list" #[] 0)).update h.objs.size (YbO (·++vs.toArray))).push (seqObj "list" vs.toArray 0)).get? b=some o:=by
 intro b o q;have hlt:b<h.objs.size:=Yah q;refine Yac _ ?_;rw[YeO _ _ _ _ (Yaz hlt)];exact Yac _ q
structure Sortable (prog:Program) (w:World) (s:Shared) (O:KO) (vs:List Value):Prop where
 ex:∃ (knd:SortKind) (ok:Keyed->Prop),(∀ v∈vs,ok (v,v))/\(∀ A h',(∀ b o,s.heap.get? b=some o->h'.get? b=some o)->Asks prog w A { s with heap:=h' } O knd ok) /\
  ∀ (A:Around) (E:Value->Shared->Prop) h',(∀ b o,s.heap.get? b=some o->h'.get? b=some o)->2<=vs.length->∀ Q:SortKind->Shared->Prop,Q knd { s with heap:=h' }->wpAny (model prog w) A (keyKind' vs.toArray) Q E { s with heap:=h' }
theorem ZcM {l:Addr}{vs:List Value}{Q:Value->Shared->Prop} (hl:s.heap.IsList l vs.toArray) (hz:vs.length<=sizeLine) (hS:Sortable prog w s O vs)
  (h:∀ us:List Value,us.Perm vs->Ord2 O false us->Q (.ref (s.heap.objs.size+1)) { s with heap:=sortedAll s.heap vs us.toArray }):wpAny (model prog w) A (call (.builtin "sorted") [.ref l]) Q E s:=by
 obtain⟨knd,ok,h1,h2,h3⟩:=hS.ex;have zz:((s.heap.push (seqObj "list" #[] 0)).update s.heap.objs.size (YbO (·++vs.toArray))).objs.size=s.heap.objs.size+1:=by rw[Heap.size_update,size_push']
 have at1:(((s.heap.push (seqObj "list" #[] 0)).update s.heap.objs.size (YbO (·++vs.toArray))).push (seqObj "list" vs.toArray 0)).get? (s.heap.objs.size+1)=some (seqObj "list" vs.toArray 0):=by
  have:=Yas ((s.heap.push (seqObj "list" #[] 0)).update s.heap.objs.size (YbO (·++vs.toArray))) (o:=seqObj "list" vs.toArray 0) rfl
  rwa [zz] at this
 refine Calls.call_function_entry kind_sorted plain_sorted entry_sorted (args_sorted1 _) ?_;unfold Builtin.«sorted»;refine wpAny_bind (m:=checkCount "sorted" 1 1 _) (wpAny_pure (wpAny_bind (collect_list hl (wpAny_bind (wpAny_newList ?_ hz)) hz)));show wpAny _ _ _ _ _ { s with heap:=((s.heap.push (seqObj "list" #[] 0)).update s.heap.objs.size (YbO (·++vs.toArray))).push (seqObj "list" vs.toArray 0) };rw[zz];have up:∀ h':Heap,(∀ b o,(((s.heap.push (seqObj "list" #[] 0)).update s.heap.objs.size (YbO (·++vs.toArray))).push (seqObj "list" vs.toArray 0)).get? b=some o->b≠s.heap.objs.size+1->h'.get? b=some o)->∀ b o,s.heap.get? b=some o->h'.get? b=some o:=fun h' k b o q=>
  k b o (Zgu (l:=l) s.heap b o q) (Yaz (YbJ (Yah q)))
 exact wpAny_bind (wpAny_holding (wpAny_call_entry slot_list_sort ⟨_,at1,rfl⟩ entry_list_sort (ZiQ at1 hz (fun h' k hl2 Q' q=>h3 _ _ h' (up h' k) hl2 Q' q) (fun h' k=>h2 _ h' (up h' k)) h1 fun us p1 p2=>⟨_,rfl,wpAny_pure ⟨_,rfl,h us p1 p2⟩⟩) (args_list_sort _)))
def KOi:KO where
 α:=Int
 blt a b:=decide (a<b)
 irrefl a:=by simp
 trans a b c h1 h2:=by simp only[decide_eq_true_eq] at *;omega
 negTrans a b c h:=by simp only[decide_eq_true_eq] at *;omega
 total a b h1 h2:=by simp only[decide_eq_false_iff_not] at *;omega
 ky p:=numOf p.1
theorem ZdT {vs:List Value}{ns:List Int} (hI:IntsAre vs ns):Sortable prog w s KOi vs:=by
 refine⟨oneType',(fun p=>∃ n t,p.1=.int n t),fun v hv=>?_,fun A h' _ x y hx hy E Q q=>?_,fun A E h' _ h2 Q q=>?_⟩
 ·obtain⟨n,t,e⟩:=hI.all v hv;exact⟨n,t,e⟩
 ·obtain⟨n,t,e1⟩:=hx;obtain⟨m,u,e2⟩:=hy;rw[keyLt'_oneType,e1,e2];refine oneLt_int ?_;have q:Q (decide (numOf x.1<numOf y.1)) { s with heap:=h' }:=q;rw[e1,e2] at q;exact q
 ·match vs,h2,hI with
  | v1::v2::r,_,hI=>
   rw[keyKind_ints hI];exact wpAny_pure q
theorem Zi6 {us:List Value}{ms:List Int}{b:Bool} (hI:IntsAre us ms) (h:Ord2 KOi b us):if b=true then ms.Pairwise (· ≥ ·) else ms.Pairwise (·<=·):=by
 have e:=hI.nums;subst e
 cases b with
 | false=>
  simp only[Yar,if_false,Ord2] at h ⊢;rw[Ya9];exact h.imp fun {x y} q=>by
   have q:decide (numOf y<numOf x)=false:=q;simpa using q
 | true=>
  simp only[if_true,Ord2] at h ⊢;rw[Ya9];exact h.imp fun {x y} q=>by
   have q:decide (numOf x<numOf y)=false:=q;simpa using q
theorem Zh2 {vs us:List Value}{ns:List Int} (hI:IntsAre vs ns) (hp:us.Perm vs):∃ ms,IntsAre us ms/\ms.Perm ns:=by
 refine⟨us.map numOf,intsAre_map us fun v hv=>hI.all v (hp.mem_iff.mp hv),?_⟩;rw[<- hI.nums];exact hp.map _
def lxB:List Int->List Int->Bool
 | _,[]=>false
 | [],_::_=>true
 | a::as,b::bs=>if a=b then lxB as bs else decide (a<b)
theorem Zdv:∀ a,lxB a a=false
 | []=>rfl
 | a::as=>by rw[lxB,if_pos rfl];exact Zdv as
theorem ZcV:∀ a b c,lxB a b=true->lxB b c=true->lxB a c=true
 | _,[],_,h,_=>by rw[lxB] at h;cases h
 | _,_::_,[],_,h=>by rw[lxB] at h;cases h
 | [],_::_,_::_,_,_=>rfl
 | a::as,b::bs,c::cs,h1,h2=>by
  rw[lxB] at h1 h2 ⊢;by_cases e1:a=b
  ·subst e1;rw[if_pos rfl] at h1;by_cases e2:a=c
   ·subst e2;rw[if_pos rfl] at h2 ⊢;exact ZcV as bs cs h1 h2
   ·rw[if_neg e2] at h2 ⊢;exact h2
  ·rw[if_neg e1] at h1;have h1:=of_decide_eq_true h1;by_cases e2:b=c
   ·subst e2;rw[if_neg e1];exact decide_eq_true h1
   ·rw[if_neg e2] at h2;have h2:=of_decide_eq_true h2;rw[if_neg (by omega)];exact decide_eq_true (by omega)
theorem Zcc:∀ a b,lxB a b=false->lxB b a=false->a=b
 | [],[],_,_=>rfl
 | _::_,[],_,h=>by rw[lxB] at h;cases h
 | [],_::_,h,_=>by rw[lxB] at h;cases h
 | a::as,b::bs,h1,h2=>by
  rw[lxB] at h1 h2;by_cases e:a=b
  ·subst e;rw[if_pos rfl] at h1 h2;rw[Zcc as bs h1 h2]
  ·rw[if_neg e] at h1;rw[if_neg (fun z=>e z.symm)] at h2;have h1:=of_decide_eq_false h1;have h2:=of_decide_eq_false h2;omega
theorem ZkC (a b c:List Int) (h:lxB a c=true):lxB a b=true∨lxB b c=true:=by
 cases e1:lxB a b with
 | true=>exact .inl rfl
 | false=>
  right
  cases e2:lxB b a with
  | true=>exact ZcV b a c e2 h
  | false=>rw[<- Zcc a b e1 e2];exact h
def KOt (ks:Addr->List Int):KO where
 α:=List Int
 blt:=lxB
 irrefl:=Zdv
 trans:=ZcV
 negTrans:=ZkC
 total:=Zcc
 ky p:=match p.1 with
  | .ref a=>ks a
  | _=>[]
theorem ZhS {b:Bool}{Q:Bool->Shared->Prop}{τ:Shared}{fin:Bool}:∀ {xs ys:List Int}{us vs:List Value}{i:Nat},IntsAre us xs->IntsAre vs ys->(Q (lxB xs ys) τ)->(fin=decide (xs.length<ys.length)) ->
  PySem.W.KatLex prog w A b fin Q (us.zip vs) i τ
 | [],[],_,_,i,.nil,.nil,q,e=>by
  rw[e];exact YdB q
 | [],y::ys,_,_,i,.nil,.cons _ _ _,q,e=>by
  rw[e];exact YdB (by simpa[lxB] using q)
 | x::xs,[],_,_,i,.cons _ _ _,.nil,q,e=>by
  rw[e];exact YdB (by simpa[lxB] using q)
 | x::xs,y::ys,_,_,i,.cons _ t h1,.cons _ u h2,q,e=>by
  rw[YcM];refine PySem.W.kat_cons (wpAny_eqBool_int ?_);rw[lxB] at q;by_cases c:x=y
  ·subst c;rw[if_pos rfl] at q;rw[show (x == x)=true by simp];exact PySem.W.kat_yes (ZhS h1 h2 q (by rw[e];simp))
  ·rw[if_neg c] at q;rw[show (x == y)=false by simpa using c];refine PySem.W.kat_no ?_
   cases b && i == 0 with
   | true=>exact oneLt_int q
   | false=>exact PySem.W.kat_one _ _ (PySem.P.lt_int q)
def TupI (h:Heap) (ks:Addr->List Int) (v:Value):Prop:=∃ a o its n,v=.ref a/\h.get? a=some o/\o.cls=.type "tuple"/\o.data=.seq its n/\IntsAre its.toList (ks a)/\ks a≠[]
theorem Zdx {h:Heap}{ks:Addr->List Int}:∀ {vs:List Value},(∀ v∈vs,TupI h ks v)->∃ fs:List Value,fs.length=vs.length/\PySem.W.KatTups h vs fs/\∀ f∈fs,∃ n t,f=.int n t
 | [],_=>⟨[],rfl,PySem.W.KatTups.nil,fun f hf=>nomatch hf⟩
 | v::vs,hv=>by
  obtain⟨fs,e,k,q⟩:=Zdx (vs:=vs) fun u hu=>hv u (Yat _ hu);obtain⟨a,o,its,n,rfl,ho,hc,hd,hI,hne⟩:=hv v (YaG ..);obtain⟨l⟩:=its;have hI:IntsAre l (ks a):=hI
  revert hI hd
  generalize ks a=z at hne ⊢;intro hd hI
  cases hI with
  | nil=>exact absurd rfl hne
  | cons m t hI=>exact⟨.int m t::fs,by simp[e],PySem.W.KatTups.cons ho hc hd rfl k,fun f hf=>by
    rcases Yai.mp hf with z | z
    ·exact⟨m,t,z⟩
    ·exact q f z⟩
theorem ZdS {vs:List Value}{ks:Addr->List Int} (hT:∀ v∈vs,TupI s.heap ks v):Sortable prog w s (KOt ks) vs:=by
 refine⟨tuples' (Yci "int" != Yci "tuple"),(fun p=>TupI s.heap ks p.1),hT,fun A h' kp x y hx hy E Q q=>?_,fun A E h' kp h2 Q q=>?_⟩
 ·obtain⟨a,o,its,n,e1,ho,hc,hd,hI,hne⟩:=hx;obtain⟨b,o',its',n',e2,ho',hc',hd',hI',hne'⟩:=hy;have q:Q (lxB ((KOt ks).ky x) ((KOt ks).ky y)) { s with heap:=h' }:=q;have k1:(KOt ks).ky x=ks a:=by show (match x.1 with | .ref a=>ks a | _=>[])=_;rw[e1]
  have k2:(KOt ks).ky y=ks b:=by show (match y.1 with | .ref a=>ks a | _=>[])=_;rw[e2]
  rw[k1,k2] at q;rw[e1,e2];refine PySem.W.kat_lt (kp _ _ ho) hd (kp _ _ ho') hd' (ZhS hI hI' q ?_);rw[<- hI.nums,<- hI'.nums,Yab,Yab,Yao,Yao]
 ·obtain⟨fs,e,k,hi⟩:=Zdx (h:=h') (ks:=ks) (vs:=vs) fun v hv=>by
   obtain⟨a,o,its,n,e1,ho,r⟩:=hT v hv;exact⟨a,o,its,n,e1,kp _ _ ho,r⟩
  refine PySem.W.kat_kind (T:=Yci "int") k (by omega) (fun v hv=>?_) rfl q;obtain⟨n,t,rfl⟩:=hi v hv;exact PySem.W.Looks.now
end
end L2
namespace L2
open PySem PySem.Spec PyProof.Rows PySem.SeqAt
section
variable {X:Cx}
theorem ZdD:Zbg X (.builtin "sorted") (fun xs H Q=>∃ (a:Addr) (ns:List Int),xs=[.ref a]/\SqL X.K H a (ns.map V.int)/\∀ (l:Addr) (ms:List Int),H l=none->ms.Perm ns->ms.Pairwise (·<=·)->Q (.ref l) (upd H l (.lst (ms.map V.int)))):=by
 intro pins s σ H xs us Q I r h;obtain⟨a,ns,rfl,hq,q⟩:=h;obtain⟨u,rfl,r1⟩:=Zci r;cases r1;obtain⟨its,rv,p,hz⟩:=I.list hq;have hl:its.length=ns.length:=by rw[<- rv.length,Yab]
 rw[Yab] at hz;refine ZcM p.isList (by rw[hl];exact hz) (ZdT (Zbm rv)) fun us p1 p2=>?_;obtain⟨ms,hI,pm⟩:=Zh2 (Zbm rv) p1;obtain⟨e,he⟩:=sortedAll_at s.heap its us.toArray;have hle:s.heap.objs.size<=s.heap.objs.size+1:=Ycl _;refine⟨.ref (s.heap.objs.size+1),_,I.laid (a:=s.heap.objs.size+1) (o:=.lst (ms.map V.int)) (t':=s.toks) (fun b o q=>sortedAll_old q) hle ⟨?_,us,e,Zer hI,he⟩,rfl,q _ ms (I.hok.fresh hle) pm (Zi6 hI p2)⟩;rw[Yab,pm.length_eq];exact hz
theorem Zeq:∀ {ps:List Addr}{us:List Value},Vals (ps.map V.ref) us->us=ps.map YaH
 | [],_,.nil=>rfl
 | p::ps,_,.cons r t=>by
  have e:_=YaH p:=r;rw[Zeq t,e];rfl
theorem ZeF:∀ (ps:List Addr),Vals (ps.map V.ref) (ps.map YaH)
 | []=>.nil
 | p::ps=>.cons rfl (ZeF ps)
def adr:Value->Addr
 | .ref a=>a
 | _=>0
theorem Zhh {ps:List Addr}{us:List Value} (h:us.Perm (ps.map YaH)):∃ qs:List Addr,us=qs.map YaH/\qs.Perm ps:=by
 refine⟨us.map adr,?_,?_⟩
 ·rw[YdF];refine (YeL us).symm.trans (YcF fun v hv=>?_);obtain⟨p,_,e⟩:=Ya6.mp (h.mem_iff.mp hv);rw[<- e];rfl
 ·have:=h.map adr
  rwa [YdF,show (adr ∘ YaH)=id from rfl,YeL] at this
theorem Zc7:Zbg X (.builtin "sorted") (fun xs H Q=>∃ (a:Addr) (ps:List Addr) (ks:Addr->List Int),xs=[.ref a]/\SqL X.K H a (ps.map V.ref)/\(∀ p∈ps,ks p≠[]/\H p=some (.tup ((ks p).map V.int)))/\∀ (l:Addr) (qs:List Addr),H l=none->qs.Perm ps->qs.Pairwise (fun p q=>lxB (ks q) (ks p)=false)->Q (.ref l) (upd H l (.lst (qs.map V.ref)))):=by
 intro pins s σ H xs us Q I r h;obtain⟨a,ps,ks,rfl,hq,ht,q⟩:=h;obtain⟨u,rfl,r1⟩:=Zci r;cases r1;obtain⟨its,rv,p,hz⟩:=I.list hq;have ei:=Zeq rv;rw[Yab] at hz;have hl:its.length=ps.length:=by rw[ei,Yab]
 have hT:∀ v∈its,TupI s.heap ks v:=by
  intro v hv;rw[ei] at hv;obtain⟨b,hb,e⟩:=Ya6.mp hv;obtain⟨h1,h2⟩:=ht b hb;obtain⟨_,ii,rr,o,g1,g2,_,n,g3⟩:=(show ObjOk X.prog X.w H s.heap b (.tup ((ks b).map V.int)) from I.hok b _ h2)
  exact⟨b,o,ii.toArray,n,e.symm,g1,g2,g3,by simpa using Zbm rr,h1⟩
 refine ZcM p.isList (by rw[hl];exact hz) (ZdS hT) fun us p1 p2=>?_;have p1':=p1;rw[ei] at p1';obtain⟨qs,e1,pm⟩:=Zhh p1';obtain⟨e,he⟩:=sortedAll_at s.heap its us.toArray;have hle:s.heap.objs.size<=s.heap.objs.size+1:=Ycl _;refine⟨.ref (s.heap.objs.size+1),_,I.laid (a:=s.heap.objs.size+1) (o:=.lst (qs.map V.ref)) (t':=s.toks) (fun b o q=>sortedAll_old q) hle ⟨?_,us,e,?_,he⟩,rfl,q _ qs (I.hok.fresh hle) pm ?_⟩
 ·rw[Yab,pm.length_eq];exact hz
 ·rw[e1];exact ZeF qs
 ·rw[e1] at p2;simp only[Ord2,Yar,if_false] at p2;exact Ya9.mp p2
end
end L2
namespace L2
open PySem PySem.Spec PyProof.Rows PySem.SeqAt
section
variable {prog:Program}{w:World}{A:Around}{E:Value->Shared->Prop}{s:Shared}{O:KO}
end
section
variable {X:Cx}{pins:List (Addr × Obj)}{σ:St}{H:Hp}{s:Shared}{h':Heap}
end
section
variable {X:Cx}
end
end L2
namespace L2
open PySem PySem.Spec PyProof.Rows
structure WE (X:Cx) (e:Expr) (t:TE):Prop where
 out:PE X e t
section
variable {X:Cx}{a b e k v:Expr}{ta tb te tk tv:TE}{pos:Pos}{es:List Expr}{t:TA}
theorem we (h:PE X e te):WE X e te:=⟨h⟩
theorem Zk0 {r:R2} (hr:IxR X r) (ha:WE X a ta) (hb:WE X b tb) (hs:ZiG b):WE X (.Subscript a b pos) (tOp r ta tb):=⟨ZaI hr ha.out hb.out hs⟩
theorem ZjH (h:WA X es t):WE X (.List es pos) (tLst t):=⟨ZaQ h.out⟩
theorem ZjG {x1} (h:WA X es t):WE X (.Tuple es x1 pos) (tTup t):=⟨ZbN h.out⟩
theorem ZjF {i:Nat}{x:Str}{pos':Pos} (hN:X.N.Nodup) (hi:X.N[i]?=some x) (hx:Loc X.env.scope x) (he:WE X e te) (hs:swapsWith e (some (.Name x pos')) pos.line X.env=pure false:=by rfl) (hf:X.fn x=true∨X.env.scope.names.lookup x=some .local:=by first | exact .inl rfl | exact .inr rfl | assumption) :
  WS X (.Assign [.Name x pos'] e pos) (tAsg te (Zb0 i)):=⟨Zar hN hi hx he.out hs hf⟩
end
end L2
namespace Lv
open PySem L2
open Classical in
def cn (xs:List Int) (m:Int):Int:=(xs.count m:Int)
def Bd (B:Int) (N:List (List Int)):Prop:=∀ xs∈N,∀ m∈xs,0<=m/\m<=B
theorem Zgk (p:Nat):∀ n:Nat,Bd n (num p n)
 | 0=>fun xs a m b=>by
  rcases Yai.mp (show xs∈[0]::Yau (p - 1) [] from a) with rfl | h
  ·have:m=0:=by simpa using b
   omega
  ·rw[(YcN.mp h).2] at b;cases b
 | n+1=>fun xs a m b=>by
  have ih:=Zgk p n;have hf:∀ m∈fstN (num p n),0<=m/\m<=((n+1:Nat):Int):=fun m hm=>by
   unfold fstN at hm;obtain⟨y,hy,rfl⟩:=Ya6.mp hm
   cases e:num p n with
   | nil=>rw[e] at hy;cases hy
   | cons c r=>
    rw[e] at hy;have:=ih c (by rw[e];exact YaG) y hy;omega
  rcases Yan.mp (show xs∈((num p n).tail.map (fstN (num p n)++·))++[fstN (num p n)] from a) with h | h
  ·obtain⟨y,hy,rfl⟩:=Ya6.mp h;rcases Yan.mp b with b | b
   ·exact hf m b
   ·have:=ih y (List.mem_of_mem_tail hy) m b;omega
  ·rw[YaE.mp h] at b;exact hf m b
end Lv
namespace L2
open PySem PySem.Spec PyProof.Rows
mutual
inductive RdN (H:Hp):V->PyData->Prop
 | non:RdN H .non .none
 | bl (b:Bool):RdN H (.bl b) (.bool b)
 | int (i:Int):RdN H (.int i) (.int i)
 | str (x:Str):RdN H (.str x) (.str x)
 | lst {a:Addr}{xs:List V}{ds:List PyData}:H a=some (.lst xs)->RdL H xs ds->RdN H (.ref a) (.list ds)
 | tup {a:Addr}{xs:List V}{ds:List PyData}:H a=some (.tup xs)->RdL H xs ds->RdN H (.ref a) (.tuple ds)
inductive RdL (H:Hp):List V->List PyData->Prop
 | nil:RdL H [] []
 | cons {x:V}{xs:List V}{d:PyData}{ds:List PyData}:RdN H x d->RdL H xs ds->RdL H (x::xs) (d::ds)
end
section
variable {P:Program}{w:World}{H:Hp}{h:Heap}
end
section
variable {X:Cx}
end
end L2
namespace L2
open PySem PySem.Spec PyProof.Rows PySem.SeqAt
section
variable {P:Program}{w:World}{H:Hp}{s:Shared}
theorem RdL.len_eq:∀ {xs ys:List V}{ds:List PyData},RdL H xs ds->RdL H ys ds->xs.length=ys.length
 | _,_,_,.nil,r=>by cases r;rfl
 | _,_,_,.cons _ q,r=>by
  cases r with
  | cons _ q2=>rw[Ya0,Ya0,RdL.len_eq q q2]
mutual
theorem RdN.eqs (ok:HOk P w H s.heap):∀ {x:V}{d:PyData},RdN H x d->∀ {y:V},RdN H y d->∀ {u v:Value},RelV x u->RelV y v->∀ A:Around,A.units+d.depth<cLine->EqAt A s u v true
 | _,_,.non,y,r,u,v,h1,h2,A,hu=>by
  cases r;cases (show u=YbN from h1);cases (show v=YbN from h2);exact Yez _
 | _,_,.bl b,y,r,u,v,h1,h2,A,hu=>by
  cases r;cases (show u=Yc6 b from h1);cases (show v=Yc6 b from h2);exact Yez _
 | _,_,.int i,y,r,u,v,h1,h2,A,hu=>by
  cases r;obtain⟨t,z⟩:=(show ∃ t,u=YdK i t from h1);cases z;obtain⟨t2,z⟩:=(show ∃ t,v=YdK i t from h2);cases z;have:=EqAt.int_int (A:=A) (s:=s) i t i t2;rw[beq_self_eq_true] at this;exact this
 | _,_,.str x,y,r,u,v,h1,h2,A,hu=>by
  cases r;obtain⟨t,z⟩:=(show ∃ t,u=YdJ x t from h1);cases z;obtain⟨t2,z⟩:=(show ∃ t,v=YdJ x t from h2);cases z;have:=EqAt.str_str (A:=A) (s:=s) x t x t2;rw[show (x == x)=true from by rw[<- str_beq];exact beq_self_eq_true _] at this;exact this
 | _,_,.lst (a:=a) (xs:=xs) (ds:=ds) e q,y,r,u,v,h1,h2,A,hu=>by
  cases r with
  | lst e2 q2=>
   rename_i b ys;cases (show u=YaH a from h1);cases (show v=YaH b from h2);by_cases hab:a=b
   ·subst hab;exact Yez _
   obtain⟨_,i1,n1,v1,g1⟩:=(show ObjOk P w H s.heap a (.lst xs) from ok a _ e)
   obtain⟨_,i2,n2,v2,g2⟩:=(show ObjOk P w H s.heap b (.lst ys) from ok b _ e2)
   have hd:A.units+(Ybc ds+1)<cLine:=hu;have hl:=q.len_eq q2;refine EqAt.of_refs hab ?_;have:=RcAt.lists (A:=A) (s:=s) (e:=fun _=>true) (l:=a) (b:=b) (items:=i1.toArray) (items2:=i2.toArray) ⟨_,g1,rfl,n1,rfl⟩ ⟨_,g2,rfl,n2,rfl⟩ (by rw[Yaj,Yaj,<- v1.length,<- v2.length,hl]) (by omega) (fun j h1 h2=>by
    have:=RdL.eqs ok q q2 v1 v2 A.in1 (by show A.units+1+_<_;omega) j (by simpa using h1) (by simpa using h2);simpa using this)
   rw[Zcg] at this;exact this
 | _,_,.tup (a:=a) (xs:=xs) (ds:=ds) e q,y,r,u,v,h1,h2,A,hu=>by
  cases r with
  | tup e2 q2=>
   rename_i b ys;cases (show u=YaH a from h1);cases (show v=YaH b from h2);by_cases hab:a=b
   ·subst hab;exact Yez _
   obtain⟨_,i1,v1,o1,g1,c1,_,n1,k1⟩:=(show ObjOk P w H s.heap a (.tup xs) from ok a _ e)
   obtain⟨_,i2,v2,o2,g2,c2,_,n2,k2⟩:=(show ObjOk P w H s.heap b (.tup ys) from ok b _ e2)
   have hd:A.units+(Ybc ds+1)<cLine:=hu;have hl:=q.len_eq q2;refine EqAt.of_refs hab ?_;have:=RcAt.tuples (A:=A) (s:=s) (e:=fun _=>true) (l:=a) (b:=b) (items:=i1.toArray) (items2:=i2.toArray) ⟨o1,g1,c1,n1,k1⟩ ⟨o2,g2,c2,n2,k2⟩ (by omega) (fun j h1 h2=>by
    have:=RdL.eqs ok q q2 v1 v2 A.in1 (by show A.units+1+_<_;omega) j (by simpa using h1) (by simpa using h2);simpa using this)
   rw[Zcg,Yaj,Yaj,<- v1.length,<- v2.length,hl,beq_self_eq_true] at this;exact this
theorem RdL.eqs (ok:HOk P w H s.heap):∀ {xs:List V}{ds:List PyData},RdL H xs ds->∀ {ys:List V},RdL H ys ds->∀ {us vs:List Value},Vals xs us->Vals ys vs->∀ A:Around,A.units+Ybc ds<cLine->∀ (j:Nat) (h1:j<us.length) (h2:j<vs.length),EqAt A s us[j] vs[j] true
 | _,_,.nil,ys,r,us,vs,v1,v2,A,hu,j,h1,h2=>by
  cases v1;exact absurd h1 (Ybp _)
 | _,_,.cons (d:=d) (ds:=ds) p q,ys,r,us,vs,v1,v2,A,hu,j,h1,h2=>by
  cases r with
  | cons p2 q2=>
   cases v1 with
   | cons a1 b1=>
    cases v2 with
    | cons a2 b2=>
     have hm:Ybc (d::ds)=max d.depth (Ybc ds):=by rw[Ybc]
     rw[hm] at hu
     cases j with
     | zero=>exact RdN.eqs ok p p2 a1 a2 A (by omega)
     | succ j=>exact RdL.eqs ok q q2 b1 b2 A (by omega) j (by simpa using h1) (by simpa using h2)
end
end
def rNeR:R2:=fun x y H Q=>∃ (a b:Addr) (d:PyData),x=.ref a/\y=.ref b/\RdN H (.ref a) d/\RdN H (.ref b) d/\d.depth<=10/\Q (.bl false) H
section
variable {X:Cx}
theorem ZjP {P:Program}{w:World}{H:Hp}{s:Shared}{A:Around}{xs ys:List V}{ds:List PyData}{i1 i2:List Value} (ok:HOk P w H s.heap) (q:RdL H xs ds) (q2:RdL H ys ds) (v1:Vals xs i1) (v2:Vals ys i2) (hu:A.units+1+Ybc ds<cLine) :
  ∀ j (h1:j<i1.toArray.size) (h2:j<i2.toArray.size),EqAt A.in1 s i1.toArray[j] i2.toArray[j] true:=fun j h1 h2=>by
 have:=RdL.eqs ok q q2 v1 v2 A.in1 (by show A.units+1+_<_;omega) j (by simpa using h1) (by simpa using h2);simpa using this
theorem Zlp (hu:X.A.units+12<cLine):OpR X (compareOp .NotEq) rNeR:=by
 intro pins s σ H x y v u Q I rx ry h;obtain⟨a,b,d,rfl,rfl,r1,r2,hd,q⟩:=h;cases rx;cases ry
 cases r1 with
 | lst e p=>
  rename_i xs ds
  cases r2 with
  | lst e2 p2=>
   rename_i ys;obtain⟨_,i1,n1,v1,g1⟩:=(show ObjOk X.prog X.w H s.heap a (.lst xs) from I.hok a _ e)
   obtain⟨_,i2,n2,v2,g2⟩:=(show ObjOk X.prog X.w H s.heap b (.lst ys) from I.hok b _ e2)
   have hd':Ybc ds+1<=10:=hd;refine RcNeAt.lists (e:=fun _=>true) (items:=i1.toArray) (items2:=i2.toArray) ⟨_,g1,rfl,n1,rfl⟩ ⟨_,g2,rfl,n2,rfl⟩ (by rw[Yaj,Yaj,<- v1.length,<- v2.length,p.len_eq p2]) (by omega) (ZjP I.hok p p2 v1 v2 (by omega)) _ _ _ _ ?_;rw[Zcg];exact⟨.bl false,H,I,rfl,q⟩
 | tup e p=>
  rename_i xs ds
  cases r2 with
  | tup e2 p2=>
   rename_i ys;obtain⟨_,i1,v1,o1,g1,c1,_,n1,k1⟩:=(show ObjOk X.prog X.w H s.heap a (.tup xs) from I.hok a _ e)
   obtain⟨_,i2,v2,o2,g2,c2,_,n2,k2⟩:=(show ObjOk X.prog X.w H s.heap b (.tup ys) from I.hok b _ e2)
   have hd':Ybc ds+1<=10:=hd;refine RcNeAt.tuples (e:=fun _=>true) (items:=i1.toArray) (items2:=i2.toArray) ⟨o1,g1,c1,n1,k1⟩ ⟨o2,g2,c2,n2,k2⟩ (by omega) (ZjP I.hok p p2 v1 v2 (by omega)) _ _ _ _ ?_;rw[Zcg,Yaj,Yaj,<- v1.length,<- v2.length,p.len_eq p2,beq_self_eq_true];exact⟨.bl false,H,I,rfl,q⟩
end
end L2
namespace L2
open PySem PySem.Spec PyProof.Rows
section
variable {X:Cx}
end
end L2
namespace Lv
open PySem L2
def rl (p n i:Nat):List Int:=(num p n).getD i []
end Lv
namespace Lv
open PySem L2
theorem ZhE {p:Nat} (hp:2<=p) (n:Nat):∃ x r,num p n=x::r/\r.length+1=p:=by
 have hl:=Zcr (p:=p) (by omega) n
 cases h:num p n with
 | nil=>rw[h] at hl;simp at hl;omega
 | cons x r=>exact⟨x,r,rfl,by rw[h] at hl;simpa using hl⟩
end Lv
namespace L2
open PySem
end L2
namespace Lv
open PySem L2
def sm (g:Nat->Int):Nat->Int
 | 0=>0
 | k+1=>sm g k+g (k+1)
def sq (p n:Nat):List (List Int):=(YaO (n+1)).map fun j=>rl p j 0
end Lv
namespace L2
open PySem PySem.Spec PyProof.Rows PySem.SeqAt
inductive TyS (H:Hp):V->Value->Prop
 | int (i:Int):TyS H (.int i) (.type "int")
 | bl (b:Bool):TyS H (.bl b) (.type "bool")
 | lst {a:Addr}{xs:List V} (e:H a=some (.lst xs)):TyS H (.ref a) (.type "list")
 | tup {a:Addr}{xs:List V} (e:H a=some (.tup xs)):TyS H (.ref a) (.type "tuple")
section
variable {X:Cx}
end
end L2
namespace HT
open PySem PySem.Spec PyProof.Rows
section
variable {prog:Program}{w:World}{A:Around}{E:Value->Shared->Prop}{s:Shared}
end
end HT
namespace L2
open PySem PySem.Spec PyProof.Rows PySem.SeqAt
inductive TyA (H:Hp):V->String->Prop
 | non:TyA H .non "NoneType"
 | int (i:Int):TyA H (.int i) "int"
 | bl (b:Bool):TyA H (.bl b) "bool"
 | str (x:Str):TyA H (.str x) "str"
 | lst {a:Addr}{xs:List V} (e:H a=some (.lst xs)):TyA H (.ref a) "list"
 | tup {a:Addr}{xs:List V} (e:H a=some (.tup xs)):TyA H (.ref a) "tuple"
 | dK {a:Addr}{kvs:List (Key × V)} (e:H a=some (.dK kvs)):TyA H (.ref a) "dict"
section
variable {X:Cx}
end
end L2
namespace Lv
open PySem L2 PySem.W
def Zie (K:Frag) (reel C:Addr) (all:List Addr):Bool:=excAll K C && (exmOne K (.ref C) (.ref reel) == some true && (kitOne K (.ref C) (.ref reel) == some true && (kitOne K (.ref C) (.type "ValueError") == some true && all.all fun D=>kitOne K (.ref C) (.ref D) == some (D == C))))
structure ExcTab (K:Frag) (reel C:Addr) (all:List Addr):Prop where
 ok:excAll K C=true
 exm:exmOne K (.ref C) (.ref reel)=some true
 isR:kitOne K (.ref C) (.ref reel)=some true
 isV:kitOne K (.ref C) (.type "ValueError")=some true
 one:∀ D∈all,kitOne K (.ref C) (.ref D)=some (D == C)
theorem ExcTab.of {K:Frag}{reel C:Addr}{all:List Addr} (h:Zie K reel C all=true):ExcTab K reel C all:=by
 simp only[Zie,Ybx,beq_iff_eq,YbZ] at h;exact⟨h.1,h.2.1,h.2.2.1,h.2.2.2.1,h.2.2.2.2⟩
theorem ExcTab.any {K:Frag}{reel C:Addr}{all:List Addr} (h:ExcTab K reel C all):∀ {cs:List Addr},(∀ D∈cs,D∈all)->kitAny K (.ref C) (cs.map YaH)=some (cs.any (· == C))
 | [],_=>rfl
 | D::cs,hs=>by
  have h1:=h.one D (hs D YaG);rw[YaK,kitAny,h1,List.any_cons]
  cases e:(D == C) with
  | true=>rfl
  | false=>exact h.any fun E hE=>hs E (Yat _ hE)
structure Excs (K:Frag) (mg:Str->Option Value) where
 reel:Addr
 nWays:Addr
 nRoom:Addr
 nLevel:Addr
 nStand:Addr
 tMany:Addr
 tFew:Addr
 nPlace:Addr
 nText:Addr
 nLine:Addr
 nBack:Addr
 nPhase:Addr
 clash:Addr
 mReel:mg "ReelError"=some (.ref reel)
 mWays:mg "NoWays"=some (.ref nWays)
 mRoom:mg "NoRoom"=some (.ref nRoom)
 mLevel:mg "NoLevel"=some (.ref nLevel)
 mStand:mg "NoStanding"=some (.ref nStand)
 mMany:mg "TooMany"=some (.ref tMany)
 mFew:mg "TooFew"=some (.ref tFew)
 mPlace:mg "NoPlace"=some (.ref nPlace)
 mText:mg "NoText"=some (.ref nText)
 mLine:mg "NoLine"=some (.ref nLine)
 mBack:mg "NoBack"=some (.ref nBack)
 mPhase:mg "NoPhase"=some (.ref nPhase)
 mClash:mg "Clash"=some (.ref clash)
 nd:([nWays,nRoom,nLevel,nStand,tMany,tFew,nPlace,nText,nLine,nBack,nPhase,clash]:List Addr).Nodup
def Excs.all {K:Frag}{mg:Str->Option Value} (X:Excs K mg):List Addr:=[X.nWays,X.nRoom,X.nLevel,X.nStand,X.tMany,X.tFew,X.nPlace,X.nText,X.nLine,X.nBack,X.nPhase,X.clash]
def anT:List String:=["NoneType","bool","int","str","list","tuple","dict"]
theorem ZgO {K:Yad}{T:String} (h:T∈anT):YbW K (.type T) (.type "int")=some (decide (T="int") || decide (T="bool")):=by
 simp only[anT,Yai,YaZ,or_false] at h;rcases h with rfl | rfl | rfl | rfl | rfl | rfl | rfl
 all_goals with_unfolding_all rfl
theorem ZcY {K:Yad}{T:String} (h:T∈anT):YbW K (.type T) (.type "bool")=some (decide (T="bool")):=by
 simp only[anT,Yai,YaZ,or_false] at h;rcases h with rfl | rfl | rfl | rfl | rfl | rfl | rfl
 all_goals with_unfolding_all rfl
structure Thing (K:Frag) (H:Hp) (v:V) (T:String):Prop where
 ty:TyOf K H v (.type T)
 mem:T∈anT
theorem Thing.same {K:Frag}{H H':Hp}{v:V}{T:String} (h:Thing K H v T) (s:Same H H'):Thing K H' v T:=by
 obtain⟨ty,m⟩:=h;refine⟨?_,m⟩;generalize hv:Yci T=t at ty
 cases ty with
 | non=>exact .non
 | bl x=>exact .bl x
 | int i=>exact .int i
 | str x=>exact .str x
 | flt x=>exact .flt x
 | lst e=>exact .lst (s _ _ e)
 | frz e=>exact .frz (s _ _ e)
 | tup e=>exact .tup (s _ _ e)
 | dK e=>exact .dK (s _ _ e)
 | dT e=>exact .dT (s _ _ e)
 | ins e=>cases hv
def ZdM (K:Frag):Sp:=fun vs H Q _=>∃ (x:V) (T:String),vs=[x]/\Thing K H x T/\Q (.bl (decide (T="int"))) H
def NotIn (lo hi:Int) (v:V) (T:String):Prop:=T≠"int"∨∃ i,v=.int i/\¬ (lo<=i/\i<=hi)
def ZfJ (K:Frag) (lo hi:Int) (C:Addr):Sp:=fun vs H Q E=>∃ (v:V) (T:String),vs=[v]/\Thing K H v T/\((∃ i,v=.int i/\lo<=i/\i<=hi/\Q .non H)∨(NotIn lo hi v T/\E (.ref C) none H))
end Lv
namespace Lv
open PySem L2 PySem.W
theorem Thing.ty_int {K:Frag}{H:Hp}{i:Int}{T:String} (h:Thing K H (.int i) T):T="int":=by
 obtain⟨ty,m⟩:=h;cases ty;rfl
end Lv
namespace Lv
open PySem L2 PySem.W
theorem ExcTab.none {K:Frag}{reel C:Addr}{all cs:List Addr} (h:ExcTab K reel C all) (hs:∀ D∈cs,D∈all) (hn:∀ D∈cs,D≠C):kitAny K (.ref C) (cs.map YaH)=some false:=by
 rw[h.any hs];congr 1;rw[Ye3];intro D hD z;exact hn D hD (beq_iff_eq.mp z)
theorem ExcTab.yes {K:Frag}{reel C:Addr}{all:List Addr} (h:ExcTab K reel C all) (hs:C∈all):kitOne K (.ref C) (.ref C)=some true:=by
 rw[h.one C hs];congr 1;exact beq_self_eq_true C
def Zgt (K:Frag) (lo hi:Int) (C:Addr) (n:Nat):Sp:=fun vs H _ E=>∃ (v:V) (T:String) (rest:List V),vs=v::rest/\rest.length=n/\Thing K H v T/\NotIn lo hi v T/\E (.ref C) none H
end Lv
namespace Lv
open PySem L2 PySem.W
theorem Zd4 {X:Cx}{x:Str}{c:Addr}{pos:Pos} (hg:Gl X x) (hm:X.mg x=some (.ref c)) (hd:(x == ("__debug__":Str))=false:=by decide):PE X (.Name x pos) (tC (.ref c)):=Zfp (v:=.ref c) hg hm rfl hd
end Lv
namespace L2
open PySem PySem.Spec PyProof.Rows PySem.W
theorem Zem (K:Frag) {X:Cx} (hK:X.K=K:=by rfl):Zbg X (.builtin "isinstance") (fun xs H Q=>∃ (ea C:Addr) (y:V) (c:Value) (b:Bool),xs=[.ref ea,y]/\H ea=some (Zbe ea C)/\excAll K C=true/\(y=.ty "ValueError"/\c=.type "ValueError"∨∃ D,y=.ref D/\c=.ref D)/\kitOne K (.ref C) c=some b/\Q (.bl b) H):=by subst hK;exact Ze3
theorem Zdg (K:Frag) {X:Cx} (hK:X.K=K:=by rfl):Zbg X (.builtin "isinstance") (fun xs H Q=>∃ (ea C tp:Addr) (cs:List Addr) (b:Bool),xs=[.ref ea,.ref tp]/\H ea=some (Zbe ea C)/\excAll K C=true/\H tp=some (.tup (cs.map V.ref))/\kitAny K (.ref C) (cs.map YaH)=some b/\Q (.bl b) H):=by subst hK;exact Zej
end L2
namespace Lv
open PySem L2 PySem.W
end Lv
namespace Lv
open PySem L2 PySem.Spec PyProof.Rows
end Lv
namespace L2
open PySem PySem.Spec PyProof.Rows PySem.SeqAt
section
variable {X:Cx}
end
theorem Zil {b1 b2:Bool}{K:Yad}{own:List Str}{js:List Nat}{g:TG}{tt:TT}{te:TE}{σ:St}{H1:Hp}{Q:VK}{a b:Addr}{xs ys:List V} (hlen:ys.length<=xs.length) (Pv:Addr->Nat->Hp->Prop) (h0:∀ acc,H1 acc=none->Pv acc 0 (upd H1 acc (.lst [])))
  (hl:∀ acc i H,H1 acc=none->i<=ys.length->Pv acc i H->SqB b1 K H a xs/\SqB b2 K H b ys)
  (hs:∀ acc i x y p H,H1 acc=none->xs[i]?=some x->ys[i]?=some y->Pv acc i H->H p=none->g (.ref p) (blkσ own js σ) (upd H p (.tup [x,y])) fun τ H4=>tt τ H4 fun c H5=>
   if c=true then te τ H5 fun y H6=>∃ zs,H6 acc=some (.lst zs)/\zs.length<sizeLine/\(i+1<=ys.length/\Pv acc (i+1) (upd H6 acc (.lst (zs++[y])))) else (i+1<=ys.length/\Pv acc (i+1) H5))
  (hd:∀ acc H,H1 acc=none->Pv acc ys.length H->Q (.ref acc) H):Zbh own js g tt te σ (ItzB b1 b2 K a b) H1 Q:=by
 intro acc hacc;refine⟨fun i H=>i<=ys.length/\Pv acc i H,ys.length,⟨YaP _,h0 acc hacc⟩,?_⟩;rintro i H ⟨hi,p⟩;obtain⟨q1,q2⟩:=hl acc i H hacc hi p;by_cases hlt:i<ys.length
 ·have hl2:i<xs.length:=by omega
  refine .inr ⟨hlt,⟨xs,ys,xs[i],ys[i],q1,q2,by simp[hl2],by simp[hlt]⟩,fun x H' y=>?_⟩;obtain⟨pa,z1,z2,hp,e1,e2,y1,y2⟩:=y;subst e1 e2;exact hs acc i z1 z2 pa H hacc (y1 xs q1) (y2 ys q2) p hp
 ·have e:i=ys.length:=by omega
  subst e;exact .inl ⟨⟨xs,ys,q1,q2,.inr (Yag _)⟩,hd acc H hacc p⟩
end L2
namespace L2
open PySem PySem.Spec PyProof.Rows PySem.SeqAt
section
variable {X:Cx}
end
end L2
namespace L2
open PySem PySem.Spec PyProof.Rows PySem.SeqAt
theorem Zdt {α:Type}:∀ ys:List α,(YaO ys.length).filterMap (ys[·]?)=ys
 | []=>rfl
 | y::ys=>by
  rw[Ya0,List.range_succ_eq_map,Ybl];show y::(List.map Nat.succ (YaO ys.length)).filterMap ((y::ys)[·]?)=_;rw[YcQ];exact congrArg (y::·) (Zdt ys)
theorem Zge {α β:Type}{f g:α->Option β}:∀ {l:List α},(∀ x∈l,f x=g x)->l.filterMap f=l.filterMap g
 | [],_=>rfl
 | x::l,h=>by rw[Ybl,Ybl,h x (by simp),Zge fun y hy=>h y (by simp[hy])]
theorem Zdb (its:List Value):slicePick its.toArray none none (some (-1))=its.reverse.toArray:=by
 unfold slicePick;have e1:sliceBounds none none (some (-1)) its.toArray.size=((its.length:Int) - 1,-1,-1):=by
  simp[sliceBounds]
 rw[e1];have e2:sliceRange ((its.length:Int) - 1) (-1) (-1)=(YaO its.length).map fun k=>its.length - 1 - k:=by
  unfold sliceRange;have:(if (its.length:Int) - 1 > -1 then ((its.length:Int) - 1 - (-1) - (-1) - 1) / (-(-1)) else 0).toNat=its.length:=by
   by_cases h:(its.length:Int) - 1 > -1
   ·rw[if_pos h,show (-(-1):Int)=1 by decide,Int.ediv_one];omega
   ·rw[if_neg h];omega
  dsimp only;rw[if_neg (by decide),this];apply YcF;intro k hk;have:=Ya2.mp hk;omega
 show (List.filterMap _ (sliceRange ((its.length:Int) - 1) (-1) (-1))).toArray=_;rw[e2,YcQ];congr 1;have e3:=Zdt its.reverse;rw[Ydi] at e3;rw[<- e3];apply Zge;intro k hk;have:=Ya2.mp hk;show its.toArray[its.length - 1 - k]?=_;rw[List.getElem?_toArray,List.getElem?_reverse this]
def ZlY (K:Yad):V->Hp->VK->Prop:=fun x H Q=>∃ a xs,x=.ref a/\SqL K H a xs/\∀ p,H p=none->Q (.ref p) (upd H p (.lst xs.reverse))
def ZlN (K:Yad) (te:TE) (ts:TO):TE:=fun σ H Q=>te σ H fun x H1=>ts σ H1 fun k H2=>k=some (-1)/\ZlY K x H2 Q
section
variable {X:Cx}{e st:Expr}{te:TE}{ts:TO}{pos p2:Pos}
theorem Zlk (he:PE X e te) (hst:PO X (some st) ts):PE X (.Subscript e (.Slice none none (some st) p2) pos) (ZlN X.K te ts):=by
 intro pins s σ H Q I h;refine Subscript_ (thn (he pins s σ H _ I h) fun v s1 ⟨x,H1,I1,r1,q1⟩=>?_);refine wpAny_Slice ?_;rw[evalPart_none];refine wpAny_pure ?_;refine wpAny_pure ?_;refine thn (hst pins s1 σ H1 _ I1 q1) fun vu s3 ⟨u,H3,I3,pu,ek,q3⟩=>?_;subst ek;obtain⟨a,xs,rfl,hx,q⟩:=q3;cases r1;have I4:Inv X pins σ H3 { s3 with heap:=s3.heap.push { cls:=.type "slice",data:=.fields #[.none,.none,vu] } }:=I3.kept (t':=s3.toks) fun b ob q=>Yac _ q;obtain⟨its,r,ht,hz⟩:=I4.list hx;have hlen:=r.length;show wpAny (model X.prog X.w) X.A (subscriptTail e (.Slice none none (some st) p2) (.ref a) (.ref s3.heap.objs.size)) (EP X pins σ Q) X.xe { s3 with heap:=s3.heap.push { cls:=.type "slice",data:=.fields #[.none,.none,vu] } };refine tail_any (ops:=[.ref a,.ref s3.heap.objs.size]) ht.isList.typeIs slot_list_getitem.lookup ?_ (by with_unfolding_all rfl);refine wpAny_getItem_list_slice ht.isList (YdO ..) .none .none pu (by simp) ?_ (by rw[Yaj] <;> omega);rw[Zdb];refine⟨.ref (s3.heap.push { cls:=.type "slice",data:=.fields #[.none,.none,vu] }).objs.size,_,I4.laid (t':=s3.toks) (o:=.lst xs.reverse) (fun b ob q=>Yac _ q) (Yag _) ?_,rfl,q _ (I4.hok.fresh (Yag _))⟩;exact⟨by rw[Ydi];omega,_,0,Vals.reverse r,Yas _ rfl⟩
end
end L2
namespace Lv
open PySem L2
def mxAt:List Int->Nat
 | []=>0
 | x::r=>if r.all (·<=x) then 0 else mxAt r+1
structure IsTop (d:List Int) (r:Nat):Prop where
 lt:r<d.length
 ge:∀ j (h:j<d.length),d[j]<=d[r]
 fst:∀ j (h:j<r),d[j]<d[r]
def Zl8 (c v:List Int):List Int:=YbP (· - ·) c v
def came (p:Nat):Nat->Nat × List Int
 | 0=>(0,Yau p 0)
 | n+1=>
  let L:=if (came p n).2=cnt p (came p n).1 then (came p n).1+1 else (came p n).1
  let r:=mxAt (Zl8 (cnt p L) (came p n).2)
  (L,(came p n).2.set r ((came p n).2.getD r 0+1))
end Lv
namespace L2
open PySem PySem.Spec PyProof.Rows PySem.SeqAt
section
variable {X:Cx}
end
end L2
namespace Lv
open PySem L2
end Lv
namespace Lv
open PySem L2
end Lv
namespace L2
open PySem PySem.Spec PyProof.Rows PySem.SeqAt
section
variable {X:Cx}
end
end L2
namespace L2
open PySem PySem.Spec PyProof.Rows PySem.SeqAt
section
variable {X:Cx}
end
end L2
namespace L2
open PySem PySem.Spec PyProof.Rows PySem.SeqAt
end L2
namespace L2
open PySem PySem.Spec PyProof.Rows PySem.W
structure RoomS (k:Nat) (A:Around):Prop where
 dp:A.depth+3*k+5<recursionLimit
 un:A.units+16*k+200<cLine
 gd:A.guards=some []
structure FnOkS (P:Program) (w:World) (K:Yad) (mg:Str->Option Value) (base:Heap) (CX:CXT) (k:Nat) (f:Addr) (fd:FuncData) (ps:List Str) (sp:Sp):Prop where
 len:∀ vs H Q E,sp vs H Q E->vs.length=ps.length
 run:∀ (A:Around) (outer:List Env) (s:Shared) (H:Hp) (args:Args) (us:List Value) (vs:List V) (Q:VK) (E:XK),RoomS k A->Env0 P w K mg base A outer s H->BindsTo s fd args (ps.zip us)->Vals vs us->sp vs H Q E ->
  codeAny (model P w) A (.call (.ref f) args) (CR CX outer P w H s Q E) s
section
variable {P:Program}{w:World}{K:Yad}{mg:Str->Option Value}{base:Heap}
end
structure CalS (P:Program) (w:World) (K:Yad) (mg:Str->Option Value) (base:Heap) (k:Nat) (x:Str) (ps:List Str) (sp:Sp) (f:Addr) (fd:FuncData):Prop where
 ok:FnOkS P w K mg base CX0 k f fd ps sp
 mg:mg x=some (.ref f)
 kp:Yaq K (.ref f)=true
 bd:Binds K fd ps []
section
variable {X:Cx}
end
end L2
namespace Lv
open PySem L2
def stp (a q:Int × Int):Int × Int:=(a.1+q.1*(if a.2<q.2 then a.2 else q.2),a.2 - (if a.2<q.2 then a.2 else q.2))
def lsF:List (Int × Int)->Int × Int->Int × Int
 | [],a=>a
 | q::M,a=>lsF M (stp a q)
end Lv
namespace Lv
open PySem L2
def sprC (xs:List Int):List (Int × Int):=((YaO 401).map fun (m:Nat)=>((m:Int),cn xs m)).filter fun q=>decide (q.2≠0)
def Zlw (xs:List Int) (rows:Int):Option Int:=if (lsF (sprC xs) (0,rows)).2 > 0 then none else some (lsF (sprC xs) (0,rows)).1
end Lv
namespace Lv
open PySem L2
def pz (x:Int):Int:=if x<0 then 0 else x
def sv (xs:List Int) (t:Int):Int:=(xs.map fun x=>pz (t - x)).sum
def Sub (ys xs:List Int):Prop:=∀ m,cn ys m<=cn xs m
structure Lst (xs:List Int) (r v:Int):Prop where
 le:∀ t,r*t - sv xs t<=v
 eq:∃ θ∈xs,v=r*θ - sv xs θ
end Lv
namespace Lv
open PySem L2
def kr (p:Int) (M:Nat) (ys:List Int):Int:=(ys.map fun y=>p ^ (M - y.toNat)).sum
end Lv
namespace Lv
open PySem L2
def Zdh:Int:=10000000000000000000000000000000000000000000000000000000000000
def upI:List Int->Bool
 | []=>true
 | [_]=>true
 | a::b::r=>decide (a<=b) && upI (b::r)
inductive El (H:Hp):V->Prop
 | int {z:Int} (h1:-Zdh - 2<z) (h2:z<Zdh+2):El H (.int z)
 | bl (b:Bool):El H (.bl b)
 | non:El H .non
 | str {x:Str} (h:x.length<=400) (hc:∀ c∈x.cps.toList,c<16 ^ 8):El H (.str x)
 | lst {a:Addr}{zs:List Int} (e:H a=some (.lst (zs.map V.int))) (hl:zs.length<=3) (hb:∀ z∈zs,-Zdh - 2<z/\z<Zdh+2):El H (.ref a)
 | tup {a:Addr}{zs:List Int} (e:H a=some (.tup (zs.map V.int))) (hl:zs.length<=3) (hb:∀ z∈zs,-Zdh - 2<z/\z<Zdh+2):El H (.ref a)
inductive Lf (H:Hp):V->Prop
 | non:Lf H .non
 | int (i:Int) (h:i=7):Lf H (.int i)
 | bl (b:Bool):Lf H (.bl b)
 | str (x:Str):Lf H (.str x)
 | d0 {a:Addr} (e:H a=some (.dK [])):Lf H (.ref a)
 | d1 {a:Addr} (e:H a=some (.dK [(.inl 1,.int 2)])):Lf H (.ref a)
structure Sh (d:PyData) (n:Nat):Prop where
 ok:d.showable=true
 nd:d.hasDict=false
 dp:d.depth<=1
 sz:d.shown.length<=n
end Lv
namespace Lv
open PySem L2
def Free (N:List (List Int)) (m:List Nat) (o:Int):Prop:=0<=o/\o<N.length/\m.getD o.toNat 0≠(N.getD o.toNat []).length
instance (N:List (List Int)) (m:List Nat) (o:Int):Decidable (Free N m o):=by unfold Free;infer_instance
def Zl1 (m:List Nat) (o:Int):List Nat:=m.set o.toNat (m.getD o.toNat 0+1)
def atO (N:List (List Int)) (m:List Nat) (o:Int):Int:=(N.getD o.toNat []).getD (m.getD o.toNat 0) 0
def hold (N:List (List Int)):List Nat->List Int->List Int->Option (List Nat × List Int)
 | m,t,[]=>some (m,t)
 | m,t,o::os=>if Free N m o then hold N (Zl1 m o) (t++[atO N m o]) os else none
def InM (N:List (List Int)) (m:List Nat):Prop:=m.length=N.length/\∀ j,j<N.length->m.getD j 0<=(N.getD j []).length
end Lv
namespace Lv
open PySem L2
def lenN (N:List (List Int)):List Nat:=N.map Ydj
def opn (N:List (List Int)) (m:List Nat) (j:Nat):Bool:=decide (m.getD j 0<(N.getD j []).length)
def opnL (N:List (List Int)) (m:List Nat):List Nat:=(YaO N.length).filter (opn N m)
structure OrS (N:List (List Int)) (m:List Nat) (t os:List Int):Prop where
 hd:hold N (N.map fun _=>0) [] os=some (m,t)
 up:upI t=true
 lst:∀ l,t.getLast?=some l->∀ j∈opnL N m,l<=atO N m j
 inm:InM N m
 sm:m.sum=os.length
end Lv
namespace L2
open PySem PySem.Spec PyProof.Rows
abbrev two (elt t1 i1:Expr) (f1:List Expr) (t2 i2:Expr) (f2:List Expr) (scope:Scope) (pos:Pos):Expr:=.ListComp elt [⟨t1,i1,f1,0⟩,⟨t2,i2,f2,0⟩] scope pos
theorem Zg2 (elt t1 i1:Expr) (f1:List Expr) (t2 i2:Expr) (f2:List Expr) (scope:Scope) (pos:Pos) (it acc:Value) (env:Env) :
  compTurn (two elt t1 i1 f1 t2 i2 f2 scope pos) 0 it acc env=(do
   standAt i1.pos
   match <- pyNext it with
   | none=>pure (.done .next)
   | some v=>
    letOwnedTupleGo t1 it v
    assign t1 env v
    let mut ok:=true
    for c in f1 do
     if ok then ok <- isTrue c env (eval c env)
    if ok then
     let x <- eval i2 env
     standAt i2.pos
     let x <- foldedSetIterable i2 env x
     let _ <- runOwn (.compStart (two elt t1 i1 f1 t2 i2 f2 scope pos) 1 (<- holding [x] (pyIter x)) acc env) env
    again (.compLoop (two elt t1 i1 f1 t2 i2 f2 scope pos) 0 it acc env)):=by rfl
theorem Zg1 (elt t1 i1:Expr) (f1:List Expr) (t2 i2:Expr) (f2:List Expr) (scope:Scope) (pos:Pos) (it acc:Value) (env:Env) :
  compTurn (two elt t1 i1 f1 t2 i2 f2 scope pos) 1 it acc env=(do
   standAt i2.pos
   match <- pyNext it with
   | none=>pure (.done .next)
   | some v=>
    letOwnedTupleGo t2 it v
    assign t2 env v
    let mut ok:=true
    for c in f2 do
     if ok then ok <- isTrue c env (eval c env)
    if ok then
     (do let _ <- call (.builtin "list.append") [acc,<- eval elt env])
    again (.compLoop (two elt t1 i1 f1 t2 i2 f2 scope pos) 1 it acc env)):=by rfl
section
variable {prog:Program}{w:World}{A:Around}{R:Result->Shared->Prop}{s:Shared}{elt t1 i1:Expr}{f1:List Expr}{t2 i2:Expr}{f2:List Expr}{scope:Scope}{pos:Pos}{it acc:Value}{env:Env}
theorem ZhO (I:Nat->Shared->Prop)
  (turn:∀ n s,I n s->wpAny (model prog w) A (pyNext it) (fun r s₁=>match r with
   | none=>R (.ok .next) s₁
   | some v=>wpAny (model prog w) A (letOwnedTupleGo t2 it v) (fun _ s₁'=>wpAny (model prog w) A (assign t2 env v) (fun _ s₂=>
     wpAny (model prog w) A (forIn f2 true fun c r=>if r=true then do let ok <- isTrue c env (eval c env);pure (Ya8 ok) else pure (Ya8 r)) (fun ok s₃=>
      if ok=true then wpAny (model prog w) A (eval elt env) (fun x s₄=>
       wpAny (model prog w) A (call (.builtin "list.append") [acc,x]) (fun _ s₅=>∃ m,m<n/\I m s₅) (fun _ _=>False) s₄) (fun _ _=>False) s₃
      else ∃ m,m<n/\I m s₃) (fun _ _=>False) s₂) (fun _ _=>False) s₁') (fun _ _=>False) s₁) (fun _ _=>False) s)
  (n:Nat) (h:I n s):codeAny (model prog w) A (.compLoop (two elt t1 i1 f1 t2 i2 f2 scope pos) 1 it acc env) R s:=by
 refine codeAny_loop rfl I (fun n s hI=>?_) n h;show wpAny _ A ((compTurn (two elt t1 i1 f1 t2 i2 f2 scope pos) 1 it acc env).onRaise (fun x=>do noteFrame x env;theTreesLotGoes x)) _ _ s;refine wpAny_noted ?_;rw[Zg1];refine wpAny_bind (wpAny_standAt (wpAny_bind (wpAny_mono (turn n s hI) (fun r s₁ h₁=>?_) fun _ _ h'=>h'.elim)))
 cases r with
 | none=>exact wpAny_pure h₁
 | some v=>
  refine wpAny_bind (wpAny_mono h₁ (fun _ s₁' h₁=>?_) fun _ _ h'=>h'.elim);refine wpAny_bind (wpAny_mono h₁ (fun _ s₂ h₂=>wpAny_bind (wpAny_mono h₂ (fun ok s₃ h₃=>?_) fun _ _ h'=>h'.elim)) fun _ _ h'=>h'.elim)
  cases ok with
  | false=>exact wpAny_pure ⟨rfl,h₃⟩
  | true=>
   exact wpAny_bind (wpAny_bind (wpAny_mono h₃ (fun x s₄ h₄=>wpAny_bind (wpAny_mono h₄ (fun _ s₅ h₅=>wpAny_pure (wpAny_pure ⟨rfl,h₅⟩)) fun _ _ h'=>h'.elim)) fun _ _ h'=>h'.elim))
theorem Zgq
  (h0:codeAny (model prog w) A (.compLoop (two elt t1 i1 f1 t2 i2 f2 scope pos) 1 it acc env) R s)
  (h:wpAny (model prog w) A (pyIter it) (fun it' s'=>codeAny (model prog w) A (.compLoop (two elt t1 i1 f1 t2 i2 f2 scope pos) 1 it' acc env) R s')
   (notedBy (model prog w) A env fun x s'=>R (.error x) s') s) :
  codeAny (model prog w) A (.compStart (two elt t1 i1 f1 t2 i2 f2 scope pos) 1 it acc env) R s:=by
 refine codeAny_of_tree ?_;show wpAny _ _ ((compStart (two elt t1 i1 f1 t2 i2 f2 scope pos) 1 it acc env).onRaise (fun x=>do noteFrame x env;standAt theWindowsPlace)) _ _ s;refine wpAny_notedAt ?_;unfold compStart;show wpAny _ _ (ask >>= _) _ _ s;refine wpAny_bind (wpAny_askSetting (wpAny_ite ?_));split
 ·first
   | exact wpAny_bind (wpAny_pure (wpAny_pure (And.intro rfl h0)))
   | exact wpAny_pure (And.intro rfl h0)
 ·refine wpAny_bind (wpAny_rule ?_);show wpAny _ _ (standAt i2.pos >>= _) _ _ s;exact wpAny_bind (wpAny_standAt (wpAny_bind (wpAny_mono h (fun it' s' h'=>wpAny_pure (And.intro rfl h')) fun _ _ x=>x)))
theorem ZhP (I:Nat->Shared->Prop) (hs:∀ x,foldedSetIterable i2 env x=pure x)
  (turn:∀ n s,I n s->wpAny (model prog w) A (pyNext it) (fun r s₁=>match r with
   | none=>R (.ok .next) s₁
   | some v=>wpAny (model prog w) A (letOwnedTupleGo t1 it v) (fun _ s₁'=>wpAny (model prog w) A (assign t1 env v) (fun _ s₂=>
     wpAny (model prog w) A (forIn f1 true fun c r=>if r=true then do let ok <- isTrue c env (eval c env);pure (Ya8 ok) else pure (Ya8 r)) (fun ok s₃=>
      if ok=true then wpAny (model prog w) A (eval i2 env) (fun x s₄=>wpAny (model prog w) A (pyIter x) (fun itv s₅=>
       codeAny (model prog w) A (.compStart (two elt t1 i1 f1 t2 i2 f2 scope pos) 1 itv acc env) (fun r s₆=>∃ fl,r=.ok fl/\∃ m,m<n/\I m s₆) s₅) (fun _ _=>False) s₄) (fun _ _=>False) s₃
      else ∃ m,m<n/\I m s₃) (fun _ _=>False) s₂) (fun _ _=>False) s₁') (fun _ _=>False) s₁) (fun _ _=>False) s)
  (n:Nat) (h:I n s):codeAny (model prog w) A (.compLoop (two elt t1 i1 f1 t2 i2 f2 scope pos) 0 it acc env) R s:=by
 refine codeAny_loop rfl I (fun n s hI=>?_) n h;show wpAny _ A ((compTurn (two elt t1 i1 f1 t2 i2 f2 scope pos) 0 it acc env).onRaise (fun x=>do noteFrame x env;theTreesLotGoes x)) _ _ s;refine wpAny_noted ?_;rw[Zg2];refine wpAny_bind (wpAny_standAt (wpAny_bind (wpAny_mono (turn n s hI) (fun r s₁ h₁=>?_) fun _ _ h'=>h'.elim)))
 cases r with
 | none=>exact wpAny_pure h₁
 | some v=>
  refine wpAny_bind (wpAny_mono h₁ (fun _ s₁' h₁=>?_) fun _ _ h'=>h'.elim);refine wpAny_bind (wpAny_mono h₁ (fun _ s₂ h₂=>wpAny_bind (wpAny_mono h₂ (fun ok s₃ h₃=>?_) fun _ _ h'=>h'.elim)) fun _ _ h'=>h'.elim)
  cases ok with
  | false=>exact wpAny_pure ⟨rfl,h₃⟩
  | true=>
   refine wpAny_bind (wpAny_mono h₃ (fun x s₄ h₄=>wpAny_bind (wpAny_standAt ?_)) fun _ _ h'=>h'.elim);rw[hs];refine wpAny_bind (wpAny_pure (wpAny_bind (wpAny_holding (wpAny_mono h₄ (fun itv s₅ h₅=>?_) fun _ _ h'=>h'.elim))));refine wpAny_bind (wpAny_runOwn (h:=none) (codeAny_mono h₅ fun r s₆ ⟨fl,er,h₆⟩=>?_));subst er;exact wpAny_pure ⟨rfl,h₆⟩
end
end L2
namespace L2
open PySem PySem.Spec PyProof.Rows
def tInW (g2:TG) (tt2:TT) (te:TE) (τ:St) (acc:Addr) (J2:It) (H6:Hp) (Z:Hp->Prop):Prop :=
 ∃ (W2:Nat->Hp->Prop) (n2:Nat),W2 0 H6/\∀ k H7,W2 k H7->(J2.stop k H7/\Z H7)∨(k<n2/\J2.go k H7/\∀ y H8,J2.yld k H7 y H8->g2 y τ H8 fun τ2 H9=>tt2 τ2 H9 fun c H10=>
  if c=true then te τ2 H10 fun z H11=>∃ ys,H11 acc=some (.lst ys)/\ys.length<sizeLine/\W2 (k+1) (upd H11 acc (.lst (ys++[z]))) else W2 (k+1) H10)
def Zfd (own:List Str) (js:List Nat) (g1:TG) (tt1:TT) (wi2:TI) (g2:TG) (tt2:TT) (te:TE) (σ:St) (J:It) (H1:Hp) (Q:VK):Prop :=
 ∀ acc,H1 acc=none->∃ (W:Nat->Hp->Prop) (n:Nat),W 0 (upd H1 acc (.lst []))/\∀ i H2,W i H2 ->
  (J.stop i H2/\Q (.ref acc) H2)∨(i<n/\J.go i H2/\∀ x H3,J.yld i H2 x H3->g1 x (blkσ own js σ) H3 fun τ H4=>tt1 τ H4 fun c H5=>
   if c=true then wi2 τ H5 fun J2 H6=>tInW g2 tt2 te τ acc J2 H6 (W (i+1)) else W (i+1) H5)
def Zk8 (own:List Str) (js:List Nat) (wi:TI) (g1:TG) (tt1:TT) (wi2:TI) (g2:TG) (tt2:TT) (te:TE):TE:=fun σ H Q=>wi σ H fun J H1=>Zfd own js g1 tt1 wi2 g2 tt2 te σ J H1 Q
def ZkZ (fr:List Nat) (τ:St):Prop:=∀ i∈fr,∀ v,τ[i]?≠some (some v)
def ZiH (own:List Str) (fr:List Nat) (g:TG):Prop:=∀ (js:List Nat) (σ:St) (x:V) (H:Hp) (Q:St->Hp->Prop),g x (blkσ own js σ) H Q ->
 g x (blkσ own js σ) H fun τ H'=>((∀ (j:Nat) v,(blkσ own js σ)[j]?=some (some v)->τ[j]?=some (some v))/\ZkZ fr τ)/\Q τ H'
def Zgl (fr:List Nat) (g:TG):Prop:=∀ (τ:St),ZkZ fr τ->∀ (x:V) (H:Hp) (Q:St->Hp->Prop),g x τ H Q->g x τ H fun τ' H'=>(∀ (j:Nat) v,τ[j]?=some (some v)->τ'[j]?=some (some v))/\Q τ' H'
theorem ZgQ {K:Yad}{own:List Str}{i k:Nat}{fr:List Nat} (hi:i<own.length:=by decide) (hk:k<own.length:=by decide) (hf:∀ j∈fr,j<own.length/\j≠i/\j≠k:=by decide):ZiH own fr (gTup K 2 (Zc0 (Zb0 i) (Zc0 (Zb0 k) gNil))):=fun js σ x H Q h=>by
 obtain⟨a,xs,rfl,hq,hl,v,r,rfl,w,r',rfl,e,h⟩:=h;refine⟨a,_,rfl,hq,hl,v,_,rfl,w,r',rfl,e,⟨fun j z e=>?_,fun j hj z e=>?_⟩,h⟩
 ·have hj:j≠i:=by rintro rfl;exact ZaV hi e
  have hj':j≠k:=by rintro rfl;exact ZaV hk e
  rw[YaN (Ybj hj'),YaN (Ybj hj)];exact e
 ·obtain⟨h1,h2,h3⟩:=hf j hj;rw[YaN (Ybj h3),YaN (Ybj h2)] at e;exact ZaV h1 e
theorem ZgP {K:Yad}{i k:Nat}:Zgl [i,k] (gTup K 2 (Zc0 (Zb0 i) (Zc0 (Zb0 k) gNil))):=fun τ u x H Q h=>by
 obtain⟨a,xs,rfl,hq,hl,v,r,rfl,w,r',rfl,e,h⟩:=h;refine⟨a,_,rfl,hq,hl,v,_,rfl,w,r',rfl,e,fun j z e=>?_,h⟩;have hj:j≠i:=by rintro rfl;exact u j (by simp) _ e
 have hj':j≠k:=by rintro rfl;exact u j (by simp) _ e
 rw[YaN (Ybj hj'),YaN (Ybj hj)];exact e
section
variable {X:Cx}{scope:Scope}{own:List Str}{js fr:List Nat}{elt t1 i1:Expr}{f1:List Expr}{t2 i2:Expr}{f2:List Expr}{wi wi2:TI}{g1 g2:TG}{tt1 tt2:TT}{te:TE}{pos:Pos}
theorem Zh3 {pins:List (Addr × Obj)}{s₂:Shared}{H2:Hp}{C:Addr}{fp:List Addr}{τ:St}{H6:Hp}{s6:Shared}{it2 acc:Addr}{fp2:List Addr}{tn2:Nat->Heap->Prop}{J2:It}{Z:Hp->Prop}{P:List (Addr × Obj)}
  (hc:X.calm=true) (hgk:Zgl fr g2) (hu:ZkZ fr τ)
  (hg:PG (X.blk scope own js s₂ H2 C fp pins) t2 g2) (ht:PTs (X.blk scope own js s₂ H2 C fp pins) f2 tt2) (he:PE (X.blk scope own js s₂ H2 C fp pins) elt te)
  (I6:Inv (X.blk scope own js s₂ H2 C fp pins) P τ H6 s6) (T:Turn X.prog X.w X.K t2 J2 fp2 it2 tn2) (st:tn2 0 s6.heap) (hf:∀ b∈fp2,FpOk (X.blk scope own js s₂ H2 C fp pins) P H6 b) (h:tInW g2 tt2 te τ acc J2 H6 Z) :
  codeAny (model X.prog X.w) X.A (.compStart (two elt t1 i1 f1 t2 i2 f2 scope pos) 1 (.ref it2) (.ref acc) (compEnvC scope (clOf scope X.env) C X.env)) (fun r s'=>r=.ok .next/\∃ H',Inv (X.blk scope own js s₂ H2 C fp pins) P τ H' s'/\Z H') s6:=by
 obtain⟨W,nn,w0,turn⟩:=h;have fOk:∀ {H':Hp},(∀ b∈fp2,H' b=none)->∀ b∈fp2,FpOk (X.blk scope own js s₂ H2 C fp pins) P H' b:=fun hn b hb=>⟨hn b hb,(hf b hb).2⟩
 have loop:codeAny (model X.prog X.w) X.A (.compLoop (two elt t1 i1 f1 t2 i2 f2 scope pos) 1 (.ref it2) (.ref acc) (compEnvC scope (clOf scope X.env) C X.env)) (fun r s'=>r=.ok .next/\∃ H',Inv (X.blk scope own js s₂ H2 C fp pins) P τ H' s'/\Z H') s6:=by
  refine ZhO (fun n s'=>∃ i H',n=nn - i/\Inv (X.blk scope own js s₂ H2 C fp pins) P τ H' s'/\tn2 i s'.heap/\(∀ b∈fp2,H' b=none)/\W i H') ?_ nn ⟨0,_,rfl,I6,st,fun b hb=>(hf b hb).1,w0⟩;rintro n s3 ⟨i,H3,en,I3,st3,fr3,w3⟩;rcases turn i H3 w3 with ⟨stop,qn⟩ | ⟨hin,go,step⟩
  ·refine thn (T.done (X.blk scope own js s₂ H2 C fp pins) rfl rfl rfl hc i P s3 _ H3 (fun _ _=>False) I3 (fOk fr3) st3 stop) fun r s4 ⟨hr,I4⟩=>?_;subst hr;exact⟨rfl,H3,I4,qn⟩
  ·refine thn (T.item (X.blk scope own js s₂ H2 C fp pins) rfl rfl rfl hc i P s3 _ H3 (fun _ _=>False) I3 (fOk fr3) st3 go) fun r s4 ⟨u,hr,h4⟩=>?_;subst hr;refine thn h4 fun _ s5 ⟨x,H5,I5,r5,y5,st5,fr5⟩=>?_;have I5':=I5.pinned (fOk fr5) (T.obj _ _ st5);have again:∀ {σ7:St}{H7:Hp}{s7:Shared},Inv (X.blk scope own js s₂ H2 C fp pins) (P++ZcR fp2 s5.heap) σ7 H7 s7->(∀ (j:Nat) v,τ[j]?=some (some v)->σ7[j]?=some (some v))->W (i+1) H7 ->
     ∃ m,m<n/\∃ i H',m=nn - i/\Inv (X.blk scope own js s₂ H2 C fp pins) P τ H' s7/\tn2 i s7.heap/\(∀ b∈fp2,H' b=none)/\W i H':=fun {σ7 H7 s7} I7 hw w7=>by
    refine⟨nn - (i+1),by omega,i+1,H7,rfl,(I7.unpinned).weak (I3.len.trans I7.len.symm) hw,T.keep _ _ _ st5 fun b hb o e=>(I7.pin (b,o) (Yay _ (Yay _ (ZaN hb e)))).1,fun b hb=>?_,w7⟩;obtain⟨o,e,d⟩:=T.obj _ _ st5 b hb;exact (I7.pin (b,o) (Yay _ (Yay _ (ZaN hb e)))).2.1
   refine thn (hg _ s5 _ H5 x u _ I5' r5 (hgk τ hu _ _ _ (step x H5 y5))) fun _ s6 ⟨σ6,H6,I6,kp,q6⟩=>?_;refine thn (ht _ s6 σ6 H6 _ I6 q6) fun ok s7 ⟨H7,I7,q7⟩=>?_
   cases ok with
   | false=>exact again I7 kp q7
   | true=>
    refine thn (he _ s7 σ6 H7 _ I7 q7) fun y s8 ⟨v,H8,I8,r8,ys,hl,hz,w8⟩=>?_;refine thn (Zbb (X:=X.blk scope own js s₂ H2 C fp pins) _ s8 σ6 H8 (.ref acc) [v] (.ref acc) [y] (fun _ H9=>W (i+1) H9) I8 rfl (.cons r8 .nil) ⟨acc,ys,v,rfl,rfl,hl,hz,w8⟩) fun _ s9 ⟨_,H9,I9,_,w9⟩=>?_;exact again I9 kp w9
 exact Zgq loop (T.self _ 0 _ _ _ st loop)
theorem ZjD {pins:List (Addr × Obj)}{σ:St}{H2:Hp}{s₂:Shared}{it:Addr}{fp:List Addr}{tn:Nat->Heap->Prop}{J:It}{Q:VK}{E:Value->Shared->Prop}{RR:Value->Addr->Result->Shared->Prop}
  (c:CompOk X scope own js) (hc:X.calm=true) (hgk:ZiH own fr g1) (hgt:Zgl fr g2)
  (hg:∀ s H C fp pins,PG (X.blk scope own js s H C fp pins) t1 g1) (ht:∀ s H C fp pins,PTs (X.blk scope own js s H C fp pins) f1 tt1) (hi2:∀ s H C fp pins,PI (X.blk scope own js s H C fp pins) t2 i2 wi2)
  (hg2:∀ s H C fp pins,PG (X.blk scope own js s H C fp pins) t2 g2) (ht2:∀ s H C fp pins,PTs (X.blk scope own js s H C fp pins) f2 tt2) (he:∀ s H C fp pins,PE (X.blk scope own js s H C fp pins) elt te)
  (hs2:∀ env x,foldedSetIterable i2 env x=pure x)
  (I:Inv X pins σ H2 s₂) (T:Turn X.prog X.w X.K t1 J fp it tn) (st:tn 0 s₂.heap) (hf:∀ b∈fp,FpOk X pins H2 b) (h:Zfd own js g1 tt1 wi2 g2 tt2 te σ J H2 Q)
  (hRR:∀ acc C H' s' m,s₂.heap.objs.size<=C->H' C=none->Inv X pins σ H' s'->s'.heap.Ns C m->Q (.ref acc) H'->RR (.ref acc) C (.ok .next) s') :
  wpAny (model X.prog X.w) X.A (newList []) (fun acc s₃=>wpAny (model X.prog X.w) X.A (newFunctionEnv scope X.env.globals (clOf scope X.env) [] X.env.qual none .none (some X.env)) (fun cenv s₄=>
   codeAny (model X.prog X.w) X.A (.compStart (two elt t1 i1 f1 t2 i2 f2 scope pos) 0 (.ref it) acc { cenv with scope:=relabel scope X.env }) (RR acc cenv.locals) s₄) E s₃) E s₂:=by
 refine wpAny_newObj_type (wpAny_newFunctionEnv c.cell (by intro y hy;simp at hy) (fun h₁ hns₁ hsb₁=>?_) c.kind);dsimp only at hns₁ hsb₁ ⊢;generalize hH2:s₂.heap.push { cls:=.type "list",dict:=none,data:=.seq ([]:List Value).toArray }=G2 at hns₁ hsb₁ ⊢;have hC:G2.objs.size=s₂.heap.objs.size+1:=by rw[<- hH2,Ya4]
 have hDC:s₂.heap.objs.size≠G2.objs.size:=by rw[hC];exact Yaz (Ybr _)
 have hCle:s₂.heap.objs.size<=G2.objs.size:=by rw[hC];exact Ycl _
 have old:∀ b o,s₂.heap.get? b=some o->h₁.get? b=some o:=fun b o e=>hsb₁.extBut b o (Yaz (Yap (Yah e) hCle)) (Yac _ (hH2 ▸ Yac _ e));have hacc:h₁.get? s₂.heap.objs.size=some { cls:=.type "list",data:=.seq ([]:List Value).toArray 0 }:=hsb₁.extBut _ _ hDC (Yac _ (hH2 ▸ Yas _ rfl));have ho2:∀ b∈fp,∃ o,s₂.heap.get? b=some o:=fun b hb=>let ⟨o,e,_⟩:=T.obj 0 _ st b hb;⟨o,e⟩
 have I0:∀ tk,Inv (X.blk scope own js s₂ H2 G2.objs.size fp pins) [] (blkσ own js σ) (upd H2 s₂.heap.objs.size (.lst [])) { s₂ with heap:=h₁,toks:=tk }:=fun tk=>
  Ze5 c I hCle hf ho2 hns₁ old (Yag _) hDC hacc
 obtain⟨W,nn,w0,turn⟩:=h s₂.heap.objs.size (I.hok.fresh (Yag _));generalize hacc':s₂.heap.objs.size=acc at *;generalize hGC:G2.objs.size=C at *;have st1:tn 0 h₁:=T.keep 0 _ _ st fun b _ o e=>old b o e;have fOk:∀ {H':Hp},(∀ b∈fp,H' b=none)->∀ b∈fp,FpOk (X.blk scope own js s₂ H2 C fp pins) [] H' b:=fun hn b hb=>by
  obtain⟨f0,f1,f2,f3,f4,f5⟩:=hf b hb;obtain⟨o,e⟩:=ho2 b hb;refine⟨hn b hb,Yaz (Yap (Yah e) (by rw[<- hacc'] at hCle;exact hCle)),fun z=>?_,.inl hb,fun x a h=>f4 x a (c.look I h),fun p hp=>f5 p (by simpa[Cx.blk] using hp)⟩;rcases Yai.mp (I.stkSub b z) with q | q
  ·exact f1 q
  ·exact f2 q
 have loop:∀ s₃:Shared,s₃={ s₂ with heap:=h₁,toks:=s₂.toks+([]:List (Str × Value)).length } ->
   codeAny (model X.prog X.w) X.A (.compLoop (two elt t1 i1 f1 t2 i2 f2 scope pos) 0 (.ref it) (.ref acc) (compEnvC scope (clOf scope X.env) C X.env)) (RR (.ref acc) C) s₃:=by
  rintro s₃ rfl;refine ZhP (fun n s'=>∃ i H',n=nn - i/\Inv (X.blk scope own js s₂ H2 C fp pins) [] (blkσ own js σ) H' s'/\tn i s'.heap/\(∀ b∈fp,H' b=none)/\W i H') (hs2 _) ?_ nn ⟨0,_,rfl,I0 _,st1,fun b hb=>?_,w0⟩
  ·rintro n s3 ⟨i,H3,en,I3,st3,fr3,w3⟩;rcases turn i H3 w3 with ⟨stop,qn⟩ | ⟨hin,go,step⟩
   ·refine thn (T.done (X.blk scope own js s₂ H2 C fp pins) rfl rfl rfl hc i [] s3 _ H3 (fun _ _=>False) I3 (fOk fr3) st3 stop) fun r s4 ⟨hr,I4⟩=>?_;subst hr;obtain⟨m,hn,_⟩:=I4.loc;exact hRR acc C H3 s4 m hCle I4.free (ZiA I hf I4) hn qn
   ·refine thn (T.item (X.blk scope own js s₂ H2 C fp pins) rfl rfl rfl hc i [] s3 _ H3 (fun _ _=>False) I3 (fOk fr3) st3 go) fun r s4 ⟨u,hr,h4⟩=>?_;subst hr;refine thn h4 fun _ s5 ⟨x,H5,I5,r5,y5,st5,fr5⟩=>?_;have I5':=I5.pinned (fOk fr5) (T.obj _ _ st5);have again:∀ {σ7:St}{H7:Hp}{s7:Shared},Inv (X.blk scope own js s₂ H2 C fp pins) ([]++ZcR fp s5.heap) σ7 H7 s7->(∀ (j:Nat) v,(blkσ own js σ)[j]?=some (some v)->σ7[j]?=some (some v))->W (i+1) H7 ->
      ∃ m,m<n/\∃ i H',m=nn - i/\Inv (X.blk scope own js s₂ H2 C fp pins) [] (blkσ own js σ) H' s7/\tn i s7.heap/\(∀ b∈fp,H' b=none)/\W i H':=fun {σ7 H7 s7} I7 hw w7=>by
     refine⟨nn - (i+1),by omega,i+1,H7,rfl,(I7.unpinned).weak ((ZfC own js σ X).trans I7.len.symm) hw,T.keep _ _ _ st5 fun b hb o e=>(I7.pin (b,o) (Yay _ (Yay _ (ZaN hb e)))).1,fun b hb=>?_,w7⟩;obtain⟨o,e,d⟩:=T.obj _ _ st5 b hb;exact (I7.pin (b,o) (Yay _ (Yay _ (ZaN hb e)))).2.1
    refine thn (hg s₂ H2 C fp pins _ s5 _ H5 x u _ I5' r5 (hgk _ _ _ _ _ (step x H5 y5))) fun _ s6 ⟨σ6,H6,I6,⟨kp,un⟩,q6⟩=>?_;refine thn (ht s₂ H2 C fp pins _ s6 σ6 H6 _ I6 q6) fun ok s7 ⟨H7,I7,q7⟩=>?_
    cases ok with
    | false=>exact again I7 kp q7
    | true=>
     refine thn (hi2 s₂ H2 C fp pins _ s7 σ6 H7 _ I7 q7) fun v s8 h8=>thn h8 fun itv s9 h9=>?_;obtain⟨it2,fp2,tn2,J2,H9,e9,I9,T2,st9,f9,hw9⟩:=h9;subst e9;refine codeAny_mono (Zh3 (t1:=t1) (i1:=i1) (f1:=f1) (i2:=i2) (pos:=pos) hc hgt un (hg2 s₂ H2 C fp pins) (ht2 s₂ H2 C fp pins) (he s₂ H2 C fp pins) I9 T2 st9 f9 hw9) fun r s10 ⟨er,H10,I10,w10⟩=>?_;exact⟨_,er,again I10 kp w10⟩
  ·rw[Zag ?_]
   ·exact (hf b hb).1
   ·obtain⟨o,e⟩:=ho2 b hb;rw[<- hacc'];exact Yaz (Yah e)
 exact codeAny_compStart_list (loop _ rfl) (T.self _ 0 _ _ _ st1 (loop _ rfl))
end
end L2
namespace L2
open PySem PySem.Spec PyProof.Rows PySem.SeqAt
def ItlB (b:Bool) (K:Yad) (a:Addr):It:=match b with | true=>Itl K a | false=>Itt K a
def ZlC (K:Yad) (tl:TE):TI:=fun σ H R=>tl σ H fun x H1=>∃ a b,x=.ref a/\(∃ xs,SqB b K H1 a xs)/\R (ItlB b K a) H1
theorem Zi5 (K:Yad) {X:Cx}{tg l:Expr}{tl:TE} (hl:PE X l tl) (hK:X.K=K:=by rfl):PI X tg l (ZlC K tl):=by
 subst hK;intro pins s σ H R I h;refine thn (hl pins s σ H _ I h) fun v s1 ⟨x,H1,I1,r1,q1⟩=>?_;obtain⟨a,b,e,⟨xs,hq⟩,q⟩:=q1;subst e;cases r1;have fp:∀ b∈[s1.heap.objs.size],FpOk X pins H1 b:=fun b hb=>by
  have e:b=s1.heap.objs.size:=by simpa using hb
  subst e;exact I1.fpOk (Yag _) (I1.hok.fresh (Yag _))
 cases b with
 | true=>
  obtain⟨its,rv,p,hz⟩:=I1.list hq;exact wpAny_pyIter_list p.isList ⟨s1.heap.objs.size,[s1.heap.objs.size],_,_,H1,rfl,I1.kept (t':=s1.toks) fun b o e=>Yac _ e,Zet a _,⟨_,Yas _ rfl,rfl,rfl⟩,fp,q⟩
 | false=>
  obtain⟨its,rv,p,hz⟩:=I1.tuple hq;exact wpAny_pyIter_tuple (show s1.heap.IsTuple a its.toArray from p) ⟨s1.heap.objs.size,[s1.heap.objs.size],_,_,H1,rfl,I1.kept (t':=s1.toks) fun b o e=>Yac _ e,Zdk a _,⟨_,Yas _ rfl,rfl,rfl⟩,fp,q⟩
theorem Zd2 {X:Cx}{tg l:Expr}{tl:TE} (hl:PE X l tl):PI X tg l (ZlC X.K tl):=Zi5 X.K hl
theorem ZhX {b:Bool}{K:Yad}{H:Hp}{a:Addr}{xs:List V}{i:Nat} (q:SqB b K H a xs) (hi:i<xs.length):(ItlB b K a).go i H:=by
 cases b <;> exact⟨xs,xs[i],q,Yaa hi⟩
theorem Zf9 {b:Bool}{K:Yad}{H H':Hp}{a:Addr}{xs:List V}{i:Nat}{x:V} (q:SqB b K H a xs) (y:(ItlB b K a).yld i H x H'):H'=H/\xs[i]?=some x:=by
 cases b <;> exact⟨y.1,y.2 xs q⟩
theorem ZeS {b:Bool}{K:Yad}{H:Hp}{a:Addr}{xs:List V}{i:Nat} (q:SqB b K H a xs) (hi:xs.length<=i):(ItlB b K a).stop i H:=by
 cases b <;> exact⟨xs,q,hi⟩
theorem ZhY {b:Bool}{K:Yad}{H:Hp}{a:Addr}{xs:List V}{i:Nat} (q:SqB b K H a xs) (hi:i<xs.length):(IteB b K a).go i H:=by
 cases b <;> exact⟨xs,xs[i],q,Yaa hi⟩
theorem Zga {b:Bool}{K:Yad}{H H':Hp}{a:Addr}{xs:List V}{i:Nat}{x:V} (q:SqB b K H a xs) (y:(IteB b K a).yld i H x H'):∃ p z,H p=none/\x=.ref p/\H'=upd H p (.tup [.int i,z])/\xs[i]?=some z:=by
 cases b with
 | true=>obtain⟨p,z,hp,e1,e2,y⟩:=y;exact⟨p,z,hp,e1,e2,y xs q⟩
 | false=>obtain⟨p,z,hp,e1,e2,y⟩:=y;exact⟨p,z,hp,e1,e2,y xs q⟩
theorem ZeT {b:Bool}{K:Yad}{H:Hp}{a:Addr}{xs:List V}{i:Nat} (q:SqB b K H a xs) (hi:xs.length<=i):(IteB b K a).stop i H:=by
 cases b <;> exact⟨xs,q,hi⟩
section
variable {b:Bool}{K:Yad}{own:List Str}{js:List Nat}{g1 g2 g:TG}{tt1 tt2 tt:TT}{wi2:TI}{te:TE}{σ τ:St}{H1 H6:Hp}{Q:VK}{a acc:Addr}{xs:List V}
theorem Zin (Pv:Addr->Nat->Hp->Prop) (h0:∀ acc,H1 acc=none->Pv acc 0 (upd H1 acc (.lst []))) (hl:∀ acc i H,H1 acc=none->i<=xs.length->Pv acc i H->SqB b K H a xs)
  (hs:∀ acc i x H,H1 acc=none->xs[i]?=some x->Pv acc i H->g x (blkσ own js σ) H fun τ H4=>tt τ H4 fun c H5=>
   if c=true then te τ H5 fun y H6=>∃ ys,H6 acc=some (.lst ys)/\ys.length<sizeLine/\(i+1<=xs.length/\Pv acc (i+1) (upd H6 acc (.lst (ys++[y])))) else (i+1<=xs.length/\Pv acc (i+1) H5))
  (hd:∀ acc H,H1 acc=none->Pv acc xs.length H->Q (.ref acc) H):Zbh own js g tt te σ (ItlB b K a) H1 Q:=by
 intro acc hacc;refine⟨fun i H=>i<=xs.length/\Pv acc i H,xs.length,⟨YaP _,h0 acc hacc⟩,?_⟩;rintro i H ⟨hi,p⟩;have q:=hl acc i H hacc hi p;rcases Ya7 i xs.length with hlt | hge
 ·refine .inr ⟨hlt,ZhX q hlt,fun x H' y=>?_⟩;obtain⟨rfl,hx⟩:=Zf9 q y;exact hs acc i x _ hacc hx p
 ·obtain rfl:i=xs.length:=by omega
  exact .inl ⟨ZeS q (Yag _),hd acc H hacc p⟩
theorem ZfA (Pv:Addr->Nat->Hp->Prop) (h0:∀ acc,H1 acc=none->Pv acc 0 (upd H1 acc (.lst []))) (hl:∀ acc i H,H1 acc=none->i<=xs.length->Pv acc i H->SqB b K H a xs)
  (hs:∀ acc i x p H,H1 acc=none->xs[i]?=some x->Pv acc i H->H p=none->g1 (.ref p) (blkσ own js σ) (upd H p (.tup [.int i,x])) fun τ H4=>tt1 τ H4 fun c H5=>
   if c=true then wi2 τ H5 fun J2 H6=>tInW g2 tt2 te τ acc J2 H6 (fun H7=>i+1<=xs.length/\Pv acc (i+1) H7) else (i+1<=xs.length/\Pv acc (i+1) H5))
  (hd:∀ acc H,H1 acc=none->Pv acc xs.length H->Q (.ref acc) H):Zfd own js g1 tt1 wi2 g2 tt2 te σ (IteB b K a) H1 Q:=by
 intro acc hacc;refine⟨fun i H=>i<=xs.length/\Pv acc i H,xs.length,⟨YaP _,h0 acc hacc⟩,?_⟩;rintro i H ⟨hi,p⟩;have q:=hl acc i H hacc hi p;rcases Ya7 i xs.length with hlt | hge
 ·refine .inr ⟨hlt,ZhY q hlt,fun x H' y=>?_⟩;obtain⟨pa,z,hp,rfl,rfl,hx⟩:=Zga q y;exact hs acc i z pa H hacc hx p hp
 ·obtain rfl:i=xs.length:=by omega
  exact .inl ⟨ZeT q (Yag _),hd acc H hacc p⟩
theorem Zjr {tb:TS}{D:Ends}{H:Hp} (Pv:Nat->St->Hp->Prop) (h0:Pv 0 σ H) (hl:∀ i σ H,i<=xs.length->Pv i σ H->SqB b K H a xs)
  (hs:∀ i x σ H,xs[i]?=some x->Pv i σ H->g x σ H fun σ2 H2=>tb { D with nx:=Pv (i+1),ct:=Pv (i+1),bk:=D.nx } σ2 H2) (hd:∀ σ H,Pv xs.length σ H->D.nx σ H) :
  ∃ W:Nat->Nat->St->Hp->Prop,(∃ m,W 0 m σ H)/\∀ i m σ H,W i m σ H ->
   ((ItlB b K a).stop i H/\D.nx σ H)∨((ItlB b K a).go i H/\∃ N:St->Hp->Prop,(∀ σ' H',N σ' H'->∃ m',m'<m/\W (i+1) m' σ' H')/\∀ x H',(ItlB b K a).yld i H x H'->g x σ H' fun σ2 H2=>tb { D with nx:=N,ct:=N,bk:=D.nx } σ2 H2):=by
 refine⟨fun i m σ H=>m=xs.length - i/\i<=xs.length/\Pv i σ H,⟨xs.length,by simp,YaP _,h0⟩,?_⟩;rintro i m σ H ⟨rfl,hi,p⟩;have q:=hl i σ H hi p;rcases Ya7 i xs.length with hlt | hge
 ·refine .inr ⟨ZhX q hlt,Pv (i+1),fun σ' H' z=>⟨xs.length - (i+1),by omega,rfl,hlt,z⟩,fun x H' y=>?_⟩;obtain⟨rfl,hx⟩:=Zf9 q y;exact hs i x σ _ hx p
 ·obtain rfl:i=xs.length:=by omega
  exact .inl ⟨ZeS q (Yag _),hd σ H p⟩
end
end L2
namespace Lv
open PySem L2
def prs:Nat->List (List Int)->List Nat->List (Int × Nat)
 | k,x::N,m::ms=>(x.drop m).map (fun z=>(z,k))++prs (k+1) N ms
 | _,_,_=>[]
def Zlv (p q:Int × Nat):Prop:=p.1<q.1∨(p.1=q.1/\p.2<=q.2)
structure MgS (N:List (List Int)) (m:List Nat) (tk:List (Int × Nat)):Prop where
 inm:InM N m
 perm:(tk++prs 0 N m).Perm (prs 0 N (N.map fun _=>0))
 srt:tk.Pairwise Zlv
 le:∀ p∈tk,∀ q∈prs 0 N m,Zlv p q
 sm:m.sum=tk.length
def SeqI (H:Hp) (r:Addr) (xs:List V):Prop:=H r=some (.lst xs)∨H r=some (.tup xs)
structure RwS (H:Hp) (a:Addr) (rs:List Addr) (N:List (List Int)):Prop where
 top:SeqI H a (rs.map V.ref)
 len:rs.length=N.length
 row:∀ (j:Nat) r xs,rs[j]?=some r->N[j]?=some xs->SeqI H r (xs.map V.int)
theorem Zbx {qs:List Addr}{i:Nat}{x:V} (h:(qs.map V.ref)[i]?=some x):∃ p,qs[i]?=some p/\x=.ref p:=by
 rw[Yal] at h
 cases e:qs[i]? with
 | none=>rw[e] at h;cases h
 | some p=>rw[e] at h;exact⟨p,rfl,(YaD h).symm⟩
theorem ZfT {H:Hp}:∀ zs:List Int,RdL H (zs.map V.int) (zs.map Yc4)
 | []=>.nil
 | z::zs=>.cons (.int z) (ZfT zs)
structure GoodT (N:List (List Int)):Prop where
 many:N.length<=12
 tot:(lenN N).sum<=400
 bnd:∀ xs∈N,∀ z∈xs,-Zdh<z/\z<Zdh
 srt:∀ xs∈N,xs.Pairwise (·<=·)
structure GoodB (b:Nat) (N:List (List Int)):Prop where
 len:∀ xs∈N,xs.length<=b
 bnd:∀ xs∈N,∀ z∈xs,-Zdh<z/\z<Zdh
 srt:∀ xs∈N,xs.Pairwise (·<=·)
end Lv
namespace L2
open PySem PySem.Spec PyProof.Rows PySem.SeqAt
section
variable {X:Cx}
end
end L2
namespace Lv
open PySem L2
def Fr (S:List Addr) (H H':Hp):Prop:=∀ b o,H b=some o->b ∉ S->H' b=some o
abbrev Rows:=List (Option (List Int))
def datO:Option (List Int)->PyData
 | none=>.none
 | some xs=>.list (xs.map Yc4)
def ZlV (ds:Rows):PyData:=.list (ds.map datO)
def shp (D:List Rows):List (List Bool):=D.map fun ds=>ds.map Option.isSome
theorem Zdy:∀ (zs:List Int),Ybc (zs.map Yc4)=0
 | []=>rfl
 | z::zs=>by simp only[YaK,Ybc,Yel,Zdy zs];rfl
abbrev Cell:=Option (Addr × List Int)
abbrev Reel:=Addr × List Cell
def cV:Cell->V
 | none=>.non
 | some (r,_)=>.ref r
def cA:Cell->List Addr
 | none=>[]
 | some (r,_)=>[r]
def cOk (H:Hp):Cell->Prop
 | none=>True
 | some (r,xs)=>H r=some (.lst (xs.map V.int))
def tA (t:Reel):List Addr:=t.1::t.2.flatMap cA
def adr (T:List Reel):List Addr:=T.flatMap tA
def tOk (H:Hp) (t:Reel):Prop:=H t.1=some (.lst (t.2.map cV))/\∀ c∈t.2,cOk H c
def NRL (H:Hp) (T:List Reel):Prop:=∀ t∈T,tOk H t
def TB (H:Hp) (tr:List Addr) (B:List (List Bool)):Prop:=tr.length=B.length/\∀ (j:Nat) r bs,tr[j]?=some r->B[j]?=some bs->H r=some (.tup (bs.map V.bl))
end Lv
namespace Lv
open PySem L2
def St (S:List Addr) (H:Hp) (Φ:Hp->Prop):Prop:=∀ H',Fr S H H'->Φ H'
structure Bld (S:List Addr) (H:Hp) (us:List V) (rs tr:List Addr) (D:List Rows) (R:List (List Int)):Prop where
 due:St S H fun H'=>RdL H' us (D.map ZlV)
 rows:St S H fun H'=>LLs H' rs R
 lay:St S H fun H'=>TB H' tr (shp D)
end Lv
namespace Lv
open PySem L2
end Lv
namespace Lv
open PySem L2
def les (m x:Int):Int:=if x - m > 0 then x - m else 0
def ZkW (c:List Int) (out:Nat) (m:Int):List Int:=(c.map (les m)).set out m
def Zmg (a b:List Int):Prop:=a.length=b.length/\∀ j:Nat,a.getD j 0<=b.getD j 0
def Cov (c L:List Int):Prop:=∃ l:List Int,l.Perm (c)/\Zmg l (L++[0])
end Lv
namespace L2
open PySem PySem.Spec PyProof.Rows PySem.SeqAt
section
variable {X:Cx}
end
end L2
namespace Lv
open PySem L2
def CovL (L r:List Int):Prop:=∀ j,j<L.length->r.getD j 0<=L.getD j 0
instance (L r:List Int):Decidable (CovL L r):=inferInstanceAs (Decidable (∀ j,j<L.length->r.getD j 0<=L.getD j 0))
def big:Int:=1000000000000000000000000000000000000000000000000000000000000
structure Stand (p:Nat) (st:List Int):Prop where
 p2:2<=p
 p7:p<=7
 len:st.length=p+1
 nn:∀ x∈st,0<=x
 le:∀ x∈st,x<=big
 zero:(0:Int)∈st
 pos:∃ x∈st,1<=x
def mxl:List Int->Int
 | []=>0
 | x::r=>if mxl r > x then mxl r else x
structure On (p:Nat) (c:List Int) (n:Nat):Prop where
 len:c.length=p+1
 cov:Cov c (cnt p n)
 nn:∀ x∈c,0<=x
 pos:∃ x∈c,1<=x
end Lv
namespace Lv
open PySem L2
end Lv
namespace Lv
open PySem L2
end Lv
namespace L2
open PySem PySem.Spec PyProof.Rows
section
variable {X:Cx}
end
end L2
namespace Lv
open PySem L2
end Lv
namespace L2
open PySem PySem.Spec PyProof.Rows PySem.W
abbrev VB:List Value:=[.type "ValueError",.type "Exception",.type "BaseException",.type "object"]
def ZlF (K:Frag) (C:Addr):Bool:=match K.lookup C with
 | some ⟨.type "type",_,.cls cd,sl⟩=>(match cd.mro,sl.toList with
  | .ref D::bm,[_,_,_,_,some (.builtin n),_]=>D == C && (n == "ValueError.__new__" && (!cd.hasDel && (tailIn K VB bm && (nsOkIn K cd.ns && cd.hasDict))))
  | _,_=>false)
 | _=>false
def ZkS (K:Frag) (C fI:Addr):Bool:=ZlF K C && (Zb1 K C && (findIn K (.ref C) "__setattr__" == some (some (.builtin "object.__setattr__")) && (findIn K (.ref C) "at" == some none && (isFn K (.ref fI) && (keepIn K (.ref C) && findIn K (.ref C) "__init__" == some (some (.ref fI)))))))
section
variable {prog:Program}{w:World}{A:Around}{E:Value->Shared->Prop}{s:Shared}{K:Frag}{x C fI:Addr}{v:Value}
abbrev newExc (C t:Addr):Obj:={ cls:=.ref C,data:=.fields #[.ref t,.none,.none,.none,.bool false,.none] }
end
end L2
namespace L2
open PySem PySem.Spec PyProof.Rows PySem.W
section
variable {X:Cx}{o value:Expr}{pos pos':Pos}{ta tv:TE}{C fI:Addr}
end
end L2
namespace Lv
open PySem L2 PySem.W
structure ExcTabI (K:Frag) (reel C fI:Addr) (all:List Addr):Prop where
 ok:ZkS K C fI=true
 exm:exmOne K (.ref C) (.ref reel)=some true
 exmS:exmOne K (.ref C) (.ref C)=some true
 isR:kitOne K (.ref C) (.ref reel)=some true
 isV:kitOne K (.ref C) (.type "ValueError")=some true
 one:∀ D∈all,kitOne K (.ref C) (.ref D)=some (D == C)
end Lv
namespace Lv
open PySem L2
def PhOk (c:List Int) (out m:Int):Prop:=(0<=out/\out<(c.length:Int))/\(c.getD out.toNat 0<=0/\(1<=m/\m<=mxl c))
instance (c:List Int) (out m:Int):Decidable (PhOk c out m):=by unfold PhOk;infer_instance
end Lv
namespace Lv
open PySem L2
def wk:List Int->List (Int × Int)->Nat->Except Nat (List Int)
 | c,[],_=>.ok c
 | c,(o,m)::r,i=>if PhOk c o m then wk (ZkW c o.toNat m) r (i+1) else .error i
def fin (c:List Int) (ps:List (Int × Int)):Except Nat (List Int):=match wk c ps 0 with
 | .ok d=>if 1<d.sum then .error ps.length else .ok d
 | .error i=>.error i
structure Way (c0:List Int) (ps:List (Int × Int)) (i:Nat) (c:List Int):Prop where
 wk:wk c0 ps 0=wk c (ps.drop i) i
 len:c.length=c0.length
 nn:∀ x∈c,0<=x
structure Cts (p:Nat) (c:List Int):Prop where
 len:c.length=p+1
 nn:∀ x∈c,0<=x
 le:∀ x∈c,x<=big
 pos:∃ x∈c,1<=x
end Lv
namespace Lv
open PySem L2
end Lv
namespace Lv
open PySem L2
def srt (xs:List Int):List Int:=xs.mergeSort fun a b=>decide (a<=b)
def rl90 (cs:Rows):List (List Int):=cs.filterMap id
def mrg (cs:Rows):Option (List Int):=if rl90 cs=[] then none else some (srt (rl90 cs).flatten)
def tkA (D:List Rows) (m i:Nat):Rows:=D.filterMap fun r=>(r.take m)[i]?
def phR (D:List Rows) (o m:Nat):List Rows:=(D.map (·.drop m)).set o ((YaO m).map fun i=>mrg (tkA D m i))
def thg (cs:Rows):Int:=((rl90 cs).map fun xs=>(xs.length:Int)).sum
def lns (D:List Rows):List Int:=D.map fun r=>(r.length:Int)
def allT (D:List Rows):List Int:=(rl90 D.flatten).flatten
abbrev refT (T:List Reel):List V:=T.map fun t=>V.ref t.1
def plR:List Rows->List (Int × Int)->List Rows
 | D,[]=>D
 | D,(o,m)::r=>plR (phR D o.toNat m.toNat) r
def rdR:List Rows->List (Int × Int)->List (List Int)
 | _,[]=>[]
 | D,(o,m)::r=>(D.map fun q=>thg (q.take m.toNat))::rdR (phR D o.toNat m.toNat) r
def Pls:List Rows->List (Int × Int)->Prop
 | _,[]=>True
 | D,(o,m)::r=>PhOk (lns D) o m/\Pls (phR D o.toNat m.toNat) r
end Lv
namespace Lv
open PySem L2
def fmJ (p:Int) (L:Nat):Nat:=(((L:Int) - 2) % (p - 1)+2).toNat
def hfF (p:Int):Nat->List Int->Int
 | 0,_=>0
 | k+1,ws=>if ws.length<=1 then 0 else (ws.take (fmJ p ws.length)).sum+hfF p k (srt ((ws.take (fmJ p ws.length)).sum::ws.drop (fmJ p ws.length)))
def hf (p:Int) (ws:List Int):Int:=hfF p ws.length (srt ws)
end Lv
namespace L2
open PySem PySem.Spec PyProof.Rows PySem.SeqAt
section
variable {prog:Program}{w:World}{A:Around}{E:Value->Shared->Prop}{s:Shared}
end
section
variable {X:Cx}{tg:Expr}
end
end L2
namespace L2
open PySem PySem.Spec PyProof.Rows
section
variable {X:Cx}{tg:Expr}
end
end L2
namespace Lv
open PySem L2
inductive Chain (p:Nat):Int->List Int->List (List Int)->Prop
 | one (m x:Int):Chain p m [x] []
 | step (m:Int) (th T rest:List Int) (L:List (List Int)) (h1:th.Perm (T++rest)) (h2:T≠[]) (h3:T.length<=p) (h:Chain p (m+1) (rest++[m]) L):Chain p m th (T::L)
def pw (p D:Nat) (f:Int->Nat) (xs:List Int):Nat:=(xs.map fun x=>p ^ (D - f x)).sum
inductive Built (p r:Nat):List (List Int)->List Int->Prop
 | nil:Built p r [] ((YaO r).map fun (i:Nat)=>(i:Int))
 | snoc (L:List (List Int)) (th T rest:List Int) (h:Built p r L th) (h1:th.Perm (T++rest)) (h2:T≠[]) (h3:T.length<=p):Built p r (L++[T]) (rest++[((r+L.length:Nat):Int)])
end Lv
namespace Lv
open PySem L2
theorem cut3 {a b c R:TS}{D:Ends}{σ:L2.St}{H:Hp} (M:L2.St->Hp->Prop) (h1:∀ R':TS,(∀ σ' H',M σ' H'->R' D σ' H')->tSeq a (tSeq b (tSeq c R')) D σ H) (h2:∀ σ' H',M σ' H'->R D σ' H'):tSeq a (tSeq b (tSeq c R)) D σ H:=h1 R h2
def Zfi:Sp:=fun vs H Q _=>∃ (c:Int) (k:Nat),vs=[.int c,.int k]/\k<=1000/\∀ d H',0<=d->Same H H'->Q (.int d) H'
end Lv
namespace L2
open PySem PySem.Spec PyProof.Rows PySem.SeqAt
end L2
namespace Lv
open PySem L2
def upL (ks:List (List Int)):Prop:=ks.Pairwise (fun p q=>lxB q p=false)
def k0 (k:List Int):Int:=k.getD 0 0
def k1 (k:List Int):Int:=k.getD 1 0
inductive JRun (p:Nat):Nat->Int->List (List Int)->Int->List (List Int)->Prop
 | done (m:Nat) (n:Int) (ks:List (List Int)) (h:ks.length<=1):JRun p m n ks 0 []
 | step (m:Nat) (n:Int) (ks ks':List (List Int)) (r:Int) (T:List Int) (L:List (List Int)) (h2:2<=ks.length)
   (hT:T.Perm ((ks.take m).map k1)) (hT2:T.Pairwise (·<=·)) (hk:ks'.Perm (ks.drop m++[[((ks.take m).map k0).sum,n]])) (hs:upL ks')
   (h:JRun p p (n+1) ks' r L):JRun p m n ks (((ks.take m).map k0).sum+r) (T::L)
def lkI (D:List (Int × Int)) (x:Int):Option Int:=(D.find? fun q=>decide (q.1=x)).map (·.2)
def okT (m:Nat) (D:List (Int × Int)) (T:List Int):Prop:=T.length=m/\(∀ x∈T,(lkI D x).isSome=true)/\T.Pairwise (·<·)/\srt (T.map fun x=>(lkI D x).getD 0)=(srt (D.map (·.2))).take T.length
instance (m:Nat) (D:List (Int × Int)) (T:List Int):Decidable (okT m D T):=by unfold okT;infer_instance
theorem TTs.offJ {H:Hp}{rs:List Addr}{N:List (List Int)}{l:Addr}{xs:List V}{o:HO} (h:TTs H rs N) (e:H l=some (.lst xs)):TTs (upd H l o) rs N:=⟨h.1,fun j r ys a b=>by
 have h1:=h.2 j r ys a b;rw[Zag (fun z=>by rw[z,e] at h1;cases h1)];exact h1⟩
end Lv
namespace Lv
open PySem L2
end Lv
namespace Lv
open PySem L2
def pre:Int->List Int->List Int
 | _,[]=>[]
 | s,x::r=>(s+x)::pre (s+x) r
end Lv
namespace L2
open PySem PySem.Spec PyProof.Rows PySem.SeqAt
section
variable {X:Cx}
end
end L2
namespace Lv
open PySem L2
def up1 (A:List Int):List Int:=A.map (·+1)
def ZcA (N:List (List Int)):List Int:=N.map fun xs=>(xs.length:Int)
def ZlU (r:List (List Int)) (t:Nat):List Int:=r.getD t []
def S (q:Int) (g:Nat->List Int) (a:List Int):Int:=((YaO a.length).map fun t=>((g t).count q:Int)*a.getD t 0).sum
def pot (q:Int):List (List (List Int))->List (List Int)->Int
 | r::R,a::N=>S q (ZlU r) a+pot q R N
 | _,_=>0
end Lv
namespace Lv
open PySem L2
end Lv
namespace Lv
open PySem L2
end Lv
namespace Lv
open PySem L2
end Lv
namespace L2
open PySem PySem.Spec PyProof.Rows PySem.SeqAt
section
variable {X:Cx}{scope:Scope}{own:List Str}{js fr:List Nat}{elt i1 t1 i2 t2:Expr}{f1 f2:List Expr}{wi wi2:TI}{g1 g2:TG}{tt1 tt2:TT}{te:TE}{pos:Pos}
theorem Zi2 {i:Nat}{y:Str}{py spos:Pos} (hN:X.N.Nodup) (hy:X.N[i]?=some y) (hyl:X.env.scope.names.lookup y=some .local) (c:CompOk X scope own js) (hc:X.calm=true) (hi:PI X t1 i1 wi) (hgk:ZiH own fr g1) (hgt:Zgl fr g2)
  (hg:∀ s H C fp pins,PG (X.blk scope own js s H C fp pins) t1 g1) (ht:∀ s H C fp pins,PTs (X.blk scope own js s H C fp pins) f1 tt1) (hi2:∀ s H C fp pins,PI (X.blk scope own js s H C fp pins) t2 i2 wi2)
  (hg2:∀ s H C fp pins,PG (X.blk scope own js s H C fp pins) t2 g2) (ht2:∀ s H C fp pins,PTs (X.blk scope own js s H C fp pins) f2 tt2) (he:∀ s H C fp pins,PE (X.blk scope own js s H C fp pins) elt te)
  (hsw:swapsWith (two elt t1 i1 f1 t2 i2 f2 scope pos) (some (.Name y py)) spos.line X.env=pure true:=by rfl)
  (hs:∀ x,foldedSetIterable i1 X.env x=pure x:=by intro _;rfl) (hs2:∀ env x,foldedSetIterable i2 env x=pure x:=by intro _ _;rfl):PS X (.Assign [.Name y py] (two elt t1 i1 f1 t2 i2 f2 scope pos) spos) (tAsg (Zk8 own js wi g1 tt1 wi2 g2 tt2 te) (Zb0 i)):=by
 intro pins s σ H D I h;rw[exec_Assign_Name_used _ _ _ _ hsw];refine wpAny_bind (wpAny_standAt (wpAny_bind ?_));show wpAny _ X.A (do let _ <- comprehension (two elt t1 i1 f1 t2 i2 f2 scope pos) scope X.env _ (newList []) false (eval i1 X.env) (some (assign (.Name y py) X.env))) _ _ s;refine wpAny_bind (wpAny_mono (wpAny_comprehension_free (use:=some (assign (.Name y py) X.env)) (Q:=fun _ s'=>SP X pins D .next s') rfl hs (ZdC (c.cl I)) c.kind c.names
  (thn (hi pins s σ H _ I h) fun v s1 h1=>thn h1 fun itv s2 h2=>?_)) (fun _ s' hq=>wpAny_pure (wpAny_pure hq)) fun _ _ e=>e)
 obtain⟨it,fp,tn,J,H2,e,I2,T,st2,f2',hw⟩:=h2;subst e;refine ZjD (Q:=fun x H1=>Zb0 i x σ H1 D.nx) (RR:=fun acc C=>compPost (model X.prog X.w) X.A X.xe (some (assign (.Name y py) X.env)) (fun _ s'=>SP X pins D .next s') acc C) c hc hgk hgt hg ht hi2 hg2 ht2 he hs2 I2 T st2 f2' hw ?_;intro acc C H' s' m hCs hCn I' hn q;have hL:C≠X.env.locals:=Yby (Yap I2.lt hCs);have hcell:∀ x a,X.env.cells.lookup x=some a->a≠C:=by
  intro x a e z;obtain⟨v,q⟩:=I2.cell x a e;exact absurd (Yap q.lt (by rw[z];exact hCs)) (Ybe _)
 refine wpAny_assign_Name (Zez I' hN hy (.inl hyl) (v:=.ref acc) rfl (fun s2 I'' hch=>?_) (.inr hyl));obtain⟨a,sb,ha⟩:=hch;have hCa:C≠a:=by
  rcases ha with rfl | ha
  ·exact hL
  ·exact Ybj (hcell _ _ ha)
 refine⟨m,hn.sameBut sb hCa,fun h' hs'=>⟨_,H',I''.other hs' hCn hL (Ybz I2.sz hCs) hcell ?_,q⟩⟩;intro p hp z;exact absurd (Yap (Yah (I2.pin p hp).1) (by rw[z];exact hCs)) (Ybe _)
end
end L2
namespace L2
open PySem PySem.Spec PyProof.Rows PySem.SeqAt
theorem Zhq (K:Yad) {X:Cx}{es:List Expr}{x1}{tpos:Pos}{e:Expr}{ta:TA}{p pos:Pos} (hg:Gl X "enumerate") (hm:X.mg "enumerate"=none) (ha:PA X [e] ta) (hK:X.K=K:=by rfl) (hs:starEach [e] X.env=[(false,eval e X.env)]:=by rfl) :
  PI X (.Tuple es x1 tpos) (.Call (.Name "enumerate" p) [e] [] pos) (Zj3 K ta):=by subst hK;exact ZcC hg hm ha hs
section
variable {b:Bool}{K:Yad}{g2:TG}{tt2:TT}{te:TE}{τ:St}{H6:Hp}{a acc:Addr}{xs:List V}
theorem Zjo {Z:Hp->Prop} (W2:Nat->Hp->Prop) (h0:W2 0 H6) (hl:∀ i H,i<=xs.length->W2 i H->SqB b K H a xs)
  (hs:∀ i x p H,xs[i]?=some x->W2 i H->H p=none->g2 (.ref p) τ (upd H p (.tup [.int i,x])) fun τ2 H9=>tt2 τ2 H9 fun c H10=>
   if c=true then te τ2 H10 fun z H11=>∃ zs,H11 acc=some (.lst zs)/\zs.length<sizeLine/\(i+1<=xs.length/\W2 (i+1) (upd H11 acc (.lst (zs++[z])))) else (i+1<=xs.length/\W2 (i+1) H10))
  (hd:∀ H,W2 xs.length H->Z H):tInW g2 tt2 te τ acc (IteB b K a) H6 Z:=by
 refine⟨fun i H=>i<=xs.length/\W2 i H,xs.length,⟨YaP _,h0⟩,?_⟩;rintro i H ⟨hi,p⟩;have q:=hl i H hi p;rcases Ya7 i xs.length with hlt | hge
 ·refine .inr ⟨hlt,ZhY q hlt,fun x H' y=>?_⟩;obtain⟨pa,z,hp,rfl,rfl,hx⟩:=Zga q y;exact hs i z pa H hx p hp
 ·obtain rfl:i=xs.length:=by omega
  exact .inl ⟨ZeT q (Yag _),hd H p⟩
end
end L2
namespace Lv
open PySem L2
def intW:V->Int
 | .int i=>i
 | _=>0
def kf (H:Hp) (p:Addr):List Int:=match H p with
 | some (.tup vs)=>vs.map intW
 | _=>[]
theorem Zfu {H:Hp}{p:Addr}{k:List Int} (h:H p=some (.tup (k.map V.int))):kf H p=k:=by
 unfold kf;rw[h];show (k.map V.int).map intW=k;rw[YdF];exact (YcF fun _ _=>rfl).trans (YeL k)
def TuM (H:Hp) (ps:List Addr) (ks:List (List Int)):Prop:=(∀ p∈ps,∃ k:List Int,k≠[]/\H p=some (.tup (k.map V.int)))/\ps.map (kf H)=ks
theorem TuM.nil {H:Hp}:TuM H [] []:=⟨fun p hp=>(nomatch hp),rfl⟩
theorem TuM.keep {H H':Hp}{ps:List Addr}{ks:List (List Int)} (h:TuM H ps ks) (k:∀ p∈ps,H' p=H p):TuM H' ps ks:=by
 refine⟨fun p hp=>by rw[k p hp];exact h.1 p hp,?_⟩;rw[<- h.2];refine YcF fun p hp=>?_;unfold kf;rw[k p hp]
theorem TuM.same {H H':Hp}{ps:List Addr}{ks:List (List Int)} (h:TuM H ps ks) (s:Same H H'):TuM H' ps ks:=h.keep fun p hp=>by
 obtain⟨k,_,e⟩:=h.1 p hp;rw[e,s _ _ e]
theorem TuM.snoc {H:Hp}{ps:List Addr}{ks:List (List Int)}{p:Addr}{k:List Int} (h:TuM H ps ks) (e:H p=some (.tup (k.map V.int))) (hk:k≠[]):TuM H (ps++[p]) (ks++[k]):=by
 refine⟨fun q hq=>?_,by rw[YaC,h.2,YaK,Ycw,Zfu e]⟩;rcases Yan.mp hq with hq | hq
 ·exact h.1 q hq
 ·rw[YaE.mp hq];exact⟨k,hk,e⟩
theorem TuM.at {H:Hp}{ps:List Addr}{ks:List (List Int)} (h:TuM H ps ks) {j:Nat}{p:Addr} (e:ps[j]?=some p):∃ k,ks[j]?=some k/\H p=some (.tup (k.map V.int)):=by
 obtain⟨k,_,e2⟩:=h.1 p (Yaw e);exact⟨k,by rw[<- h.2,Yal,e,Option.map_some,Zfu e2],e2⟩
theorem TuM.len {H:Hp}{ps:List Addr}{ks:List (List Int)} (h:TuM H ps ks):ps.length=ks.length:=by rw[<- h.2,Yab]
def ZbR (k:Nat) (xs:List Int):List (List Int):=xs.mapIdx fun j z=>[z,(k:Int),(j:Int)]
def trip:Nat->List (List Int)->List (List Int)
 | _,[]=>[]
 | k,xs::N=>ZbR k xs++trip (k+1) N
theorem Zgo {k:Nat}{xs:List Int}{j:Nat}{z:Int} (h:xs[j]?=some z):ZbR k (xs.take (j+1))=ZbR k (xs.take j)++[[z,(k:Int),(j:Int)]]:=by
 have hl:=(Yae.mp h).1
 unfold ZbR;rw[Ybf,h,Ybv,YeV];simp[YaA,YcI (Ybs hl)]
theorem Zeu:∀ (N:List (List Int)) (k:Nat) (xs:List Int),trip k (N++[xs])=trip k N++ZbR (k+N.length) xs
 | [],k,xs=>by simp[trip]
 | y::N,k,xs=>by rw[Yfd,trip,Zeu N (k+1) xs,trip,YaI,Ya0,show k+1+N.length=k+(N.length+1) by omega]
theorem Zg4 {N:List (List Int)}{i:Nat}{xs:List Int} (h:N[i]?=some xs):trip 0 (N.take (i+1))=trip 0 (N.take i)++ZbR i xs:=by
 have hl:=(Yae.mp h).1
 rw[Ybf,h,Ybv,Zeu,YaA,YcI (Ybs hl),YbD]
theorem Zev (k:Nat) (xs:List Int):(ZbR k xs).length=xs.length:=by unfold ZbR;simp
theorem Zbo:∀ (N:List (List Int)) (k:Nat),(trip k N).length=N.flatten.length
 | [],_=>rfl
 | xs::N,k=>by rw[trip,Yak,Zev,Zbo N,Ya5,Yak]
theorem ZfG:∀ (N:List (List Int)) (k:Nat),(trip k N).map (fun t=>t.getD 0 0)=N.flatten
 | [],_=>rfl
 | xs::N,k=>by
  rw[trip,YaC,ZfG N,Ya5];congr 1;unfold ZbR;exact Ybq (by simp) fun i h1 h2=>by simp
def ZbC:Sp:=fun vs H Q _=>∃ (a:Addr) (rs:List Addr) (N:List (List Int)),vs=[.ref a]/\H a=some (.tup (rs.map V.ref))/\TTs H rs N/\N.length<=7/\∀ H',Same H H'->Q (.int (N.flatten.length:Int)) H'
def ZdP:Sp:=fun vs H Q _=>∃ (a:Addr) (rs:List Addr) (N:List (List Int)) (m:Nat),vs=[.ref a,.int m]/\H a=some (.tup (rs.map V.ref))/\TTs H rs N/\N.length<=7/\N.flatten.length<=100000 /\
 ∀ (l:Addr) (qs:List Addr) (ks:List (List Int)) H',H l=none->H' l=some (.lst ((qs.take m).map V.ref))->TuM H' qs ks->ks.Perm (trip 0 N)->ks.Pairwise (fun p q=>lxB q p=false)->Same H H'->Q (.ref l) H'
end Lv
namespace L2
open PySem PySem.Spec PyProof.Rows PySem.SeqAt
theorem Zdz {K:Yad}{own:List Str}{i k m:Nat} (hi:i<own.length:=by decide) (hk:k<own.length:=by decide) (hm:m<own.length:=by decide):ZiI own (gTup K 2 (Zc0 (Zb0 i) (Zc0 (gTup K 2 (Zc0 (Zb0 k) (Zc0 (Zb0 m) gNil))) gNil))):=fun js σ x H Q h=>by
 obtain⟨a,xs,rfl,hq,hl,v,r,rfl,w,r',rfl,⟨b,ys,rfl,hq2,hl2,v2,r2,rfl,w2,r3,rfl,e2,e,h⟩⟩:=h;refine⟨a,_,rfl,hq,hl,v,_,rfl,_,r',rfl,⟨b,_,rfl,hq2,hl2,v2,_,rfl,w2,r3,rfl,e2,e,fun j z e=>?_,h⟩⟩;have hj:j≠i:=by rintro rfl;exact ZaV hi e
 have hj':j≠k:=by rintro rfl;exact ZaV hk e
 have hj3:j≠m:=by rintro rfl;exact ZaV hm e
 rw[YaN (Ybj hj3),YaN (Ybj hj'),YaN (Ybj hj)];exact e
theorem Zf8 (K:Yad) {X:Cx} (hK:X.K=K:=by rfl):IxR X (rIxT K):=by subst hK;exact Zbl
end L2
namespace Lv
open PySem L2
def numV (N:List (List Int)) (k:List Int):Int:=(N.getD (k.getD 0 0).toNat []).getD (k.getD 1 0).toNat 0
def InN (N:List (List Int)) (k:List Int):Prop:=∃ (r p:Nat) (xs:List Int),k=[(r:Int),(p:Int)]/\N[r]?=some xs/\p<xs.length
def ZaW (N:List (List Int)) (ls:List Int) (ks:List (List Int)):List Int:=YbP (fun l k=>l*numV N k) ls ks
theorem ZgC {N:List (List Int)}{ls:List Int}{ks:List (List Int)}{i:Nat}{l:Int}{k:List Int} (h1:ls[i]?=some l) (h2:ks[i]?=some k):ZaW N (ls.take (i+1)) (ks.take (i+1))=ZaW N (ls.take i) (ks.take i)++[l*numV N k]:=by
 have a:=(Yae.mp h1).1
 have b:=(Yae.mp h2).1
 unfold ZaW;rw[Ybf,h1,Ybf,h2,Ybv,Ybv,List.zipWith_append (by rw[YaA,YaA];omega)];rfl
def ZdN (K:Yad):Sp:=fun vs H Q _=>∃ (a ll pl:Addr) (b:Bool) (rs qs:List Addr) (N:List (List Int)) (ls:List Int) (ks:List (List Int)),vs=[.ref a,.ref ll,.ref pl]/\H a=some (.tup (rs.map V.ref))/\TTs H rs N/\SqB b K H ll (ls.map V.int)/\H pl=some (.lst (qs.map V.ref))/\TuM H qs ks/\(∀ k∈ks,InN N k)/\ls.length=ks.length/\ls.length<=100000 /\
 (∀ l∈ls,YaR l<=8000)/\(∀ xs∈N,∀ z∈xs,YaR z<=8000)/\∀ H',Same H H'->Q (.int (ZaW N ls ks).sum) H'
end Lv
namespace L2
open PySem PySem.Spec PyProof.Rows PySem.SeqAt
theorem ZkO {b1 b2:Bool}{K:Yad}{a b:Addr}{xs ys:List V}{g:TG}{tb:TS}{D:Ends}{σ:St}{H:Hp} (hlen:xs.length<=ys.length) (Pv:Nat->St->Hp->Prop) (h0:Pv 0 σ H)
  (hl:∀ i σ H,i<=xs.length->Pv i σ H->SqB b1 K H a xs/\SqB b2 K H b ys)
  (hs:∀ i x y p σ H,xs[i]?=some x->ys[i]?=some y->Pv i σ H->H p=none->g (.ref p) σ (upd H p (.tup [x,y])) fun σ2 H2=>tb { D with nx:=Pv (i+1),ct:=Pv (i+1),bk:=D.nx } σ2 H2) (hd:∀ σ H,Pv xs.length σ H->D.nx σ H) :
  ∃ W:Nat->Nat->St->Hp->Prop,(∃ m,W 0 m σ H)/\∀ i m σ H,W i m σ H ->
   ((ItzB b1 b2 K a b).stop i H/\D.nx σ H)∨((ItzB b1 b2 K a b).go i H/\∃ N:St->Hp->Prop,(∀ σ' H',N σ' H'->∃ m',m'<m/\W (i+1) m' σ' H')/\∀ x H',(ItzB b1 b2 K a b).yld i H x H'->g x σ H' fun σ2 H2=>tb { D with nx:=N,ct:=N,bk:=D.nx } σ2 H2):=by
 refine⟨fun i m σ H=>m=xs.length - i/\i<=xs.length/\Pv i σ H,⟨xs.length,by simp,YaP _,h0⟩,?_⟩;rintro i m σ H ⟨rfl,hi,p⟩;obtain⟨q1,q2⟩:=hl i σ H hi p;by_cases hlt:i<xs.length
 ·have gx:xs[i]?=some xs[i]:=Yaa hlt;have gy:ys[i]?=some ys[i]:=Yaa (by omega);refine .inr ⟨⟨xs,ys,xs[i],ys[i],q1,q2,gx,gy⟩,Pv (i+1),fun σ' H' z=>⟨xs.length - (i+1),by omega,rfl,hlt,z⟩,fun x H' y=>?_⟩;obtain⟨pa,z,z',hp,e1,e2,y1,y2⟩:=y;subst e1 e2;exact hs i z z' pa σ H (y1 xs q1) (y2 ys q2) p hp
 ·obtain rfl:i=xs.length:=by omega
  exact .inl ⟨⟨xs,ys,q1,q2,.inl (Yag _)⟩,hd σ H p⟩
end L2
namespace Lv
open PySem L2
def prL (ls:List Int):List (List Int):=ls.mapIdx fun j l=>[-l,(j:Int)]
theorem Zi3 {ls:List Int}{j:Nat}{l:Int} (h:ls[j]?=some l):prL (ls.take (j+1))=prL (ls.take j)++[[-l,(j:Int)]]:=by
 have hl:=(Yae.mp h).1
 unfold prL;rw[Ybf,h,Ybv,YeV];simp[YaA,YcI (Ybs hl)]
theorem Zbv (ls:List Int):(prL ls).length=ls.length:=by unfold prL;simp
theorem Zhm {ls:List Int}{j:Nat}{l:Int} (h:ls[j]?=some l):(prL ls)[j]?=some [-l,(j:Int)]:=by
 unfold prL;rw[Ydd,h];rfl
theorem Zd0 {ls:List Int}{f:List Int} (h:f∈prL ls):∃ (j:Nat) (l:Int),f=[-l,(j:Int)]/\ls[j]?=some l:=by
 obtain⟨j,hj⟩:=YbR.mp h;unfold prL at hj;rw[Ydd] at hj
 cases e:ls[j]? with
 | none=>rw[e] at hj;cases hj
 | some l=>rw[e] at hj;cases hj;exact⟨j,l,rfl,e⟩
theorem Zg5 {k:Nat}{xs f:List Int} (h:f∈ZbR k xs):∃ (j:Nat) (z:Int),f=[z,(k:Int),(j:Int)]/\xs[j]?=some z:=by
 obtain⟨j,hj⟩:=YbR.mp h;unfold ZbR at hj;rw[Ydd] at hj
 cases e:xs[j]? with
 | none=>rw[e] at hj;cases hj
 | some l=>rw[e] at hj;cases hj;exact⟨j,l,rfl,e⟩
theorem ZbB:∀ {N:List (List Int)}{k:Nat}{f:List Int},f∈trip k N->∃ (r j:Nat) (z:Int) (xs:List Int),f=[z,((k+r:Nat):Int),(j:Int)]/\N[r]?=some xs/\xs[j]?=some z
 | [],_,_,h=>nomatch h
 | ys::N,k,f,h=>by
  rw[trip] at h;rcases Yan.mp h with h | h
  ·obtain⟨j,z,e,hz⟩:=Zg5 h;exact⟨0,j,z,ys,e,rfl,hz⟩
  ·obtain⟨r,j,z,xs,e,hx,hz⟩:=ZbB h;exact⟨r+1,j,z,xs,by rw[e,show k+1+r=k+(r+1) by omega],hx,hz⟩
theorem ZgA {ls:List Int}{lf:List (List Int)} (h:lf.Perm (prL ls)):(lf.map fun f=>f.getD 1 0).Nodup:=by
 refine ((h.map _).nodup_iff).mpr ?_;have e:(prL ls).map (fun f=>f.getD 1 0)=(YaO ls.length).map fun (j:Nat)=>(j:Int):=by
  unfold prL;exact Ybq (by simp) fun i h1 h2=>by simp
 rw[e];refine Ya9.mpr (YcB.imp fun {a b} hab=>?_);omega
theorem ZiF {H:Hp}{N:List (List Int)}:∀ {vs:List V},(∀ (j:Nat),j<vs.length->∃ (q:Addr) (k:List Int),vs[j]?=some (.ref q)/\H q=some (.tup (k.map V.int))/\InN N k)->∃ (qs:List Addr) (ks:List (List Int)),vs=qs.map V.ref/\TuM H qs ks/\∀ k∈ks,InN N k
 | [],_=>⟨[],[],rfl,TuM.nil,fun k hk=>nomatch hk⟩
 | v::vs,h=>by
  obtain⟨qs,ks,e1,e2,e3⟩:=ZiF (vs:=vs) fun j hj=>h (j+1) (by simpa using hj);obtain⟨q,k,a1,a2,a3⟩:=h 0 (by simp);have a1:v=.ref q:=by simpa using a1
  have hk:k≠[]:=by obtain⟨r,p,xs,e,_⟩:=a3;rw[e];simp
  refine⟨q::qs,k::ks,by rw[a1,e1];rfl,⟨fun p hp=>?_,by rw[YaK,e2.2,Zfu a2]⟩,fun k' hk'=>?_⟩
  ·rcases Yai.mp hp with rfl | hp
   ·exact⟨k,hk,a2⟩
   ·exact e2.1 p hp
  ·rcases Yai.mp hk' with rfl | hk'
   ·exact a3
   ·exact e3 k' hk'
def Zch (ls:List Int) (N:List (List Int)) (ks lf lp:List (List Int)):Prop:=ks.length=ls.length/\lf.Perm (prL ls)/\lf.Pairwise (fun p q=>lxB q p=false)/\lp.Perm (trip 0 N)/\lp.Pairwise (fun p q=>lxB q p=false) /\
 ∀ (t:Nat) f p,lf[t]?=some f->lp[t]?=some p->ks[(f.getD 1 0).toNat]?=some [p.getD 1 0,p.getD 2 0]
def ZcI (K:Yad):Sp:=fun vs H Q _=>∃ (a ll:Addr) (b:Bool) (rs:List Addr) (N:List (List Int)) (ls:List Int),vs=[.ref a,.ref ll]/\H a=some (.tup (rs.map V.ref))/\TTs H rs N/\N.length<=7/\N.flatten.length<=100000/\SqB b K H ll (ls.map V.int)/\ls.length<=N.flatten.length /\
 (∀ l∈ls,YaR l<=8000)/\(∀ xs∈N,∀ z∈xs,YaR z<=8000) /\
 ∀ (t pl:Addr) (qs:List Addr) (ks lf lp:List (List Int)) H',H t=none->H' t=some (.tup [.int (ZaW N ls ks).sum,.ref pl])->H pl=none->H' pl=some (.lst (qs.map V.ref))->TuM H' qs ks->(∀ k∈ks,InN N k)->Zch ls N ks lf lp->Same H H'->Q (.ref t) H'
end Lv
namespace Lv
open PySem L2
def LvsT (H:Hp) (as:List Addr) (L:List (List (List Int))):Prop:=as.length=L.length/\∀ (j:Nat) q N,as[j]?=some q->L[j]?=some N->∃ rs:List Addr,H q=some (.tup (rs.map V.ref))/\TTs H rs N
theorem LvsT.same {H H':Hp}{as:List Addr}{L:List (List (List Int))} (h:LvsT H as L) (s:Same H H'):LvsT H' as L:=⟨h.1,fun j q N a b=>by obtain⟨rs,e1,e2⟩:=h.2 j q N a b;exact⟨rs,s _ _ e1,e2.same s⟩⟩
def Zc8 (ls:List Int) (N:List (List Int)) (R:Int):Prop:=∃ ks lf lp:List (List Int),Zch ls N ks lf lp/\(∀ k∈ks,InN N k)/\R=(ZaW N ls ks).sum
def Fit (ls:List Int) (N:List (List Int)):Prop:=ls.length<=N.flatten.length
def BestOf (ls:List Int) (L:List (List (List Int))) (m:Nat):Option (Int × Nat)->Prop
 | none=>∀ j N,j<m->L[j]?=some N->¬ Fit ls N
 | some (R,n)=>n<m/\(∃ N,L[n]?=some N/\Fit ls N/\Zc8 ls N R)/\∀ j N,j<m->L[j]?=some N->Fit ls N->∃ R',Zc8 ls N R'/\R<=R'/\(j<n->R<R')
theorem BestOf.skip {ls:List Int}{L:List (List (List Int))}{m:Nat}{N:List (List Int)}{o:Option (Int × Nat)} (h:BestOf ls L m o) (e:L[m]?=some N) (hn:¬ Fit ls N):BestOf ls L (m+1) o:=by
 match o,h with
 | none,h=>
  intro j N' hj e' hf;by_cases ej:j=m
  ·subst ej;rw[e] at e';cases e';exact hn hf
  ·exact h j N' (by omega) e' hf
 | some (R,n),⟨h1,h2,h3⟩=>
  refine⟨by omega,h2,fun j N' hj e' hf=>?_⟩;by_cases ej:j=m
  ·subst ej;rw[e] at e';cases e';exact absurd hf hn
  ·exact h3 j N' (by omega) e' hf
theorem BestOf.first {ls:List Int}{L:List (List (List Int))}{m:Nat}{N:List (List Int)}{R:Int} (h:BestOf ls L m none) (e:L[m]?=some N) (hf:Fit ls N) (hr:Zc8 ls N R):BestOf ls L (m+1) (some (R,m)):=by
 refine⟨by omega,⟨N,e,hf,hr⟩,fun j N' hj e' hf'=>?_⟩;by_cases ej:j=m
 ·subst ej;rw[e] at e';cases e';exact⟨R,hr,Ycv _,fun z=>absurd z (Ybe _)⟩
 ·exact absurd hf' (h j N' (by omega) e')
theorem BestOf.better {ls:List Int}{L:List (List (List Int))}{m n:Nat}{N:List (List Int)}{R R':Int} (h:BestOf ls L m (some (R',n))) (e:L[m]?=some N) (hf:Fit ls N) (hr:Zc8 ls N R) (hlt:R<R'):BestOf ls L (m+1) (some (R,m)):=by
 obtain⟨h1,h2,h3⟩:=h;refine⟨by omega,⟨N,e,hf,hr⟩,fun j N' hj e' hf'=>?_⟩;by_cases ej:j=m
 ·subst ej;rw[e] at e';cases e';exact⟨R,hr,Ycv _,fun z=>absurd z (Ybe _)⟩
 ·obtain⟨R2,a,b,_⟩:=h3 j N' (by omega) e' hf';exact⟨R2,a,by omega,fun _=>by omega⟩
theorem BestOf.worse {ls:List Int}{L:List (List (List Int))}{m n:Nat}{N:List (List Int)}{R R':Int} (h:BestOf ls L m (some (R',n))) (e:L[m]?=some N) (hf:Fit ls N) (hr:Zc8 ls N R) (hge:¬ R<R'):BestOf ls L (m+1) (some (R',n)):=by
 obtain⟨h1,h2,h3⟩:=h;refine⟨by omega,h2,fun j N' hj e' hf'=>?_⟩;by_cases ej:j=m
 ·subst ej;rw[e] at e';cases e';exact⟨R,hr,by omega,fun z=>absurd z (by omega)⟩
 ·exact h3 j N' (by omega) e' hf'
end Lv
namespace Lv
open PySem L2
theorem Zia (N:List (List Int)):(N.flatten.length:Int)=(ZcA N).sum:=by
 unfold ZcA
 induction N with
 | nil=>rfl
 | cons xs N ih=>rw[Ya5,Yak,YaK,Ybn,<- ih];omega
end Lv
namespace Lv
open PySem L2
theorem LvsT.lst {H:Hp}{as:List Addr}{L:List (List (List Int))}{l:Addr}{ys zs:List V} (h:LvsT H as L) (e:H l=some (.lst zs)):LvsT (upd H l (.lst ys)) as L:=⟨h.1,fun j q N a b=>by
 obtain⟨rs,e1,e2⟩:=h.2 j q N a b;refine⟨rs,?_,TTs.lst e2 e⟩;rw[Zag fun z=>by rw[z,e] at e1;cases e1];exact e1⟩
theorem LvsT.snoc {H:Hp}{as rs:List Addr}{L:List (List (List Int))}{q:Addr}{N:List (List Int)} (h:LvsT H as L) (e:H q=some (.tup (rs.map V.ref))) (t:TTs H rs N):LvsT H (as++[q]) (L++[N]):=⟨by rw[Yak,Yak,h.1];rfl,fun j x M a b=>by
 rcases Ya7 j as.length with hj | hj
 ·rw[Ya3 hj] at a;rw[Ya3 (by rw[<- h.1];exact hj)] at b;exact h.2 j x M a b
 ·rw[Ya1 hj] at a;rw[Ya1 (by rw[<- h.1];exact hj),<- h.1] at b
  cases e3:j - as.length with
  | zero=>rw[e3] at a b;cases a;cases b;exact⟨rs,e,t⟩
  | succ n=>rw[e3] at a;cases a⟩
end Lv
namespace Lv
open PySem L2
end Lv
namespace Lv
open PySem L2
end Lv
namespace Lv
open PySem L2
theorem Zhr {a b:List Int} (h:a.Perm b):a.sum=b.sum:=by
 induction h with
 | nil=>rfl
 | cons x _ ih=>rw[Ybn,Ybn,ih]
 | swap x y l=>rw[Ybn,Ybn,Ybn,Ybn];omega
 | trans _ _ h1 h2=>exact h1.trans h2
theorem Zgs {ls:List Int}{N ks lf lp:List (List Int)} (h:Zch ls N ks lf lp) (hle:ls.length<=N.flatten.length):(ZaW N ls ks).sum=(YbP (fun f p=>-(f.getD 0 0)*p.getD 0 0) lf lp).sum:=by
 obtain⟨h1,h2,_,h4,_,h6⟩:=h;have e1:ZaW N ls ks=(prL ls).map fun f=>-(f.getD 0 0)*numV N (ks.getD (f.getD 1 0).toNat []):=by
  refine Ybq (by unfold ZaW prL;simp;omega) fun i a b=>?_;have hi:i<ls.length:=by rw[Yab,Zbv] at b;exact b
  have hk:i<ks.length:=by omega
  have hp:(prL ls)[i]?=some [-ls[i],(i:Int)]:=Zhm (Yaa hi);have hp2:(prL ls)[i]'(by rw[Zbv];exact hi)=[-ls[i],(i:Int)]:=(Yae.mp hp).2
  rw[YcZ,hp2];have hz:(ZaW N ls ks)[i]?=some (ls[i]*numV N ks[i]):=by
   unfold ZaW;rw[Yc7,Yaa hi,Yaa hk]
  rw[(Yae.mp hz).2];show ls[i]*numV N ks[i] = -(-ls[i])*numV N (ks.getD ((i:Int)).toNat []);rw[Int.neg_neg,Yba,Yax,Yaa hk];rfl
 have e2:YbP (fun f p=>-(f.getD 0 0)*p.getD 0 0) lf lp=lf.map fun f=>-(f.getD 0 0)*numV N (ks.getD (f.getD 1 0).toNat []):=by
  have l1:lf.length=ls.length:=by rw[h2.length_eq,Zbv]
  have l2:lp.length=N.flatten.length:=by rw[h4.length_eq,Zbo]
  refine Ybq (by simp;omega) fun i a b=>?_;have hi:i<lf.length:=by rw[Yab] at b;exact b
  have hj:i<lp.length:=by omega
  have g:=h6 i lf[i] lp[i] (Yaa hi) (Yaa hj);obtain⟨r,jj,z,xs,ep,hr,hz⟩:=ZbB (h4.mem_iff.mp (Ybg hj));rw[List.getElem_zipWith,YcZ,Yax (l:=ks),g,Ydy,ep];congr 1;show z=numV N [((0+r:Nat):Int),(jj:Int)];unfold numV;simp[Yax,hr,hz]
 rw[e1,e2];exact Zhr (h2.symm.map _)
end Lv
namespace Lv
open PySem L2
def isrt (l:List Int):List Int:=l.mergeSort (fun a b=>decide (a<=b))
def ZkI (l:List Int):List Int:=l.mergeSort (fun a b=>decide (b<=a))
theorem ZhZ {l m:List Int} (h:m.Perm l) (hs:m.Pairwise (·<=·)):m=isrt l:=by
 refine YcJ (le:=(·<=·)) (fun a b _ _ h1 h2=>Int.le_antisymm h1 h2) hs ?_ (h.trans (YeK l _).symm);refine (Yep (fun a b c h1 h2=>?_) (fun a b=>?_) l).imp fun h=>of_decide_eq_true h
 ·have:=of_decide_eq_true h1;have:=of_decide_eq_true h2;exact decide_eq_true (by omega)
 ·by_cases h:a<=b
  ·simp[h]
  ·simp;omega
theorem Zgb {l m:List Int} (h:m.Perm l) (hs:m.Pairwise (· ≥ ·)):m=ZkI l:=by
 refine YcJ (le:=(· ≥ ·)) (fun a b _ _ h1 h2=>Int.le_antisymm h2 h1) hs ?_ (h.trans (YeK l _).symm);refine (Yep (fun a b c h1 h2=>?_) (fun a b=>?_) l).imp fun h=>of_decide_eq_true h
 ·have:=of_decide_eq_true h1;have:=of_decide_eq_true h2;exact decide_eq_true (by omega)
 ·by_cases h:b<=a
  ·simp[h]
  ·simp;omega
def rdF (ls:List Int) (N:List (List Int)):Int:=(YbP (·*·) (isrt N.flatten) (ZkI ls)).sum
theorem ZhN {x y:Int}{a b:List Int} (h:lxB (y::b) (x::a)=false):x<=y:=by
 rw[lxB] at h;by_cases e:y=x
 ·omega
 ·rw[if_neg e] at h;have:=of_decide_eq_false h;omega
theorem ZfS {ls:List Int}{N:List (List Int)}{R:Int} (h:Zc8 ls N R) (hf:Fit ls N):R=rdF ls N:=by
 obtain⟨ks,lf,lp,hs,_,rfl⟩:=h;rw[Zgs hs hf];obtain⟨_,h2,h3,h4,h5,_⟩:=hs;have e1:lp.map (fun t=>t.getD 0 0)=isrt N.flatten:=by
  refine ZhZ ?_ ?_
  ·rw[<- ZfG N 0];exact h4.map _
  ·refine Ya9.mpr (Yb4 (fun {p q} hp hq h=>?_) h5);obtain⟨_,_,_,_,rfl,_⟩:=ZbB (h4.mem_iff.mp hp);obtain⟨_,_,_,_,rfl,_⟩:=ZbB (h4.mem_iff.mp hq);exact ZhN h
 have e2:lf.map (fun f=>-(f.getD 0 0))=ZkI ls:=by
  refine Zgb ?_ ?_
  ·have:(prL ls).map (fun f=>-(f.getD 0 0))=ls:=by
    refine Ybq (by simp[prL]) fun i h1 h2=>?_;simp[prL]
   exact (h2.map _).trans (by rw[this])
  ·refine Ya9.mpr (Yb4 (fun {p q} hp hq h=>?_) h3);obtain⟨_,_,rfl,_⟩:=Zd0 (h2.mem_iff.mp hp);obtain⟨_,_,rfl,_⟩:=Zd0 (h2.mem_iff.mp hq);have:=ZhN h;show (-(-_:Int)) ≥ -(-_);omega
 unfold rdF;rw[<- e1,<- e2,List.zipWith_map];congr 1;rw[List.zipWith_comm];congr 1
 funext p f
 exact Int.mul_comm _ _
def BestG (f:Nat->Option Int) (m:Nat):Option (Int × Nat)->Prop
 | none=>∀ j,j<m->f j=none
 | some (R,n)=>n<m/\f n=some R/\∀ j R',j<m->f j=some R'->R<=R'/\(j<n->R<R')
theorem BestG.one {f:Nat->Option Int}{m:Nat}{R R':Int}{n n':Nat} (h:BestG f m (some (R,n))) (h':BestG f m (some (R',n'))):R=R'/\n=n':=by
 obtain⟨a1,a2,a3⟩:=h;obtain⟨b1,b2,b3⟩:=h';have x:=a3 n' R' b1 b2;have y:=b3 n R a1 a2;refine⟨by omega,?_⟩;rcases YdE n n' with z | z | z
 ·have:=y.2 z;omega
 ·exact z
 ·have:=x.2 z;omega
theorem BestG.skip {f:Nat->Option Int}{m:Nat}{o:Option (Int × Nat)} (h:BestG f m o) (e:f m=none):BestG f (m+1) o:=by
 match o,h with
 | none,h=>
  intro j hj;by_cases ej:j=m
  ·subst ej;exact e
  ·exact h j (by omega)
 | some (R,n),⟨h1,h2,h3⟩=>
  refine⟨by omega,h2,fun j R' hj e'=>?_⟩;by_cases ej:j=m
  ·subst ej;rw[e] at e';cases e'
  ·exact h3 j R' (by omega) e'
theorem BestG.first {f:Nat->Option Int}{m:Nat}{R:Int} (h:BestG f m none) (e:f m=some R):BestG f (m+1) (some (R,m)):=by
 refine⟨by omega,e,fun j R' hj e'=>?_⟩;by_cases ej:j=m
 ·subst ej;rw[e] at e';cases e';exact⟨Ycv _,fun z=>absurd z (Ybe _)⟩
 ·rw[h j (by omega)] at e';cases e'
theorem BestG.better {f:Nat->Option Int}{m n:Nat}{R R':Int} (h:BestG f m (some (R',n))) (e:f m=some R) (hlt:R<R'):BestG f (m+1) (some (R,m)):=by
 obtain⟨h1,h2,h3⟩:=h;refine⟨by omega,e,fun j R2 hj e'=>?_⟩;by_cases ej:j=m
 ·subst ej;rw[e] at e';cases e';exact⟨Ycv _,fun z=>absurd z (Ybe _)⟩
 ·have:=h3 j R2 (by omega) e';exact⟨by omega,fun _=>by omega⟩
theorem BestG.worse {f:Nat->Option Int}{m n:Nat}{R R':Int} (h:BestG f m (some (R',n))) (e:f m=some R) (hge:¬ R<R'):BestG f (m+1) (some (R',n)):=by
 obtain⟨h1,h2,h3⟩:=h;refine⟨by omega,h2,fun j R2 hj e'=>?_⟩;by_cases ej:j=m
 ·subst ej;rw[e] at e';cases e';exact⟨by omega,fun z=>absurd z (by omega)⟩
 ·exact h3 j R2 (by omega) e'
def fitF (ls:List Int) (L:Nat->List (List Int)) (j:Nat):Option Int:=if ls.length<=(L j).flatten.length then some (rdF ls (L j)) else none
theorem BestG.of {ls:List Int}{L:Nat->List (List Int)}{m n:Nat}{R:Int} (h:BestOf ls ((YaO m).map L) m (some (R,n))):BestG (fitF ls L) m (some (R,n)):=by
 obtain⟨h1,⟨N,hN,hf,hr⟩,h3⟩:=h;have at_:∀ j,j<m->((YaO m).map L)[j]?=some (L j):=fun j hj=>by rw[Yal,YeM hj];rfl
 rw[at_ n h1] at hN;cases hN;refine⟨h1,?_,fun j R' hj e=>?_⟩
 ·unfold fitF;unfold Fit at hf;rw[if_pos hf,<- ZfS hr hf]
 ·unfold fitF at e;by_cases hj2:ls.length<=(L j).flatten.length
  ·rw[if_pos hj2] at e;obtain⟨R2,r2,a,b⟩:=h3 j _ hj (at_ j hj) hj2;have:=ZfS r2 hj2;cases e;rw[<- this];exact⟨a,b⟩
  ·rw[if_neg hj2] at e;cases e
end Lv
namespace Lv
open PySem L2
end Lv
namespace Lv
open PySem L2
theorem ZgR {N:List (List Int)}{j:Nat}{xs:List Int} (h:N[j]?=some xs):(N.take (j+1)).flatten=(N.take j).flatten++xs:=by
 rw[Ybf,h,Ybv,Yck];simp
end Lv
namespace Lv
open PySem L2
section
variable {α:Type}
structure Adds (g:List α->Int):Prop where
 nil:g []=0
 app:∀ a b,g (a++b)=g a+g b
def dt (g:List α->Int):List (List α)->List Int->Int
 | r::rs,n::ns=>n*g r+dt g rs ns
 | _,_=>0
def sg (g:List α->Int) (rs:List (List α)):Int:=(rs.map g).sum
def ptR (g:List α->Int):List (List (List α))->List (List Int)->Int
 | R::RR,W::WW=>dt g R W+ptR g RR WW
 | _,_=>0
def es:List Int->(Nat->Int)->Int
 | [],_=>0
 | n::ns,h=>(n+1)*h 0+es ns fun j=>h (j+1)
end
theorem ZeL {p:Nat} (hp:2<=p) (n:Nat):∃ x r,num p n=x::r/\r.length+1=p/\num p (n+1)=(r.map (x.map (·+1)++·))++[x.map (·+1)]:=by
 obtain⟨x,r,e,hr⟩:=ZhE hp n;refine⟨x,r,e,hr,?_⟩;show Zfs (num p n)=_;rw[e];rfl
end Lv
namespace Lv
open PySem L2
end Lv
namespace Lv
open PySem L2
section
variable {S:List Addr}{H H':Hp}{a w:Addr}
end
end Lv
namespace Lv
open PySem L2
section
variable {α:Type}
def ones (RR:List (List (List α))):List (List Int):=RR.map fun R=>R.map fun _=>1
def tl (g:List α->Int) (RR:List (List (List α))):Int:=(RR.map fun R=>sg g R).sum
end
end Lv
namespace Lv
open PySem L2
def phO (p t:Nat):Int:=((p:Int) - t) % ((p:Int)+1)
end Lv
namespace Lv
open PySem L2
def fill (x y:Int):List Bool:=Yau x.toNat false++Yau y.toNat true
def layB (c v:List Int):List (List Bool):=YbP (fun x y=>fill (x - y) y) c v
def lay (p n:Nat):List (List Bool):=layB (cnt p (came p n).1) (came p n).2
end Lv
namespace L2
open PySem PySem.Spec PyProof.Rows
end L2
namespace Lv
open PySem L2
def sel (xs:List Int) (bs:List Bool):List Int:=((xs.zip bs).filter (·.2)).map (·.1)
def ZlW (N:List (List Int)) (B:List (List Bool)):List Int:=(YbP sel N B).flatten
end Lv
namespace Lv
open PySem L2
def opr (D:List Rows):List (List (List Int)):=D.map fun r=>r.map fun c=>c.getD []
def gl (r:List Int):Int:=(r.length:Nat)
def phL (p:Nat):Nat->Nat->List (Int × Int)
 | _,0=>[]
 | t,m+1=>(phO p t,hd p m)::phL p (t+1) m
def SrtD (D:List Rows):Prop:=∀ r∈D,∀ xs:List Int,some xs∈r->xs.Pairwise (·<=·)
def HasR (D:List Rows):Prop:=∃ r∈D,∃ xs:List Int,some xs∈r
def ZlI (o:Int) (s:List Int):Prop:=∃ a:Nat,o=a/\s[a]?=some 0/\∀ (j:Nat) x,s[j]?=some x->j≠a->1<=x
end Lv
namespace L2
open PySem PySem.Spec PyProof.Rows
section
variable {M:Model}{A:Around}{E:Value->Shared->Prop}
end
section
variable {X:Cx}{pins:List (Addr × Obj)}{σ:St}{H H':Hp}{s s':Shared}{scope:Scope}{own:List Str}{js:List Nat}{C:Addr}{fp:List Addr}
structure CompOkK (X:Cx) (scope:Scope) (own:List Str) (js:List Nat):Prop where
 kind:scope.kind=.function
 free:∀ y∈scope.names,y.2=.free->X.env.kindOf y.1=some .cell∨X.env.kindOf y.1=some .free
 names:∀ y∈scope.names,scope.names.lookup y.1=some y.2
 out:∀ j∈js,∃ x,X.N[j]?=some x/\scope.names.lookup x=some .free
end
section
variable {X:Cx}{scope:Scope}{own:List Str}{js:List Nat}{elt iter target:Expr}{ifs:List Expr}{wi:TI}{g:TG}{tt:TT}{te:TE}{pos:Pos}
end
end L2
namespace Lv
open PySem L2
end Lv
namespace Lv
open PySem L2
def fil1:List Bool->List (List Int)->Rows
 | [],_=>[]
 | false::bs,rows=>none::fil1 bs rows
 | true::bs,rows=>some (rows.headD [])::fil1 bs rows.tail
def filB:List (List Bool)->List (List Int)->List Rows
 | [],_=>[]
 | b::B,rows=>fil1 b (rows.take (b.count true))::filB B (rows.drop (b.count true))
def wS (rows:List (List Int)) (ns:List Int):List Int:=YbP (fun r w=>(r.length:Int)*w) rows ns
structure Pl52 (p n:Nat) (B:List (List Bool)) (rows:List (List Int)):Prop where
 pls:Pls (filB B rows++[[]]) (phL p 0 n)
 left:(plR (filB B rows++[[]]) (phL p 0 n)).flatten=[some (srt rows.flatten)]
 read:((rdR (filB B rows++[[]]) (phL p 0 n)).map List.sum).sum=(wS rows (ZlW (num p n) B)).sum
 out:(∀ b∈B,∀ x∈b,x=true)->(∀ r∈rows,r≠[])->∀ (i:Nat) q s,(phL p 0 n)[i]?=some q->(rdR (filB B rows++[[]]) (phL p 0 n))[i]?=some s->ZlI q.1 s
end Lv
namespace Lv
open PySem L2
def Zb7 (p m:Nat):List (List (List Int)):=(YaO m).map (num p)
theorem Zew (p m:Nat):(Zb7 p m).length=m:=by unfold Zb7;simp
theorem Zgp (p m:Nat):Zb7 p (m+1)=Zb7 p m++[num p m]:=by unfold Zb7;rw[YdR,YaC];rfl
theorem Zex {p m n:Nat} (h:n<m):(Zb7 p m)[n]?=some (num p n):=by unfold Zb7;rw[Yal,YeM h];rfl
theorem Zbc (p n:Nat):((num p n).flatten.length:Int)=tot p n:=by
 unfold tot;rw[<- Zcd];have:∀ N:List (List Int),((N.flatten.length:Nat):Int)=(lens N).sum:=fun N=>by
  induction N with
  | nil=>rfl
  | cons x N ih=>
   unfold lens at *;rw[Ya5,Yak,YaK,Ybn];omega
 exact this _
theorem ZdJ {p:Nat} (hp:2<=p):∀ n:Nat,(n:Int)+1<=tot p n
 | 0=>by
  have:=ZcB hp (Yag 0);have h0:tot p 0=1:=by
   rw[<- Zbc];show ((([0]::Yau (p - 1) []:List (List Int)).flatten.length:Nat):Int)=1;simp
  omega
 | n+1=>by
  have:=ZdJ hp n;have:=ZjJ hp n;omega
theorem Zdm {p m:Nat} (h2:2<=p) (h7:p<=7) (h:4000<(num p m).flatten.length):1<=m/\500<=(num p (m - 1)).flatten.length:=by
 have e:=Zbc p m
 cases m with
 | zero=>
  exfalso;have:(num p 0).flatten.length=1:=by
   show ([0]::Yau (p - 1) []:List (List Int)).flatten.length=1;simp
  omega
 | succ m=>
  refine⟨by omega,?_⟩;have e2:=Zbc p m;have e3:=ZfH h2 m;obtain⟨x,y,r,ec,_⟩:=Zeh h2 m;have h1:hd p m<=tot p m:=by
   unfold hd tot;exact ZjZ (ZcD p m).2 (by rw[ec];simp)
  have h0:=Zgd h2 m;have h6:((p - 1:Nat):Int)*hd p m<=6*hd p m:=YdI (by omega) (by omega);show 500<=(num p m).flatten.length;omega
def Zfg (fn:Addr):Sp:=fun vs H Q _=>∃ p:Nat,vs=[.int p,.ref fn]/\2<=p/\p<=7/\∀ (l:Addr) (as:List Addr) (m:Nat) H',H l=none->H' l=some (.lst (as.map V.ref))->LvsT H' as (Zb7 p m)->(∀ i,i<m->(num p i).flatten.length<=4000)->4000<(num p m).flatten.length->Same H H'->Q (.ref l) H'
def BestVP (ls:List Int) (L:List (List (List Int))) (H:Hp):Option (Int × Nat)->V->Prop
 | none,v=>v=.non
 | some (R,n),v=>∃ (t pl:Addr) (qs:List Addr) (N ks lf lp:List (List Int)) ,v=.ref t/\H t=some (.tup [.int R,.int (n:Int),.ref pl])/\H pl=some (.lst (qs.map V.ref))/\TuM H qs ks/\L[n]?=some N/\Zch ls N ks lf lp/\(∀ k∈ks,InN N k)/\Fit ls N/\R=(ZaW N ls ks).sum
theorem BestVP.same {ls:List Int}{L:List (List (List Int))}{H H':Hp}{o:Option (Int × Nat)}{v:V} (h:BestVP ls L H o v) (s:Same H H'):BestVP ls L H' o v:=by
 match o,h with
 | none,h=>exact h
 | some (R,n),⟨t,pl,qs,N,ks,lf,lp,e,q,a,b,r⟩=>exact⟨t,pl,qs,N,ks,lf,lp,e,s _ _ q,s _ _ a,b.same s,r⟩
def ZcL (K:Yad):Sp:=fun vs H Q _=>∃ (lv ll:Addr) (b:Bool) (as:List Addr) (L:List (List (List Int))) (ls:List Int),vs=[.ref lv,.ref ll]/\H lv=some (.lst (as.map V.ref))/\LvsT H as L/\SqB b K H ll (ls.map V.int) /\
 (∀ N∈L,N.length<=7/\N.flatten.length<=100000/\∀ xs∈N,∀ z∈xs,YaR z<=8000)/\(∀ l∈ls,YaR l<=8000)/\∀ (o:Option (Int × Nat)) (v:V) H',BestOf ls L L.length o->BestVP ls L H' o v->Same H H'->Q v H'
def Zkg (K:Yad):Sp:=fun vs H Q _=>∃ (p:Nat) (ll:Addr) (b:Bool) (ls:List Int),vs=[.int p,.ref ll]/\2<=p/\p<=7/\SqB b K H ll (ls.map V.int)/\ls.length<=500/\(∀ l∈ls,YaR l<=8000) /\
 ∀ (t pl:Addr) (qs:List Addr) (ks lf lp:List (List Int)) (n m:Nat) H',H t=none∨True->H' t=some (.tup [.int (ZaW (num p n) ls ks).sum,.int (n:Int),.ref pl])->H' pl=some (.lst (qs.map V.ref))->TuM H' qs ks->Zch ls (num p n) ks lf lp->(∀ k∈ks,InN (num p n) k)->Fit ls (num p n)->tot p n<=4000->n<m->BestOf ls (Zb7 p m) m (some ((ZaW (num p n) ls ks).sum,n))->(∀ i,i<m->tot p i<=4000)->4000<tot p m->Same H H'->Q (.ref t) H'
end Lv
namespace Lv
open PySem L2
def plcT (p:List Int):List Int:=[p.getD 1 0,p.getD 2 0]
theorem Zff {ls:List Int}{N ks lf lp:List (List Int)} (h:Zch ls N ks lf lp) (hle:ls.length<=N.flatten.length):ks.Perm ((lp.take ls.length).map plcT):=by
 obtain⟨h1,h2,_,h4,_,h6⟩:=h;have l1:lf.length=ls.length:=by rw[h2.length_eq,Zbv]
 have l2:lp.length=N.flatten.length:=by rw[h4.length_eq,Zbo]
 have hs:(lf.map fun f=>(f.getD 1 0).toNat).Perm (YaO ls.length):=by
  refine (h2.map _).trans (Ydv ?_);unfold prL;exact Ybq (by simp) fun i h1 h2=>by simp
 have hA:(lf.map fun f=>(f.getD 1 0).toNat).map (fun i=>ks.getD i [])=(lp.take ls.length).map plcT:=by
  refine Ybq (by simp;omega) fun i a b=>?_;have hi:i<lf.length:=by simpa using a
  have hj:i<lp.length:=by omega
  have g:=h6 i lf[i] lp[i] (Yaa hi) (Yaa hj);simp only[YcZ,Yct];rw[Yax,g];rfl
 have hB:(YaO ls.length).map (fun i=>ks.getD i [])=ks:=by
  refine Ybq (by simp;omega) fun i a b=>?_;simp only[YcZ,List.getElem_range];rw[Yax,Yaa b];rfl
 rw[<- hA];exact (Ydv hB.symm).trans (hs.symm.map _)
theorem Zdl:∀ (N:List (List Int)) (k:Nat),((trip k N).map plcT).Nodup/\∀ q∈(trip k N).map plcT,(k:Int)<=q.getD 0 0
 | [],k=>⟨Ydf,fun q hq=>nomatch hq⟩
 | xs::N,k=>by
  obtain⟨i1,i2⟩:=Zdl N (k+1);have e:(ZbR k xs).map plcT=(YaO xs.length).map fun (j:Nat)=>[(k:Int),(j:Int)]:=by
   unfold ZbR;exact Ybq (by simp) fun i h1 h2=>by simp[plcT]
  rw[trip,YaC,e];refine⟨Ydz.mpr ⟨?_,i1,fun a ha b hb z=>?_⟩,fun q hq=>?_⟩
  ·refine Ya9.mpr (YcB.imp fun {a b} hab z=>hab ?_);have:(a:Int)=b:=by simpa using z
   omega
  ·obtain⟨j,_,rfl⟩:=Ya6.mp ha;have:=i2 b hb;rw[<- z] at this;have:((k+1:Nat):Int)<=k:=this;omega
  ·rcases Yan.mp hq with h | h
   ·obtain⟨j,_,rfl⟩:=Ya6.mp h;exact Ycv _
   ·have:=i2 q h;omega
theorem ZeA {ls:List Int}{N ks lf lp:List (List Int)} (h:Zch ls N ks lf lp) (hle:ls.length<=N.flatten.length):ks.Nodup:=by
 refine (Zff h hle).nodup_iff.mpr ?_;obtain⟨_,_,_,h4,_,_⟩:=h;have h5:(lp.map plcT).Nodup:=(h4.map plcT).nodup_iff.mpr (Zdl N 0).1;rw[Ydq];exact h5.sublist (Ye1 _ _)
structure Plcd (N:List (List Int)) (rows:List (List Int)) (ks:List (List Int)) (i:Nat) (D:List Rows):Prop where
 len:D.map Ydj=(N++[[]]).map Ydj
 free:∀ (r j:Nat) xs,N[r]?=some xs->j<xs.length->[(r:Int),(j:Int)] ∉ ks.take i->∃ row,D[r]?=some row/\row[j]?=some none
 all:(allT D).Perm (rows.take i).flatten
 pt:ptR gl (opr D) (N++[[]])=(ZaW N ((rows.take i).map fun r=>(r.length:Int)) (ks.take i)).sum
 srt:(∀ r∈rows,r.Pairwise (·<=·))->SrtD D
 has:1<=i->1<=rows.length->HasR D
end Lv
namespace L2
open PySem PySem.Spec PyProof.Rows PySem.SeqAt
end L2
namespace Lv
open PySem L2
theorem Same.sqB {b:Bool}{K:Yad}{H H':Hp}{a:Addr}{xs:List V} (e:Same H H') (h:SqB b K H a xs):SqB b K H' a xs:=by
 cases b with
 | true=>exact e.seq h
 | false=>exact e.tup h
theorem Zc5 {b:Bool}{K:Yad}{own:List Str}{js:List Nat}{g:TG}{te:TE}{σ:L2.St}{H1:Hp}{Q:VK}{a:Addr}{xs:List V} (ys:List V) (hq:SqB b K H1 a xs) (hl:xs.length=ys.length) (hlen:xs.length<=20000)
  (hs:∀ (i:Nat) x y,xs[i]?=some x->ys[i]?=some y->∀ H,Same H1 H->∀ R:VK,(∀ H',Same H H'->R y H')->g x (blkσ own js σ) H fun τ H4=>te τ H4 R)
  (hd:∀ acc H,H1 acc=none->Same H1 H->H acc=some (.lst ys)->Q (.ref acc) H):Zbh own js g ZdK te σ (ItlB b K a) H1 Q:=by
 refine Zin (b:=b) (K:=K) (a:=a) (xs:=xs) (fun acc i H=>Same H1 H/\H acc=some (.lst (ys.take i))) (fun acc h0=>⟨Same.new h0,Zab⟩) (fun acc i H h0 _ z=>?_) ?_ ?_
 ·exact Same.sqB z.1 hq
 ·rintro acc i x H h0 hx ⟨s1,hacc⟩;have hi:=(Yae.mp hx).1
  have hy:=Yaa (l:=ys) (i:=i) (by omega);refine (cast ?_ (hs i x _ hx hy H s1 (fun y H6=>∃ zs,H6 acc=some (.lst zs)/\zs.length<sizeLine/\(i+1<=xs.length/\(Same H1 (upd H6 acc (.lst (zs++[y])))/\upd H6 acc (.lst (zs++[y])) acc=some (.lst (ys.take (i+1)))))) fun H' s'=>?_))
  ·unfold ZdK;simp only[if_true]
  ·refine⟨_,s' _ _ hacc,?_,hi,(s1.trans s').put h0,?_⟩
   ·rw[sizeLine_eq,YaA];omega
   ·rw[Zab,Ybf,hy];simp
 ·rintro acc H h0 ⟨s1,hacc⟩;rw[hl,YaT] at hacc;exact hd acc H h0 s1 hacc
end Lv
namespace Lv
open PySem L2
end Lv
namespace Lv
open PySem L2
structure Bl (H:Hp) (l pl cl rl tg:Addr) (fs cs:List Int) (T:List Reel) (ts:List Int):Prop where
 hl:H l=some (.lst (fs.map V.int))
 hc:H cl=some (.lst (cs.map V.int))
 hr:H rl=some (.lst (refT T))
 ht:H tg=some (.lst (ts.map V.int))
 hN:NRL H T
 hA:∀ x∈adr T,x≠pl/\x≠rl/\x≠tg
structure Dst (l pl cl rl tg:Addr):Prop where
 lp:l≠pl
 lr:l≠rl
 lt:l≠tg
 cp:cl≠pl
 cr:cl≠rl
 ct:cl≠tg
 rp:rl≠pl
 rt:rl≠tg
 tp:tg≠pl
variable {H H':Hp}{l pl cl rl tg:Addr}{fs cs:List Int}{T:List Reel}{ts:List Int}
end Lv
namespace Lv
open PySem L2
section
variable {K:Yad}
end
end Lv
namespace Fw
open PySem L2
def val (ns:List Int) (p:Int):Int:=ns.getD p.toNat 0
def upto (n:Nat):List Int:=(YaO n).map fun (i:Nat)=>(i:Int)
def there (n:Nat) (r:Int) (w:List Int):List Int:=(upto (min n (w.length+r.toNat))).filter fun p=>!w.contains p
def fits (ns w:List Int) (p:Int):Bool:=w.isEmpty || decide (val ns (w.getLast?.getD 0)<=val ns p)
def cand (ns hs w:List Int):List Int:=if (hs.filter (fits ns w)).isEmpty then hs else hs.filter (fits ns w)
def pick (ns:List Int):List Int->Int
 | []=>0
 | b::c=>(b::c).foldl (fun b p=>if val ns p<val ns b then p else b) b
def writ (ns:List Int) (r:Int):Nat->List Int
 | 0=>[]
 | t+1=>writ ns r t++[pick ns (cand ns (there ns.length r (writ ns r t)) (writ ns r t))]
structure Good (n:Nat) (r:Int) (w:List Int):Prop where
 nd:w.Nodup
 lt:∀ q∈w,0<=q/\q<n/\q+1<w.length+r
def better (ns:List Int) (b p:Int):Int:=if val ns p<val ns b then p else b
end Fw
namespace Fw
open PySem L2
end Fw
namespace Fw
open PySem L2
abbrev Key2:=Nat × Int
def kle (a b:Key2):Prop:=a.1<b.1∨(a.1=b.1/\a.2<=b.2)
def nxtK (k:Option Key2) (v:Int):Key2:=match k with | none=>(0,v) | some (r,l)=>(if v<l then r+1 else r,v)
def Zf7:Option Key2->List Int->List Key2
 | _,[]=>[]
 | k,v::vs=>nxtK k v::Zf7 (some (nxtK k v)) vs
def wk (ns:List Int) (r:Int) (t:Nat):List Key2:=Zf7 none ((writ ns r t).map (val ns))
def lk (ns:List Int) (r:Int) (t:Nat):Option Key2:=(wk ns r t).getLast?
structure Holds (n:Nat) (r:Int) (v:List Int):Prop where
 nd:v.Nodup
 lt:∀ (i:Nat) p,v[i]?=some p->0<=p/\p<n/\p<i+r
end Fw
namespace Lv
open PySem L2 Fw
end Lv
namespace L2
open PySem PySem.Spec PyProof.Rows PySem.SeqAt
end L2
namespace Lv
open PySem L2 Fw
structure Rws3 (H0 H:Hp) (l:Addr) (rf:List Addr) (R:List (List Int)):Prop where
 top:H l=some (.lst (rf.map V.ref))
 rows:LLs H rf R
 own:∀ q∈rf,H0 q=none/\q≠l
 nd:rf.Nodup
end Lv
namespace L2
open PySem PySem.Spec PyProof.Rows PySem.SeqAt
section
variable {X:Cx}
end
end L2
namespace Lv
open PySem L2 Fw
structure HoldsP (n:Nat) (r:Int) (ws:List Int):Prop where
 len:ws.length=n
 nd:ws.Nodup
 rg:∀ p∈ws,0<=p/\p<(n:Int)
 bd:∀ (i:Nat) (p:Int),ws[i]?=some p->p<i+r
structure HoldsT (n:Nat) (r:Int) (ws:List Int) (t:Nat):Prop where
 nd:(ws.take t).Nodup
 rg:∀ p∈ws.take t,0<=p/\p<(n:Int)
 bd:∀ (i:Nat) (p:Int),(ws.take t)[i]?=some p->p<i+r
end Lv
namespace Lv
open PySem L2 Fw
end Lv
namespace Lv
open PySem L2 Fw
structure HI (n:Nat) (r:Int) (ly fs:List Int) (c:Nat):Prop where
 pm:(fs++ly).Perm (upto c)
 bd:∀ (i:Nat) (p:Int),fs[i]?=some p->p<i+r
 cn:c=min n (fs.length+r.toNat)
end Lv
namespace Lv
open PySem L2 Fw
end Lv
namespace Lv
open PySem L2 Fw
end Lv
namespace L2
open PySem PySem.Spec PyProof.Rows PySem.SeqAt
section
variable {X:Cx}{tg:Expr}
end
end L2
namespace L2
open PySem PySem.Spec PyProof.Rows
section
variable {own:List Str}{js:List Nat}{g:TG}{tt:TT}{te:TE}{σ:L2.St}{H1:Hp}{Q:VK}
theorem Zim {b1 b2:Bool}{K:Yad}{a b:Addr}{xs ys:List V} (zs:List V) (hq1:SqB b1 K H1 a xs) (hq2:SqB b2 K H1 b ys) (hl:ys.length<=xs.length) (hz:zs.length=ys.length) (hlen:ys.length<=20000)
  (hs:∀ (i:Nat) x y z,xs[i]?=some x->ys[i]?=some y->zs[i]?=some z->∀ p H,Same H1 H->H p=some (.tup [x,y])->∀ R:VK,(∀ H',Same H H'->R z H')->g (.ref p) (blkσ own js σ) H fun τ H4=>te τ H4 R)
  (hd:∀ acc H,H1 acc=none->Same H1 H->H acc=some (.lst zs)->Q (.ref acc) H):Zbh own js g ZdK te σ (ItzB b1 b2 K a b) H1 Q:=by
 refine Zil (xs:=xs) (ys:=ys) hl (fun acc i H=>Same H1 H/\H acc=some (.lst (zs.take i))) (fun acc h0=>⟨Same.new h0,Zab⟩) (fun acc i H h0 _ z=>⟨Lv.Same.sqB z.1 hq1,Lv.Same.sqB z.1 hq2⟩) ?_ ?_
 ·rintro acc i x y p H h0 hx hy ⟨s1,hacc⟩ hp;have hi:=(Yae.mp hy).1
  have hy':=Yaa (l:=zs) (i:=i) (by omega);have s2:Same H (upd H p (.tup [x,y])):=Same.new hp;refine (cast ?_ (hs i x y _ hx hy hy' p _ (s1.trans s2) Zab (fun y H6=>∃ zs',H6 acc=some (.lst zs')/\zs'.length<sizeLine/\(i+1<=ys.length/\(Same H1 (upd H6 acc (.lst (zs'++[y])))/\upd H6 acc (.lst (zs'++[y])) acc=some (.lst (zs.take (i+1)))))) fun H' s'=>?_))
  ·unfold ZdK;simp only[if_true]
  ·refine⟨_,s' _ _ (s2 _ _ hacc),?_,hi,((s1.trans s2).trans s').put h0,?_⟩
   ·rw[sizeLine_eq,YaA];omega
   ·rw[Zab,Ybf,hy'];simp
 ·rintro acc H h0 ⟨s1,hacc⟩;rw[<- hz,YaT] at hacc;exact hd acc H h0 s1 hacc
theorem Zio {lo:Int}{n:Nat} (zs:List V) (hz:zs.length=n) (hlen:n<=20000)
  (hs:∀ i z,i<n->zs[i]?=some z->∀ H,Same H1 H->∀ R:VK,(∀ H',Same H H'->R z H')->g (.int (lo+(i:Nat))) (blkσ own js σ) H fun τ H4=>te τ H4 R)
  (hd:∀ acc H,H1 acc=none->Same H1 H->H acc=some (.lst zs)->Q (.ref acc) H):Zbh own js g ZdK te σ (Itr lo n) H1 Q:=by
 refine ZdB (fun acc i H=>Same H1 H/\H acc=some (.lst (zs.take i))) (fun acc h0=>⟨Same.new h0,Zab⟩) ?_ fun acc H h0 ⟨s1,hacc⟩=>hd acc H h0 s1 (by rw[hacc,<- hz,YaT]);rintro acc i H h0 hi ⟨s1,hacc⟩;have hy':=Yaa (l:=zs) (i:=i) (by omega);refine (cast ?_ (hs i _ hi hy' H s1 (fun y H6=>∃ zs',H6 acc=some (.lst zs')/\zs'.length<sizeLine/\(i+1<=n/\(Same H1 (upd H6 acc (.lst (zs'++[y])))/\upd H6 acc (.lst (zs'++[y])) acc=some (.lst (zs.take (i+1)))))) fun H' s'=>?_))
 ·unfold ZdK;simp only[if_true]
 ·refine⟨_,s' _ _ hacc,?_,hi,(s1.trans s').put h0,?_⟩
  ·rw[sizeLine_eq,YaA];omega
  ·rw[Zab,Ybf,hy'];simp
end
end L2
namespace Lv
open PySem L2
def Zl2 (p L:Nat):Nat:=if L=0 then 0 else (L - 1) / p+1
def Zmj (p:Nat) (xs:List Int):List (List Int):=(YaO (Zl2 p xs.length)).map fun i=>(xs.drop (i*p)).take p
def Zmi (ns:List Int):List Int:=ns.map fun n=>min n ((ns.length:Int) - 1)
end Lv
namespace Lv
open PySem L2
end Lv
namespace Lv
open PySem L2
end Lv
namespace Lv
open PySem L2
def Zl7 (r:List (List Int)):List Int:=r.getLastD []
def wr (L:List (List (List Int))):List Int:=(L.map Zl7).flatten
end Lv
namespace Lv
open PySem L2
theorem Zjy (xs:List V) (c:Nat):cutV xs none (some (c:Int))=xs.take c:=by
 unfold cutV;show (xs.drop 0).take (HT.sIx xs.length xs.length (some (c:Int)) - 0)=_;rw[HT.sIx_nat,Nat.sub_zero,List.drop_zero];by_cases h:c<=xs.length
 ·rw[YcI h]
 ·rw[Nat.min_eq_right (by omega),YaT,Ybo (by omega)]
end Lv
namespace StT
open PySem PySem.SetTable
def f5 (N x:Nat):Nat:=(x*5+1) % N
def it5 (N:Nat):Nat->Nat->Nat
 | 0,x=>x
 | s+1,x=>it5 N s (f5 N x)
theorem Zeb (N:Nat):∀ (s t x:Nat),it5 N (s+t) x=it5 N t (it5 N s x)
 | 0,t,x=>by rw[YbD];rfl
 | s+1,t,x=>by rw[Nat.succ_add];exact Zeb N s t (f5 N x)
def orb (N:Nat):Nat->Nat->Nat->Nat
 | 0,_,acc=>acc
 | s+1,x,acc=>orb N s (f5 N x) (acc ||| (1 <<< x))
theorem Zhw (N j:Nat):∀ (s x acc:Nat),(orb N s x acc).testBit j=true->acc.testBit j=true∨∃ t,t<s/\it5 N t x=j
 | 0,x,acc,h=>.inl h
 | s+1,x,acc,h=>by
  rcases Zhw N j s _ _ h with h | ⟨t,ht,e⟩
  ·rw[Nat.testBit_or,YdY] at h;rcases h with h | h
   ·exact .inl h
   ·refine .inr ⟨0,YeF _,?_⟩;rw[Nat.one_shiftLeft,Nat.testBit_two_pow] at h;exact of_decide_eq_true h
  ·exact .inr ⟨t+1,by omega,e⟩
theorem Zhf {N:Nat} (h1:orb N N 0 0=2 ^ N - 1) (h2:it5 N N 0=0):∀ i j,i<N->j<N->∃ s,s<N/\it5 N s i=j:=by
 have all:∀ j,j<N->∃ s,s<N/\it5 N s 0=j:=fun j hj=>by
  have:(orb N N 0 0).testBit j=true:=by rw[h1,Nat.testBit_two_pow_sub_one];exact decide_eq_true hj
  rcases Zhw N j N 0 0 this with h | h
  ·simp at h
  ·exact h
 intro i j hi hj;obtain⟨a,ha,ea⟩:=all i hi;obtain⟨b,hb,eb⟩:=all j hj;by_cases hab:a<=b
 ·exact⟨b - a,by omega,by rw[<- ea,<- Zeb,show a+(b - a)=b by omega,eb]⟩
 ·refine⟨N - a+b,by omega,?_⟩;rw[<- ea,<- Zeb,show a+(N - a+b)=N+b by omega,Zeb,h2,eb]
def Msk (m:Nat):Prop:=m=7∨m=31∨m=127∨m=511∨m=2047
theorem ZhH {m:Nat} (h:Msk m):∀ i j,i<m+1->j<m+1->∃ s,s<m+1/\it5 (m+1) s i=j:=by
 rcases h with rfl | rfl | rfl | rfl | rfl
 ·exact Zhf (by decide +kernel) (by decide +kernel)
 ·exact Zhf (by decide +kernel) (by decide +kernel)
 ·exact Zhf (by decide +kernel) (by decide +kernel)
 ·exact Zhf (by decide +kernel) (by decide +kernel)
 ·exact Zhf (by decide +kernel) (by decide +kernel)
def lpI (m:Nat) (h:Int):Nat->Nat × Nat
 | 0=>(bits h % (m+1),bits h)
 | k+1=>leap m (lpI m h k).1 (lpI m h k).2
theorem ZjX (m:Nat) (h:Int):∀ k,(lpI m h k).2=bits h / 32 ^ k
 | 0=>by simp[lpI]
 | k+1=>by
  show (leap m (lpI m h k).1 (lpI m h k).2).2=_;unfold leap;rw[ZjX m h k,Yet,Nat.pow_succ]
theorem ZkV (h:Int):bits h<2 ^ 64:=by
 unfold bits;have h1:=Ybh h (show (2 ^ 64:Int)≠0 by decide);have h2:=Ybi h (show (0:Int)<2 ^ 64 by decide);omega
theorem Zl5 (m:Nat) (h:Int):∀ k,(lpI m h k).1<m+1
 | 0=>Yen _ (YeF _)
 | k+1=>Yen _ (YeF _)
theorem ZkD (m:Nat) (h:Int) (k:Nat):(lpI m h (12+(k+1))).1=f5 (m+1) (lpI m h (12+k)).1:=by
 show (leap m (lpI m h (12+k)).1 (lpI m h (12+k)).2).1=_;unfold leap f5;have:(lpI m h (12+k)).2 / 32=0:=by
  rw[ZjX,Yet,<- Nat.pow_succ];refine Nat.div_eq_of_lt (Yap (ZkV h) ?_);refine Ybz (show 2 ^ 64<=32 ^ 13 by decide) (Nat.pow_le_pow_right (by decide) (by omega))
 rw[this,Ydb]
theorem Zlt (m:Nat) (h:Int):∀ s k,(lpI m h (12+k+s)).1=it5 (m+1) s (lpI m h (12+k)).1
 | 0,k=>rfl
 | s+1,k=>by
  rw[it5,<- ZkD,show 12+k+(s+1)=12+(k+1)+s by omega];exact Zlt m h s (k+1)
theorem Zf4 {m:Nat} (hm:Msk m) (h:Int) (j:Nat) (hj:j<m+1):∃ k,k<turns m/\(lpI m h k).1=j:=by
 obtain⟨s,hs,e⟩:=ZhH hm (lpI m h (12+0)).1 j (Zl5 m h _) hj;exact⟨12+s,by unfold turns;omega,by have:=Zlt m h s 0;rw[e] at this;exact this⟩
def adv (m:Nat) (p:Probe):Probe :=
 if p.more > 0 then { p with j:=p.j+1,more:=p.more - 1 } else
 let (i,perturb):=leap m p.i p.perturb
 { p with j:=i,more:=runEnd m i - i,i,perturb }
def pst (m:Nat) (h:Int):Probe:={ j:=bits h % (m+1),more:=runEnd m (bits h % (m+1)) - bits h % (m+1),i:=bits h % (m+1),perturb:=bits h,dummy:=none }
def pth (m:Nat) (h:Int):Nat->Probe
 | 0=>pst m h
 | n+1=>adv m (pth m h n)
theorem ZcO (m:Nat) (h:Int):∀ n,(pth m h n).dummy=none
 | 0=>rfl
 | n+1=>by
  show (adv m (pth m h n)).dummy=none;unfold adv;split
  ·exact ZcO m h n
  ·exact ZcO m h n
def ZgX (m:Nat) (h:Int) (n k:Nat):Prop:=(pth m h n).j=(lpI m h k).1/\(pth m h n).i=(lpI m h k).1/\(pth m h n).perturb=(lpI m h k).2/\(pth m h n).more=runEnd m (lpI m h k).1 - (lpI m h k).1
theorem Zkk (m i:Nat):runEnd m i - i<=9:=by unfold runEnd;split <;> omega
theorem Zgc {m:Nat}{h:Int}{n k:Nat} (a:ZgX m h n k):∀ q,q<=runEnd m (lpI m h k).1 - (lpI m h k).1->(pth m h (n+q)).j=(lpI m h k).1+q/\(pth m h (n+q)).i=(lpI m h k).1/\(pth m h (n+q)).perturb=(lpI m h k).2/\(pth m h (n+q)).more=runEnd m (lpI m h k).1 - (lpI m h k).1 - q
 | 0,_=>⟨by rw[Ydb,Ydb];exact a.1,a.2.1,a.2.2.1,a.2.2.2⟩
 | q+1,hq=>by
  obtain⟨b1,b2,b3,b4⟩:=Zgc a q (by omega);have e:pth m h (n+(q+1))=adv m (pth m h (n+q)):=rfl;have hp:(pth m h (n+q)).more > 0:=by omega
  rw[e];unfold adv;rw[if_pos hp];exact⟨by dsimp only;omega,b2,b3,by dsimp only;omega⟩
theorem Zf3 {m:Nat}{h:Int}{n k:Nat} (a:ZgX m h n k):ZgX m h (n+(runEnd m (lpI m h k).1 - (lpI m h k).1)+1) (k+1):=by
 obtain⟨b1,b2,b3,b4⟩:=Zgc a _ (Yag _);have e:pth m h (n+(runEnd m (lpI m h k).1 - (lpI m h k).1)+1)=adv m (pth m h (n+(runEnd m (lpI m h k).1 - (lpI m h k).1))):=rfl;have hp:¬ (pth m h (n+(runEnd m (lpI m h k).1 - (lpI m h k).1))).more > 0:=by omega
 unfold ZgX;rw[e];unfold adv;rw[if_neg hp,b2,b3];exact⟨rfl,rfl,rfl,rfl⟩
theorem Zj8 (m:Nat) (h:Int):∀ k,∃ n,n<=10*k/\ZgX m h n k
 | 0=>⟨0,Yag _,rfl,rfl,rfl,rfl⟩
 | k+1=>by
  obtain⟨n,hn,a⟩:=Zj8 m h k;exact⟨_,by have:=Zkk m (lpI m h k).1;omega,Zf3 a⟩
theorem ZkB {m:Nat} (hm:Msk m) (h:Int) (j:Nat) (hj:j<m+1):∃ n,n<10*turns m/\(pth m h n).j=j:=by
 obtain⟨k,hk,e⟩:=Zf4 hm h j hj;obtain⟨n,hn,a⟩:=Zj8 m h k;exact⟨n,by omega,a.1.trans e⟩
theorem ZfU {m:Nat} (h:Int):∀ n,(pth m h n).j<m+1/\(pth m h n).j+(pth m h n).more<=m
 | 0=>by
  have:=Yen (bits h) (show 0<m+1 by omega);show bits h % (m+1)<m+1/\bits h % (m+1)+(runEnd m (bits h % (m+1)) - bits h % (m+1))<=m;unfold runEnd;split <;> omega
 | n+1=>by
  obtain⟨a,b⟩:=ZfU (m:=m) h n;show (adv m (pth m h n)).j<m+1/\(adv m (pth m h n)).j+(adv m (pth m h n)).more<=m;unfold adv;split
  ·dsimp only;omega
  ·have:=Yen ((pth m h n).i*5+1+(pth m h n).perturb / 32) (show 0<m+1 by omega);dsimp only[leap];unfold runEnd;split <;> omega
end StT
namespace StT
open PySem PySem.SetTable
def Rise (xs:Array Nat):Prop:=xs.toList.Pairwise (·<·)
theorem Rise.lt {xs:Array Nat} (h:Rise xs) {i j:Nat} (hij:i<j) (hj:j<xs.size):xs.getD i 0<xs.getD j 0:=by
 have hi:i<xs.size:=by omega
 have:=YcR.mp h i j (by simpa using hi) (by simpa using hj) hij;simpa[YbE,hi,hj] using this
theorem Zen {xs:Array Nat} (hr:Rise xs) (j:Nat):∀ (fuel lo hi:Nat),hi - lo<=fuel->lo<=hi->hi<=xs.size->(∀ i,i<lo->xs.getD i 0<j)->(∀ i,hi<=i->i<xs.size->j<=xs.getD i 0) ->
  ∃ r,below.go xs j fuel lo hi=r/\r<=xs.size/\(∀ i,i<r->xs.getD i 0<j)/\∀ i,r<=i->i<xs.size->j<=xs.getD i 0
 | 0,lo,hi,hf,h1,h2,a,b=>⟨lo,rfl,by omega,a,fun i h=>b i (by omega)⟩
 | fuel+1,lo,hi,hf,h1,h2,a,b=>by
  unfold below.go;by_cases hlt:lo<hi
  ·rw[if_pos hlt];dsimp only;by_cases hm:xs.getD ((lo+hi) / 2) j<j
   ·rw[if_pos hm];have hs:(lo+hi) / 2<xs.size:=by omega
    have hm:xs.getD ((lo+hi) / 2) 0<j:=by simpa[YbE,hs] using hm
    refine Zen hr j fuel _ _ (by omega) (by omega) h2 (fun i hi'=>?_) b;by_cases e:i=(lo+hi) / 2
    ·rw[e];exact hm
    ·exact Nat.lt_trans (hr.lt (by omega) hs) hm
   ·rw[if_neg hm];have hs:(lo+hi) / 2<xs.size:=by omega
    have hm:¬ xs.getD ((lo+hi) / 2) 0<j:=by simpa[YbE,hs] using hm
    refine Zen hr j fuel _ _ (by omega) (by omega) (by omega) a (fun i hi' hi2=>?_);by_cases e:i=(lo+hi) / 2
    ·rw[e];omega
    ·have:=hr.lt (show (lo+hi) / 2<i by omega) hi2;omega
  ·rw[if_neg hlt];exact⟨lo,rfl,by omega,a,fun i h=>b i (by omega)⟩
theorem ZbK {xs:Array Nat} (hr:Rise xs) (j:Nat):below xs j<=xs.size/\(∀ i,i<below xs j->xs.getD i 0<j)/\∀ i,below xs j<=i->i<xs.size->j<=xs.getD i 0:=by
 obtain⟨r,e,h⟩:=Zen hr j xs.size 0 xs.size (by omega) (by omega) (Yag _) (fun i h=>absurd h (Ybp _)) (fun i h h2=>by omega);unfold below;rw[e];exact h
theorem ZbL {xs:Array Nat} (hr:Rise xs) {i j:Nat} (h:xs[i]?=some j):below xs j=i:=by
 obtain⟨b1,b2,b3⟩:=ZbK hr j;have hi:i<xs.size:=(YaS.mp h).1
 have e:xs.getD i 0=j:=by simp[YbE,hi];exact (YaS.mp h).2
 rcases YdE (below xs j) i with z | z | z
 ·have:=b3 (below xs j) (Yag _) (by omega);have:=hr.lt z hi;omega
 ·exact z
 ·have:=b2 i z;omega
theorem Zgj {xs:Array Nat} (hr:Rise xs) {j:Nat} (h:j∈xs.toList):xs[below xs j]?=some j:=by
 obtain⟨i,hi,e⟩:=Ybk h;have hx:xs[i]?=some j:=by
  rw[<- Yaf,Yaa hi,e]
 rw[ZbL hr hx];exact hx
theorem ZeB {t:SetTable} (hr:Rise t.place) {j i:Nat} (h:t.place[i]?=some j):t.slot j=.live i:=by
 unfold YeW;dsimp only;rw[ZbL hr h,h];simp
theorem Zgv {t:SetTable} (hr:Rise t.place) (hd:t.dummies=#[]) {j:Nat} (h:j ∉ t.place.toList):t.slot j=.empty:=by
 unfold YeW;dsimp only;have:(t.place[below t.place j]? == some j)=false:=by
  refine Ye7.mpr fun z=>h ?_;have z:=eq_of_beq z;rw[<- Yaf] at z;exact Yaw z
 rw[this,hd];rfl
theorem Zgw {t:SetTable} (hr:Rise t.place) (hd:t.dummies=#[]) (j:Nat):(j ∉ t.place.toList/\t.slot j=.empty)∨∃ i,t.place[i]?=some j/\t.slot j=.live i:=by
 by_cases h:j∈t.place.toList
 ·exact .inr ⟨_,Zgj hr h,ZeB hr (Zgj hr h)⟩
 ·exact .inl ⟨h,Zgv hr hd h⟩
structure Tab (t:SetTable) (es:Array (Int × Value)):Prop where
 msk:Msk t.mask
 rise:Rise t.place
 dm:t.dummies=#[]
 sz:t.place.size=es.size
 few:es.size*5<t.mask*3
 le:∀ j∈t.place.toList,j<=t.mask
 chain:∀ (i:Nat) j e,t.place[i]?=some j->es[i]?=some e->∃ n,(pth t.mask e.1 n).j=j/\∀ m,m<n->(pth t.mask e.1 m).j∈t.place.toList
theorem Tab.msk1 {t:SetTable}{es:Array (Int × Value)} (T:Tab t es):7<=t.mask/\t.mask<=2047:=by
 rcases T.msk with h | h | h | h | h <;> omega
theorem Tab.fits {t:SetTable}{es:Array (Int × Value)} (T:Tab t es):t.fits es.size=true:=by
 have:=T.few;have:=T.msk1;unfold YeX YdP;rw[T.dm,T.sz];simp;omega
theorem Tab.odd {t:SetTable}{es:Array (Int × Value)} (T:Tab t es):t.gaveWay=false:=by
 unfold SetTable.gaveWay;rcases T.msk with h | h | h | h | h <;> rw[h] <;> rfl
theorem Tab.room {t:SetTable}{es:Array (Int × Value)} (T:Tab t es):∃ j,j<t.mask+1/\j ∉ t.place.toList:=by
 refine YcD fun z=>?_;have hall:∀ j,j<t.mask+1->j∈t.place.toList:=fun j hj=>YcD fun y=>z ⟨j,hj,y⟩;have hsub:(YaO (t.mask+1)).length<=t.place.toList.length:=by
  refine List.Nodup.length_le_of_subset YcB fun j hj=>hall j (Ya2.mp hj)
 have:=T.few;have:=T.msk1;rw[Ycc,Yao,T.sz] at hsub;omega
theorem Tab.free {t:SetTable}{es:Array (Int × Value)} (T:Tab t es) (h:Int):∃ n,n<10*turns t.mask/\(pth t.mask h n).j ∉ t.place.toList/\∀ m,m<n->(pth t.mask h m).j∈t.place.toList:=by
 obtain⟨j,hj,hn⟩:=T.room;obtain⟨n0,h0,e0⟩:=ZkB T.msk h j hj;have key:∀ k,(∀ m,m<k->(pth t.mask h m).j∈t.place.toList)∨∃ n,n<k/\(pth t.mask h n).j ∉ t.place.toList/\∀ m,m<n->(pth t.mask h m).j∈t.place.toList:=by
  intro k
  induction k with
  | zero=>exact .inl fun m hm=>absurd hm (Ybp _)
  | succ k ih=>
   rcases ih with h1 | ⟨n,a,b,c⟩
   ·by_cases hk:(pth t.mask h k).j∈t.place.toList
    ·exact .inl fun m hm=>by
      rcases Ya7 m k with z | z
      ·exact h1 m z
      ·rw[show m=k by omega];exact hk
    ·exact .inr ⟨k,Ybr _,hk,h1⟩
   ·exact .inr ⟨n,by omega,b,c⟩
 rcases key (n0+1) with h1 | ⟨n,a,b,c⟩
 ·exact absurd (h1 n0 (Ybr _)) (by rw[e0];exact hn)
 ·exact⟨n,by omega,b,c⟩
theorem ZfX {t:SetTable} (hr:Rise t.place) (hd:t.dummies=#[]) (ha:Nat->Int) (h:Int) {N:Nat} (hN:(pth t.mask h N).j ∉ t.place.toList) :
  ∀ (fuel n:Nat),n<=N->N<n+fuel->∃ m,n<=m/\m<=N/\(∀ l,n<=l->l<m->∀ i,t.place[i]?=some (pth t.mask h l).j->ha i≠h) /\
   (((pth t.mask h m).j ∉ t.place.toList/\YbL t ha h fuel (pth t.mask h n)=some (.empty (pth t.mask h m).j none)) ∨
    ∃ i,t.place[i]?=some (pth t.mask h m).j/\ha i=h/\m<N/\YbL t ha h fuel (pth t.mask h n)=some (.candidate (pth t.mask h m).j i (pth t.mask h (m+1))))
 | 0,n,h1,h2=>by omega
 | fuel+1,n,h1,h2=>by
  rcases Zgw hr hd (pth t.mask h n).j with ⟨hn,e⟩ | ⟨i,hi,e⟩
  ·refine⟨n,Yag _,h1,fun l a b=>by omega,.inl ⟨hn,?_⟩⟩;unfold YbL;rw[e];dsimp only;rw[ZcO]
  ·have hin:(pth t.mask h n).j∈t.place.toList:=by
    rw[<- Yaf] at hi;exact Yaw hi
   have hne:n≠N:=fun z=>hN (z ▸ hin);by_cases hh:ha i=h
   ·refine⟨n,Yag _,h1,fun l a b=>by omega,.inr ⟨i,hi,hh,by omega,?_⟩⟩;unfold YbL;rw[e];dsimp only;rw[if_pos (by simpa using hh)];rfl
   ·obtain⟨m,m1,m2,m3,m4⟩:=ZfX hr hd ha h hN fuel (n+1) (by omega) (by omega);have e2:YbL t ha h (fuel+1) (pth t.mask h n)=YbL t ha h fuel (pth t.mask h (n+1)):=by
     conv=>lhs;unfold YbL
     rw[e];dsimp only;rw[if_neg (by simpa using hh)];rfl
    refine⟨m,by omega,m2,fun l a b i' hi'=>?_,?_⟩
    ·by_cases z:l=n
     ·subst z;have b1:=ZbL hr hi;have b2:=ZbL hr hi';have:i=i':=by omega
      rw[<- this];exact hh
     ·exact m3 l (by omega) b i' hi'
    ·rw[e2];exact m4
end StT
namespace StT
open PySem PySem.SetTable
theorem Zau {α:Type} (xs:Array α) (p:Nat) (x:α):(insertAt xs p x).toList=xs.toList.take p++x::xs.toList.drop p:=by
 unfold insertAt;simp[List.extract_eq_take_drop,Ybo]
theorem Zj9 {α β:Type}{a:List α}{b:List β} (h:a.length=b.length) (p:Nat) (x:α) (y:β):∀ q∈(a.take p++x::a.drop p).zip (b.take p++y::b.drop p),q=(x,y)∨q∈a.zip b:=by
 intro q hq;have h1:(a.take p).length=(b.take p).length:=by rw[YaA,YaA,h]
 rw[List.zip_append h1,YcM,Yan,Yai] at hq;have e:a.zip b=(a.take p).zip (b.take p)++(a.drop p).zip (b.drop p):=by
  rw[<- List.zip_append h1,YaJ,YaJ]
 rw[e,Yan];rcases hq with hq | hq | hq
 ·exact .inr (.inl hq)
 ·exact .inl hq
 ·exact .inr (.inr hq)
theorem Zkb {α β:Type}{a:Array α}{b:Array β}{i:Nat}{x:α}{y:β} (h1:a[i]?=some x) (h2:b[i]?=some y):(x,y)∈a.toList.zip b.toList:=by
 rw[<- Yaf] at h1 h2;exact Yaw (Yd9.mpr ⟨h1,h2⟩)
theorem Zka {α β:Type}{a:Array α}{b:Array β}{x:α}{y:β} (h:(x,y)∈a.toList.zip b.toList):∃ i:Nat,a[i]?=some x/\b[i]?=some y:=by
 obtain⟨i,hi⟩:=YbR.mp h;obtain⟨h1,h2⟩:=Yd9.mp hi;exact⟨i,by rw[<- Yaf];exact h1,by rw[<- Yaf];exact h2⟩
theorem Zhk {t:SetTable} (hd:t.dummies=#[]) (j:Nat):t.put j=({ t with place:=insertAt t.place (below t.place j) j },below t.place j):=by
 unfold SetTable.put;dsimp only;rw[hd];have:has #[] j=false:=rfl;rw[this];simp[hd]
theorem Tab.put {t:SetTable}{es:Array (Int × Value)} (T:Tab t es) {h:Int}{x:Value}{n:Nat} (hn:(pth t.mask h n).j ∉ t.place.toList) (hb:∀ m,m<n->(pth t.mask h m).j∈t.place.toList) (hf:¬ (es.size+1)*5 ≥ t.mask*3) :
  Tab (t.put (pth t.mask h n).j).1 (insertAt es (t.put (pth t.mask h n).j).2 (h,x)):=by
 rw[Zhk T.dm];dsimp only;obtain⟨b1,b2,b3⟩:=ZbK T.rise (pth t.mask h n).j;generalize hp:below t.place (pth t.mask h n).j=p at b1 b2 b3 ⊢;have hj:=(ZfU (m:=t.mask) h n).1
 generalize hJ:(pth t.mask h n).j=j at hn b2 b3 hj ⊢;have mem':∀ y,y∈(insertAt t.place p j).toList↔y=j∨y∈t.place.toList:=fun y=>by
  rw[Zau,Yan,Yai]
  conv=>rhs;rw[<- YaJ p t.place.toList,Yan]
  constructor
  ·rintro (h | h | h)
   ·exact .inr (.inl h)
   ·exact .inl h
   ·exact .inr (.inr h)
  ·rintro (h | h | h)
   ·exact .inr (.inl h)
   ·exact .inl h
   ·exact .inr (.inr h)
 have ge:∀ i,i<t.place.size->t.place.getD i 0∈t.place.toList:=fun i hi=>by simp[YbE,hi]
 refine⟨T.msk,?_,T.dm,?_,?_,?_,?_⟩
 ·show (insertAt t.place p j).toList.Pairwise (·<·);rw[Zau,YaM,YbQ];have hr:t.place.toList.Pairwise (·<·):=T.rise;refine⟨hr.take,⟨fun y hy=>?_,hr.drop⟩,fun a ha b hb2=>?_⟩
  ·obtain⟨i,hi,rfl⟩:=Ybk hy;rw[Ybm,Yao] at hi;have h3:=b3 (p+i) (by omega) (by omega);have h4:=ge (p+i) (by omega);rw[YcT];have e:t.place.getD (p+i) 0=t.place.toList[p+i]'(by simpa using (show p+i<t.place.size by omega)):=by simp[YbE,show p+i<t.place.size by omega]
   rw[<- e];refine Nat.lt_of_le_of_ne h3 fun z=>hn ?_;rw[z];exact h4
  ·obtain⟨i,hi,rfl⟩:=Ybk ha;rw[YaA,Yao] at hi;have h3:=b2 i (by omega);rw[Yct];have e:t.place.getD i 0=t.place.toList[i]'(by simpa using (show i<t.place.size by omega)):=by simp[YbE,show i<t.place.size by omega]
   rw[<- e];rcases Yai.mp hb2 with rfl | hb2
   ·exact h3
   ·obtain⟨i2,hi2,rfl⟩:=Ybk hb2;rw[Ybm,Yao] at hi2;have h5:=b3 (p+i2) (by omega) (by omega);rw[YcT];have e2:t.place.getD (p+i2) 0=t.place.toList[p+i2]'(by simpa using (show p+i2<t.place.size by omega)):=by simp[YbE,show p+i2<t.place.size by omega]
    rw[<- e2];omega
 ·have hs:=T.sz;rw[<- Yao,<- Yao,Zau,Zau];simp only[Yak,Ya0,YaA,Ybm,Yao];omega
 ·rw[<- Yao,Zau];have hs:=T.sz;simp only[Yak,Ya0,YaA,Ybm,Yao];show _<t.mask*3;omega
 ·intro y hy;rcases (mem' y).mp hy with rfl | hy
  ·show _<=t.mask;omega
  ·exact T.le y hy
 ·intro i j' e h1 h2;have hz:=Zkb h1 h2;rw[Zau,Zau] at hz;rcases Zj9 (show t.place.toList.length=es.toList.length by simpa using T.sz) p j (h,x) _ hz with hz | hz
  ·cases hz;exact⟨n,hJ,fun m hm=>(mem' _).mpr (.inr (hb m hm))⟩
  ·obtain⟨i2,e1,e2⟩:=Zka hz;obtain⟨n2,a,b⟩:=T.chain i2 j' e e1 e2;exact⟨n2,a,fun m hm=>(mem' _).mpr (.inr (b m hm))⟩
def Occ (ow:Array (Option Nat)) (j:Nat):Prop:=∃ l,ow[j]?=some (some l)
theorem Zh7 {ow:Array (Option Nat)}{j:Nat} (hj:j<ow.size):(ow.getD j (some 0)).isNone=true↔ow[j]?=some none:=by
 simp[YbE,hj]
theorem ZjW {ow:Array (Option Nat)}{j:Nat} (hj:j<ow.size) (h:¬ (ow.getD j (some 0)).isNone=true):Occ ow j:=by
 rw[Zh7 hj] at h
 cases e:ow[j] with
 | none=>exact absurd (by rw[YaL hj,e]) h
 | some l=>exact⟨l,by rw[YaL hj,e]⟩
theorem ZeV {m:Nat}{h:Int}{ow:Array (Option Nat)} (hs:ow.size=m+1) {k':Nat} (hk':ow[(lpI m h k').1]?=some none):∀ (fuel k n:Nat),ZgX m h n k->(∀ l,l<n->Occ ow (pth m h l).j)->k<=k'->k'<k+fuel ->
  ∃ j N,layClean.free m ow fuel (lpI m h k).1 (lpI m h k).2=some j/\(pth m h N).j=j/\ow[j]?=some none/\∀ l,l<N->Occ ow (pth m h l).j
 | 0,k,n,a,b,h1,h2=>by omega
 | fuel+1,k,n,a,b,h1,h2=>by
  unfold layClean.free
  cases e:(YaO (runEnd m (lpI m h k).1+1 - (lpI m h k).1)).find? fun q=>(ow.getD ((lpI m h k).1+q) (some 0)).isNone with
  | some q=>
   obtain⟨q1,q2,q3⟩:=List.find?_range_eq_some.mp e;have q2:=Ya2.mp q2;have hle:(lpI m h k).1<=runEnd m (lpI m h k).1:=by unfold runEnd;split <;> omega
   have at_:∀ r,r<=q->(pth m h (n+r)).j=(lpI m h k).1+r:=fun r hr=>(Zgc a r (by omega)).1
   have bd:∀ r,r<=q->(lpI m h k).1+r<ow.size:=fun r hr=>by
    rw[hs,<- at_ r hr];exact (ZfU (m:=m) h _).1
   refine⟨_,n+q,rfl,at_ q (Yag _),(Zh7 (bd q (Yag _))).mp q1,fun l hl=>?_⟩;rcases Ya7 l n with z | z
   ·exact b l z
   ·have:=q3 (l - n) (by omega);rw[show l=n+(l - n) by omega,at_ (l - n) (by omega)];exact ZjW (bd _ (by omega)) fun y=>by rw[y] at this;exact absurd this (by decide)
  | none=>
   have e:=List.find?_range_eq_none.mp e;have hle:(lpI m h k).1<=runEnd m (lpI m h k).1:=by unfold runEnd;split <;> omega
   have occr:∀ r,r<=runEnd m (lpI m h k).1 - (lpI m h k).1->Occ ow (pth m h (n+r)).j:=fun r hr=>by
    have h3:=(Zgc a r hr).1
    have h4:=(ZfU (m:=m) h (n+r)).1
    have h5:=e r (by omega);rw[h3] at h4 ⊢;exact ZjW (by omega) fun y=>by rw[y] at h5;exact absurd h5 (by decide)
   have hkk:k≠k':=fun z=>by
    subst z;obtain⟨l,hl⟩:=occr 0 (YaP _);rw[Ydb,a.1,hk'] at hl;cases hl
   exact ZeV hs hk' fuel (k+1) _ (Zf3 a) (fun l hl=>by
    rcases Ya7 l n with z | z
    ·exact b l z
    ·rw[show l=n+(l - n) by omega];exact occr (l - n) (by omega)) (by omega) (by omega)
structure Own (m:Nat) (hs:List Int) (ow:Array (Option Nat)):Prop where
 sz:ow.size=m+1
 hit:∀ l:Nat,l<hs.length->∃ j:Nat,ow[j]?=some (some l)
 own:∀ (j l:Nat),ow[j]?=some (some l)->∃ h,hs[l]?=some h/\∃ n,(pth m h n).j=j/\∀ q,q<n->Occ ow (pth m h q).j
 inj:∀ (j j' l:Nat),ow[j]?=some (some l)->ow[j']?=some (some l)->j=j'
theorem Own.start (m:Nat):Own m [] (Array.replicate (m+1) none):=by
 refine⟨by simp,fun l h=>absurd h (Ybp _),fun j l h=>?_,fun j j' l h=>?_⟩
 ·rw[Yef] at h;split at h <;> simp at h
 ·rw[Yef] at h;split at h <;> simp at h
theorem Own.room {m:Nat}{hs:List Int}{ow:Array (Option Nat)} (O:Own m hs ow) (hl:hs.length<m+1):∃ j:Nat,j<m+1/\ow[j]?=some none:=by
 refine YcD fun z=>?_;have hall:∀ j:Nat,j<m+1->∃ l:Nat,l<hs.length/\ow[j]?=some (some l):=fun j hj=>by
  have hj':j<ow.size:=by rw[O.sz];exact hj
  cases e:ow[j] with
  | none=>exact absurd ⟨j,hj,by rw[YaL hj',e]⟩ z
  | some l=>
   have e2:ow[j]?=some (some l):=by rw[YaL hj',e]
   obtain⟨h,hh,_⟩:=O.own j l e2;exact⟨l,(Yae.mp hh).1,e2⟩
 let f:Nat->Nat:=fun j=>((ow.getD j none).getD 0)
 have fv:∀ j:Nat,j<m+1->ow[j]?=some (some (f j))/\f j<hs.length:=fun j hj=>by
  obtain⟨l,hl,e⟩:=hall j hj;have hj':j<ow.size:=by rw[O.sz];exact hj
  have:f j=l:=by
   show (ow.getD j none).getD 0=l;rw[YaL hj'] at e;have e:=YaD e;simp[YbE,hj',e]
  rw[this];exact⟨e,hl⟩
 have nd:((YaO (m+1)).map f).Nodup:=by
  rw[Yd5,Ya9];refine Yb4 (fun {a b} ha hb hab z=>hab ?_) YcB;have h1:=(fv a (Ya2.mp ha)).1
  have h2:=(fv b (Ya2.mp hb)).1
  rw[<- z] at h2;exact O.inj a b _ h1 h2
 have:=nd.length_le_of_subset (l₂:=YaO hs.length) fun y hy=>by
  obtain⟨j,hj,rfl⟩:=Ya6.mp hy;exact Ya2.mpr (fv j (Ya2.mp hj)).2
 rw[Yab,Ycc,Ycc] at this;omega
theorem Own.step {m:Nat} (hm:Msk m) {hs:List Int}{ow:Array (Option Nat)} (O:Own m hs ow) (hl:hs.length<m+1) (h:Int):∃ j,layClean.free m ow (turns m) (bits h % (m+1)) (bits h)=some j/\Own m (hs++[h]) (ow.setIfInBounds j (some hs.length)):=by
 obtain⟨j0,hj0,e0⟩:=O.room hl;obtain⟨k',hk',ek'⟩:=Zf4 hm h j0 hj0;obtain⟨j,N,f1,f2,f3,f4⟩:=ZeV O.sz (h:=h) (by rw[ek'];exact e0) (turns m) 0 0 ⟨rfl,rfl,rfl,rfl⟩ (fun l hl=>absurd hl (Ybp _)) (YaP _) (by omega);have hjs:j<ow.size:=(YaS.mp f3).1
 refine⟨j,f1,?_⟩;have get:∀ i:Nat,(ow.setIfInBounds j (some hs.length))[i]?=if j=i then some (some hs.length) else ow[i]?:=fun i=>by
  rw[Array.getElem?_setIfInBounds];by_cases z:j=i
  ·subst z;rw[if_pos rfl,if_pos hjs,if_pos rfl]
  ·rw[if_neg z,if_neg z]
 have occ':∀ i,Occ ow i->Occ (ow.setIfInBounds j (some hs.length)) i:=fun i ⟨l,e⟩=>by
  by_cases z:j=i
  ·exact⟨hs.length,by rw[get,if_pos z]⟩
  ·exact⟨l,by rw[get,if_neg z];exact e⟩
 refine⟨by rw[Array.size_setIfInBounds];exact O.sz,fun l hl2=>?_,fun i l hi=>?_,fun i i' l h1 h2=>?_⟩
 ·rw[Yak] at hl2;by_cases z:l=hs.length
  ·exact⟨j,by rw[get,if_pos rfl,z]⟩
  ·obtain⟨i,hi⟩:=O.hit l (by simp at hl2;omega);refine⟨i,?_⟩;rw[get,if_neg fun y=>?_]
   ·exact hi
   ·subst y;rw[f3] at hi;cases hi
 ·rw[get] at hi;by_cases z:j=i
  ·rw[if_pos z] at hi;cases hi;exact⟨h,by simp,N,by rw[f2,z],fun q hq=>occ' _ (f4 q hq)⟩
  ·rw[if_neg z] at hi;obtain⟨h',hh,n,a,b⟩:=O.own i l hi;refine⟨h',?_,n,a,fun q hq=>occ' _ (b q hq)⟩;rw[Ya3 (Yae.mp hh).1];exact hh
 ·have lt:∀ i:Nat,ow[i]?=some (some l)->l<hs.length:=fun i hi=>by
   obtain⟨h',hh,_⟩:=O.own i l hi;exact (Yae.mp hh).1
  rw[get] at h1 h2;by_cases z:j=i
  ·rw[if_pos z] at h1;cases h1;by_cases z2:j=i'
   ·exact z.symm.trans z2
   ·rw[if_neg z2] at h2;exact absurd (lt _ h2) (Ybe _)
  ·rw[if_neg z] at h1;by_cases z2:j=i'
   ·rw[if_pos z2] at h2;cases h2;exact absurd (lt _ h1) (Ybe _)
   ·rw[if_neg z2] at h2;exact O.inj i i' l h1 h2
theorem ZcX {m:Nat} (hm:Msk m):∀ (rest hs:List Int) (ow:Array (Option Nat)),Own m hs ow->hs.length+rest.length<m+1 ->
  ∃ ow',(rest.foldl (fun acc h=>do
    let __x <- acc
    match __x with
     | (owner,k)=>do
      let j <- layClean.free m owner (turns m) (bits h % (m+1)) (bits h)
      pure (owner.setIfInBounds j (some k),k+1)) (some (ow,hs.length)))=some (ow',hs.length+rest.length)/\Own m (hs++rest) ow'
 | [],hs,ow,O,h=>⟨ow,rfl,by rw[Ybw];exact O⟩
 | x::rest,hs,ow,O,h=>by
  rw[Ya0] at h;obtain⟨j,f,O'⟩:=O.step hm (by omega) x;obtain⟨ow',e,O2⟩:=ZcX hm rest (hs++[x]) _ O' (by rw[Yak];simp;omega);refine⟨ow',?_,by simpa using O2⟩;rw[YdV];have:(do
    let __x <- (some (ow,hs.length):Option (Array (Option Nat) × Nat))
    match __x with
     | (owner,k)=>do
      let j <- layClean.free m owner (turns m) (bits x % (m+1)) (bits x)
      pure (owner.setIfInBounds j (some k),k+1))=some (ow.setIfInBounds j (some hs.length),(hs++[x]).length):=by
   show (layClean.free m ow (turns m) (bits x % (m+1)) (bits x) >>= fun j=>pure (ow.setIfInBounds j (some hs.length),hs.length+1))=_;rw[f];simp
  rw[this,e];simp;omega
theorem ZjA {m:Nat} (hm:Msk m) {hashes:Array Int} (hl:hashes.size<m+1):∃ ow,layClean m hashes=some ow/\Own m hashes.toList ow:=by
 obtain⟨ow,e,O⟩:=ZcX hm hashes.toList [] _ (Own.start m) (by simpa using hl);refine⟨ow,?_,by simpa using O⟩;unfold layClean;rw[<- Array.foldl_toList];have e':=e;rw[YcG] at e';rw[e'];rfl
end StT
namespace StT
open PySem PySem.SetTable
theorem ZbO {α β:Type}{f:α->Option β}{g:α->β}:∀ {l:List α},(∀ x∈l,f x=some (g x))->l.filterMap f=l.map g
 | [],_=>rfl
 | x::l,h=>by rw[Ybl,h x YaG,YaK,ZbO fun y hy=>h y (Yat _ hy)]
def ZaS (m:Nat) (ow:Array (Option Nat)):List (Nat × Nat):=(YaO (m+1)).filterMap fun j=>(ow.getD j none).map fun x=>(j,x)
theorem Zbq {m:Nat}{hs:List Int}{ow:Array (Option Nat)} (O:Own m hs ow) (j l:Nat):(j,l)∈ZaS m ow↔ow[j]?=some (some l):=by
 unfold ZaS;rw[YcO];constructor
 ·rintro⟨i,hi,e⟩;have hi:=Ya2.mp hi;have hi':i<ow.size:=by rw[O.sz];exact hi
  cases q:ow[i] with
  | none=>simp[YbE,hi',q] at e
  | some x=>
   simp[YbE,hi',q] at e;obtain⟨rfl,rfl⟩:=e;rw[YaL hi',q]
 ·intro h;have hi:j<ow.size:=(YaS.mp h).1
  refine⟨j,Ya2.mpr (by rw[<- O.sz];exact hi),?_⟩;have:ow[j]=some l:=(YaS.mp h).2
  simp[YbE,hi,this]
theorem ZeO {m:Nat}{ow:Array (Option Nat)}:(ZaS m ow).Pairwise fun a b=>a.1<b.1:=by
 refine List.Pairwise.filterMap _ (fun a b hab x hx y hy=>?_) (List.pairwise_lt_range (n:=m+1))
 cases ha:ow.getD a none with
 | none=>rw[ha] at hx;simp at hx
 | some u=>
  cases hb:ow.getD b none with
  | none=>rw[hb] at hy;simp at hy
  | some v=>
   rw[ha] at hx;rw[hb] at hy;simp at hx hy;rw[<- hx,<- hy];exact hab
theorem ZhR {m:Nat}{hs:List Int}{ow:Array (Option Nat)} (O:Own m hs ow):((ZaS m ow).map (·.2)).Perm (YaO hs.length):=by
 refine (Yd4 ?_ YcB).mpr fun l=>?_
 ·rw[Yd5,Ya9];refine Yb4 (fun {a b} ha hb hab z=>?_) (ZeO (m:=m) (ow:=ow));have h1:=(Zbq O a.1 a.2).mp ha;have h2:=(Zbq O b.1 b.2).mp hb;rw[<- z] at h2;have:=O.inj a.1 b.1 _ h1 h2;omega
 ·rw[Ya2];constructor
  ·intro h;obtain⟨q,hq,rfl⟩:=Ya6.mp h;obtain⟨h',hh,_⟩:=O.own q.1 q.2 ((Zbq O q.1 q.2).mp hq);exact (Yae.mp hh).1
  ·intro h;obtain⟨j,hj⟩:=O.hit l h;exact Ya6.mpr ⟨(j,l),(Zbq O j l).mpr hj,rfl⟩
theorem ZkF {m fi mv:Nat}{led pl:Bool} (hm:Msk m) {es:Array (Int × Value)} (hf:es.size*5<m*3) :
  ∃ t' order,laid m fi mv led pl (es.map (·.1))=some (t',order)/\t'.led=led/\t'.plain=pl/\(order.filterMap (es[·]?)).size=es.size/\Tab t' (order.filterMap (es[·]?))/\(order.filterMap (es[·]?)).toList.Perm es.toList:=by
 have hml:7<=m:=by rcases hm with h | h | h | h | h <;> omega
 obtain⟨ow,e,O⟩:=ZjA hm (hashes:=es.map (·.1)) (by rw[Array.size_map];omega);have hlen:((es.map (·.1)).toList).length=es.size:=by simp
 have hperm:=ZhR O;rw[hlen] at hperm;have hlt:∀ q∈ZaS m ow,q.2<es.size:=fun q hq=>by
  have:=hperm.mem_iff.mp (Ya6.mpr ⟨q,hq,rfl⟩);exact Ya2.mp this
 have eo:((((ZaS m ow).map (·.2)).toArray).filterMap (es[·]?)).toList=(ZaS m ow).map fun q=>es.getD q.2 default:=by
  rw[Array.toList_filterMap];show ((ZaS m ow).map (·.2)).filterMap (es[·]?)=_;rw[YcQ];refine ZbO fun q hq=>?_;have:=hlt q hq;show es[q.2]?=some (es.getD q.2 default);simp[YbE,this]
 have esz:((((ZaS m ow).map (·.2)).toArray).filterMap (es[·]?)).size=es.size:=by
  rw[<- Yao,eo,Yab];have:=hperm.length_eq
  rwa [Yab,Ycc] at this
 refine⟨{ mask:=m,place:=((ZaS m ow).map (·.1)).toArray,dummies:=#[],finger:=fi,led:=led,moves:=mv,plain:=pl },((ZaS m ow).map (·.2)).toArray,?_,rfl,rfl,esz,?_,?_⟩
 ·unfold laid;rw[e];rfl
 ·have pl':((ZaS m ow).map (·.1)).toArray.toList=(ZaS m ow).map (·.1):=rfl;have occ_in:∀ j,Occ ow j->j∈(ZaS m ow).map (·.1):=fun j ⟨l,hl⟩=>Ya6.mpr ⟨(j,l),(Zbq O j l).mpr hl,rfl⟩;refine⟨hm,?_,rfl,?_,?_,?_,?_⟩
  ·show ((ZaS m ow).map (·.1)).Pairwise (·<·);rw[Ya9];exact ZeO
  ·show ((ZaS m ow).map (·.1)).toArray.size=_;rw[esz];have:=hperm.length_eq;rw[Yab,Ycc] at this;simp[this]
  ·rw[esz];exact hf
  ·intro j hj;obtain⟨q,hq,rfl⟩:=Ya6.mp (show j∈(ZaS m ow).map (·.1) from hj);have:=(YaS.mp ((Zbq O q.1 q.2).mp hq)).1
   rw[O.sz] at this;show q.1<=m;omega
  ·intro i j x h1 h2;have h1':((ZaS m ow).map (·.1))[i]?=some j:=by
    rw[<- Yaf] at h1;exact h1
   rw[<- Yaf,eo,Yal] at h2;rw[Yal] at h1'
   cases hq:(ZaS m ow)[i]? with
   | none=>rw[hq] at h1';cases h1'
   | some q=>
    rw[hq] at h1' h2;cases h1';cases h2;have hqm:=Yaw hq;obtain⟨h',hh,n,a,b⟩:=O.own q.1 q.2 ((Zbq O q.1 q.2).mp hqm);have hq2:=hlt q hqm;have eh:(es.getD q.2 default).1=h':=by
     have:(es.map (·.1)).toList[q.2]?=some (es.getD q.2 default).1:=by simp[YbE,hq2]
     rw[hh] at this;exact (YaD this).symm
    rw[eh];exact⟨n,a,fun r hr=>occ_in _ (b r hr)⟩
 ·rw[eo];have h1:((YaO es.size).map fun l=>es.getD l default)=es.toList:=by
   refine Ybq (by simp) fun i h1 h2=>?_;have:i<es.size:=by simpa using h1
   simp[YbE,this]
  have h2:=hperm.map fun l=>es.getD l default;rw[YdF,h1] at h2;exact h2
theorem ZkL {m n:Nat} (hm:Msk m) (h:n*5<m*3) (h4:n<=500) (hf:(n+1)*5 ≥ m*3):Msk (sizeAbove (grown (n+1)) - 1)/\(n+1)*5<(sizeAbove (grown (n+1)) - 1)*3/\sizeAbove (grown (n+1))<=4096:=by
 rcases hm with rfl | rfl | rfl | rfl | rfl
 ·obtain rfl:n=4:=by omega
  exact⟨.inr (.inl rfl),by decide,by decide⟩
 ·obtain rfl:n=18:=by omega
  exact⟨.inr (.inr (.inl rfl)),by decide,by decide⟩
 ·obtain rfl:n=76:=by omega
  exact⟨.inr (.inr (.inr (.inl rfl))),by decide,by decide⟩
 ·obtain rfl:n=306:=by omega
  exact⟨.inr (.inr (.inr (.inr rfl))),by decide +kernel,by decide +kernel⟩
 ·omega
end StT
namespace StT
open PySem PySem.SetTable PySem.Spec
section
variable {prog:Program}{w:World}{A:Around}{E:Value->Shared->Prop}{s:Shared}
abbrev TKey (prog:Program) (w:World) (h:Heap) (k:List Int) (b:Addr):Prop:=IsTupleKey (intKind prog w) h k b
abbrev Zas (prog:Program) (w:World) (k:List Int):Int:=tupleKeyHash (intKind prog w) k
theorem Zis (n:Nat) (i:Int) (t:Tok):ofAClassStatement n (.int i t)=pure false:=by cases n <;> rfl
theorem Zeo {ks:List Int}{vs:List Value} (h:ItemsAre (intKind prog w) ks vs):∀ v∈vs,∃ i t,v=.int i t:=by
 induction h with
 | nil=>intro v hv;simp at hv
 | @cons k v' ks vs h1 _ ih=>
  intro v hv;rcases Yai.mp hv with rfl | hv
  ·cases v with
   | int i t=>exact⟨i,t,rfl⟩
   | _=>exact absurd h1 (by intro z;cases z)
  ·exact ih v hv
theorem Zc6 {k:List Int}{b:Addr}{Q:Bool->Shared->Prop} (hk:TKey prog w s.heap k b) (h:Q false s):wpAny (model prog w) A (ofAClassStatement 8 (.ref b)) Q E s:=by
 have hT:=hk.typeIs;obtain⟨o,items,n,ho,_,hd,hi⟩:=hk;have hii:=Zeo hi;unfold ofAClassStatement;refine wpAny_bind (wpAny_typeOf hT ?_);show wpAny _ _ ((if ("tuple" == "tuple")=true then pure true else isSubtype (.type "tuple") (.type "tuple")) >>= _) _ _ s;rw[if_pos (by decide)];refine wpAny_bind (wpAny_pure ?_);simp only[YbT,Yar,if_false];refine wpAny_bind (wpAny_seqItems ho hd ?_);show wpAny _ _ (forIn items _ _ >>= _) _ _ s;rw[<- YeQ];refine wpAny_bind (wpAny_forIn_list _ (fun rest r s'=>r.1=none/\s'=s/\∀ v∈rest,∃ i t,v=.int i t) _ ?_ ?_ _ _ ⟨rfl,rfl,hii⟩)
 ·rintro v rest r s' ⟨hr,rfl,hall⟩;obtain⟨i,t,rfl⟩:=hall v YaG;rw[Zis];refine wpAny_bind (wpAny_pure ?_);simp only[Yar,if_false];exact wpAny_pure ⟨rfl,rfl,fun u hu=>hall u (Yat _ hu)⟩
 ·rintro⟨r1,r2⟩ s' ⟨hr,rfl,_⟩;simp only at hr;subst hr;exact wpAny_pure h
theorem Zjj {k0:List Int}{b0:Addr}{ys:List Value}{Q:Bool->Shared->Prop} (h0:TKey prog w s.heap k0 b0) (hy:∀ y∈ys,∃ k b,y=.ref b/\TKey prog w s.heap k b) (h:Q false s) :
  wpAny (model prog w) A (searchCouldBeSeen (.ref b0) ys) Q E s:=by
 unfold searchCouldBeSeen;refine wpAny_bind (wpAny_forIn_list _ (fun rest r s'=>r.1=none/\s'=s/\∀ y∈rest,∃ k b,y=.ref b/\TKey prog w s.heap k b) _ ?_ ?_ _ _ ⟨rfl,rfl,hy⟩)
 ·rintro y rest r s' ⟨hr,rfl,hall⟩;obtain⟨k,b,rfl,hk⟩:=hall y YaG;have hn:r.1=none/\s'=s'/\∀ y∈rest,∃ k b,y=.ref b/\TKey prog w s'.heap k b:=⟨hr,rfl,fun u hu=>hall u (Yat _ hu)⟩
  dsimp only;split
  ·exact wpAny_pure ⟨rfl,hn.2⟩
  ·refine wpAny_bind (wpAny_eqIsQuiet_tuple h0 ?_);simp only[YbT,Yar,if_false];refine wpAny_bind (wpAny_eqIsQuiet_tuple hk ?_);simp only[YbT,Yar,if_false];refine wpAny_bind (Zc6 h0 ?_);simp only[Yar,if_false];refine wpAny_bind (Zc6 hk ?_);simp only[Yar,if_false];exact wpAny_pure ⟨rfl,hn.2⟩
 ·rintro⟨r1,r2⟩ s' ⟨hr,rfl,_⟩;simp only at hr;subst hr;exact wpAny_pure h
theorem ZkK (n:Nat) (i:Int) (t:Tok):hashByValue n (.int i t)=pure true:=by cases n <;> rfl
theorem ZjC {k:List Int}{b:Addr}{Q:Bool->Shared->Prop} (hk:TKey prog w s.heap k b) (h:Q true s):wpAny (model prog w) A (hashByValue 8 (.ref b)) Q E s:=by
 have hT:=hk.typeIs;obtain⟨o,items,n,ho,_,hd,hi⟩:=hk;have hii:=Zeo hi;unfold hashByValue;refine wpAny_bind (wpAny_specialOf hT F.slot_tuple_hash.lookup ?_);show wpAny _ _ (seqItems? (.ref b) >>= _) _ _ s;refine wpAny_bind (wpAny_seqItems ho hd ?_);show wpAny _ _ (forIn items _ _ >>= _) _ _ s;rw[<- YeQ];refine wpAny_bind (wpAny_forIn_list _ (fun rest r s'=>r.1=none/\s'=s/\∀ v∈rest,∃ i t,v=.int i t) _ ?_ ?_ _ _ ⟨rfl,rfl,hii⟩)
 ·rintro v rest r s' ⟨hr,rfl,hall⟩;obtain⟨i,t,rfl⟩:=hall v YaG;rw[ZkK];refine wpAny_bind (wpAny_pure ?_);simp only[YbT,Yar,if_false];exact wpAny_pure ⟨rfl,rfl,fun u hu=>hall u (Yat _ hu)⟩
 ·rintro⟨r1,r2⟩ s' ⟨hr,rfl,_⟩;simp only at hr;subst hr;exact wpAny_pure h
end
end StT
namespace StT
open PySem PySem.SetTable PySem.Spec
def hAt (es:Array (Int × Value)) (i:Nat):Int:=(es[i]?.map (·.1)).getD 0
theorem ZiO (a:Addr) (x:Value) (h:Int) (adding:Bool) (fuel:Nat) (stand:Option Probe):setSearchFrom a x h adding (fuel+1) stand=(do
  let (es,_,t) <- setState a
  if t.gaveWay then unsupported "set:on-a-table-that-gave-way"
  let some met:=t.probe (hAt es) h (stand.getD (t.probeStart h)) | unsupported "internal:set-table-without-an-empty-slot"
  match met with
  | .empty j dummy=>
   match dummy with
   | none=>return .free j false
   | some d=>
    if adding && t.slot d != .dummy then rule "set.search.the-dummy-was-taken";return <- setSearchFrom a x h adding fuel none
    return .free d true
  | .candidate j i next=>
   if !t.led then
    if <- searchCouldBeSeen x ((es.filter (·.1 == h)).toList.map (·.2)) then unsupported "set:the-search-would-show-the-table"
   let some (_,y):=es[i]? | unsupported "internal:set-entry"
   let equal <- holding [y] (eqBool y x)
   let (es',_,t') <- setState a
   if adding && equal then return .there none
   let some same:=t'.sameMemory t.moves t.mask | unsupported "set.changed-during-lookup:is-the-new-block-at-the-old-address"
   let still <- match (if same then t'.slot j else .empty) with
    | .live i'=>match es'[i']? with
     | some (_,y')=>do pure (if <- isSame y' y then some i' else none)
     | none=>pure none
    | _=>pure none
   match still with
   | none=>rule "set.search.anew";setSearchFrom a x h adding fuel none
   | some i'=>if equal then return .there (some i') else setSearchFrom a x h adding fuel (some next)):=rfl
structure Held (prog:Program) (w:World) (h:Heap) (es:Array (Int × Value)) (L:List (List Int × Addr)):Prop where
 es:es.toList=L.map fun q=>(Zas prog w q.1,YaH q.2)
 key:∀ q∈L,TKey prog w h q.1 q.2
theorem Held.get {prog:Program}{w:World}{h:Heap}{es:Array (Int × Value)}{L:List (List Int × Addr)} (X:Held prog w h es L) {i:Nat}{e:Int × Value} (he:es[i]?=some e):∃ q,L[i]?=some q/\e=(Zas prog w q.1,YaH q.2)/\TKey prog w h q.1 q.2:=by
 rw[<- Yaf,X.es,Yal] at he
 cases hq:L[i]? with
 | none=>rw[hq] at he;cases he
 | some q=>rw[hq] at he;exact⟨q,rfl,(YaD he).symm,X.key q (Yaw hq)⟩
theorem Held.at {prog:Program}{w:World}{h:Heap}{es:Array (Int × Value)}{L:List (List Int × Addr)} (X:Held prog w h es L) {i:Nat}{q:List Int × Addr} (hq:L[i]?=some q):es[i]?=some (Zas prog w q.1,YaH q.2):=by
 rw[<- Yaf,X.es,Yal,hq];rfl
section
variable {prog:Program}{w:World}{A:Around}{E:Value->Shared->Prop}{s:Shared}
theorem ZjN {a:Addr}{o:Obj}{es:Array (Int × Value)}{ep:Nat}{t:SetTable}{L:List (List Int × Addr)}{k0:List Int}{b0:Addr} (hu:A.units<cLine)
  (ho:s.heap.get? a=some o) (hd:o.data=.set es ep t) (T:Tab t es) (X:Held prog w s.heap es L) (h0:TKey prog w s.heap k0 b0) {N:Nat} (hN:(pth t.mask (Zas prog w k0) N).j ∉ t.place.toList) (hb:∀ m,m<N->(pth t.mask (Zas prog w k0) m).j∈t.place.toList) (hlt:N<10*turns t.mask) {Q:SetFound->Shared->Prop}
  (qA:(∀ q∈L,q.1≠k0)->Q (.free (pth t.mask (Zas prog w k0) N).j false) s) (qB:(∃ q∈L,q.1=k0)->Q (.there none) s) :
  ∀ (fuel n:Nat) (stand:Option Probe),stand.getD (t.probeStart (Zas prog w k0))=pth t.mask (Zas prog w k0) n->n<=N->N - n<fuel->(∀ l,l<n->∀ (i:Nat) q,t.place[i]?=some (pth t.mask (Zas prog w k0) l).j->L[i]?=some q->q.1≠k0) ->
   wpAny (model prog w) A (setSearchFrom a (.ref b0) (Zas prog w k0) true fuel stand) Q E s
 | 0,n,stand,_,_,hf,_=>by omega
 | fuel+1,n,stand,hst,hnN,hf,hinv=>by
  rw[ZiO];refine wpAny_bind (wpAny_setState_of ho hd T.fits ?_);dsimp only;rw[T.odd];simp only[Yar,if_false];rw[hst];obtain⟨m,m1,m2,m3,m4⟩:=ZfX T.rise T.dm (hAt es) (Zas prog w k0) hN (10*turns t.mask) n hnN (by omega);have at_:∀ (i:Nat) j,t.place[i]?=some j->∃ q,L[i]?=some q/\hAt es i=Zas prog w q.1/\es[i]?=some (Zas prog w q.1,YaH q.2)/\TKey prog w s.heap q.1 q.2:=fun i j hi=>by
   have hil:i<es.size:=by rw[<- T.sz];exact (YaS.mp hi).1
   obtain⟨q,hq,e,hk⟩:=X.get (YaL hil);refine⟨q,hq,?_,?_,hk⟩
   ·unfold hAt;rw[YaL hil,e];rfl
   ·rw[YaL hil,e]
  have hinv2:∀ l,l<m->∀ (i:Nat) q,t.place[i]?=some (pth t.mask (Zas prog w k0) l).j->L[i]?=some q->q.1≠k0:=fun l hl i q hi hq=>by
   rcases Ya7 l n with z | z
   ·exact hinv l z i q hi hq
   ·intro e;obtain⟨q',hq',hh,_⟩:=at_ i _ hi;rw[hq] at hq';cases hq';exact m3 l z hl i hi (by rw[hh,e])
  unfold SetTable.probe;rcases m4 with ⟨hn,e⟩ | ⟨i,hi,hh,hmN,e⟩
  ·rw[e];dsimp only;have hmN:m=N:=by
    rcases Ya7 m N with z | z
    ·exact absurd (hb m z) hn
    ·omega
   subst hmN;refine wpAny_pure (qA fun q hq e=>?_);obtain⟨i,hi⟩:=YbR.mp hq;have hes:=X.at hi;have hil:i<t.place.size:=by rw[T.sz];exact (YaS.mp hes).1
   have hpl:=YaL hil;obtain⟨n2,c1,c2⟩:=T.chain i _ _ hpl hes;dsimp only at c1 c2;rw[e] at c1 c2;have hn2:n2<m:=by
    rcases Ya7 n2 m with z | z
    ·exact z
    ·rcases Ya7 m n2 with y | y
     ·exact absurd (c2 m y) hn
     ·have:n2=m:=by omega
      subst this;exact absurd (show (pth t.mask (Zas prog w k0) n2).j∈t.place.toList by rw[c1];simp) hn
   exact hinv2 n2 hn2 i q (by rw[hpl,c1]) hi e
  ·rw[e];dsimp only;obtain⟨q,hq,_,hes,hk⟩:=at_ i _ hi;have main:wpAny (model prog w) A (do
     let some (_,y):=es[i]? | unsupported "internal:set-entry"
     let equal <- holding [y] (eqBool y (.ref b0))
     let (es',_,t') <- setState a
     if true && equal then return YeR none
     let some same:=t'.sameMemory t.moves t.mask | unsupported "set.changed-during-lookup:is-the-new-block-at-the-old-address"
     let still <- match (if same then t'.slot (pth t.mask (Zas prog w k0) m).j else .empty) with
      | .live i'=>match es'[i']? with
       | some (_,y')=>do pure (if <- isSame y' y then some i' else none)
       | none=>pure none
      | _=>pure none
     match still with
     | none=>rule "set.search.anew";setSearchFrom a (.ref b0) (Zas prog w k0) true fuel none
     | some i'=>if equal then return YeR (some i') else setSearchFrom a (.ref b0) (Zas prog w k0) true fuel (some (pth t.mask (Zas prog w k0) (m+1)))) Q E s:=by
    rw[hes];dsimp only;refine wpAny_bind (wpAny_holding (wpAny_eqBool_tuple hu hk h0 ?_));refine wpAny_bind (wpAny_setState_of ho hd T.fits ?_);dsimp only;by_cases hkk:q.1=k0
    ·rw[decide_eq_true hkk];simp only[Bool.and_self,if_true];exact wpAny_pure (qB ⟨q,Yaw hq,hkk⟩)
    ·rw[decide_eq_false hkk];simp only[Ydg,Yar,if_false];have hsm:t.sameMemory t.moves t.mask=some true:=by unfold SetTable.sameMemory;simp
     rw[hsm];dsimp only;rw[if_pos rfl,ZeB T.rise hi];dsimp only;rw[hes];dsimp only;have hsame:isSame (.ref q.2) (.ref q.2)=pure true:=by unfold isSame;simp
     rw[hsame];refine wpAny_bind (wpAny_bind (wpAny_pure (wpAny_pure ?_)));simp only[if_true];refine ZjN hu ho hd T X h0 hN hb hlt qA qB fuel (m+1) _ rfl (by omega) (by omega) fun l hl i' q' hi' hq'=>?_;rcases Ya7 l m with z | z
     ·exact hinv2 l z i' q' hi' hq'
     ·have:l=m:=by omega
      subst this;have b1:=ZbL T.rise hi;have b2:=ZbL T.rise hi';have:i=i':=by omega
      subst this;rw[hq] at hq';cases hq';exact hkk
   by_cases hl:t.led=true
   ·rw[hl];simp only[YbT,Yar,if_false];exact main
   ·have hl:t.led=false:=by simpa using hl
    rw[hl];simp only[Yee,if_true];refine wpAny_bind (Zjj h0 (fun y hy=>?_) ?_)
    ·obtain⟨e',he',rfl⟩:=Ya6.mp hy;have he':e'∈es.toList:=by
      have:=Ydc.mp he';exact Ydc.mpr (Array.mem_filter.mp this).1
     rw[X.es] at he';obtain⟨q',hq',rfl⟩:=Ya6.mp he';exact⟨q'.1,q'.2,rfl,X.key q' hq'⟩
    ·simp only[Yar,if_false];exact main
end
end StT
namespace StT
open PySem PySem.SetTable PySem.Spec
def Zlf (es:Array (Int × Value)) (laid:Option (SetTable × Array Nat)):Sem (Array (Int × Value) × SetTable):=do
 let some (t,order):=laid | unsupported "internal:set-table-without-room"
 let es':=order.filterMap (es[·]?)
 if es'.size != es.size then unsupported "internal:set-table-lost-an-element"
 pure (es',t)
theorem ZiW (a:Addr) (wanted:Nat):setRelay a wanted=(do
  let (es,_,t) <- setState a
  if SetTable.sizeAbove wanted > sizeLine then unsupported "set:memory"
  let (es,t) <- Zlf es (t.relaid (es.map (·.1)) wanted)
  storeSet a es t):=rfl
def SetT (prog:Program) (w:World) (h:Heap) (a:Addr) (L:List (List Int × Addr)):Prop :=
 ∃ o es ep t,h.get? a=some o/\o.ExactSet/\o.data=.set es ep t/\Tab t es/\Held prog w h es L/\(L.map (·.1)).Nodup
section
variable {prog:Program}{w:World}{A:Around}{E:Value->Shared->Prop}{s:Shared}
theorem Zg6 {h h':Heap}{k:List Int}{b a:Addr}{o:Obj}{es:Array (Int × Value)}{ep:Nat}{t:SetTable} (x:TKey prog w h k b) (ho:h.get? a=some o) (hd:o.data=.set es ep t) (hs:Ycn a h h'):TKey prog w h' k b:=by
 obtain⟨o',items,n,ho',hc,hd',hi⟩:=x;have hne:b≠a:=by
  rintro rfl;obtain rfl:o'=o:=YaD (ho'.symm.trans ho);rw[hd] at hd';exact nomatch hd'
 exact⟨o',items,n,(hs.2 b hne).trans ho',hc,hd',hi⟩
theorem ZjL {h:Heap}{a:Addr}{o:Obj}{es:Array (Int × Value)}{ep:Nat}{t:SetTable} (ho:h.get? a=some o) (hd:o.data=.set es ep t) (es':Array (Int × Value)) (t':SetTable) :
  (h.update a (Yem es' t')).get? a=some { o with data:=.set es' (ep+1) t' }:=by
 have:=Yb6 (Yem es' t') ho (by rw[putSet_of es' t' hd];rfl);rw[putSet_of es' t' hd] at this;exact this
theorem Zh5 {h:Heap}{es es':Array (Int × Value)}{L:List (List Int × Addr)} (X:Held prog w h es L) (p:es'.toList.Perm es.toList):∃ L',Held prog w h es' L'/\L'.Perm L:=by
  rw[X.es] at p;obtain⟨L',e,hp⟩:∃ L':List (List Int × Addr),es'.toList=L'.map (fun q=>(Zas prog w q.1,YaH q.2))/\L'.Perm L:=by
    generalize es'.toList=l at p;clear X;have aux:∀ {l m:List (Int × Value)},l.Perm m->∀ L:List (List Int × Addr),m=L.map (fun q=>(Zas prog w q.1,YaH q.2))->∃ L':List (List Int × Addr),l=L'.map (fun q=>(Zas prog w q.1,YaH q.2))/\L'.Perm L:=by
      intro l m h
      induction h with
      | nil=>intro L e;cases L with
        | nil=>exact⟨[],rfl,YeN _⟩
        | cons _ _=>cases e
      | cons x _ ih=>intro L e;cases L with
        | nil=>cases e
        | cons q L=>
          rw[YaK] at e;obtain⟨e1,e2⟩:=YdN e;obtain⟨L',a,b⟩:=ih L e2;exact⟨q::L',by rw[YaK,e1,a],b.cons q⟩
      | swap x y l=>intro L e;cases L with
        | nil=>cases e
        | cons q L=>cases L with
          | nil=>cases e
          | cons r L=>
            rw[YaK,YaK] at e;obtain⟨e1,e2⟩:=YdN e;obtain⟨e3,e4⟩:=YdN e2;exact⟨r::q::L,by rw[YaK,YaK,e1,e3,e4],List.Perm.swap _ _ _⟩
      | trans _ _ ih1 ih2 => intro L e
                             obtain⟨L2,a,b⟩:=ih2 L e;obtain⟨L1,c,d⟩:=ih1 L2 a;exact⟨L1,c,d.trans b⟩
    exact aux p L rfl
  exact⟨L',⟨e,fun q hq=>X.key q (hp.mem_iff.mp hq)⟩,hp⟩
theorem Zjq {h:Heap}{es:Array (Int × Value)}{L:List (List Int × Addr)}{k0:List Int}{b0:Addr} (X:Held prog w h es L) (h0:TKey prog w h k0 b0) (p:Nat):Held prog w h (insertAt es p (Zas prog w k0,.ref b0)) (L.take p++(k0,b0)::L.drop p):=by
 refine⟨?_,fun q hq=>?_⟩
 ·rw[Zau,X.es,YaC,YaK,Ydq,List.map_drop]
 ·rcases Yan.mp hq with hq | hq
  ·exact X.key q (YbG hq)
  ·rcases Yai.mp hq with rfl | hq
   ·exact h0
   ·exact X.key q (YbH hq)
theorem ZeU {h h':Heap}{a:Addr}{o:Obj}{es es2:Array (Int × Value)}{ep:Nat}{t:SetTable}{L:List (List Int × Addr)} (X:Held prog w h es2 L) (ho:h.get? a=some o) (hd:o.data=.set es ep t) (hs:Ycn a h h'):Held prog w h' es2 L :=
 ⟨X.es,fun q hq=>Zg6 (X.key q hq) ho hd hs⟩
theorem ZgV {a:Addr}{L:List (List Int × Addr)}{k0:List Int}{b0:Addr} (hu:A.units<cLine) (S:SetT prog w s.heap a L) (h0:TKey prog w s.heap k0 b0) (h5:L.length<=500) {Q:Bool->Shared->Prop}
  (h:∀ c h' L',Ycn a s.heap h'->SetT prog w h' a L'->(∀ k,k∈L'.map (·.1)↔k∈L.map (·.1)∨k=k0)->L'.length<=L.length+1->(∀ q∈L',q∈L∨q=(k0,b0))->Q c { s with heap:=h' }) :
  wpAny (model prog w) A (setAddHashed a (.ref b0) (Zas prog w k0)) Q E s:=by
 obtain⟨o,es,ep,t,ho,hex,hd,T,X,nd⟩:=S;have hsz:es.size=L.length:=by rw[<- Yao,X.es,Yab]
 unfold setAddHashed;refine wpAny_holding ?_;show wpAny _ _ (setAddHashedIn a (.ref b0) (Zas prog w k0) (99999+1)) _ _ _;unfold setAddHashedIn;refine wpAny_bind (wpAny_setState_of ho hd T.fits ?_);dsimp only;have hscan:byScan (.ref b0) es=false:=by unfold byScan Value.scannable;simp
 rw[hscan];simp only[Yar,if_false];obtain⟨N,n1,n2,n3⟩:=T.free (Zas prog w k0);refine wpAny_bind ?_;show wpAny _ _ (setSearchFrom a (.ref b0) (Zas prog w k0) true 100000 none) _ _ _;refine ZjN hu ho hd T X h0 n2 n3 n1 (fun hnew=>?_) (fun hold=>?_) 100000 0 none rfl (YaP _) (by have:=T.msk1;unfold turns at n1;omega) (fun l hl=>absurd hl (Ybp _))
 ·dsimp only;refine wpAny_bind (wpAny_setState_of ho hd T.fits ?_);dsimp only;have ndk:k0 ∉ L.map (·.1):=fun z=>by
   obtain⟨q,hq,e⟩:=Ya6.mp z;exact hnew q hq e
  have X1:=Zjq X h0 (t.put (pth t.mask (Zas prog w k0) N).j).2;generalize hp:(t.put (pth t.mask (Zas prog w k0) N).j).2=p at X1;have nd1:((L.take p++(k0,b0)::L.drop p).map (·.1)).Nodup:=by
   rw[YaC,YaK];have e:L.map (·.1)=(L.take p).map (·.1)++(L.drop p).map (·.1):=by rw[<- YaC,YaJ]
   rw[e] at nd ndk;obtain⟨d1,d2,d3⟩:=Ydz.mp nd;rw[Yan,not_or] at ndk;refine Ydz.mpr ⟨d1,Yco.mpr ⟨ndk.2,d2⟩,fun x hx y hy=>?_⟩;rcases Yai.mp hy with rfl | hy
   ·exact fun z=>ndk.1 (z ▸ hx)
   ·exact d3 x hx y hy
  have mem1:∀ k,k∈(L.take p++(k0,b0)::L.drop p).map (·.1)↔k∈L.map (·.1)∨k=k0:=fun k=>by
   have e:L.map (·.1)=(L.take p).map (·.1)++(L.drop p).map (·.1):=by rw[<- YaC,YaJ]
   rw[e,YaC,YaK,Yan,Yai,Yan];constructor
   ·rintro (h | h | h)
    ·exact .inl (.inl h)
    ·exact .inr h
    ·exact .inl (.inr h)
   ·rintro ((h | h) | h)
    ·exact .inl h
    ·exact .inr (.inr h)
    ·exact .inr (.inl h)
  have in1:∀ q∈L.take p++(k0,b0)::L.drop p,q∈L∨q=(k0,b0):=fun q hq=>by
   rcases Yan.mp hq with hq | hq
   ·exact .inl (YbG hq)
   ·rcases Yai.mp hq with hq | hq
    ·exact .inr hq
    ·exact .inl (YbH hq)
  have len1:(L.take p++(k0,b0)::L.drop p).length=L.length+1:=by
   rw[Yak,Ya0,YaA,Ybm];omega
  have hm:=T.msk1;have esz:(insertAt es p (Zas prog w k0,YaH b0)).size=es.size+1:=by
   rw[<- Yao,X1.es,Yab,len1,hsz]
  have fin:∀ pl:Bool,wpAny (model prog w) A (do
    storeSet a (insertAt es p (Zas prog w k0,YaH b0)) { (t.put (pth t.mask (Zas prog w k0) N).j).1 with plain:=pl }
    if (!false && ({ (t.put (pth t.mask (Zas prog w k0) N).j).1 with plain:=pl }:SetTable).tooFull)=true then do
     setRelay a (grown (es.size+1))
     pure true
    else pure true) Q E s:=fun pl=>by
   rw[Zhk T.dm];dsimp only;refine wpAny_bind (wpAny_storeSet_of ho hd ?_ (by rw[esz];have:=T.few;rw[sizeLine_eq];omega));have hsb1:=Ycu s.heap a (Yem (insertAt es p (Zas prog w k0,YaH b0)) { t with place:=insertAt t.place (below t.place (pth t.mask (Zas prog w k0) N).j) (pth t.mask (Zas prog w k0) N).j,plain:=pl });have hg1:=ZjL ho hd (insertAt es p (Zas prog w k0,YaH b0)) { t with place:=insertAt t.place (below t.place (pth t.mask (Zas prog w k0) N).j) (pth t.mask (Zas prog w k0) N).j,plain:=pl };have hfl:({ t with place:=insertAt t.place (below t.place (pth t.mask (Zas prog w k0) N).j) (pth t.mask (Zas prog w k0) N).j,plain:=pl }:SetTable).tooFull=decide ((es.size+1)*5 ≥ t.mask*3):=by
    unfold SetTable.tooFull YdP;dsimp only;have hpz:(insertAt t.place (below t.place (pth t.mask (Zas prog w k0) N).j) (pth t.mask (Zas prog w k0) N).j).size=es.size+1:=by
     rw[<- Yao,Zau,Yak,Ya0,YaA,Ybm,Yao,T.sz];have:=(ZbK T.rise (pth t.mask (Zas prog w k0) N).j).1
     rw[T.sz] at this;omega
    rw[hpz,T.dm];rfl
   rw[hfl];simp only[Yee,Bool.true_and];by_cases hfull:(es.size+1)*5 ≥ t.mask*3
   ·rw[if_pos (decide_eq_true hfull)];obtain⟨g1,g2,g3⟩:=ZkL T.msk T.few (by omega) hfull;have sz1:=esz;refine wpAny_bind ?_;rw[ZiW];refine wpAny_bind (wpAny_setState_of hg1 rfl ?_ ?_)
    ·unfold YeX YdP;dsimp only;have hpz:(insertAt t.place (below t.place (pth t.mask (Zas prog w k0) N).j) (pth t.mask (Zas prog w k0) N).j).size=es.size+1:=by
      rw[<- Yao,Zau,Yak,Ya0,YaA,Ybm,Yao,T.sz];have:=(ZbK T.rise (pth t.mask (Zas prog w k0) N).j).1
      rw[T.sz] at this;omega
     rw[hpz,T.dm,esz];have:=T.few;simp;omega
    dsimp only;rw[if_neg (by rw[sizeLine_eq];omega)];obtain⟨t',order,e1,_,_,e2,T',e3⟩:=ZkF (fi:=t.finger) (mv:=({ t with place:=insertAt t.place (below t.place (pth t.mask (Zas prog w k0) N).j) (pth t.mask (Zas prog w k0) N).j,plain:=pl }:SetTable).movedTo (sizeAbove (grown (es.size+1)) - 1)) (led:=t.led) (pl:=pl) g1 (es:=insertAt es p (Zas prog w k0,YaH b0)) (by rw[esz];exact g2);unfold SetTable.relaid;dsimp only;rw[e1];unfold Zlf;dsimp only;have:((order.filterMap ((insertAt es p (Zas prog w k0,YaH b0))[·]?)).size != (insertAt es p (Zas prog w k0,YaH b0)).size)=false:=by simp[e2]
    rw[this];simp only[Yar,if_false];refine wpAny_bind (wpAny_pure ?_);dsimp only;refine wpAny_storeSet_of hg1 rfl ?_ (by rw[e2,esz];have:=T.few;rw[sizeLine_eq];omega);have hg2:=ZjL hg1 rfl (order.filterMap ((insertAt es p (Zas prog w k0,YaH b0))[·]?)) t';have hsb2:=hsb1.trans (Ycu _ a (Yem (order.filterMap ((insertAt es p (Zas prog w k0,YaH b0))[·]?)) t'));obtain⟨L2,X2,p2⟩:=Zh5 X1 e3;refine wpAny_pure (h true _ L2 hsb2 ⟨_,_,_,_,hg2,hex,rfl,T',ZeU X2 ho hd hsb2,?_⟩ (fun k=>?_) (by rw[p2.length_eq,len1];exact Yag _) fun q hq=>in1 q (p2.mem_iff.mp hq))
    ·exact (p2.map (·.1)).nodup_iff.mpr nd1
    ·rw[(p2.map (·.1)).mem_iff];exact mem1 k
   ·rw[if_neg (by simpa using hfull)];have Tp:=T.put n2 n3 (x:=YaH b0) hfull;rw[hp,Zhk T.dm] at Tp;dsimp only at Tp;refine wpAny_pure (h true _ _ hsb1 ⟨_,_,_,_,hg1,hex,rfl,⟨Tp.msk,Tp.rise,Tp.dm,Tp.sz,Tp.few,Tp.le,Tp.chain⟩,ZeU X1 ho hd hsb1,nd1⟩ mem1 (by rw[len1];exact Yag _) in1)
  have plain_eta:∀ x:SetTable,({ x with plain:=x.plain }:SetTable)=x:=fun x=>rfl;by_cases hpl:(t.put (pth t.mask (Zas prog w k0) N).j).1.plain=true
  ·rw[if_pos hpl];refine wpAny_bind (ZjC h0 ?_);simp only[if_true];exact fin (t.put (pth t.mask (Zas prog w k0) N).j).1.plain
  ·rw[if_neg hpl];refine wpAny_bind (wpAny_pure ?_);simp only[if_true];exact fin (t.put (pth t.mask (Zas prog w k0) N).j).1.plain
 ·dsimp only;refine wpAny_pure ?_;have e:s={ s with heap:=s.heap }:=by cases s;rfl
  rw[e];refine h false s.heap L (Heap.SameBut.refl a s.heap) ⟨o,es,ep,t,ho,hex,hd,T,X,nd⟩ (fun k=>⟨.inl,fun z=>z.elim id fun e=>?_⟩) (Ycl _) fun q hq=>.inl hq;obtain⟨q,hq,e2⟩:=hold;rw[e,<- e2];exact Ya6.mpr ⟨q,hq,rfl⟩
end
end StT
namespace StT
open PySem PySem.SetTable PySem.Spec PyProof.Rows
section
variable {prog:Program}{w:World}{A:Around}{E:Value->Shared->Prop}{s:Shared}
theorem Zbt {h h':Heap}{k:List Int}{b:Addr} (x:TKey prog w h k b) (e:∀ o,h.get? b=some o->h'.get? b=some o):TKey prog w h' k b:=by
 obtain⟨o,items,n,ho,r⟩:=x;exact⟨o,items,n,e _ ho,r⟩
theorem ZeD {h h':Heap}{a:Addr}{L:List (List Int × Addr)} (S:SetT prog w h a L) (e:∀ o,h.get? a=some o->h'.get? a=some o) (k:∀ q∈L,∀ o,h.get? q.2=some o->h'.get? q.2=some o):SetT prog w h' a L:=by
 obtain⟨o,es,ep,t,ho,hex,hd,T,X,nd⟩:=S;exact⟨o,es,ep,t,e _ ho,hex,hd,T,⟨X.es,fun q hq=>Zbt (X.key q hq) (k q hq)⟩,nd⟩
def Keys (key:Nat->List Int) (adr:Nat->Addr) (i:Nat) (L:List (List Int × Addr)):Prop:=(∀ k,k∈L.map (·.1)↔∃ j,j<i/\key j=k)/\L.length<=i/\∀ q∈L,∃ j,q.2=adr j/\j<i
theorem Zlu {R:Result->Shared->Prop}{I:Addr}{fp wr:List Addr}{G:Array GenState->Array GenState->Prop}{n:Nat}{P:Nat->Value->Prop}{St:Nat->Shared->Prop}
  (hu:A.in1.units<cLine) (W:WalksS prog w A.in1 I fp wr G n P St) (S:Addr) (hSf:S ∉ fp) (key:Nat->List Int) (adr:Nat->Addr) (hval:∀ i v,P i v->v=.ref (adr i)) (hadr:∀ i,i<n->adr i ∉ fp/\adr i≠S) (hb:n<=500) :
  ∀ (k i:Nat) (s:Shared) (L:List (List Int × Addr)),n - i=k->i<=n->St i s->SetT prog w s.heap S L->Keys key adr i L->(∀ j,j<n->TKey prog w s.heap (key j) (adr j)) ->
   (∀ s' L',Moved (S::wr) G s s'->SetT prog w s'.heap S L'->Keys key adr n L'->R (.ok (.ret .none)) s') ->
   codeAny (model prog w) A (.builtin "set.update.loop" ⟨[.ref S,.ref I],[]⟩) R s:=by
 have hSw:S ∉ wr:=fun h=>hSf (W.sub _ h);have hsub:∀ b∈wr,b∈S::wr:=fun b hb=>Yat _ hb;have haw:∀ i,i<n->adr i ∉ wr:=fun i hi h=>(hadr i hi).1 (W.sub _ h)
 intro k
 induction k with
 | zero=>
  intro i s L hk hi hst hS hK hT hR;have hin:i=n:=by omega
  subst hin;refine codeAny_builtin F.entry_set_update_loop ?_;rw[Ycd F.plain_set_update_loop _];show wpAny _ A.in1 (pyNext (.ref I) >>= _) _ _ s;refine wpAny_bind (W.done s _ _ hst fun s' hm=>?_);show wpAny _ A.in1 (ret YbN) _ _ s';exact wpAny_pure (hR s' L (hm.mono hsub) (ZeD hS (fun o e=>hm.heap S _ hSw e) fun q hq o e=>by
   obtain⟨j,e1,hj⟩:=hK.2.2 q hq;rw[e1] at e ⊢;exact hm.heap _ _ (haw j hj) e) hK)
 | succ k ih=>
  intro i s L hk hi hst hS hK hT hR;have hlt:i<n:=by omega
  refine codeAny_builtin F.entry_set_update_loop ?_;rw[Ycd F.plain_set_update_loop _];show wpAny _ A.in1 (pyNext (.ref I) >>= _) _ _ s;refine wpAny_bind (W.item i s _ _ hlt hst fun v s' hP hst' hm=>?_);obtain rfl:=hval i v hP;have hS':SetT prog w s'.heap S L:=ZeD hS (fun o e=>hm.heap S _ hSw e) fun q hq o e=>by
   obtain⟨j,e1,hj⟩:=hK.2.2 q hq;rw[e1] at e ⊢;exact hm.heap _ _ (haw j (by omega)) e
  have hT':∀ j,j<n->TKey prog w s'.heap (key j) (adr j):=fun j hj=>Zbt (hT j hj) fun o e=>hm.heap _ _ (haw j hj) e;show wpAny _ A.in1 (holding [YaH (adr i)] (setAdd S (.ref (adr i))) >>= _) _ _ s';refine wpAny_bind (wpAny_holding ?_);unfold setAdd;refine wpAny_holding ?_;refine wpAny_bind (wpAny_pyHash_tuple hu (hT' i hlt) ?_);refine ZgV (s:={ s' with toks:=s'.toks+((key i).length+1) }) hu hS' (hT' i hlt) (by have:=hK.2.1;omega) fun c h' L' hsb hS2 hmem hlen hin=>?_;have hT2:∀ j,j<n->TKey prog w h' (key j) (adr j):=fun j hj=>Zbt (hT' j hj) fun o e=>by rw[hsb.2 _ (hadr j hj).2];exact e
  have hK2:Keys key adr (i+1) L':=by
   refine⟨fun k=>?_,by have:=hK.2.1;omega,fun q hq=>?_⟩
   ·rw[hmem,hK.1];constructor
    ·rintro (⟨j,hj,e⟩ | e)
     ·exact⟨j,by omega,e⟩
     ·exact⟨i,by omega,e.symm⟩
    ·rintro⟨j,hj,e⟩;by_cases z:j=i
     ·subst z;exact .inr e.symm
     ·exact .inl ⟨j,by omega,e⟩
   ·rcases hin q hq with hq | rfl
    ·obtain⟨j,e1,hj⟩:=hK.2.2 q hq;exact⟨j,e1,by omega⟩
    ·exact⟨i,rfl,Ybr _⟩
  refine wpAny_pure ⟨plainId_quiet F.plain_set_update_loop _,ih (i+1) _ L' (by omega) hlt (W.frame _ s' _ _ hst' (Yc0 _ _) fun b hb o e=>?_) hS2 hK2 hT2 fun s'' L'' hm'' hS'' hK''=>?_⟩
  ·rw[hsb.2 b (fun h:b=S=>hSf (by rw[<- h];exact hb))];exact e
  ·refine hR s'' L'' (Moved.trans W.gtrans ((hm.mono hsub).then_heap (Yc0 _ _) fun b o hb e=>?_) hm'') hS'' hK'';rw[hsb.2 b (fun h:b=S=>hb (by rw[h];exact YaG))];exact e
end
end StT
namespace StT
open PySem PySem.SetTable PySem.Spec PyProof.Rows
theorem Zda:isSubtype (.type "tuple") (.type "set")=pure false:=by rw[isSubtype_type];kernel_rfl
theorem ZbM:isSubtype (.type "tuple") (.type "frozenset")=pure false:=by rw[isSubtype_type];kernel_rfl
section
variable {prog:Program}{w:World}{A:Around}{E:Value->Shared->Prop}{s:Shared}
theorem Zde {l:Addr}{items:Array Value}{ks:List (List Int)}{bs:List Addr}{Q:Value->Shared->Prop}
  (hu:A.units+8<cLine) (hh:A.handled=none) (hl:s.heap.IsList l items) (hi:items.toList=bs.map YaH) (hlen:bs.length=ks.length) (h5:ks.length<=500)
  (hk:∀ (i:Nat) b k,bs[i]?=some b->ks[i]?=some k->TKey prog w s.heap k b)
  (h:∀ (h':Heap) (tk:Nat) (L:List (List Int × Addr)),SetT prog w h' s.heap.objs.size L->(∀ k,k∈L.map (·.1)↔k∈ks) ->
   (∀ b o,b<s.heap.objs.size->s.heap.get? b=some o->h'.get? b=some o)->Q (.ref s.heap.objs.size) { s with heap:=h',toks:=tk }) :
  wpAny (model prog w) A (call (.type "set") [.ref l]) Q E s:=by
 obtain⟨c,tl,hmro⟩:=F.called_set.mro;have hmade:=F.called_set.made;have hsub:=F.called_set.sub;refine wpAny_call (codeAny_of_tree ?_);show wpAny _ _ (callAny (.type "set") _) _ _ _;refine wpAny_pure ⟨Ydr _ (by decide +kernel),codeAny_builtin F.entry_type_call ?_⟩;rw[YeI (weight_type_call_type "set" [.ref l] []) rfl];have h1:=F.called_set.notType;have h2:=F.called_set.canCreate;have hct:=F.typeCall_set_1 (.ref l)
 repeat (any_goals (first | assumption | wp_step))
 refine codeAny_mono (code_set_new_1 (.ref l) (E:=E) (Q₁:=fun obj s₁=>∃ led:Bool,obj=.ref s.heap.objs.size/\s₁={ s with heap:=s.heap.push { cls:=.type "set",dict:=none,data:=.set #[] 0 (.fresh 0 0 led) } }) fun led=>⟨led,rfl,rfl⟩) fun r s₁ hr=>?_
 cases r with
 | error e=>exact hr
 | ok fl=>
  cases fl with
  | ret obj=>
   obtain⟨led,rfl,rfl⟩:=hr;have hS:(s.heap.push { cls:=.type "set",dict:=none,data:=.set #[] 0 (.fresh 0 0 led) }).get? s.heap.objs.size=some { cls:=.type "set",dict:=none,data:=.set #[] 0 (.fresh 0 0 led) }:=Yas _ rfl;have hT:Shared.TypeIs { s with heap:=s.heap.push { cls:=.type "set",dict:=none,data:=.set #[] 0 (.fresh 0 0 led) } } (.ref s.heap.objs.size) "set":=⟨_,hS,rfl⟩
   have hli:=F.called_set.init.lookup;have hbi:=F.called_set.init.bind (.ref s.heap.objs.size)
   repeat (any_goals (first | assumption | wp_step))
   refine codeAny_mono (codeAny_call_builtin (R:=wants (fun r s₂=>r=.none/\∃ h' tk,s₂={ s with heap:=h',toks:=tk } /\
     (∃ L,SetT prog w h' s.heap.objs.size L/\(∀ k,k∈L.map (·.1)↔k∈ks)) /\
     (∀ b o,b<s.heap.objs.size->s.heap.get? b=some o->h'.get? b=some o)) E) F.called_set.init.plain F.entry_set_init (check_set_init_1 hT ?_)) fun r₂ s₂ hr₂=>?_
   ·obtain⟨ol,hol,hcl,nl,hdl⟩:=hl;obtain⟨ocls,odict,odata,oslots⟩:=ol;simp only at hcl hdl;subst hcl;subst hdl;have hol':(s.heap.push { cls:=.type "set",dict:=none,data:=.set #[] 0 (.fresh 0 0 led) }).get? l=some { cls:=.type "list",dict:=odict,data:=.seq items nl,slots:=oslots }:=Yac _ hol;have hsls:=F.sub_list_set;have hslf:=F.sub_list_frozenset;have hne:(Yci "list" == Yci "dict")=false:=by decide
    have hl1:(s.heap.push { cls:=.type "set",dict:=none,data:=.set #[] 0 (.fresh 0 0 led) }).IsList l items:=⟨_,hol',rfl,nl,rfl⟩
    unfold Builtin.«set.__init__» noKeywords Yc2;generalize hPI:pyIter=PI
    wp_walk
    subst hPI;refine wpAny_pyIter_list hl1 ?_;refine wpAny_bind (wpAny_runValue ?_);have hlS:l<s.heap.objs.size:=Yah hol;have hh3:A.in1.in1.in1.handled=none:=by simp[hh]
    have hneI:l≠(s.heap.push { cls:=.type "set",dict:=none,data:=.set #[] 0 (.fresh 0 0 led) }).objs.size:=by
     rw[Ya4];exact Yaz (YbJ hlS)
    have hSf:s.heap.objs.size ∉ [(s.heap.push { cls:=.type "set",dict:=none,data:=.set #[] 0 (.fresh 0 0 led) }).objs.size,l]:=by
     rw[Ya4];simp only[Yai,YaE,YaZ,or_false,not_or];exact⟨Yaz (Ybr _),Yby hlS⟩
    have hsz:items.size=bs.length:=by rw[<- Yao,hi,Yab]
    have hval:∀ (i:Nat) (v:Value),items[i]?=some v->v=.ref ((fun i=>bs.getD i 0) i):=fun i v hv=>by
     rw[<- Yaf,hi,Yal] at hv
     cases e:bs[i]? with
     | none=>rw[e] at hv;cases hv
     | some b=>rw[e] at hv;cases hv;simp[YcU,e]
    have hat:∀ i,i<items.size->∃ b k,bs[i]?=some b/\ks[i]?=some k/\bs.getD i 0=b/\ks.getD i []=k/\TKey prog w s.heap k b:=fun i h=>by
     have h1:i<bs.length:=by omega
     have h2:i<ks.length:=by omega
     exact⟨bs[i],ks[i],Yaa h1,Yaa h2,by simp[YcU,h1],by simp[YcU,h2],hk i _ _ (Yaa h1) (Yaa h2)⟩
    have hold:∀ b k,TKey prog w s.heap k b->b<s.heap.objs.size/\TKey prog w ((s.heap.push { cls:=.type "set",dict:=none,data:=.set #[] 0 (.fresh 0 0 led) }).push { cls:=.type "list_iterator",data:=.fields #[.ref l,.int 0 0] }) k b:=fun b k x=>by
     refine⟨?_,Zbt x fun o e=>Yac _ (Yac _ e)⟩;obtain⟨o,_,_,ho,_⟩:=x;exact Yah ho
    have hget:((s.heap.push { cls:=.type "set",dict:=none,data:=.set #[] 0 (.fresh 0 0 led) }).push { cls:=.type "list_iterator",data:=.fields #[.ref l,.int 0 0] }).get? s.heap.objs.size
      = some { cls:=.type "set",dict:=none,data:=.set #[] 0 (.fresh 0 0 led) }:=Yac _ hS
    refine Zlu (by show A.units+1+1+1<cLine;omega) ((Yd6 hh3 _ l hneI items).toS) s.heap.objs.size
     hSf (fun i=>ks.getD i []) (fun i=>bs.getD i 0) hval (fun i h=>?hadr) (by omega) (items.size - 0) 0 _ [] (by omega) (YaP _)
     ⟨⟨_,Yas _ rfl,rfl,rfl⟩,(hl1.push _)⟩ ?hS0 ⟨fun k=>by simp,Yag _,fun q hq=>by simp at hq⟩ (fun j hj=>?hTK) ?hR
    case hadr=>
     obtain⟨b,k,e1,e2,e3,e4,x⟩:=hat i h;obtain⟨hlt,_⟩:=hold b k x;rw[e3];have hbl:b≠l:=fun z=>by
      obtain⟨o,its,n,ho,hc,hd,hii⟩:=x;subst z;rw[hol] at ho;cases ho;simp at hc
     refine⟨?_,Yaz hlt⟩;rw[Ya4];simp only[Yai,YaE,YaZ,or_false,not_or];exact⟨Yaz (YbJ hlt),hbl⟩
    case hTK=>
     obtain⟨b,k,e1,e2,e3,e4,x⟩:=hat j hj;dsimp only;rw[e3,e4];exact (hold b k x).2
    case hS0=>
     refine⟨_,#[],0,_,hget,⟨rfl,rfl,rfl⟩,rfl,⟨.inl rfl,YbM,rfl,rfl,by show 0*5<7*3;decide,fun j hj=>by simp[Yc3] at hj,fun i j e h1=>by simp[Yc3] at h1⟩,⟨rfl,fun q hq=>by simp at hq⟩,Ydf⟩
    case hR=>
     intro s' L' hm hS' hK';obtain⟨h',g',d',tk',os'⟩:=s';have eg:g'=s.gens:=hm.gens;have ed:d'=s.drawn:=hm.drawn;have eo:os'=s.os:=hm.os;subst eg;subst ed;subst eo;show wpAny _ _ _ _ _ _;refine wpAny_pure ?_;show wpAny _ _ (ret YbN) _ _ _;refine wpAny_pure ⟨rfl,h',tk',rfl,⟨L',hS',fun k=>?_⟩,fun b o hb e=>?_⟩
     ·rw[hK'.1];constructor
      ·rintro⟨j,hj,rfl⟩;obtain⟨b,k,e1,e2,e3,e4,x⟩:=hat j hj;dsimp only;rw[e4];exact Yaw e2
      ·intro hk2;obtain⟨j,hj,e⟩:=Ybk hk2;exact⟨j,by omega,by simp[YcU,hj,e]⟩
     ·have hb1:b≠s.heap.objs.size:=Yaz hb;have hb2:b≠(s.heap.push { cls:=.type "set",dict:=none,data:=.set #[] 0 (.fresh 0 0 led) }).objs.size:=by
       rw[Ya4];exact Yaz (YbJ hb)
      exact hm.heap b o (by simp only[Yai,YaE,YaZ,or_false,not_or];exact⟨hb1,hb2⟩) (Yac _ (Yac _ e))
   ·cases r₂ with
    | error e=>exact hr₂
    | ok fl₂=>
     cases fl₂ with
     | ret r=>
      obtain⟨rfl,h',tk,rfl,⟨L,hS',hL⟩,hk'⟩:=hr₂
      repeat (any_goals (first | assumption | wp_step))
      exact h _ _ L hS' hL hk'
     | _=>exact hr₂.elim
  | _=>exact hr.elim
theorem Zei {l:Addr}{items:Array Value}{ks:List (List Int)}{bs:List Addr}{Q:Value->Shared->Prop}
  (hu:A.units+8<cLine) (hh:A.handled=none) (hl:s.heap.IsTuple l items) (hi:items.toList=bs.map YaH) (hlen:bs.length=ks.length) (h5:ks.length<=500)
  (hk:∀ (i:Nat) b k,bs[i]?=some b->ks[i]?=some k->TKey prog w s.heap k b)
  (h:∀ (h':Heap) (tk:Nat) (L:List (List Int × Addr)),SetT prog w h' s.heap.objs.size L->(∀ k,k∈L.map (·.1)↔k∈ks) ->
   (∀ b o,b<s.heap.objs.size->s.heap.get? b=some o->h'.get? b=some o)->Q (.ref s.heap.objs.size) { s with heap:=h',toks:=tk }) :
  wpAny (model prog w) A (call (.type "set") [.ref l]) Q E s:=by
 obtain⟨c,tl,hmro⟩:=F.called_set.mro;have hmade:=F.called_set.made;have hsub:=F.called_set.sub;refine wpAny_call (codeAny_of_tree ?_);show wpAny _ _ (callAny (.type "set") _) _ _ _;refine wpAny_pure ⟨Ydr _ (by decide +kernel),codeAny_builtin F.entry_type_call ?_⟩;rw[YeI (weight_type_call_type "set" [.ref l] []) rfl];have h1:=F.called_set.notType;have h2:=F.called_set.canCreate;have hct:=F.typeCall_set_1 (.ref l)
 repeat (any_goals (first | assumption | wp_step))
 refine codeAny_mono (code_set_new_1 (.ref l) (E:=E) (Q₁:=fun obj s₁=>∃ led:Bool,obj=.ref s.heap.objs.size/\s₁={ s with heap:=s.heap.push { cls:=.type "set",dict:=none,data:=.set #[] 0 (.fresh 0 0 led) } }) fun led=>⟨led,rfl,rfl⟩) fun r s₁ hr=>?_
 cases r with
 | error e=>exact hr
 | ok fl=>
  cases fl with
  | ret obj=>
   obtain⟨led,rfl,rfl⟩:=hr;have hS:(s.heap.push { cls:=.type "set",dict:=none,data:=.set #[] 0 (.fresh 0 0 led) }).get? s.heap.objs.size=some { cls:=.type "set",dict:=none,data:=.set #[] 0 (.fresh 0 0 led) }:=Yas _ rfl;have hT:Shared.TypeIs { s with heap:=s.heap.push { cls:=.type "set",dict:=none,data:=.set #[] 0 (.fresh 0 0 led) } } (.ref s.heap.objs.size) "set":=⟨_,hS,rfl⟩
   have hli:=F.called_set.init.lookup;have hbi:=F.called_set.init.bind (.ref s.heap.objs.size)
   repeat (any_goals (first | assumption | wp_step))
   refine codeAny_mono (codeAny_call_builtin (R:=wants (fun r s₂=>r=.none/\∃ h' tk,s₂={ s with heap:=h',toks:=tk } /\
     (∃ L,SetT prog w h' s.heap.objs.size L/\(∀ k,k∈L.map (·.1)↔k∈ks)) /\
     (∀ b o,b<s.heap.objs.size->s.heap.get? b=some o->h'.get? b=some o)) E) F.called_set.init.plain F.entry_set_init (check_set_init_1 hT ?_)) fun r₂ s₂ hr₂=>?_
   ·obtain⟨ol,hol,hcl,nl,hdl⟩:=hl;obtain⟨ocls,odict,odata,oslots⟩:=ol;simp only at hcl hdl;subst hcl;subst hdl;have hol':(s.heap.push { cls:=.type "set",dict:=none,data:=.set #[] 0 (.fresh 0 0 led) }).get? l=some { cls:=.type "tuple",dict:=odict,data:=.seq items nl,slots:=oslots }:=Yac _ hol;have hsls:=Zda;have hslf:=ZbM;have hne:(Yci "tuple" == Yci "dict")=false:=by decide
    have hl1:(s.heap.push { cls:=.type "set",dict:=none,data:=.set #[] 0 (.fresh 0 0 led) }).IsTuple l items:=⟨_,hol',rfl,nl,rfl⟩
    unfold Builtin.«set.__init__» noKeywords Yc2;generalize hPI:pyIter=PI
    wp_walk
    subst hPI;refine wpAny_pyIter_tuple hl1 ?_;refine wpAny_bind (wpAny_runValue ?_);have hlS:l<s.heap.objs.size:=Yah hol;have hh3:A.in1.in1.in1.handled=none:=by simp[hh]
    have hneI:l≠(s.heap.push { cls:=.type "set",dict:=none,data:=.set #[] 0 (.fresh 0 0 led) }).objs.size:=by
     rw[Ya4];exact Yaz (YbJ hlS)
    have hSf:s.heap.objs.size ∉ [(s.heap.push { cls:=.type "set",dict:=none,data:=.set #[] 0 (.fresh 0 0 led) }).objs.size,l]:=by
     rw[Ya4];simp only[Yai,YaE,YaZ,or_false,not_or];exact⟨Yaz (Ybr _),Yby hlS⟩
    have hsz:items.size=bs.length:=by rw[<- Yao,hi,Yab]
    have hval:∀ (i:Nat) (v:Value),items[i]?=some v->v=.ref ((fun i=>bs.getD i 0) i):=fun i v hv=>by
     rw[<- Yaf,hi,Yal] at hv
     cases e:bs[i]? with
     | none=>rw[e] at hv;cases hv
     | some b=>rw[e] at hv;cases hv;simp[YcU,e]
    have hat:∀ i,i<items.size->∃ b k,bs[i]?=some b/\ks[i]?=some k/\bs.getD i 0=b/\ks.getD i []=k/\TKey prog w s.heap k b:=fun i h=>by
     have h1:i<bs.length:=by omega
     have h2:i<ks.length:=by omega
     exact⟨bs[i],ks[i],Yaa h1,Yaa h2,by simp[YcU,h1],by simp[YcU,h2],hk i _ _ (Yaa h1) (Yaa h2)⟩
    have hold:∀ b k,TKey prog w s.heap k b->b<s.heap.objs.size/\TKey prog w ((s.heap.push { cls:=.type "set",dict:=none,data:=.set #[] 0 (.fresh 0 0 led) }).push { cls:=.type "tuple_iterator",data:=.fields #[.ref l,.int 0 0] }) k b:=fun b k x=>by
     refine⟨?_,Zbt x fun o e=>Yac _ (Yac _ e)⟩;obtain⟨o,_,_,ho,_⟩:=x;exact Yah ho
    have hget:((s.heap.push { cls:=.type "set",dict:=none,data:=.set #[] 0 (.fresh 0 0 led) }).push { cls:=.type "tuple_iterator",data:=.fields #[.ref l,.int 0 0] }).get? s.heap.objs.size
      = some { cls:=.type "set",dict:=none,data:=.set #[] 0 (.fresh 0 0 led) }:=Yac _ hS
    refine Zlu (by show A.units+1+1+1<cLine;omega) ((Walks.tuple hh3 _ l hneI items).toS) s.heap.objs.size
     hSf (fun i=>ks.getD i []) (fun i=>bs.getD i 0) hval (fun i h=>?hadr) (by omega) (items.size - 0) 0 _ [] (by omega) (YaP _)
     ⟨⟨_,Yas _ rfl,rfl,rfl⟩,(hl1.push _)⟩ ?hS0 ⟨fun k=>by simp,Yag _,fun q hq=>by simp at hq⟩ (fun j hj=>?hTK) ?hR
    case hadr=>
     obtain⟨b,k,e1,e2,e3,e4,x⟩:=hat i h;obtain⟨hlt,_⟩:=hold b k x;rw[e3];have hbl:b≠l:=fun z=>by
      obtain⟨o,its,n,ho,hc,hd,hii⟩:=x;subst z;rw[hol] at ho;cases ho;cases hd;have hb0:=Yaw e1;have hv:YaH b∈items.toList:=by rw[hi];exact Ya6.mpr ⟨b,hb0,rfl⟩
      obtain⟨i0,t0,e0⟩:=Zeo hii _ hv;cases e0
     refine⟨?_,Yaz hlt⟩;rw[Ya4];simp only[Yai,YaE,YaZ,or_false,not_or];exact⟨Yaz (YbJ hlt),hbl⟩
    case hTK=>
     obtain⟨b,k,e1,e2,e3,e4,x⟩:=hat j hj;dsimp only;rw[e3,e4];exact (hold b k x).2
    case hS0=>
     refine⟨_,#[],0,_,hget,⟨rfl,rfl,rfl⟩,rfl,⟨.inl rfl,YbM,rfl,rfl,by show 0*5<7*3;decide,fun j hj=>by simp[Yc3] at hj,fun i j e h1=>by simp[Yc3] at h1⟩,⟨rfl,fun q hq=>by simp at hq⟩,Ydf⟩
    case hR=>
     intro s' L' hm hS' hK';obtain⟨h',g',d',tk',os'⟩:=s';have eg:g'=s.gens:=hm.gens;have ed:d'=s.drawn:=hm.drawn;have eo:os'=s.os:=hm.os;subst eg;subst ed;subst eo;show wpAny _ _ _ _ _ _;refine wpAny_pure ?_;show wpAny _ _ (ret YbN) _ _ _;refine wpAny_pure ⟨rfl,h',tk',rfl,⟨L',hS',fun k=>?_⟩,fun b o hb e=>?_⟩
     ·rw[hK'.1];constructor
      ·rintro⟨j,hj,rfl⟩;obtain⟨b,k,e1,e2,e3,e4,x⟩:=hat j hj;dsimp only;rw[e4];exact Yaw e2
      ·intro hk2;obtain⟨j,hj,e⟩:=Ybk hk2;exact⟨j,by omega,by simp[YcU,hj,e]⟩
     ·have hb1:b≠s.heap.objs.size:=Yaz hb;have hb2:b≠(s.heap.push { cls:=.type "set",dict:=none,data:=.set #[] 0 (.fresh 0 0 led) }).objs.size:=by
       rw[Ya4];exact Yaz (YbJ hb)
      exact hm.heap b o (by simp only[Yai,YaE,YaZ,or_false,not_or];exact⟨hb1,hb2⟩) (Yac _ (Yac _ e))
   ·cases r₂ with
    | error e=>exact hr₂
    | ok fl₂=>
     cases fl₂ with
     | ret r=>
      obtain⟨rfl,h',tk,rfl,⟨L,hS',hL⟩,hk'⟩:=hr₂
      repeat (any_goals (first | assumption | wp_step))
      exact h _ _ L hS' hL hk'
     | _=>exact hr₂.elim
  | _=>exact hr.elim
end
end StT
namespace L2
open PySem PySem.Spec PyProof.Rows StT
def SetN (a:Addr) (n:Nat):HO:=.ext fun h=>∃ o es ep t,h.get? a=some o/\o.ExactSet/\o.data=.set es ep t/\t.fits es.size=true/\es.size=n/\n<=500
theorem Zkh {P:Program}{w:World}{H:Hp}{h:Heap}{a:Addr}{L:List (List Int × Addr)} (S:SetT P w h a L) (h5:L.length<=500):ObjOk P w H h a (SetN a L.length):=by
 obtain⟨o,es,ep,t,ho,hex,hd,T,X,nd⟩:=S;exact⟨⟨o,es,ep,t,ho,hex,hd,T.fits,by rw[<- Yao,X.es,Yab],h5⟩,⟨o,ho⟩,fun _ _ ⟨o,es,ep,t,e,r⟩ k=>⟨o,es,ep,t,k o e,r⟩⟩
theorem Zj2 {P:Program}{w:World}:∀ {ks:List Int}{us:List Value},Vals (ks.map V.int) us->ItemsAre (intKind P w) ks us
 | [],_,r=>by rw[Ycw] at r;cases r;exact .nil
 | k::ks,_,r=>by
  rw[YaK] at r
  cases r with
  | cons h t=>
   obtain⟨tk,rfl⟩:=h;exact .cons (by show YeB k (.int k tk)=true;simp[YeB]) (Zj2 t)
theorem Zkm:∀ {qs:List Addr}{us:List Value},Vals (qs.map V.ref) us->us=qs.map YaH
 | [],_,r=>by rw[Ycw] at r;cases r;rfl
 | q::qs,_,r=>by
  rw[YaK] at r
  cases r with
  | cons h t=>
   cases h;rw[YaK,Zkm t]
theorem ZlM {P:Program}{w:World}{H:Hp}{h:Heap}{a:Addr}{k:List Int} (ok:HOk P w H h) (e:H a=some (.tup (k.map V.int))):TKey P w h k a:=by
 obtain⟨_,its,r,o,h1,h2,_,n,h3⟩:=(show ObjOk P w H h a (.tup (k.map V.int)) from ok a _ e)
 exact⟨o,its.toArray,n,h1,h2,h3,by simpa using Zj2 r⟩
section
variable {X:Cx}
theorem Ziw (hc:X.calm=true) (hu:X.A.units+8<cLine):Zbg X (.type "set") (fun xs H Q=>∃ (a:Addr) (b:Bool) (qs:List Addr) (ks:List (List Int)),xs=[.ref a]/\SqB b X.K H a (qs.map V.ref)/\TTs H qs ks/\ks.length<=500 /\
  ∀ (l:Addr) (L:List (List Int)),H l=none->L.Nodup->(∀ k,k∈L↔k∈ks)->Q (.ref l) (upd H l (SetN l L.length))):=by
 intro pins s σ H xs us Q I r h;obtain⟨a,b,qs,ks,rfl,hq,hT,h5,q⟩:=h;obtain⟨u,rfl,rx⟩:=Zci r;cases rx;have hk:∀ (i:Nat) b k,qs[i]?=some b->ks[i]?=some k->TKey X.prog X.w s.heap k b:=fun i b k h1 h2=>ZlM I.hok (hT.2 i b k h1 h2);have fin:∀ (h':Heap) (tk:Nat) (L:List (List Int × Addr)),SetT X.prog X.w h' s.heap.objs.size L->(∀ k,k∈L.map (·.1)↔k∈ks) ->
   (∀ b o,b<s.heap.objs.size->s.heap.get? b=some o->h'.get? b=some o)->EP X pins σ Q (.ref s.heap.objs.size) { s with heap:=h',toks:=tk }:=fun h' tk L hS hm kp=>by
  have nd:(L.map (·.1)).Nodup:=by obtain⟨_,_,_,_,_,_,_,_,_,nd⟩:=hS;exact nd
  have hl:(L.map (·.1)).length<=ks.length:=nd.length_le_of_subset fun k hk=>(hm k).mp hk;rw[Yab] at hl;have I1:=I.laid (a:=s.heap.objs.size) (o:=SetN s.heap.objs.size L.length) (h':=h') (t':=tk) (fun b o e=>kp b o (Yah e) e) (Yag _) (Zkh hS (by omega));have hq2:=q s.heap.objs.size (L.map (·.1)) (I.hok.fresh (Yag _)) nd hm;rw[Yab] at hq2;exact⟨.ref s.heap.objs.size,_,I1,rfl,hq2⟩
 cases b
 ·obtain⟨its,r',pl,hz⟩:=I.tuple hq;exact Zei hu (I.ok.hd hc) (show s.heap.IsTuple a its.toArray from pl) (Zkm r') hT.1 h5 hk fin
 ·obtain⟨its,r',pl,hz⟩:=I.list hq;exact Zde hu (I.ok.hd hc) pl.isList (Zkm r') hT.1 h5 hk fin
theorem Ziy:Zbg X (.builtin "len") (fun xs H Q=>∃ (a:Addr) (n:Nat),xs=[.ref a]/\H a=some (SetN a n)/\Q (.int (n:Int)) H):=by
 intro pins s σ H xs us Q I r h;obtain⟨a,n,rfl,ha,q⟩:=h;obtain⟨u,rfl,rx⟩:=Zci r;cases rx;obtain⟨⟨o,es,ep,t,ho,hex,hd,hf,hn,h5⟩,_⟩:=(show ObjOk X.prog X.w H s.heap a (SetN a n) from I.hok a _ ha)
 have hm:=ZeP;exact PySem.call_len_set ho hex hd hf (by omega) ⟨.int (n:Int),H,I.tok _,⟨s.toks+1,by rw[hn]⟩,q⟩
theorem Zmd:bootBuiltins "set"=some (.type "set"):=by decide +kernel
end
end L2
namespace L2
open PySem PySem.Spec PyProof.Rows PySem.SeqAt
section
variable {prog:Program}{w:World}{A:Around}{E:Value->Shared->Prop}{s:Shared}
set_option maxRecDepth 100000 in
end
section
variable {X:Cx}
end
end L2
namespace L2
open PySem PySem.Spec PyProof.Rows
end L2
namespace PySem.AutoSeq1
open PySem PySem.Spec PyProof.Rows
end PySem.AutoSeq1
namespace L2
open PySem PySem.Spec PyProof.Rows
section
variable {X:Cx}
end
end L2
namespace L2
open PySem PySem.Spec PyProof.Rows
section
variable {own:List Str}{js:List Nat}{g:TG}{te:TE}{σ:St}{H1:Hp}{Q:VK}
theorem LLs.snocC {H:Hp}{rs:List Addr}{N:List (List Int)}{q:Addr}{xs:List Int} (h:LLs H rs N) (e:H q=some (.lst (xs.map V.int))):LLs H (rs++[q]) (N++[xs]):=⟨by rw[Yak,Yak,h.1];rfl,fun j r ys a b=>by
 have hl:=h.1;by_cases hj:j<rs.length
 ·rw[Ya3 hj] at a;rw[Ya3 (by omega)] at b;exact h.2 j r ys a b
 ·rw[Ya1 (by omega)] at a b;have e0:j - rs.length=0:=by
   have:=(Yae.mp a).1
   simp at this;omega
  rw[e0] at a;rw[<- hl,e0] at b;cases a;cases b;exact e⟩
theorem Zc4 {lo:Int}{n:Nat} (N:List (List Int)) (hN:N.length=n) (hlen:n<=20000)
  (hs:∀ i xs,i<n->N[i]?=some xs->∀ H,Same H1 H->∀ R:VK,(∀ q H',H q=none->Same H H'->H' q=some (.lst (xs.map V.int))->R (.ref q) H')->g (.int (lo+(i:Nat))) (blkσ own js σ) H fun τ H4=>te τ H4 R)
  (hd:∀ acc (qs:List Addr) H,H1 acc=none->Same H1 H->H acc=some (.lst (qs.map V.ref))->LLs H qs N->(∀ q∈qs,q≠acc/\H1 q=none)->Q (.ref acc) H):Zbh own js g ZdK te σ (Itr lo n) H1 Q:=by
 refine ZdB (fun acc i H=>Same H1 H/\∃ qs:List Addr,H acc=some (.lst (qs.map V.ref))/\LLs H qs (N.take i)/\∀ q∈qs,q≠acc/\H1 q=none) (fun acc h0=>⟨Same.new h0,[],Zab,⟨rfl,fun j r xs a=>(nomatch a)⟩,fun q h=>nomatch h⟩) ?_ fun acc H h0 ⟨s1,qs,hacc,hL,hq⟩=>hd acc qs H h0 s1 hacc (by rwa [<- hN,YaT] at hL) hq;rintro acc i H h0 hi ⟨s1,qs,hacc,hL,hq⟩;have hy':=Yaa (l:=N) (i:=i) (by omega);have hql:qs.length=i:=by rw[hL.1,YaA];omega
 refine (cast ?_ (hs i _ hi hy' H s1 (fun y H6=>∃ zs',H6 acc=some (.lst zs')/\zs'.length<sizeLine/\(i+1<=n/\(Same H1 (upd H6 acc (.lst (zs'++[y])))/\∃ qs:List Addr,upd H6 acc (.lst (zs'++[y])) acc=some (.lst (qs.map V.ref))/\LLs (upd H6 acc (.lst (zs'++[y]))) qs (N.take (i+1))/\∀ q∈qs,q≠acc/\H1 q=none))) fun q H' nq s' hq'=>?_))
 ·unfold ZdK;simp only[if_true]
 ·have hqa:q≠acc:=fun e=>by rw[e,hacc] at nq;cases nq
  refine⟨_,s' _ _ hacc,?_,hi,(s1.trans s').put h0,qs++[q],by rw[Zab,YaC];rfl,?_,fun x hx=>?_⟩
  ·rw[sizeLine_eq,Yab];omega
  ·rw[Ybf,hy'];have h5:=(hL.same s').snocC hq';refine⟨h5.1,fun j r xs a b=>?_⟩;have hne:r≠acc:=by
    rcases Yan.mp (Yaw a) with z | z
    ·exact (hq r z).1
    ·rw[YaE.mp z];exact hqa
   rw[Zag hne];exact h5.2 j r xs a b
  ·rcases Yan.mp hx with z | z
   ·exact hq x z
   ·rw[YaE.mp z];exact⟨hqa,s1.free nq⟩
end
end L2
namespace Lv
open PySem L2
end Lv
namespace L2
open PySem PySem.Spec PyProof.Rows PySem.SeqAt
end L2
namespace L2
open PySem PySem.Spec PyProof.Rows PySem.SeqAt Lv
end L2
namespace Fk39
open PySem L2 Lv
def top (i:Nat):Stmt:=PySem.Challenge.pw_fewreels_k39_best_over_levels.main.body.getD i (.Pass ⟨0,0,0,0⟩)
abbrev Zdo:Stmt:=top 7
abbrev ZfN:Stmt:=top 8
abbrev ZdX:Stmt:=top 9
abbrev ZfL:Stmt:=top 10
abbrev ZeE:Stmt:=top 15
abbrev ZfP:Stmt:=top 16
abbrev ZfQ:Stmt:=top 17
abbrev ZiV:Stmt:=top 18
abbrev ZdZ:Stmt:=top 19
abbrev ZfM:Stmt:=top 20
abbrev sTot:Stmt:=top 23
abbrev ZdW:Stmt:=top 24
abbrev Zcm:Stmt:=top 25
abbrev Zcu:Stmt:=top 26
abbrev ZfR:Stmt:=top 27
abbrev ZfO:Stmt:=top 28
abbrev Zbi:Stmt:=top 29
abbrev Zgz:Stmt:=top 30
abbrev sLN:Stmt:=top 31
abbrev Zck:Stmt:=top 32
abbrev ZdY:Stmt:=top 34
abbrev ZbF:Stmt:=top 35
abbrev ZbS:Stmt:=top 36
abbrev ZbD:Stmt:=top 37
abbrev Zcn:Stmt:=top 38
abbrev sBPl:Stmt:=top 39
abbrev ZaG:Stmt:=top 40
abbrev Zdq:Stmt:=top 42
abbrev Zds:Stmt:=top 43
abbrev Za6:Stmt:=top 44
abbrev Zdr:Stmt:=top 46
abbrev Zcl:Stmt:=top 47
abbrev ZbE:Stmt:=top 48
abbrev ZaY:Stmt:=top 49
abbrev ZaZ:Stmt:=top 50
abbrev Zdp:Stmt:=top 51
abbrev sLaw:Stmt:=top 52
end Fk39
namespace Fk39
open PySem L2 Lv
section
variable {P:Program}{w:World}{K:Yad}{mg:Str->Option Value}{base:Heap}
theorem scRef67:FnScope ["p","lengths","told","caught","e"] ["p","lengths","told"] (Zac Zdp):=⟨rfl,rfl,rfl,by decide +kernel,rfl,by decide +kernel,by decide +kernel⟩
def Zfh (K:Yad):Sp:=fun vs H Q _=>∃ (v:V) (T:String) (ll:Addr) (td:V),vs=[v,.ref ll,td]/\(td=.non∨∃ t,td=.ref t)/\Thing K H v T/\NotIn 2 7 v T/\∀ H',Same H H'->Q (.bl true) H'
theorem Zjb {f:Addr}{fd:FuncData} (F:Fun K "_law_refused" "_law_refused" Zdp f fd) (T:Txt mg) {R9 C cL cF cM:Addr} (mR:mg "ReelError"=some (.ref R9)) (mW:mg "NoWays"=some (.ref C)) (mL:mg "NoLevel"=some (.ref cL)) (mF:mg "TooFew"=some (.ref cF)) (mM:mg "TooMany"=some (.ref cM)) (tab:ExcTab K R9 C [C,cL,cF,cM]) (nd:([C,cL,cF,cM]:List Addr).Nodup) {fB fP:Addr}{dB dP:FuncData} (CB:CalE P w K mg base 4 "best_placing" ["p","lengths"] [] (Zgt K 2 7 C 1) fB dB) (CP:CalE P w K mg base 7 "placing_right" ["p","lengths","told"] [] (Zgt K 2 7 C 2) fP dP):FnOk P w K mg base CX0 8 f fd ["p","lengths","told"] (Zfh K):=by
 refine okW F scRef67 (fun vs H Q E h=>?_) (fun cdv A outer s H vs Q E hr h=>?_)
 ·obtain⟨v,Tv,ll,td,rfl,_⟩:=h;rfl
 ·obtain⟨v,Tv,ll,td,rfl,htd,th,hni,k⟩:=h;have hr4:Room 4 _:=hr.mono (by decide);have hr7:Room 7 _:=hr.mono (by decide);refine⟨_,(Zai (ws (Zar (i:=3) scRef67.nd rfl (YaW rfl) ZeH))
   (Zai (ws (Zlh (i:=4) scRef67.nd rfl rfl rfl mR (fun Ex pn' xe' hx=>(WSs.out (Zax (Zc9 (ZjR (ZjT (pv 2)))
    (Zax (ws (Za1 (Zd5 CB hr4 hx rfl (Zaa (pv 0) (Zaa (pv 1) Zad))))))
    (Zax (ws (Za1 (Zd5 CP hr7 hx rfl (Zaa (pv 0) (Zaa (pv 1) (Zaa (pv 2) Zad)))))))))))
   (fun ea=>(WSs.out (Zax (ws (Zar (i:=3) scRef67.nd rfl (YaW rfl) (pv 4))))))))
   (Zax (ws (ZaF (Zf0 (Zaj (Zem K) rfl T.isinstance Zay (Zaa (pv 3) (Zaa (Zd4 rfl mW) Zad))) (ZfY (Zhs (Zaj (Zdg K) rfl T.isinstance Zay (Zaa (pv 3) (Zaa (WE.out (ZjG (ZaA rfl (Zd4 rfl mL) (ZaA rfl (Zd4 rfl mF) (ZaA rfl (Zd4 rfl mM) ZfE))))) Zad))))))))))),?_⟩
  have nd':=nd;simp only[Yco,Yai,YaZ,or_false,not_or,Ydf,and_true,not_false_eq_true] at nd';have k1:PySem.W.kitAny K (.ref C) ([cL,cF,cM].map YaH)=some false:=tab.none (by simp) (by simpa using ⟨Ybj nd'.1.1,Ybj nd'.1.2.1,Ybj nd'.1.2.2⟩);refine⟨_,rfl,_,rfl,?_⟩;refine ite2 (fun _=>?_) (fun _=>?_)
  ·refine⟨_,rfl,_,rfl,v,Tv,_,rfl,rfl,th,hni,?_⟩;refine⟨C,rfl,tab.exm,fun ea hea=>?_⟩;have sE:=(Same.refl H).trans (Same.new (o:=Zbe ea C) hea);have hE:upd H ea (Zbe ea C) ea=some (Zbe ea C):=Zab;generalize upd H ea (Zbe ea C)=H1 at sE hE ⊢;refine⟨_,rfl,?_⟩;refine⟨_,rfl,ea,C,_,_,true,rfl,hE,tab.ok,.inr ⟨_,rfl,rfl⟩,tab.yes (by simp),true,rfl,iteT ?_⟩;refine⟨_,rfl,(by show 3<=sizeLine;decide),fun t1 n1=>⟨ea,C,t1,[cL,cF,cM],false,rfl,(Same.new n1) _ _ hE,tab.ok,Zab,k1,false,rfl,k _ (sE.trans (Same.new n1))⟩⟩
  ·refine⟨_,rfl,_,rfl,_,rfl,v,Tv,_,rfl,rfl,th,hni,?_⟩;refine⟨C,rfl,tab.exm,fun ea hea=>?_⟩;have sE:=(Same.refl H).trans (Same.new (o:=Zbe ea C) hea);have hE:upd H ea (Zbe ea C) ea=some (Zbe ea C):=Zab;generalize upd H ea (Zbe ea C)=H1 at sE hE ⊢;refine⟨_,rfl,?_⟩;refine⟨_,rfl,ea,C,_,_,true,rfl,hE,tab.ok,.inr ⟨_,rfl,rfl⟩,tab.yes (by simp),true,rfl,iteT ?_⟩;refine⟨_,rfl,(by show 3<=sizeLine;decide),fun t1 n1=>⟨ea,C,t1,[cL,cF,cM],false,rfl,(Same.new n1) _ _ hE,tab.ok,Zab,k1,false,rfl,k _ (sE.trans (Same.new n1))⟩⟩
end
end Fk39
namespace Fk39
open PySem L2 Lv
section
variable {P:Program}{w:World}{K:Yad}{mg:Str->Option Value}{base:Heap}
theorem scDraws:FnScope ["cell","many","base","found","left","k"] ["cell","many","base"] (Zac Zds):=⟨rfl,rfl,rfl,by decide +kernel,rfl,by decide +kernel,by decide +kernel⟩
def ZdR:Sp:=fun vs H Q _=>∃ (c:Int) (m:Nat) (b:Int),vs=[.int c,.int m,.int b]/\m<=900/\0<b/\YaR b<=8000/\∀ (l:Addr) (ds:List Int) (H':Hp),H l=none->H' l=some (.lst (ds.map V.int))->ds.length=m->(∀ d∈ds,0<=d)->Same H H'->Q (.ref l) H'
theorem Zjh {f fA:Addr}{fd dA:FuncData} (F:Fun K "_law_draws" "_law_draws" Zds f fd) (T:Txt mg) (CA:Cal P w K mg base 1 "_law_mixed" ["cell","k"] Zfi fA dA):FnOk P w K mg base CX0 2 f fd ["cell","many","base"] ZdR:=by
 refine F.ok scDraws (fun vs H Q E h=>?_) (fun cdv A outer s H vs Q E hr h=>?_)
 ·obtain⟨c,m,b,rfl,_⟩:=h;rfl
 ·obtain⟨c,m,b,rfl,hm,hb0,hbb,k⟩:=h;refine⟨_,Zaq (Zar (i:=3) scDraws.nd rfl (YaW rfl) (ZaQ Zad))
   (Zaq (Zar (i:=4) scDraws.nd rfl (YaW rfl) Zaf)
   (Zaq (Zfl (ZaP Zku (pv 0) (Zap ZcT Zaf Zaf) (Za4 _)) (Zav (Zar (i:=4) scDraws.nd rfl (YaW rfl) (Zap ZeI (pv 0) (Zap ZcT Zaf Zaf)))) Zcp)
   (Zaq (ZcP YbI rfl (Za9 rfl T.range (Zaa (pv 1) Zad)) (Zam (i:=5) scDraws.nd rfl (YaW rfl))
    (Zav (Zfl (ZaP ZlZ (pv 4) Zaf (Za4 _))
     (Zaq (Za1 (ZgE Ybu YbV YbU Zbb (pv 3) (Zaa (Zap Za3 (pv 4) (pv 2)) Zad)))
     (Zav (Zar (i:=4) scDraws.nd rfl (YaW rfl) (Zap Zi8 (pv 4) (pv 2)))))
     (Zav (Za1 (ZgE Ybu YbV YbU Zbb (pv 3) (Zaa (Zap Za3 (ZaB CA hr rfl (Zaa (pv 0) (Zaa (pv 5) Zad))) (pv 2)) Zad)))))))
   (Zav (ZaF (pv 3)))))),?_⟩
  refine cut3 (fun σ' H'=>∃ (l:Addr) (lf:Int),H l=none/\σ'=[some (.int c),some (.int m),some (.int b),some (.ref l),some (.int lf),none]/\H'=upd H l (.lst [])) (fun R hR=>?_) ?_
  ·refine⟨YaP _,fun l hl=>?_⟩;refine⟨_,rfl,10,18,rfl,rfl,⟨by decide,by decide,by decide⟩,_,_,rfl,rfl,_,rfl,?_⟩;refine ite2 (fun _=>?_) (fun _=>hR _ _ ⟨l,_,hl,rfl,rfl⟩);exact⟨_,rfl,10,18,rfl,rfl,⟨by decide,by decide,by decide⟩,_,_,rfl,rfl,hR _ _ ⟨l,_,hl,rfl,rfl⟩⟩
  ·rintro σ' H' ⟨l,lf,hl,rfl,rfl⟩;refine⟨_,rfl,m,rfl,by omega,by omega,Zc1 (fun i σ H2=>∃ (lf:Int) (o:Option V) (ds:List Int),σ=[some (.int c),some (.int m),some (.int b),some (.ref l),some (.int lf),o]/\H2 l=some (.lst (ds.map V.int))/\ds.length=i/\(∀ d∈ds,0<=d)/\Same H H2)
    ⟨lf,none,[],rfl,Zab,rfl,fun d hd=>by simp at hd,Same.new hl⟩ ?_ ?_⟩
   ·rintro i σ H2 hi ⟨lf,o,ds,rfl,hl2,hd,h0,s2⟩;have push:∀ (y:Int),0<=y->((upd H2 l (.lst (ds.map V.int++[.int y]))) l=some (.lst ((ds++[y]).map V.int)))/\(ds++[y]).length=i+1/\(∀ d∈ds++[y],0<=d):=by
     intro y hy;refine⟨by rw[Zab];simp,by simp[hd],fun d hd'=>?_⟩;rcases Yan.mp hd' with z | z
     ·exact h0 d z
     ·have:d=y:=by simpa using z
      omega
    refine⟨_,rfl,_,_,rfl,rfl,_,rfl,?_⟩;refine ite2 (fun hc=>?_) (fun hc=>?_)
    ·refine⟨_,rfl,.inl ⟨rfl,_,SqL.of hl2⟩,_,rfl,_,rfl,lf,b,rfl,rfl,hb0,l,_,_,rfl,rfl,hl2,ZaO (by rw[Yab];omega),?_⟩;obtain⟨p1,p2,p3⟩:=push (lf % b) (Ybh _ (by omega));refine⟨_,rfl,_,rfl,lf,b,rfl,rfl,⟨hb0,hbb⟩,?_⟩;exact⟨_,_,ds++[lf % b],rfl,p1,p2,p3,s2.put hl⟩
    ·refine⟨_,rfl,.inl ⟨rfl,_,SqL.of hl2⟩,_,rfl,_,rfl,c,i,?_,by omega,fun d H3 d0 s3=>?_⟩
     ·rw[show ((0:Int)+(i:Int))=(i:Int) by omega];rfl
     have hl3:=s3 l _ hl2;refine⟨_,rfl,d,b,rfl,rfl,hb0,l,_,_,rfl,rfl,hl3,ZaO (by rw[Yab];omega),?_⟩;obtain⟨p1,p2,p3⟩:=push (d % b) (Ybh _ (by omega));refine⟨_,_,ds++[d % b],rfl,by rw[Zab];simp,p2,p3,(s2.trans s3).put hl⟩
   ·rintro σ H2 ⟨lf,o,ds,rfl,hl2,hd,h0,s2⟩;exact⟨_,rfl,k l ds H2 hl hl2 (by rw[hd];omega) h0 s2⟩
theorem scReels72:FnScope ["p","n","reels","level","more"] ["p","n"] (Zac Za6):=⟨rfl,rfl,rfl,by decide +kernel,rfl,by decide +kernel,by decide +kernel⟩
def Zb9 (K:Yad):Sp:=fun vs H Q _=>∃ (p n:Nat),vs=[.int p,.int n]/\2<=p/\p<=7/\n<=400/\tot p n<=4000/\∀ l (rs:List Addr) H',H l=none->H' l=some (.lst (rs.map V.ref))->LLs H' rs (num p n)->Same H H'->Q (.ref l) H'
theorem ZgG {f:Addr}{fd:FuncData} (F:Fun K "_law_reels" "_law_reels" Za6 f fd) (T:Txt mg):FnOk P w K mg base CX0 1 f fd ["p","n"] (Zb9 K):=by
 refine okW F scReels72 (fun vs H Q E h=>?_) (fun cdv A outer s H vs Q E hr h=>?_)
 ·obtain⟨p,n,rfl,_⟩:=h;rfl
 ·obtain⟨p,n,rfl,p2,p7,hn,ht,k⟩:=h;refine⟨_,(Zai (ws (Zar (i:=2) scReels72.nd rfl (YcL rfl) (Zap Zcw (ZaQ (Zaa (ZaQ (Zaa Zaf Zad)) Zad)) (ZaR (own:=["reel"]) (js:=[]) (CompOk.by (sc:=Zac Za6) (N:=["p","n","reels","level","more"]) rfl rfl (by decide +kernel)) rfl (Za9 rfl T.range (Zaa (Zap ZeI (pv 0) Zaf) Zad)) ZaC (fun _ _ _ _ _=>(Zam (i:=0) (by show (["reel"]:List Str).Nodup;decide +kernel) rfl (YaW rfl) (.inr rfl))) (fun _ _ _ _ _=>ZaH) (fun _ _ _ _ _=>(ZaQ Zad))))))
   (Zai (ws (ZcP YbI rfl (Za9 rfl T.range (Zaa (pv 1) Zad)) (Zam (i:=3) scReels72.nd rfl (YaW rfl))
   (WSs.out (Zai (ws (Zar (i:=4) scReels72.nd rfl (YcL rfl) (ZaR (own:=["number"]) (js:=[]) (CompOk.by (sc:=Zac Za6) (N:=["p","n","reels","level","more"]) rfl rfl (by decide +kernel)) rfl (Zd2 (ZaI ZaT (pv 2) Zaf (fun _ _=>rfl))) ZaC (fun _ _ _ _ _=>(Zam (i:=0) (by show (["number"]:List Str).Nodup;decide +kernel) rfl (YaW rfl) (.inr rfl))) (fun _ _ _ _ _=>ZaH) (fun _ _ _ _ _=>(Zap Zba (pv 0) Zaf)))))
    (Zax (ws (Zar (i:=2) scReels72.nd rfl (YcL rfl) (Zap Zcw (ZaR (own:=["k"]) (js:=[2,4]) (CompOk.by (sc:=Zac Za6) (N:=["p","n","reels","level","more"]) rfl rfl (by decide +kernel)) rfl (Za9 rfl T.range (Zaa (Zap ZeI (pv 0) Zaf) Zad)) ZaC (fun _ _ _ _ _=>(Zam (i:=0) (by show (["k","reels","more"]:List Str).Nodup;decide +kernel) rfl (YaW rfl) (.inr rfl))) (fun _ _ _ _ _=>ZaH) (fun _ _ _ _ _=>(Zap Zcw (pv 2) (ZaI (ZbH K) (pv 1) (Zap Zba (pv 0) Zaf) (fun _ _=>rfl))))) (ZaQ (Zaa (pv 4) Zad))))))))))
   (Zax (ws (ZaF (pv 2)))))),?_⟩
  have hz:20000<sizeLine:=by decide
  refine⟨(by show 1<=sizeLine;decide),fun q1 n1=>⟨(by show 1<=sizeLine;decide),fun q2 n2=>?_⟩⟩;have s2:=(Same.new (o:=.lst [V.int 0]) n1).trans (Same.new (o:=.lst [V.ref q1]) n2);have e1:upd (upd H q1 (.lst [V.int 0])) q2 (.lst [V.ref q1]) q1=some (.lst [V.int 0]):=(Same.new n2) _ _ Zab;have e2:upd (upd H q1 (.lst [V.int 0])) q2 (.lst [V.ref q1]) q2=some (.lst [V.ref q1]):=Zab;generalize upd (upd H q1 (.lst [V.int 0])) q2 (.lst [V.ref q1])=H2 at s2 e1 e2 ⊢;refine⟨_,rfl,_,_,rfl,rfl,_,rfl,by show -(2 ^ 62)<=(p:Int) - 1;omega,by show (p:Int) - 1<2 ^ 62;omega,?_⟩;rw[show ((p:Int) - 1).toNat=p - 1 by omega];refine Zc4 (lo:=0) (n:=p - 1) (Yau (p - 1) []) (by simp) (by omega) (fun i xs hi hx Hc sc Rr hRr=>?_) fun a3 qs H3 na3 s3 ha3 hL3 _=>?_
  ·rw[YbY,if_pos hi] at hx;cases hx;exact⟨YaP _,fun q nq=>hRr q _ nq (Same.new nq) Zab⟩
  refine⟨q2,a3,_,_,rfl,rfl,s3 _ _ e2,ha3,?_,fun rl0 nrl0=>?_⟩
  ·have:=hL3.1;rw[YbS] at this;exact Ybs (ZaO (by rw[Yab,this];simp;omega))
  have s4:=Same.new (o:=.lst ([V.ref q1]++qs.map V.ref)) nrl0;have e4:upd H3 rl0 (.lst ([V.ref q1]++qs.map V.ref)) rl0=some (.lst ((q1::qs).map V.ref)):=Zab;have hN4:LLs H3 (q1::qs) (num p 0):=by
   refine⟨by have:=hL3.1;show _=(num0 p).length;unfold num0;simp at this ⊢;exact this,fun j r xs a b=>?_⟩
   cases j with
   | zero=>
    have a:q1=r:=by simpa using a
    have b:[0]=xs:=by
     have b:(num0 p)[0]?=some xs:=b;simpa[num0] using b
    rw[<- a,<- b];exact s3 _ _ e1
   | succ j=>exact hL3.2 j r xs (by simpa using a) (by
     have b:(num0 p)[j+1]?=some xs:=b;simpa[num0] using b)
  have hN4:=hN4.same s4;generalize upd H3 rl0 (.lst ([V.ref q1]++qs.map V.ref))=H4 at s4 e4 hN4 ⊢;have s04:=(s2.trans s3).trans s4;refine⟨_,rfl,n,rfl,by omega,by omega,?_⟩;rw[Yba];refine Zc1 (fun i σ Hx=>∃ (rl:Addr) (rs:List Addr) (o3 o4:Option V),σ=[some (.int p),some (.int n),some (.ref rl),o3,o4]/\Hx rl=some (.lst (rs.map V.ref))/\LLs Hx rs (num p i)/\H rl=none/\Same H Hx) ⟨rl0,q1::qs,none,none,rfl,e4,hN4,(s2.trans s3).free nrl0,s04⟩ ?_ ?_
  ·rintro i σ Hx hi ⟨rl,rs,o3,o4,rfl,hrl,hLL,nrl,sx⟩;obtain⟨x,r,ex,hr,exn⟩:=ZeL p2 i;have hlen:rs.length=p:=by rw[hLL.1];exact Zcr (by omega) i
   have hxl:x.length<=4000:=by
    have:=ZeM (p:=p) (n:=i) (xs:=x) (by rw[ex];exact YaG);have:=ZcB p2 (m:=i) (n:=n) (by omega);omega
   obtain⟨a0,rs',rfl⟩:∃ a0 rs',rs=a0::rs':=by
    match rs,hlen with
    | [],h=>simp at h;omega
    | a0::rs',_=>exact⟨a0,rs',rfl⟩
   have ha0:=hLL.2 0 a0 x rfl (by rw[ex];rfl);refine⟨_,rfl,rl,_,0,.ref a0,rfl,rfl,SqL.of hrl,(Za2 (j:=0) rfl),a0,true,rfl,⟨_,SqL.of ha0⟩,?_⟩;refine Zc5 ((x.map (·+1)).map V.int) (show SqB true K Hx a0 (x.map V.int) from SqL.of ha0) (by simp) (by rw[Yab];omega) (fun j y z hy hz' Hc sc Rr hRr=>?_) fun ml H5 nml s5 hml=>?_
   ·obtain⟨y',hy',rfl⟩:=Zbp hy;rw[Yal,Yal,hy'] at hz';cases hz';exact⟨_,rfl,_,_,rfl,rfl,hRr Hc (Same.refl _)⟩
   have hrl5:=s5 _ _ hrl;have hLL5:=hLL.same s5;have sx5:=sx.trans s5;refine⟨_,rfl,_,_,rfl,rfl,_,rfl,by show -(2 ^ 62)<=(p:Int) - 1;omega,by show (p:Int) - 1<2 ^ 62;omega,?_⟩;rw[show ((p:Int) - 1).toNat=p - 1 by omega];have hrl4:∀ y∈r,y.length<=4000:=fun y hy=>by
    have:=ZeM (p:=p) (n:=i) (xs:=y) (by rw[ex];exact Yat _ hy);have:=ZcB p2 (m:=i) (n:=n) (by omega);omega
   refine Zc4 (lo:=0) (n:=p - 1) (r.map (x.map (·+1)++·)) (by rw[Yab];omega) (by omega) (fun j xs hj hx Hc sc Rr hRr=>?_) fun a6 qs6 H6 na6 s6 ha6 hL6 _=>?_
   ·rw[Yal] at hx;have hjr:j<r.length:=by omega
    rw[Yaa hjr] at hx;cases hx;have hjs:j+1<(a0::rs').length:=by omega
    have hy:=hLL5.2 (j+1) _ r[j] (Yaa hjs) (by rw[ex];exact Yaa hjr);have hjy:=hrl4 _ (Ybg hjr);have hat:atI ((a0::rs').map V.ref) ((0:Int)+(j:Int)+1)=some (.ref (a0::rs')[j+1]):=by
     rw[show (0:Int)+(j:Int)+1=((j+1:Nat):Int) by omega];exact Za2 (by rw[Yal,Yaa hjs];rfl)
    exact⟨_,rfl,_,rfl,_,rfl,_,_,rfl,rfl,rl,_,_,.ref (a0::rs')[j+1],rfl,rfl,SqL.of (sc _ _ hrl5),hat,ml,_,_,_,rfl,rfl,sc _ _ hml,sc _ _ hy,by rw[sizeLine_eq];simp;omega,fun q nq=>hRr q _ nq (Same.new nq) (by rw[Zab,YaC])⟩
   refine⟨_,rfl,(by show 1<=sizeLine;decide),fun q7 n7=>?_⟩;have s7:=Same.new (o:=.lst [V.ref ml]) n7;refine⟨a6,q7,_,_,rfl,rfl,s7 _ _ ha6,Zab,?_,fun rl2 nrl2=>?_⟩
   ·have:=hL6.1;rw[Yab] at this;exact Ybs (ZaO (by rw[Yab,this];simp;omega))
   have hL7:=((hL6.same s7).snocC (s7 _ _ (s6 _ _ hml)))
   generalize upd H6 q7 (.lst [V.ref ml])=H7 at s7 nrl2 hL7 ⊢;have s8:=Same.new (o:=.lst (qs6.map V.ref++[V.ref ml])) nrl2;have sx8:=((sx5.trans s6).trans s7).trans s8;refine⟨rl2,qs6++[ml],_,_,rfl,by rw[Zab,YaC];rfl,?_,((sx5.trans s6).trans s7).free nrl2,sx8⟩;rw[exn];exact hL7.same s8
  ·rintro σ Hx ⟨rl,rs,o3,o4,rfl,hrl,hLL,nrl,sx⟩;exact⟨_,rfl,k rl rs Hx nrl hrl hLL sx⟩
theorem scLen71:FnScope ["draws","most","way","found","k","number"] ["draws","most"] (Zac Zdr):=⟨rfl,rfl,rfl,by decide +kernel,rfl,by decide +kernel,by decide +kernel⟩
theorem at6 {P:Int->Prop}{w a b c d e g:Int} (h0:0<=w) (h6:w<6) (ha:P a) (hb:P b) (hc:P c) (hd:P d) (he:P e) (hg:P g):∃ x:Int,atI [V.int a,.int b,.int c,.int d,.int e,.int g] w=some (.int x)/\P x:=by
 rcases (show w=0∨w=1∨w=2∨w=3∨w=4∨w=5 by omega) with rfl | rfl | rfl | rfl | rfl | rfl
 ·exact⟨a,rfl,ha⟩
 ·exact⟨b,rfl,hb⟩
 ·exact⟨c,rfl,hc⟩
 ·exact⟨d,rfl,hd⟩
 ·exact⟨e,rfl,he⟩
 ·exact⟨g,rfl,hg⟩
def Zfj:Sp:=fun vs H Q _=>∃ (dl:Addr) (ds:List Int) (m:Nat),vs=[.ref dl,.int m]/\H dl=some (.lst (ds.map V.int))/\(∀ d∈ds,0<=d)/\1<=m/\m<=200/\m+2<=ds.length/\ds.length<=1000/\∀ l (ls:List Int) H',H l=none->H' l=some (.lst (ls.map V.int))->1<=ls.length->ls.length<=m->(∀ x∈ls,0<=x/\x<=1000000000000)->Same H H'->Q (.ref l) H'
theorem Zjf {f:Addr}{fd:FuncData} (F:Fun K "_law_lengths" "_law_lengths" Zdr f fd) (T:Txt mg):FnOk P w K mg base CX0 1 f fd ["draws","most"] Zfj:=by
 refine okW F scLen71 (fun vs H Q E h=>?_) (fun cdv A outer s H vs Q E hr h=>?_)
 ·obtain⟨dl,ds,m,rfl,_⟩:=h;rfl
 ·obtain⟨dl,ds,m,rfl,hd,hd0,hm1,hm2,hdl,hd10,k⟩:=h;refine⟨_,(Zai (ws (Zar (i:=2) scLen71.nd rfl (YaW rfl) (Zap Za3 (ZaI ZaT (pv 0) Zaf (fun _ _=>rfl)) Zaf)))
   (Zai (ws (Zar (i:=3) scLen71.nd rfl (YaW rfl) (ZaQ Zad)))
   (Zai (ws (ZcP YbI rfl (Za9 rfl T.range (Zaa (Zap Zba Zaf (Zap Za3 (ZaI ZaT (pv 0) Zaf (fun _ _=>rfl)) (pv 1))) Zad)) (Zam (i:=4) scLen71.nd rfl (YaW rfl))
   (WSs.out (Zai (ws (Zar (i:=5) scLen71.nd rfl (YaW rfl) (ZaI ZaT (pv 0) (Zap Zba Zaf (pv 4)) (fun _ _=>rfl))))
    (Zax (ws (Za1 (ZgE Ybu YbV YbU Zbb (pv 3) (Zaa (WE.out (Zk0 ZaT (ZjH (ZaA rfl Zaf (ZaA rfl (Zap Za3 (pv 5) Zaf) (ZaA rfl (Zap Zba Zaf (Zap Za3 (pv 5) Zaf)) (ZaA rfl (Zap Za3 (pv 5) (Zap Zba (Zap ZcT Zaf Zaf) Zaf)) (ZaA rfl (Zap ZcU (Zap Za3 (pv 5) Zaf) (Zap ZcT Zaf Zaf)) (ZaA rfl (Zap ZcU (pv 4) (pv 4)) ZfE))))))) (we (pv 2)) (fun _ _=>rfl))) Zad)))))))))
   (Zax (ws (ZaF (pv 3))))))),?_⟩
  have hz:20000<sizeLine:=by decide
  have gd:∀ (j:Nat),j<ds.length->atI (ds.map V.int) (j:Int)=some (.int (ds.getD j 0)):=fun j hj=>by
   rw[ZiD (by omega) (by omega),Yba]
  have w0:=Ybh (ds.getD 0 0) (show (6:Int)≠0 by decide);have w6:=Ybi (ds.getD 0 0) (show (0:Int)<6 by decide);refine⟨_,rfl,dl,_,0,_,rfl,rfl,SqL.of hd,gd 0 (by omega),_,_,rfl,rfl,(by show (0:Int)<6;decide),?_⟩;obtain⟨way,ew⟩:∃ w:Int,ds.getD 0 0 % 6=w:=⟨_,rfl⟩
  rw[ew] at w0 w6;refine⟨YaP _,fun l nl=>?_⟩;have s1:Same H (upd H l (.lst [])):=Same.new nl;have e1:upd H l (.lst []) l=some (.lst (([]:List Int).map V.int)):=Zab;have nld:l≠dl:=fun z=>by rw[z,hd] at nl;cases nl
  generalize upd H l (.lst [])=H1 at s1 e1 ⊢;have m0:=Ybh (ds.getD 1 0) (show (m:Int)≠0 by omega);have mm:=Ybi (ds.getD 1 0) (show (0:Int)<m by omega);refine⟨_,rfl,dl,_,1,_,rfl,rfl,SqL.of (s1 _ _ hd),gd 1 (by omega),_,rfl,_,_,rfl,rfl,(by show (0:Int)<m;omega),1,_,rfl,rfl,?_⟩;obtain⟨n,en⟩:∃ n:Nat,1+ds.getD 1 0 % m=(n:Int):=⟨(1+ds.getD 1 0 % m).toNat,by omega⟩
  have hn1:1<=n:=by omega
  have hnm:n<=m:=by omega
  refine⟨(n:Int),congrArg (fun z=>[V.int z]) en,by omega,by omega,?_⟩;rw[Yba];refine Zc1 (fun i σ Hx=>∃ (ls:List Int) (o4 o5:Option V),σ=[some (.ref dl),some (.int m),some (.int way),some (.ref l),o4,o5]/\Hx l=some (.lst (ls.map V.int))/\ls.length=i/\(∀ x∈ls,0<=x/\x<=1000000000000)/\Same H Hx) ⟨[],_,_,by rw[<- ew];rfl,e1,rfl,by simp,s1⟩ ?_ ?_
  ·rintro i σ Hx hi ⟨ls,o4,o5,rfl,hl,hli,hb,sx⟩;have hdx:=sx _ _ hd;refine⟨_,rfl,_,rfl,2,_,rfl,rfl,dl,_,_,_,rfl,rfl,SqL.of hdx,(by rw[show (2:Int)+(0+(i:Int))=((2+i:Nat):Int) by omega];exact gd (2+i) (by omega)),?_⟩;have hx0:0<=ds.getD (2+i) 0:=by
    rw[Yax,Yaa (by omega)];exact hd0 _ (Ybg _)
   generalize ds.getD (2+i) 0=x at hx0 ⊢;have a4:=Ybh x (show (4:Int)≠0 by decide);have b4:=Ybi x (show (0:Int)<4 by decide);have a6:=Ybh x (show (60:Int)≠0 by decide);have b6:=Ybi x (show (0:Int)<60 by decide);have a2:=Ybh x (show (2:Int)≠0 by decide);have b2:=Ybi x (show (0:Int)<2 by decide);have e12:(10:Int) ^ Ydw 12=1000000000000:=by decide
   have a12:=Ybh x (show (1000000000001:Int)≠0 by decide);have b12:=Ybi x (show (0:Int)<1000000000001 by decide);refine⟨_,rfl,.inl ⟨rfl,_,SqL.of hl⟩,_,rfl,_,_,rfl,rfl,(by show (0:Int)<4;decide),_,rfl,_,_,rfl,rfl,(by show (0:Int)<60;decide),1,_,rfl,rfl,_,rfl,10,12,rfl,rfl,⟨by decide,by decide,by decide⟩,_,_,rfl,rfl,_,_,rfl,rfl,(by show (0:Int)<10 ^ Ydw 12+1;rw[e12];decide),_,rfl,_,_,rfl,rfl,(by show (0:Int)<2;decide),10,12,rfl,rfl,⟨by decide,by decide,by decide⟩,_,_,rfl,rfl,.inl ⟨by omega,by omega⟩,_,rfl,_,rfl,_,_,rfl,rfl,.inl ⟨by omega,by omega⟩,(by show 6<=sizeLine;decide),fun q nq=>?_⟩;obtain⟨y,hy,hyb⟩:=at6 (P:=fun z=>0<=z/\z<=1000000000000) w0 w6 (show (0:Int)<=7/\(7:Int)<=1000000000000 by decide) (show 0<=x % 4/\x % 4<=1000000000000 by omega) (show 0<=1+x % 60/\1+x % 60<=1000000000000 by omega) (show 0<=x % (10 ^ Ydw 12+1)/\x % (10 ^ Ydw 12+1)<=1000000000000 by rw[e12];omega) (show 0<=x % 2*10 ^ Ydw 12/\x % 2*10 ^ Ydw 12<=1000000000000 by rw[e12];omega) (show 0<=(0+(i:Int))*(0+(i:Int))/\(0+(i:Int))*(0+(i:Int))<=1000000000000 by
    have h1:(i:Int)*i<=200*200:=Int.mul_le_mul (by omega) (by omega) (by omega) (by omega);have h2:0<=(i:Int)*i:=Int.mul_nonneg (by omega) (by omega);rw[Int.zero_add];omega)
   have nql:l≠q:=Zae hl nq;refine⟨_,rfl,q,_,way,.int y,rfl,rfl,SqL.of Zab,hy,l,_,_,rfl,rfl,by rw[Zag nql];exact hl,by rw[Yab];omega,?_⟩;refine⟨ls++[y],_,_,rfl,by rw[Zab,YaC];rfl,by rw[Yak,hli];rfl,fun z hz=>?_,?_⟩
   ·rcases Yan.mp hz with h | h
    ·exact hb z h
    ·rw[YaE.mp h];exact hyb
   ·exact (sx.trans (Same.new nq)).put nl
  ·rintro σ Hx ⟨ls,o4,o5,rfl,hl,hli,hb,sx⟩;exact⟨_,rfl,k l ls Hx nl hl (by omega) (by omega) hb sx⟩
end
end Fk39
namespace Fk39
open PySem L2 Lv
section
variable {P:Program}{w:World}{K:Yad}{mg:Str->Option Value}{base:Heap}
theorem Zhd:FnScope ["thing","reels"] ["thing","reels"] (Zac ZbE):=⟨rfl,rfl,rfl,by decide +kernel,rfl,by decide +kernel,by decide +kernel⟩
def ZcJ:Sp:=fun vs H Q _=>∃ (q rl:Addr) (rs:List Addr) (N:List (List Int)) (k:List Int),vs=[.ref q,.ref rl]/\H rl=some (.lst (rs.map V.ref))/\LLs H rs N/\H q=some (.tup (k.map V.int))/\InN N k/\Q (.bl true) H
theorem ZgJ {f f1:Addr}{fd d1:FuncData} (F:Fun K "_law_pair" "_law_pair" ZbE f fd) (T:Txt mg) (CW:Cal P w K mg base 1 "_law_whole" ["thing"] Zcj f1 d1):FnOk P w K mg base CX0 2 f fd ["thing","reels"] ZcJ:=by
 refine okW F Zhd (fun vs H Q E h=>?_) (fun cdv A outer s H vs Q E hr h=>?_)
 ·obtain⟨q,rl,rs,N,k,rfl,_⟩:=h;rfl
 ·obtain⟨q,rl,rs,N,k,rfl,hR,hLL,hq,hin,kk⟩:=h;have hr1:Room 1 _:=hr.mono (by decide);refine⟨_,(Zai (Zc9 (PW.pt (Zco (Za8 (Zbj (Zaj ZaM rfl T.isinstance Zay (Zaa (pv 0) (Zaa (Zfo rfl T.tuple Zb3) Zad))))) (Zco (ZaP Zi7 (Zaj Zao rfl T.len Ybb (Zaa (pv 0) Zad)) Zaf (Za4 _)) (Zco (Za8 (Zbj (ZaB CW hr1 rfl (Zaa (ZaI Zbl (pv 0) Zaf (fun _ _=>rfl)) Zad)))) (Zcb (Za8 (Zbj (ZaB CW hr1 rfl (Zaa (ZaI Zbl (pv 0) Zaf (fun _ _=>rfl)) Zad)))))))))
   (Zax (ws (ZaF Zfq)))
   Zbn)
   (Zax (ws (ZaF (Zf0 (ZfZ ZeJ Zkt Zaf (ZaI Zbl (pv 0) Zaf (fun _ _=>rfl)) (Zaj Zao rfl T.len Ybb (Zaa (pv 1) Zad))) (ZfY (ZfZ ZeJ Zkt Zaf (ZaI Zbl (pv 0) Zaf (fun _ _=>rfl)) (Zaj Zao rfl T.len Ybb (Zaa (ZaI ZaT (pv 1) (ZaI Zbl (pv 0) Zaf (fun _ _=>rfl)) (fun _ _=>rfl)) Zad))))))))),?_⟩
  obtain⟨r,p,xs,rfl,hr',hp⟩:=hin;have hrl:=(Yae.mp hr').1
  obtain⟨ra,hra⟩:∃ ra,rs[r]?=some ra:=⟨_,Yaa (by rw[hLL.1];exact hrl)⟩
  have hrow:=hLL.2 r ra xs hra hr';refine⟨_,rfl,.ref q,"tuple",_,true,rfl,.tup hq,Zbw,true,rfl,iteF ?_⟩;refine⟨_,rfl,q,_,rfl,.inr (SqT.of hq),?_⟩;refine⟨rfl,false,by rfl,iteF ?_⟩;refine⟨_,rfl,q,_,0,.int (r:Int),rfl,rfl,SqT.of hq,rfl,(r:Int),rfl,true,rfl,iteF ?_⟩;refine⟨_,rfl,q,_,1,.int (p:Int),rfl,rfl,SqT.of hq,rfl,(p:Int),rfl,true,rfl,iteF ?_⟩;refine⟨_,rfl,q,_,0,.int (r:Int),rfl,rfl,SqT.of hq,rfl,0,(r:Int),rfl,rfl,_,rfl,?_⟩;rw[decide_eq_true (show (0:Int)<=(r:Int) by omega)];refine iteT ⟨_,rfl,rl,_,rfl,.inl (SqL.of hR),(r:Int),_,rfl,rfl,?_⟩;rw[Yab,hLL.1];refine⟨_,rfl,?_⟩;rw[decide_eq_true (show (r:Int)<N.length by omega)];refine iteT ?_;refine⟨_,rfl,q,_,1,.int (p:Int),rfl,rfl,SqT.of hq,rfl,0,(p:Int),rfl,rfl,_,rfl,?_⟩;rw[decide_eq_true (show (0:Int)<=(p:Int) by omega)];refine iteT ⟨_,rfl,_,rfl,q,_,0,.int (r:Int),rfl,rfl,SqT.of hq,rfl,rl,_,(r:Int),.ref ra,rfl,rfl,SqL.of hR,Za2 (by rw[Yal,hra];rfl),ra,_,rfl,.inl (SqL.of hrow),(p:Int),_,rfl,rfl,?_⟩;rw[Yab];show Q (.bl (decide ((p:Int)<xs.length))) H;rw[decide_eq_true (show (p:Int)<xs.length by omega)];exact kk
end
end Fk39
namespace Lv
open PySem L2
def vec (L:Nat) (g:Nat->Int):List Int:=(YaO L).map g
def arr (L:Nat) (xs:List Int):List Int:=vec L fun m=>cn xs (m:Int)
end Lv
namespace Lv
open PySem L2
end Lv
namespace Lv
open PySem L2
def nfR (ks:List (Int × Int)) (i:Nat) (x:Int):List Bool:=(YaO x.toNat).map fun (j:Nat)=>decide (((i:Int),(j:Int))∈ks)
def nf (ks:List (Int × Int)):Nat->List Int->List (List Bool)
 | _,[]=>[]
 | i,x::c=>nfR ks i x::nf ks (i+1) c
def dP (ks:List (Int × Int)):List (List Key × V):=ks.map fun z=>([Ydm z.1,Ydm z.2],V.bl true)
end Lv
namespace Lv
open PySem L2
end Lv
namespace Lv
open PySem L2
section
variable {S:Nat->List (List Int)}
def gS (S:Nat->List (List Int)) (r:Int) (n:Nat):Option Int:=Zlw (S n).flatten r
structure Lvs (S:Nat->List (List Int)):Prop where
 bd:∀ n:Nat,Bd n (S n)
 ne:∀ n,(S n).flatten≠[]
 up:∀ n,∀ b∈(S (n+1)).flatten,∃ y∈(S n).flatten,y<=b
end
end Lv
namespace Lv
open PySem L2
end Lv
namespace Lv
open PySem L2
structure Fil (S:Nat->List (List Int)) (p:Int):Prop where
 lv:Lvs S
 kr:∀ M n,n<=M->kr p M (S n).flatten<=p ^ M
 z:(S 0).flatten.length=1
 one:∀ n,∀ y∈(S (n+1)).flatten,1<=y
structure Bst (S:Nat->List (List Int)) (N:Nat) (r:Int) (q:Int × Nat):Prop where
 lt:q.2<N
 eq:gS S r q.2=some q.1
 le:∀ n v,n<N->gS S r n=some v->q.1<=v
 first:∀ n v,n<q.2->gS S r n=some v->q.1<v
end Lv
namespace Lv
open PySem L2
def fst1 (p r:Int):Int:=2+(r - 2) % (p - 1)
structure Od (p r:Nat) (left:List Int) (read:Int) (k x y:Nat) (w e:Int):Prop where
 is:left=Yau x ((p:Int) ^ k)++w::Yau y ((p:Int) ^ (k+1))
 lo:(p:Int) ^ k<=w
 hi:w<=(p:Int) ^ (k+1)
 all:(x:Int)*(p:Int) ^ k+w+(y:Int)*(p:Int) ^ (k+1)=r
 full:∃ j:Nat,x+y=j*(p - 1)
 rd:read=(x:Int)*(p:Int) ^ k*k+(y:Int)*(p:Int) ^ (k+1)*(k+1)+(w*k+e)
 kr:(p:Int)*(w - e)+e+((p:Int) - fst1 p r)=(p:Int) ^ (k+1)
end Lv
namespace Lv
open PySem L2
end Lv
namespace Lv
open PySem L2
def BstJ (S:Nat->List (List Int)) (L:Nat) (j:Int) (v:Int):Prop:=(v = -1/\∀ n,n<L->gS S j n=none)∨(0<=v/\(∃ n,n<L/\gS S j n=some v)/\∀ n u,n<L->gS S j n=some u->v<=u)
structure BestF (S:Nat->List (List Int)) (L most:Nat) (F:List Int):Prop where
 len:F.length=most+1
 at_:∀ j:Nat,1<=j->j<=most->BstJ S L j (F.getD j 0)
end Lv
namespace Lv
open PySem L2
end Lv
namespace Lv
open PySem L2
end Lv
namespace Lv
open PySem L2
end Lv
namespace Lv
open PySem L2
end Lv
namespace Lv
open PySem L2
end Lv
namespace Lv
open PySem L2
end Lv
namespace Lv
open PySem L2 PyProof.Rows
def fnd (f:Nat->Option Int) (i:Nat):List (List Int):=(YaO i).filterMap fun j=>(f j).map fun R=>[R,(j:Int)]
theorem Zjt {f:Nat->Option Int}{i:Nat}{R:Int} (h:f i=some R):fnd f (i+1)=fnd f i++[[R,(i:Int)]]:=by
 unfold fnd;rw[YdR,Yew];simp[h]
theorem Zju {f:Nat->Option Int}{i:Nat} (h:f i=none):fnd f (i+1)=fnd f i:=by
 unfold fnd;rw[YdR,Yew];simp[h]
theorem fnd_mem {f:Nat->Option Int}{i:Nat}{x:List Int}:x∈fnd f i↔∃ j R,j<i/\f j=some R/\x=[R,(j:Int)]:=by
 unfold fnd;rw[YcO];constructor
 ·rintro⟨j,hj,e⟩;rw[Option.map_eq_some_iff] at e;obtain⟨R,h1,h2⟩:=e;exact⟨j,R,Ya2.mp hj,h1,h2.symm⟩
 ·rintro⟨j,R,hj,h1,rfl⟩;exact⟨j,Ya2.mpr hj,by rw[h1];rfl⟩
theorem ZkP (f:Nat->Option Int) (i:Nat):(fnd f i).length<=i:=by
 have:=List.length_filterMap_le (fun j=>(f j).map fun R=>[R,(j:Int)]) (YaO i);rw[Ycc] at this;exact this
theorem ZeQ:∀ x:List Int,HT.lexLt x x=false
 | []=>rfl
 | x::xs=>by rw[HT.lexLt_cons,if_pos rfl];exact ZeQ xs
theorem Zf5:∀ x y z:List Int,HT.lexLt x y=true->HT.lexLt y z=true->HT.lexLt x z=true
 | [],[],_,h,_=>nomatch h
 | [],_::_,[],_,h=>nomatch h
 | [],_::_,_::_,_,_=>rfl
 | _::_,[],_,h,_=>nomatch h
 | _::_,_::_,[],_,h=>nomatch h
 | x::xs,y::ys,z::zs,h1,h2=>by
  rw[HT.lexLt_cons] at h1 h2 ⊢;by_cases e1:x=y
  ·subst e1;rw[if_pos rfl] at h1;by_cases e2:x=z
   ·subst e2;rw[if_pos rfl] at h2 ⊢;exact Zf5 xs ys zs h1 h2
   ·rw[if_neg e2] at h2 ⊢;exact h2
  ·rw[if_neg e1] at h1;have h1:=of_decide_eq_true h1;by_cases e2:y=z
   ·subst e2;rw[if_neg e1];exact decide_eq_true h1
   ·rw[if_neg e2] at h2;have h2:=of_decide_eq_true h2;rw[if_neg (by omega)];exact decide_eq_true (by omega)
theorem Zct (lt:Nat->Nat->Bool) (ir:∀ a,lt a a=false) (tr:∀ a b c,lt a b=true->lt b c=true->lt a c=true):∀ k i,i<=k->lt i (argBest lt k)=false
 | 0,i,hi=>by
  have:i=0:=by omega
  subst this;exact ir 0
 | k+1,i,hi=>by
  unfold argBest;by_cases e:lt (k+1) (argBest lt k)=true
  ·rw[if_pos e];by_cases h:i=k+1
   ·subst h;exact ir _
   ·have:=Zct lt ir tr k i (by omega)
    cases h2:lt i (k+1) with
    | false=>rfl
    | true=>rw[tr _ _ _ h2 e] at this;cases this
  ·rw[if_neg e];by_cases h:i=k+1
   ·subst h;simpa using e
   ·exact Zct lt ir tr k i (by omega)
theorem Zh9 {f:Nat->Option Int}{m n:Nat}{R:Int} (h:BestG f m (some (R,n))):0<(fnd f m).length/\(fnd f m)[ZcW (fnd f m)]?=some [R,(n:Int)]:=by
 obtain⟨h1,h2,h3⟩:=h;have hmem:[R,(n:Int)]∈fnd f m:=fnd_mem.mpr ⟨n,R,h1,h2,rfl⟩;have hpos:0<(fnd f m).length:=List.length_pos_of_mem hmem;refine⟨hpos,?_⟩;have hle:ZcW (fnd f m)<(fnd f m).length:=by
  have:=ZdG (fun i j=>HT.lexLt ((fnd f m).getD i []) ((fnd f m).getD j [])) ((fnd f m).length - 1);unfold ZcW;omega
 obtain⟨i,hi,ei⟩:=Ybk hmem;have key:=Zct (fun i j=>HT.lexLt ((fnd f m).getD i []) ((fnd f m).getD j [])) (fun a=>ZeQ _) (fun a b c=>Zf5 _ _ _) ((fnd f m).length - 1) i (by omega);have key:HT.lexLt ((fnd f m).getD i []) ((fnd f m).getD (ZcW (fnd f m)) [])=false:=key;rw[Yaa hle];rw[Yax,Yax,Yaa hi,Yaa hle,Ydy,Ydy,ei] at key;obtain⟨j,R',hj,hf,e⟩:=fnd_mem.mp (Ybg hle);rw[e] at key ⊢;obtain⟨k1,k2⟩:=h3 j R' hj hf;rw[HT.lexLt_cons] at key;by_cases e1:R=R'
 ·subst e1;rw[if_pos rfl,HT.lexLt_cons] at key;by_cases e2:(n:Int)=j
  ·rw[e2]
  ·rw[if_neg e2] at key;have:=of_decide_eq_false key;have:=k2 (by omega);omega
 ·rw[if_neg e1] at key;have:=of_decide_eq_false key;omega
end Lv
namespace Fk39
open PySem L2 Lv
section
variable {P:Program}{w:World}{K:Yad}{mg:Str->Option Value}{base:Heap}
theorem scLawBest:FnScope ["p","lengths","longest","reels","level","found","numbers","some","more"] ["p","lengths"] (Zac ZaY):=⟨rfl,rfl,rfl,by decide +kernel,rfl,by decide +kernel,by decide +kernel⟩
theorem ZdE (f:Nat->Option Int):∀ m,∃ o,BestG f m o
 | 0=>⟨none,fun j hj=>absurd hj (Ybp _)⟩
 | m+1=>by
  obtain⟨o,h⟩:=ZdE f m
  cases e:f m with
  | none=>exact⟨o,h.skip e⟩
  | some R=>
   match o,h with
   | none,h=>exact⟨_,h.first e⟩
   | some (R',n),h=>
    by_cases hl:R<R'
    ·exact⟨_,h.better e hl⟩
    ·exact⟨_,h.worse e hl⟩
theorem ZgL {p i:Nat}{x:Int} (h:x∈(num p i).flatten):0<=x/\x<=i:=by
 obtain⟨xs,hx,hz⟩:=List.mem_flatten.mp h;exact Zgk p i xs hx x hz
def ToldP (p m:Nat):Prop:=(∀ i,i<m->tot p i<=4000)/\4000<tot p m
def ZcK (K:Yad):Sp:=fun vs H Q _=>∃ (p:Nat) (ll:Addr) (ls:List Int),vs=[.int p,.ref ll]/\2<=p/\p<=7/\H ll=some (.lst (ls.map V.int))/\1<=ls.length/\ls.length<=500/\(∀ l∈ls,0<=l/\l<=1000000000000) /\
 ∀ (t:Addr) (R:Int) (n m:Nat) H',H' t=some (.tup [.int R,.int (n:Int)])->BestG (fitF ls (num p)) m (some (R,n))->ToldP p m->Same H H'->Q (.ref t) H'
theorem ZgI {f f1:Addr}{fd d1:FuncData} (F:Fun K "_law_best" "_law_best" ZaY f fd) (T:Txt mg) (CR:Cal P w K mg base 1 "_law_reels" ["p","n"] (Zb9 K) f1 d1):FnOk P w K mg base CX0 2 f fd ["p","lengths"] (ZcK K):=by
 refine okW F scLawBest (fun vs H Q E h=>?_) (fun cdv A outer s H vs Q E hr h=>?_)
 ·obtain⟨p,ll,ls,rfl,_⟩:=h;rfl
 ·obtain⟨p,ll,ls,rfl,p2,p7,hL,hl1,hl5,h0,k⟩:=h;have hr1:Room 1 _:=hr.mono (by decide);have hu1:_+1<cLine:=Ycq (Ydo (by decide:1<=64) _) hr.units;refine⟨_,(Zai (ws (Zar (i:=2) scLawBest.nd rfl (YcL rfl) (Zlk (Zaj ZdD rfl T.sorted ZcE (Zaa (pv 1) Zad)) (Zd1 (Zkp ZgZ Zaf)))))
   (Zai (ws (Zar (i:=3) scLawBest.nd rfl (YcL rfl) (ZaB CR hr1 rfl (Zaa (pv 0) (Zaa Zaf Zad)))))
   (Zai (ws (Zar (i:=4) scLawBest.nd rfl (YaW rfl) Zaf))
   (Zai (ws (Zar (i:=5) scLawBest.nd rfl (YaW rfl) (ZaQ Zad)))
   (Zai (ws (ZfW YbI (ZaP ZeJ (Zaj (ZbA rfl) rfl T.sum ZiC (Zaa (ZaR (own:=["some"]) (js:=[]) (CompOk.by (sc:=Zac ZaY) (N:=["p","lengths","longest","reels","level","found","numbers","some","more"]) rfl rfl (by decide +kernel)) rfl (Zhp (pv 3)) ZaC (fun _ _ _ _ _=>(Zam (i:=0) (by show (["some"]:List Str).Nodup;decide +kernel) rfl (YaW rfl) (.inr rfl))) (fun _ _ _ _ _=>ZaH) (fun _ _ _ _ _=>(Zaj (Ze4 K) rfl T.len Ybb (Zaa (pv 0) Zad)))) Zad)) Zaf (Za4 _))
   (WSs.out (Zai (ws (Zar (i:=6) scLawBest.nd rfl (YcL rfl) (ZaQ Zad)))
    (Zai (ws (ZcP YbI rfl (Zhp (pv 3)) (Zam (i:=7) scLawBest.nd rfl (YaW rfl))
    (WSs.out (Zax (ws (Za1 (ZgE Ybu PySem.F.slot_list_extend PySem.F.type_list_extend ZhG (pv 6) (Zaa (pv 7) Zad))))))))
    (Zai (Zc9 (ZaP Zku (Zaj Zao rfl T.len Ybb (Zaa (pv 6) Zad)) (Zaj Zao rfl T.len Ybb (Zaa (pv 1) Zad)) (Za4 _))
    (Zai (ws (Zar (i:=6) scLawBest.nd rfl (YcL rfl) (Zaj ZdD rfl T.sorted ZcE (Zaa (pv 6) Zad))))
     (Zax (ws (Za1 (ZgE Ybu YbV YbU Zbb (pv 5) (Zaa (ZbN (Zaa (Zaj (ZbA rfl) rfl T.sum ZiC (Zaa (ZaR (own:=["k"]) (js:=[2,6]) (CompOk.by (sc:=Zac ZaY) (N:=["p","lengths","longest","reels","level","found","numbers","some","more"]) rfl rfl (by decide +kernel)) rfl (Za9 rfl T.range (Zaa (Zaj Zao rfl T.len Ybb (Zaa (pv 2) Zad)) Zad)) ZaC (fun _ _ _ _ _=>(Zam (i:=0) (by show (["k","longest","numbers"]:List Str).Nodup;decide +kernel) rfl (YaW rfl) (.inr rfl))) (fun _ _ _ _ _=>ZaH) (fun _ _ _ _ _=>(Zap ZcU (ZaI (ZbH K) (pv 1) (pv 0) (fun _ _=>rfl)) (ZaI (ZbH K) (pv 2) (pv 0) (fun _ _=>rfl))))) Zad)) (Zaa (pv 4) Zad))) Zad))))))
    Zbn)
    (Zai (ws (Zar (i:=4) scLawBest.nd rfl (YaW rfl) (Zap Zba (pv 4) Zaf)))
    (Zai (ws (Zar (i:=8) scLawBest.nd rfl (YcL rfl) (ZaR (own:=["number"]) (js:=[]) (CompOk.by (sc:=Zac ZaY) (N:=["p","lengths","longest","reels","level","found","numbers","some","more"]) rfl rfl (by decide +kernel)) rfl (Zd2 (ZaI ZaT (pv 3) Zaf (fun _ _=>rfl))) ZaC (fun _ _ _ _ _=>(Zam (i:=0) (by show (["number"]:List Str).Nodup;decide +kernel) rfl (YaW rfl) (.inr rfl))) (fun _ _ _ _ _=>ZaH) (fun _ _ _ _ _=>(Zap Zba (pv 0) Zaf)))))
    (Zax (ws (Zar (i:=3) scLawBest.nd rfl (YcL rfl) (Zap Zcw (ZaR (own:=["k"]) (js:=[3,8]) (CompOk.by (sc:=Zac ZaY) (N:=["p","lengths","longest","reels","level","found","numbers","some","more"]) rfl rfl (by decide +kernel)) rfl (Za9 rfl T.range (Zaa (Zap ZeI (pv 0) Zaf) Zad)) ZaC (fun _ _ _ _ _=>(Zam (i:=0) (by show (["k","reels","more"]:List Str).Nodup;decide +kernel) rfl (YaW rfl) (.inr rfl))) (fun _ _ _ _ _=>ZaH) (fun _ _ _ _ _=>(Zap Zcw (pv 2) (ZaI (ZbH K) (pv 1) (Zap Zba (pv 0) Zaf) (fun _ _=>rfl))))) (ZaQ (Zaa (pv 8) Zad))))))))))))))
   (Zax (ws (ZaF (Zaj (Zix rfl hu1) rfl T.min Zme (Zaa (pv 5) Zad)))))))))),?_⟩
  have hzz:100000<sizeLine:=by decide
  have t0:tot p 0=1:=by unfold tot cnt ZeX;simp
  refine⟨_,rfl,ll,ls,rfl,SqL.of hL,fun a0 ms0 na0 pms0 ums0=>?_⟩;have sA:=Same.new (o:=.lst (ms0.map V.int)) na0;have eA:upd H a0 (.lst (ms0.map V.int)) a0=some (.lst (ms0.map V.int)):=Zab;generalize upd H a0 (.lst (ms0.map V.int))=HA at sA eA ⊢;refine⟨1,rfl,-1,rfl,rfl,a0,_,rfl,SqL.of eA,fun fl nfl=>?_⟩;rw[<- List.map_reverse];have pfs:ms0.reverse.Perm ls:=(Ye2 ms0).trans pms0;have ufs:ms0.reverse.Pairwise (· ≥ ·):=Yev.mpr ums0;have efs:=Zgb pfs ufs;have lfs:=pfs.length_eq;generalize ms0.reverse=fs at pfs efs lfs nfl ⊢;have sB:=Same.new (o:=.lst (fs.map V.int)) nfl;have eB:upd HA fl (.lst (fs.map V.int)) fl=some (.lst (fs.map V.int)):=Zab;generalize upd HA fl (.lst (fs.map V.int))=HB at sB eB ⊢;refine⟨_,rfl,p,0,rfl,p2,p7,by omega,by omega,fun pr0 rs0 HC npr0 hpr0 hLL0 sC=>?_⟩;have eC:=sC _ _ eB;have sHC:=(sA.trans sB).trans sC;have hLC:=sHC _ _ hL;refine⟨YaP _,fun fo nfo=>?_⟩;have sD:Same HC (upd HC fo (.lst [])):=Same.new nfo;have eD:upd HC fo (.lst []) fo=some (.lst (([]:List Addr).map V.ref)):=Zab;have nep0:pr0≠fo:=Zae hpr0 nfo;have ner0:∀ r∈rs0,r≠fo:=fun r hr=>by
   obtain⟨j,hj,ej⟩:=Ybk hr;have:=hLL0.2 j r _ (by rw[Yaa hj,ej]) (Yaa (by rw[<- hLL0.1];exact hj));exact Zae this nfo
  generalize upd HC fo (.lst [])=HD at sD eD ⊢;have hprD:=sD _ _ hpr0;have hLLD:=hLL0.same sD;refine⟨fun m σ Hx=>∃ (i:Nat) (rs:List Addr) (pr:Addr) (ts:List Addr) (o6 o7 o8:Option V),m=4001 - i/\σ=[some (.int p),some (.ref ll),some (.ref fl),some (.ref pr),some (.int (i:Int)),some (.ref fo),o6,o7,o8]/\Hx pr=some (.lst (rs.map V.ref))/\LLs Hx rs (num p i)/\pr≠fo/\(∀ r∈rs,r≠fo)/\Hx fo=some (.lst (ts.map V.ref))/\TTs Hx ts (fnd (fitF ls (num p)) i)/\(∀ j,j<i->tot p j<=4000)/\Same HC Hx,
   ⟨4001,0,rs0,pr0,[],none,none,none,rfl,rfl,hprD,hLLD,nep0,ner0,eD,⟨rfl,fun j r xs a=>nomatch a⟩,fun j hj=>absurd hj (Ybp _),sD⟩,?_⟩
  rintro m σ Hx ⟨i,rs,pr,ts,o6,o7,o8,rfl,rfl,hpr,hLL,nep,ner,hfo,hTT,hall,sx⟩;have hlen:=Zcr (p:=p) (by omega) i;have hrl:rs.length=p:=by rw[hLL.1,hlen]
  have hg:=ZdJ p2 i;have hfl:=Zia (num p i);have hnf:=Zbc p i;refine⟨_,rfl,pr,rfl,⟨_,SqL.of hpr⟩,?_⟩;refine Zip (xs:=rs.map V.ref) (fun acc j H2=>Same Hx H2/\H2 acc=some (.lst ((ZcA ((num p i).take j)).map V.int))) (fun acc h0=>⟨Same.new h0,Zab⟩) (fun acc j H2 h0 _ p=>SqL.of (p.1 _ _ hpr)) ?_ ?_
  ·rintro acc j x H2 h0 hx ⟨s2,hacc⟩;obtain⟨q,hq,rfl⟩:=Zbx hx;have hj:=(Yae.mp hq).1
   obtain⟨xs,hxs⟩:∃ xs,(num p i)[j]?=some xs:=⟨_,Yaa (by rw[<- hLL.1];exact hj)⟩
   refine⟨_,rfl,q,_,rfl,.inl (SqL.of (s2 _ _ (hLL.2 j q xs hq hxs))),_,hacc,?_,by rw[Yab];exact hj,s2.put h0,?_⟩
   ·unfold ZcA;rw[Yab,Yab,YaA];exact ZaO (by omega)
   ·rw[Zab,Ybf,hxs,Ybv];unfold ZcA;rw[YaC,YaC,YaK,Ycw,Yab];rfl
  rintro acc H4 h0 ⟨s4,hacc⟩;rw[Yab,hLL.1,YaT] at hacc;refine⟨acc,_,rfl,SqL.of hacc,_,_,rfl,rfl,_,rfl,?_⟩;have sx4:=sx.trans s4;refine ite2 (fun hle=>?_) (fun hgt=>?_)
  ·have hle:(ZcA (num p i)).sum<=4000:=of_decide_eq_true hle;have hfl4:(num p i).flatten.length<=4000:=by omega
   have hti:tot p i<=4000:=by omega
   have hi4:i<=3999:=by omega
   refine⟨fun σ' H'=>∃ m',m'<4001 - i/\∃ (i:Nat) (rs:List Addr) (pr:Addr) (ts:List Addr) (o6 o7 o8:Option V),m'=4001 - i/\σ'=[some (.int p),some (.ref ll),some (.ref fl),some (.ref pr),some (.int (i:Int)),some (.ref fo),o6,o7,o8]/\H' pr=some (.lst (rs.map V.ref))/\LLs H' rs (num p i)/\pr≠fo/\(∀ r∈rs,r≠fo)/\H' fo=some (.lst (ts.map V.ref))/\TTs H' ts (fnd (fitF ls (num p)) i)/\(∀ j,j<i->tot p j<=4000)/\Same HC H',fun _ _ h=>h,?_⟩;refine⟨YaP _,fun nl hnl=>?_⟩;have sn:Same H4 (upd H4 nl (.lst [])):=Same.new hnl;have hpr4:=(s4.trans sn) _ _ hpr;refine⟨_,rfl,pr,rfl,⟨_,SqL.of hpr4⟩,?_⟩;refine Zjs (xs:=rs.map V.ref) (fun j σ Hy=>∃ o7:Option V,σ=[some (.int p),some (.ref ll),some (.ref fl),some (.ref pr),some (.int (i:Int)),some (.ref fo),some (.ref nl),o7,o8]/\Hy nl=some (.lst (((num p i).take j).flatten.map V.int))/\Same H4 Hy) ⟨o7,rfl,Zab,sn⟩ (fun j σ Hy _ ⟨_,_,_,sy⟩=>SqL.of (sy _ _ (s4 _ _ hpr))) ?_ ?_
   ·rintro j x σ Hy hx ⟨o7,rfl,hny,sy⟩;obtain⟨q,hq,rfl⟩:=Zbx hx;have hj:=(Yae.mp hq).1
    obtain⟨xs,hxs⟩:∃ xs,(num p i)[j]?=some xs:=⟨_,Yaa (by rw[<- hLL.1];exact hj)⟩
    have hrow:=(s4.trans sy) _ _ (hLL.2 j q xs hq hxs);have hfj:=ZgR hxs;have hl4:((num p i).take (j+1)).flatten.length<=(num p i).flatten.length:=by
     conv=>rhs;rw[<- YaJ (j+1) (num p i),Yck,Yak]
     omega
    rw[hfj,Yak] at hl4;refine⟨_,rfl,.inl ⟨rfl,_,SqL.of hny⟩,_,rfl,nl,q,_,_,rfl,rfl,hny,hrow,by rw[Yab,Yab];omega,_,rfl,?_,sy.put hnl⟩;rw[Zab,hfj,YaC]
   ·rintro σ Hy ⟨o7,rfl,hny,sy⟩;rw[Yab,hLL.1,YaT] at hny;have hxy:=s4.trans sy;have sy0:=sx.trans hxy;have hfoy:=hxy _ _ hfo;have hTTy:=hTT.same hxy;have hpry:=hxy _ _ hpr;have hLLy:=hLL.same hxy;have htl:ts.length<=i:=by rw[hTT.1];exact ZkP _ _
    dsimp only;refine cut1 (fun σ' H'=>∃ (ts:List Addr) (o6 o7 o8:Option V),σ'=[some (.int p),some (.ref ll),some (.ref fl),some (.ref pr),some (.int (i:Int)),some (.ref fo),o6,o7,o8]/\H' pr=some (.lst (rs.map V.ref))/\LLs H' rs (num p i)/\H' fo=some (.lst (ts.map V.ref))/\TTs H' ts (fnd (fitF ls (num p)) (i+1))/\Same HC H') (fun R' hR'=>?_) ?_
    ·have hlly:=sy0 _ _ hLC;have hfly:=sy0 _ _ eC;refine⟨_,rfl,nl,_,rfl,.inl (SqL.of hny),_,rfl,ll,_,rfl,.inl (SqL.of hlly),_,_,rfl,rfl,_,rfl,?_⟩;rw[Yab,Yab];refine ite2 (fun hc=>?_) (fun hc=>?_)
     ·have hc:(ls.length:Int)<=((num p i).flatten.length:Int):=of_decide_eq_true hc;refine⟨_,rfl,nl,(num p i).flatten,rfl,SqL.of hny,fun sl ms nsl pms ums=>?_⟩;have lms:ms.length=(num p i).flatten.length:=pms.length_eq;have hfit:fitF ls (num p) i=some (YbP (·*·) ms fs).sum:=by
       unfold fitF rdF;rw[if_pos (by omega),ZhZ pms ums,efs]
      have s5:Same Hy (upd Hy sl (.lst (ms.map V.int))):=Same.new nsl;have hsl:upd Hy sl (.lst (ms.map V.int)) sl=some (.lst (ms.map V.int)):=Zab;generalize upd Hy sl (.lst (ms.map V.int))=H5 at s5 hsl ⊢;have hfl5:=s5 _ _ hfly;have hfo5:=s5 _ _ hfoy;refine⟨_,rfl,.inl ⟨rfl,_,SqL.of hfo5⟩,_,rfl,fl,_,rfl,.inl (SqL.of hfl5),_,rfl,by rw[Yab];omega,by rw[Yab];omega,?_⟩;rw[Yab,Yba];refine Zio (lo:=0) (n:=fs.length) ((YbP (·*·) ms fs).map V.int) (by rw[Yab,Ydh];omega) (by omega) (fun j z hj hz' Hc sc Rr hRr=>?_) fun a6 H6 na6 s6 ha6=>?_
      ·have hjm:ms[j]?=some ms[j]:=Yaa (by omega);have hjf:fs[j]?=some fs[j]:=Yaa hj;rw[Yal,Yc7,hjm,hjf] at hz';cases hz';rw[Int.mul_comm] at hRr;have hb:=ZgL (pms.mem_iff.mp (Yaw hjm));have e0:((0:Int)+(j:Nat))=(j:Int):=by omega
       exact⟨_,rfl,_,rfl,fl,_,_,.int fs[j],rfl,rfl,SqL.of (sc _ _ hfl5),(by rw[e0];exact Za2 (by rw[Yal,hjf];rfl)),_,rfl,_,rfl,sl,_,_,.int ms[j],rfl,rfl,SqL.of (sc _ _ hsl),(by rw[e0];exact Za2 (by rw[Yal,hjm];rfl)),_,_,rfl,rfl,.inr ⟨by omega,by omega⟩,hRr Hc (Same.refl _)⟩
      refine⟨a6,_,rfl,SqL.of ha6,_,rfl,(by show 2<=sizeLine;decide),fun t nt=>?_⟩;generalize (YbP (·*·) ms fs).sum=R at hfit nt ⊢;have s7:=Same.new (o:=.tup [V.int R,V.int (i:Int)]) nt;have e7:upd H6 t (.tup [V.int R,V.int (i:Int)]) t=some (.tup (([R,(i:Int)]:List Int).map V.int)):=Zab;generalize upd H6 t (.tup [V.int R,V.int (i:Int)])=H7 at s7 e7 ⊢;have s57:=(s5.trans s6).trans s7;have hfo7:=s57 _ _ hfoy;have hTT7:=(hTTy.same s57).snoc e7;refine⟨fo,_,_,rfl,rfl,hfo7,by rw[Yab];omega,?_⟩;refine hR' _ _ ⟨ts++[t],_,_,_,rfl,by rw[Zag nep];exact s57 _ _ hpry,⟨hLLy.1,fun j r xs a b=>?_⟩,by rw[Zab,YaC];rfl,?_,(sy0.trans s57).put nfo⟩
      ·rw[Zag (ner r (Yaw a))];exact s57 _ _ (hLLy.2 j r xs a b)
      ·rw[Zjt hfit];exact TTs.offJ hTT7 hfo7
     ·have hc:¬ (ls.length:Int)<=((num p i).flatten.length:Int):=fun z=>hc (decide_eq_true z);refine hR' _ _ ⟨ts,_,_,_,rfl,hpry,hLLy,hfoy,?_,sy0⟩;rw[Zju (by unfold fitF;rw[if_neg (by omega)])];exact hTTy
    ·rintro σ' H7 ⟨ts,o6,o7,o8,rfl,hpr,hLL,hfo,hTT,s7⟩;obtain⟨x,r,ex,hr,exn⟩:=ZeL p2 i;have hxl:x.length<=4000:=by
      have:=ZeM (p:=p) (n:=i) (xs:=x) (by rw[ex];exact YaG);omega
     obtain⟨a0,rs',rfl⟩:∃ a0 rs',rs=a0::rs':=by
      match rs,hrl with
      | [],h=>simp at h;omega
      | a0::rs',_=>exact⟨a0,rs',rfl⟩
     have ha0:=hLL.2 0 a0 x rfl (by rw[ex];rfl);refine⟨_,rfl,_,_,rfl,rfl,?_⟩;refine⟨_,rfl,pr,_,0,.ref a0,rfl,rfl,SqL.of hpr,(Za2 (j:=0) rfl),a0,true,rfl,⟨_,SqL.of ha0⟩,?_⟩;refine Zc5 ((x.map (·+1)).map V.int) (show SqB true K H7 a0 (x.map V.int) from SqL.of ha0) (by simp) (by rw[Yab];omega) (fun j y z hy hz' Hc sc Rr hRr=>?_) fun ml H8 nml s8 hml=>?_
     ·obtain⟨y',hy',rfl⟩:=Zbp hy;rw[Yal,Yal,hy'] at hz';cases hz';exact⟨_,rfl,_,_,rfl,rfl,hRr Hc (Same.refl _)⟩
     have hrl5:=s8 _ _ hpr;have hLL5:=hLL.same s8;have hfo8:=s8 _ _ hfo;have nemf:ml≠fo:=Ybj (Zae hfo nml);refine⟨_,rfl,_,_,rfl,rfl,_,rfl,by show -(2 ^ 62)<=(p:Int) - 1;omega,by show (p:Int) - 1<2 ^ 62;omega,?_⟩;rw[show ((p:Int) - 1).toNat=p - 1 by omega];have hrl4:∀ y∈r,y.length<=4000:=fun y hy=>by
      have:=ZeM (p:=p) (n:=i) (xs:=y) (by rw[ex];exact Yat _ hy);omega
     refine Zc4 (lo:=0) (n:=p - 1) (r.map (x.map (·+1)++·)) (by rw[Yab];omega) (by omega) (fun j xs hj hx Hc sc Rr hRr=>?_) fun a6 qs6 H9 na6 s9 ha6 hL6 hne6=>?_
     ·rw[Yal] at hx;have hjr:j<r.length:=by omega
      rw[Yaa hjr] at hx;cases hx;have hjs:j+1<(a0::rs').length:=by omega
      have hy:=hLL5.2 (j+1) _ r[j] (Yaa hjs) (by rw[ex];exact Yaa hjr);have hjy:=hrl4 _ (Ybg hjr);have hat:atI ((a0::rs').map V.ref) ((0:Int)+(j:Int)+1)=some (.ref (a0::rs')[j+1]):=by
       rw[show (0:Int)+(j:Int)+1=((j+1:Nat):Int) by omega];exact Za2 (by rw[Yal,Yaa hjs];rfl)
      exact⟨_,rfl,_,rfl,_,rfl,_,_,rfl,rfl,pr,_,_,.ref (a0::rs')[j+1],rfl,rfl,SqL.of (sc _ _ hrl5),hat,ml,_,_,_,rfl,rfl,sc _ _ hml,sc _ _ hy,by rw[sizeLine_eq];simp;omega,fun q nq=>hRr q _ nq (Same.new nq) (by rw[Zab,YaC])⟩
     refine⟨_,rfl,(by show 1<=sizeLine;decide),fun q7 n7=>?_⟩;have s10:=Same.new (o:=.lst [V.ref ml]) n7;refine⟨a6,q7,_,_,rfl,rfl,s10 _ _ ha6,Zab,?_,fun rl2 nrl2=>?_⟩
     ·have:=hL6.1;rw[Yab] at this;exact Ybs (ZaO (by rw[Yab,this];simp;omega))
     have hL7:=((hL6.same s10).snocC (s10 _ _ (s9 _ _ hml)))
     have hfo10:=s10 _ _ (s9 _ _ hfo8);have hTT10:=((hTT.same s8).same s9).same s10;have nerf:rl2≠fo:=Ybj (Zae hfo10 nrl2);generalize upd H9 q7 (.lst [V.ref ml])=H10 at s10 nrl2 hL7 hfo10 hTT10 ⊢;have s11:=Same.new (o:=.lst (qs6.map V.ref++[V.ref ml])) nrl2;refine⟨4001 - (i+1),by omega,i+1,qs6++[ml],rl2,ts,_,_,_,rfl,rfl,by rw[Zab,YaC];rfl,?_,nerf,fun r hr=>?_,s11 _ _ hfo10,hTT10.same s11,fun j hj=>?_,(((s7.trans s8).trans s9).trans s10).trans s11⟩
     ·rw[exn];exact hL7.same s11
     ·rcases Yan.mp hr with hr | hr
      ·exact Ybj (Zae hfo8 (hne6 r hr).2)
      ·rw[YaE.mp hr];exact nemf
     ·by_cases e:j=i
      ·subst e;exact hti
      ·exact hall j (by omega)
  ·have hgt:¬ (ZcA (num p i)).sum<=4000:=fun z=>hgt (decide_eq_true z);have hT:ToldP p i:=⟨hall,by omega⟩
   obtain⟨hm1,hm5⟩:=Zdm p2 p7 (m:=i) (by omega);obtain⟨o,hO⟩:=ZdE (fitF ls (num p)) i
   match o,hO with
   | none,hO=>
    exfalso;have:=hO (i - 1) (by omega);unfold fitF at this;rw[if_pos (by omega)] at this;cases this
   | some (R,n),hO=>
    obtain⟨hpos,hat⟩:=Zh9 hO;have hTT4:=hTT.same s4;refine⟨_,rfl,fo,ts,_,rfl,SqL.of (s4 _ _ hfo),hTT4.1,hpos,fun j t r a b=>SqT.of (hTT4.2 j t r a b),fun t ht=>?_⟩;have:=hTT4.2 _ t _ ht hat;exact k t R n i H4 this hO hT (sHC.trans sx4)
end
end Fk39
namespace Fk39
open PySem L2 Lv
section
variable {P:Program}{w:World}{K:Yad}{mg:Str->Option Value}{base:Heap}
theorem scLawRight:FnScope ["p","lengths","told","reading","level","placing","reels"] ["p","lengths","told"] (Zac ZaZ):=⟨rfl,rfl,rfl,by decide +kernel,rfl,by decide +kernel,by decide +kernel⟩
theorem ToldP.one {p m n:Nat} (h:ToldP p m) (h':ToldP p n):m=n:=by
 rcases YdE m n with z | z | z
 ·have:=h'.1 m z;have:=h.2;omega
 ·exact z
 ·have:=h.1 n z;have:=h'.2;omega
def ZcH (K:Yad):Sp:=fun vs H Q _=>∃ (p:Nat) (ll t pl:Addr) (qs:List Addr) (ls:List Int) (ks:List (List Int)) (n m:Nat),vs=[.int p,.ref ll,.ref t]/\2<=p/\p<=7/\H ll=some (.lst (ls.map V.int))/\1<=ls.length/\ls.length<=500/\(∀ l∈ls,0<=l/\l<=1000000000000)/\H t=some (.tup [.int (ZaW (num p n) ls ks).sum,.int (n:Int),.ref pl])/\H pl=some (.lst (qs.map V.ref))/\TTs H qs ks/\(∀ k∈ks,InN (num p n) k)/\ks.Nodup/\ls.length=ks.length/\BestG (fitF ls (num p)) m (some ((ZaW (num p n) ls ks).sum,n))/\ToldP p m/\∀ H',Same H H'->Q (.bl true) H'
theorem ZgF {f f1 f2 f3 f4:Addr}{fd d1 d2 d3 d4:FuncData} (F:Fun K "_law_right" "_law_right" ZaZ f fd) (T:Txt mg) (Tset:mg "set"=none) (CW:Cal P w K mg base 1 "_law_whole" ["thing"] Zcj f1 d1) (CB:Cal P w K mg base 2 "_law_best" ["p","lengths"] (ZcK K) f2 d2) (CR:Cal P w K mg base 1 "_law_reels" ["p","n"] (Zb9 K) f3 d3) (CP:Cal P w K mg base 2 "_law_pair" ["thing","reels"] ZcJ f4 d4):FnOk P w K mg base CX0 3 f fd ["p","lengths","told"] (ZcH K):=by
 refine okW F scLawRight (fun vs H Q E h=>?_) (fun cdv A outer s H vs Q E hr h=>?_)
 ·obtain⟨p,ll,t,pl,qs,ls,ks,n,m,rfl,_⟩:=h;rfl
 ·obtain⟨p,ll,t,pl,qs,ls,ks,n,m,rfl,p2,p7,hL,hl1,hl5,hlb,ht,hpl,hQ,hin,hnd,hl,hB,hT,kk⟩:=h;have hr1:Room 1 _:=hr.mono (by decide);have hr2:Room 2 _:=hr.mono (by decide);have hu8:_+8<cLine:=Ycq (Ydo (by decide:8<=64) _) hr.units;have hu0:_<cLine:=hr.units0;refine⟨_,(Zai (Zc9 (PW.pt (Zco (Za8 (Zbj (Zaj ZaM rfl T.isinstance Zay (Zaa (pv 2) (Zaa (Zfo rfl T.tuple Zb3) Zad))))) (Zco (ZaP Zi7 (Zaj Zao rfl T.len Ybb (Zaa (pv 2) Zad)) Zaf (Za4 _)) (Zcb (Za8 (Zbj (Zaj ZaM rfl T.isinstance Zay (Zaa (ZaI Zbl (pv 2) Zaf (fun _ _=>rfl)) (Zaa (Zfo rfl T.list Zj6) Zad)))))))))
   (Zax (ws (ZaF Zfq)))
   Zbn)
   (Zai (ws (Zhl (pv 2) (ZcS rfl (Zan (Zam (i:=3) scLawRight.nd rfl (YaW rfl)) (Zan (Zam (i:=4) scLawRight.nd rfl (YaW rfl)) (Zan (Zam (i:=5) scLawRight.nd rfl (YaW rfl)) ZaX))))))
   (Zai (Zc9 (PW.pt (Zco (Za8 (Zbj (ZaB CW hr1 rfl (Zaa (pv 3) Zad)))) (Zco (Za8 (Zbj (ZaB CW hr1 rfl (Zaa (pv 4) Zad)))) (Zcb (ZaP (ZjV hu0) (ZbN (Zaa (pv 3) (Zaa (pv 4) Zad))) (ZaB CB hr2 rfl (Zaa (pv 0) (Zaa (pv 1) Zad))) (Za4 _))))))
   (Zax (ws (ZaF Zfq)))
   Zbn)
   (Zai (ws (Zar (i:=6) scLawRight.nd rfl (YcL rfl) (ZaB CR hr1 rfl (Zaa (pv 0) (Zaa (pv 4) Zad)))))
   (Zai (Zc9 (PW.pt (Zco (ZaP Zi7 (Zaj Zao rfl T.len Ybb (Zaa (pv 5) Zad)) (Zaj Zao rfl T.len Ybb (Zaa (pv 1) Zad)) (Za4 _)) (Zcb (Za8 (Zbj (Zaj (ZjB rfl) rfl T.all Zmf (Zaa (ZaR (own:=["pair"]) (js:=[6]) (CompOk.by (sc:=Zac ZaZ) (N:=["p","lengths","told","reading","level","placing","reels"]) rfl rfl (by decide +kernel)) rfl (Zd2 (pv 5)) ZaC (fun _ _ _ _ _=>(Zam (i:=0) (by show (["pair","reels"]:List Str).Nodup;decide +kernel) rfl (YaW rfl) (.inr rfl))) (fun _ _ _ _ _=>ZaH) (fun _ _ _ _ _=>(ZaB CP hr2 rfl (Zaa (pv 0) (Zaa (pv 1) Zad))))) Zad)))))))
   (Zax (ws (ZaF Zfq)))
   Zbn)
   (Zai (Zc9 (ZaP Zi7 (Zaj Ziy rfl T.len Ybb (Zaa (Za0 (Ziw rfl hu8) rfl Tset Zmd (Zaa (pv 5) Zad)) Zad)) (Zaj Zao rfl T.len Ybb (Zaa (pv 5) Zad)) (Za4 _))
   (Zax (ws (ZaF Zfq)))
   Zbn)
   (Zax (ws (ZaF (Zht Zlq (pv 3) (Zaj (ZbA rfl) rfl T.sum ZiC (Zaa (ZaR (own:=["length","reel","place"]) (js:=[6]) (CompOk.by (sc:=Zac ZaZ) (N:=["p","lengths","told","reading","level","placing","reels"]) rfl rfl (by decide +kernel)) rfl (Zfn rfl T.zip (Zaa (pv 1) (Zaa (pv 5) Zad))) (Zdz (i:=0) (k:=1) (m:=2) (K:=K)) (fun _ _ _ _ _=>(ZbT K rfl (Zan (Zam (i:=0) (by show (["length","reel","place","reels"]:List Str).Nodup;decide +kernel) rfl (YaW rfl) (.inr rfl)) (Zan (ZbT K rfl (Zan (Zam (i:=1) (by show (["length","reel","place","reels"]:List Str).Nodup;decide +kernel) rfl (YaW rfl) (.inr rfl)) (Zan (Zam (i:=2) (by show (["length","reel","place","reels"]:List Str).Nodup;decide +kernel) rfl (YaW rfl) (.inr rfl)) ZaX))) ZaX)))) (fun _ _ _ _ _=>ZaH) (fun _ _ _ _ _=>(Zap Zhx (pv 0) (ZaI (ZbH K) (ZaI (ZbH K) (pv 3) (pv 1) (fun _ _=>rfl)) (pv 2) (fun _ _=>rfl))))) Zad)) (Za4 _))))))))))),?_⟩
  have hql:qs.length=ks.length:=hQ.1;have hn:=hB.1;have h4:=hT.1 n hn;have hn19:=Zl6 p2 p7 h4;have hbits:∀ l∈ls,YaR l<=8000:=fun l hl=>ZbJ (by have:=hlb l hl;omega) (by have:=hlb l hl;omega);have hrv:(ZaW (num p n) ls ks).length=ks.length:=by
   unfold ZaW;rw[Ydh,hl,Nat.min_self]
  refine⟨_,rfl,.ref t,"tuple",_,true,rfl,.tup ht,Zbw,true,rfl,iteF ?_⟩;refine⟨_,rfl,t,_,rfl,.inr (SqT.of ht),?_⟩;refine⟨rfl,false,by rfl,iteF ?_⟩;refine⟨_,rfl,t,_,2,.ref pl,rfl,rfl,SqT.of ht,rfl,.ref pl,"list",_,true,rfl,.lst hpl,Zd9,true,rfl,iteF ?_⟩;refine⟨_,rfl,t,_,rfl,SqT.of ht,rfl,_,_,rfl,_,_,rfl,_,_,rfl,rfl,?_⟩;refine⟨_,rfl,_,rfl,true,rfl,iteF ?_⟩;refine⟨_,rfl,_,rfl,true,rfl,iteF ?_⟩;refine⟨_,rfl,_,rfl,(by show 2<=sizeLine;decide),fun t1 nt1=>?_⟩;generalize hRv:(ZaW (num p n) ls ks).sum=Rv at hB ht ⊢;have s1:=Same.new (o:=.tup [V.int Rv,V.int (n:Int)]) nt1;have e1:upd H t1 (.tup [V.int Rv,V.int (n:Int)]) t1=some (.tup (([Rv,(n:Int)]:List Int).map V.int)):=Zab;generalize upd H t1 (.tup [V.int Rv,V.int (n:Int)])=H1 at s1 e1 ⊢;refine⟨_,rfl,_,rfl,p,ll,ls,rfl,p2,p7,s1 _ _ hL,hl1,hl5,hlb,fun t2 R2 n2 m2 H2 ht2 hB2 hT2 s2=>?_⟩;have em:=hT2.one hT;subst em;obtain⟨eR,en⟩:=hB2.one hB;subst eR en;have s02:=s1.trans s2;refine⟨t1,t2,_,_,rfl,rfl,SqT.of (s2 _ _ e1),SqT.of (show H2 t2=some (.tup (([R2,(n2:Int)]:List Int).map V.int)) from ht2),?_⟩;refine⟨false,by simp,iteF ?_⟩;refine⟨_,rfl,_,rfl,p,n2,rfl,p2,p7,by omega,h4,fun rl rs H3 nrl hR hLL s3=>?_⟩;have s03:=s02.trans s3;have hpl3:=s03 _ _ hpl;have hL3:=s03 _ _ hL;have hQ3:=hQ.same s03;refine⟨_,rfl,pl,_,rfl,.inl (SqL.of hpl3),_,rfl,ll,_,rfl,.inl (SqL.of hL3),?_⟩;refine⟨rfl,false,by rw[Yab,Yab,hql,hl];simp,iteF ?_⟩;refine⟨_,rfl,pl,true,rfl,⟨_,SqL.of hpl3⟩,?_⟩;refine Zc5 (b:=true) ((Yau ks.length true).map V.bl) (SqL.of hpl3) (by rw[Yab,Yab,YbS,hql]) (by rw[Yab,hql];omega) (fun i x y hx hy Hc sc Rr hRr=>?_) fun acc G n3 s4 hacc=>?_
  ·obtain⟨q,hq,rfl⟩:=ZbW hx;have hiq:=(Yae.mp hq).1
   rw[Yal,YbY,if_pos (by omega)] at hy;cases hy;have hk:ks[i]?=some ks[i]:=Yaa (by omega);exact⟨_,rfl,_,rfl,q,rl,rs,_,ks[i],rfl,sc _ _ hR,hLL.same sc,sc _ _ (hQ3.2 i q _ hq hk),hin _ (Ybg _),hRr Hc (Same.refl _)⟩
  refine⟨acc,Yau ks.length true,rfl,SqL.of hacc,?_⟩;rw[show (Yau ks.length true).all id=true by rw[YbZ];exact fun b hb=>(YcN.mp hb).2];refine⟨true,rfl,iteF ?_⟩;have hpl4:=s4 _ _ hpl3;have hQ4:=hQ3.same s4;refine⟨_,rfl,pl,true,qs,ks,rfl,SqL.of hpl4,hQ4,by omega,fun l L nl hLn hmem=>?_⟩;have s5:=Same.new (o:=SetN l L.length) nl;refine⟨l,L.length,rfl,Zab,_,rfl,pl,_,rfl,.inl (SqL.of (s5 _ _ hpl4)),?_⟩;refine⟨rfl,false,by rw[((Yd4 hLn hnd).mpr hmem).length_eq,Yab,hql];simp,iteF ?_⟩;generalize upd G l (SetN l L.length)=H5 at s5 ⊢;have s35:=s4.trans s5;have hL5:=s35 _ _ hL3;have hpl5:=s5 _ _ hpl4;have hQ5:=hQ4.same s5;refine⟨_,rfl,_,rfl,_,rfl,true,true,ll,pl,rfl,⟨_,SqL.of hL5⟩,⟨_,SqL.of hpl5⟩,?_⟩;refine Zim ((ZaW (num p n2) ls ks).map V.int) (show SqB true K H5 ll (ls.map V.int) from SqL.of hL5) (show SqB true K H5 pl (qs.map V.ref) from SqL.of hpl5) (by rw[Yab,Yab];omega) (by rw[Yab,Yab];omega) (by rw[Yab];omega) (fun i x y z hx hy hz pp Hc sc hp Rr hRr=>?_) fun acc G n3 s6 hacc=>?_
  ·obtain⟨l,hl',rfl⟩:=Zbp hx;obtain⟨q,hq,rfl⟩:=ZbW hy;obtain⟨z',hz',rfl⟩:=Zbp hz;have hi:=(Yae.mp hq).1
   have hk:ks[i]?=some ks[i]:=Yaa (by omega);obtain⟨r,pp2,xs,ek,hr',hp'⟩:=hin _ (Ybg (l:=ks) (n:=i) (by omega));have hqk:=sc _ _ (hQ5.2 i q _ hq hk);unfold ZaW at hz';rw[Yc7,hl',hk] at hz';cases hz';rw[ek] at hqk;have hnum:numV (num p n2) ks[i]=xs[pp2]:=by
    rw[ek];unfold numV;simp[Yax,hr',hp']
   rw[hnum] at hRr;have hrl:=(Yae.mp hr').1
   obtain⟨ra,hra⟩:∃ ra,rs[r]?=some ra:=⟨_,Yaa (by rw[hLL.1];exact hrl)⟩
   have hrow:=sc _ _ (s35 _ _ (hLL.2 r ra xs hra hr'));refine⟨pp,_,rfl,SqT.of hp,rfl,_,_,rfl,_,_,rfl,q,_,rfl,SqT.of hqk,rfl,_,_,rfl,_,_,rfl,rfl,rfl,?_⟩;refine⟨_,rfl,_,rfl,_,rfl,rl,_,(r:Int),.ref ra,rfl,rfl,SqL.of (sc _ _ (s35 _ _ hR)),Za2 (by rw[Yal,hra];rfl),_,rfl,ra,_,(pp2:Int),.int xs[pp2],rfl,rfl,SqL.of hrow,Za2 (by rw[Yal,Yaa hp'];rfl),?_⟩;refine⟨l,xs[pp2],rfl,rfl,⟨8000,8000,hbits l (Yaw hl'),?_,by decide⟩,hRr Hc (Same.refl _)⟩;have:=Zgk p n2 xs (Yaw hr') _ (Ybg hp');exact ZbJ (by omega) (by omega)
  refine⟨acc,_,rfl,SqL.of hacc,rfl,?_⟩;rw[hRv,decide_eq_true rfl];exact kk _ (s03.trans (s35.trans s6))
end
end Fk39
namespace Fk39
open PySem L2 Lv
section
variable {P:Program}{w:World}{K:Yad}{mg:Str->Option Value}{base:Heap}
theorem scTold:FnScope ["p","following","told","numbers"] ["p","following"] (Zac Zgz):=⟨rfl,rfl,rfl,by decide +kernel,rfl,by decide +kernel,by decide +kernel⟩
theorem Zja {f fA fB fC:Addr}{fd dA dB dC:FuncData}{t4:Tok} (F:Fun K "numbers_told" "numbers_told" Zgz f fd) (T:Txt mg) (hM:mg "MOST_PLACES"=some (.int 4000 t4)) (CB:Cal P w K mg base 1 "first_numbers" ["p"] ZdQ fB dB) (CP:Cal P w K mg base 1 "places_in" ["numbers"] ZbC fC dC) (CA:Cal P w K mg base 1 "next_numbers" ["numbers"] ZdO fA dA):FnOk P w K mg base CX0 2 f fd ["p","following"] (Zfg fA):=by
 refine F.ok scTold (fun vs H Q E h=>?_) (fun cdv A outer s H vs Q E hr h=>?_)
 ·obtain⟨p,rfl,_⟩:=h;rfl
 ·obtain⟨p,rfl,h2,h7,k⟩:=h;refine⟨_,Zaq (Zar (i:=2) scTold.nd rfl (YaW rfl) (ZaQ Zad))
   (Zaq (Zar (i:=3) scTold.nd rfl (YaW rfl) (ZaB CB hr rfl (Zaa (pv 0) Zad)))
   (Zaq (ZfW YbI (ZaP ZeJ (ZaB CP hr rfl (Zaa (pv 3) Zad)) (ZbU rfl hM) (Za4 _))
    (Zaq (Za1 (ZgE Ybu YbV YbU Zbb (pv 2) (Zaa (pv 3) Zad)))
    (Zav (Zar (i:=3) scTold.nd rfl (YaW rfl) (Zkr 1 CA hr (Zaa (pv 3) Zad))))))
   (Zav (ZaF (pv 2))))),?_⟩
  have hz:5000<sizeLine:=by decide
  refine⟨YaP _,fun l nl=>?_⟩;have x1:upd H l (.lst []) l=some (.lst (([]:List Addr).map V.ref)):=Zab;have u1:Same H (upd H l (.lst [])):=Same.new nl;generalize upd H l (.lst [])=H1 at x1 u1 ⊢;refine⟨_,rfl,p,rfl,h2,h7,fun q qs H2 nq hq hTT s2=>?_⟩;refine⟨fun m σ Hx=>∃ (i:Nat) (as:List Addr) (q:Addr) (qs:List Addr),m=4001 - i/\σ=[some (.int p),some (.ref fA),some (.ref l),some (.ref q)]/\Hx l=some (.lst (as.map V.ref))/\LvsT Hx as (Zb7 p i)/\(∀ j,j<i->(num p j).flatten.length<=4000)/\Hx q=some (.tup (qs.map V.ref))/\TTs Hx qs (num p i)/\Same H Hx,
   ⟨4001,0,[],q,qs,rfl,rfl,s2 _ _ x1,⟨rfl,fun j x N a=>(nomatch a)⟩,fun j hj=>absurd hj (Ybp _),hq,hTT,u1.trans s2⟩,?_⟩
  rintro m σ Hx ⟨i,as,q,qs,rfl,rfl,hl,hLv,hall,hq,hTT,sx⟩;have hlen:=Zcr (p:=p) (by omega) i;have hg:=ZdJ h2 i;have hfl:=Zbc p i;refine⟨_,rfl,q,qs,num p i,rfl,hq,hTT,by omega,fun H3 s3=>?_⟩;refine⟨_,_,rfl,rfl,_,rfl,?_⟩;have sx3:=sx.trans s3;refine ite2 (fun hle=>?_) (fun hgt=>?_)
  ·have hle:((num p i).flatten.length:Int)<=4000:=of_decide_eq_true hle;have asl:as.length=i:=by rw[hLv.1,Zew]
   have hl3:=s3 _ _ hl;refine⟨fun σ' H'=>∃ (i':Nat) (as:List Addr) (q:Addr) (qs:List Addr),i'=i+1/\σ'=[some (.int p),some (.ref fA),some (.ref l),some (.ref q)]/\H' l=some (.lst (as.map V.ref))/\LvsT H' as (Zb7 p i')/\(∀ j,j<i'->(num p j).flatten.length<=4000)/\H' q=some (.tup (qs.map V.ref))/\TTs H' qs (num p i')/\Same H H',fun σ' H' ⟨i',as,q,qs,e,r⟩=>⟨4001 - i',by omega,i',as,q,qs,rfl,r⟩,?_⟩;refine⟨_,rfl,.inl ⟨rfl,_,SqL.of hl3⟩,_,rfl,l,_,_,rfl,rfl,hl3,by rw[Yab];omega,?_⟩;have hq4:upd H3 l (.lst (as.map V.ref++[.ref q])) q=some (.tup (qs.map V.ref)):=by
    rw[Zag fun z=>by have:=s3 _ _ hq;rw[z,hl3] at this;cases this];exact s3 _ _ hq
   have hT4:TTs (upd H3 l (.lst (as.map V.ref++[.ref q]))) qs (num p i):=TTs.lst (hTT.same s3) hl3;have hLv4:=((hLv.same s3).lst (ys:=as.map V.ref++[.ref q]) hl3).snoc hq4 hT4;rw[<- Zgp] at hLv4;have hl4:upd H3 l (.lst (as.map V.ref++[.ref q])) l=some (.lst ((as++[q]).map V.ref)):=by rw[Zab,YaC];rfl
   have sx4:Same H (upd H3 l (.lst (as.map V.ref++[.ref q]))):=sx3.put nl;generalize upd H3 l (.lst (as.map V.ref++[.ref q]))=H4 at hq4 hT4 hLv4 hl4 sx4 ⊢;refine⟨rfl,_,rfl,q,qs,num p i,rfl,hq4,hT4,by omega,by omega,?_,fun xs hx=>?_,fun l3 qs3 H5 h30 h3 hq3 s5=>?_⟩
   ·obtain⟨x,r,e,hx,_⟩:=Zji h2 i;rw[e];exact hx
   ·have:=ZeM hx;omega
   ·exact⟨i+1,as++[q],l3,qs3,rfl,rfl,s5 _ _ hl4,hLv4.same s5,fun j hj=>by
     by_cases e:j=i
     ·subst e;omega
     ·exact hall j (by omega),h3,hq3,sx4.trans s5⟩
  ·have hgt:¬ ((num p i).flatten.length:Int)<=4000:=fun z=>hgt (decide_eq_true z);exact⟨_,rfl,k l as i H3 nl (s3 _ _ hl) (hLv.same s3) hall (by omega) sx3⟩
theorem scBestBy:FnScope ["levels","lengths","best","n","numbers","reading","placing"] ["levels","lengths"] (Zac Zcn):=⟨rfl,rfl,rfl,by decide +kernel,rfl,by decide +kernel,by decide +kernel⟩
theorem SqB.sameB {b:Bool}{H H':Hp}{a:Addr}{xs:List V} (e:Same H H') (h:SqB b K H a xs):SqB b K H' a xs:=by
 cases b
 ·exact e.tup h
 ·exact e.seq h
theorem SqB.orB {b:Bool}{H:Hp}{a:Addr}{xs:List V} (h:SqB b K H a xs):SqL K H a xs∨SqT K H a xs:=by
 cases b
 ·exact .inr h
 ·exact .inl h
theorem ZgK {f f1 f2:Addr}{fd d1 d2:FuncData} (F:Fun K "best_by" "best_by" Zcn f fd) (T:Txt mg) (Te:mg "enumerate"=none) (CP:Cal P w K mg base 1 "places_in" ["numbers"] ZbC f1 d1) (CL:Cal P w K mg base 2 "least_by" ["numbers","lengths"] (ZcI K) f2 d2):FnOk P w K mg base CX0 3 f fd ["levels","lengths"] (ZcL K):=by
 refine F.ok scBestBy (fun vs H Q E h=>?_) (fun cdv A outer s H vs Q E hr h=>?_)
 ·obtain⟨lv,ll,b,as,L,ls,rfl,_⟩:=h;rfl
 ·obtain⟨lv,ll,b,as,L,ls,rfl,hV,hLv,hL,hN,hb1,k⟩:=h;have hr1:Room 1 _:=hr.mono (by decide);refine⟨_,Zaq (Zar (i:=2) scBestBy.nd rfl (YaW rfl) ZeH)
   (Zaq (ZcP YbI rfl (ZcC rfl Te (Zaa (pv 0) Zad)) (ZcS rfl (Zan (Zam (i:=3) scBestBy.nd rfl (YaW rfl)) (Zan (Zam (i:=4) scBestBy.nd rfl (YaW rfl)) ZaX)))
    (Zav (Zfl (ZaP Zku (ZaB CP hr1 rfl (Zaa (pv 4) Zad)) (Zaj Zao rfl T.len Ybb (Zaa (pv 1) Zad)) (Za4 _))
     (Zaq (Zhl (ZaB CL hr rfl (Zaa (pv 4) (Zaa (pv 1) Zad))) (ZcS rfl (Zan (Zam (i:=5) scBestBy.nd rfl (YaW rfl)) (Zan (Zam (i:=6) scBestBy.nd rfl (YaW rfl)) ZaX))))
     (Zav (Zfl (PW.pt (Zco (ZjR (ZjT (pv 2))) (Zcb (ZaP Zkt (pv 5) (ZaI Zbl (pv 2) Zaf (fun _ _=>rfl)) (Za4 _))))) (Zav (Zar (i:=2) scBestBy.nd rfl (YaW rfl) (ZbN (Zaa (pv 5) (Zaa (pv 3) (Zaa (pv 6) Zad)))))) Zcp))) Zcp)))
   (Zav (ZaF (pv 2)))),?_⟩
  refine⟨_,rfl,lv,true,rfl,⟨_,SqL.of hV⟩,?_⟩;refine Zh8 (b:=true) (xs:=as.map V.ref) (fun i σ H2=>∃ (o:Option (Int × Nat)) (v:V) (o3 o4 o5 o6:Option V),σ=[some (.ref lv),some (.ref ll),some v,o3,o4,o5,o6]/\BestOf ls L i o/\BestVP ls L H2 o v/\Same H H2)
   ⟨none,.non,_,_,_,_,rfl,fun j N hj=>absurd hj (Ybp _),rfl,Same.refl _⟩ (fun i σ H2 _ ⟨_,_,_,_,_,_,_,_,_,s2⟩=>SqL.of (s2 _ _ hV)) ?_ ?_
  ·rintro i x u σ H2 hx ⟨o,v,o3,o4,o5,o6,rfl,hO,hBv,s2⟩ nu;obtain⟨q,hq,rfl⟩:=Zbx hx;have hi:=(Yae.mp hq).1
   obtain⟨N,hNi⟩:∃ N,L[i]?=some N:=⟨_,Yaa (by rw[<- hLv.1];exact hi)⟩
   obtain⟨n7,n9,nb⟩:=hN N (Yaw hNi);obtain⟨rs,hqa,hTT⟩:=hLv.2 i q N hq hNi;have su:Same H2 (upd H2 u (.tup [.int i,.ref q])):=Same.new nu;have hu3:upd H2 u (.tup [.int i,.ref q]) u=some (.tup [.int i,.ref q]):=Zab;generalize upd H2 u (.tup [.int i,.ref q])=H3 at su hu3 ⊢;have s3:=s2.trans su;refine⟨u,_,rfl,SqT.of hu3,rfl,_,_,rfl,_,_,rfl,rfl,?_⟩;refine⟨_,rfl,q,rs,N,rfl,s3 _ _ hqa,hTT.same s3,n7,fun H4 s4=>?_⟩;have s04:=s3.trans s4;have hBv4:=hBv.same (su.trans s4);refine⟨_,rfl,ll,_,rfl,SqB.orB (SqB.sameB s04 hL),_,_,rfl,rfl,_,rfl,?_⟩;rw[Yab];refine ite2 (fun hf=>?_) (fun hf=>?_)
   ·have hf:(ls.length:Int)<=(N.flatten.length:Int):=of_decide_eq_true hf;have hfit:Fit ls N:=by unfold Fit;omega
    refine⟨_,rfl,_,rfl,q,ll,b,rs,N,ls,rfl,s04 _ _ hqa,hTT.same s04,n7,n9,SqB.sameB s04 hL,hfit,hb1,nb,fun t pl qs ks lf lp H5 nt ht npl hpl hM hin hst s5=>?_⟩;have s05:=s04.trans s5;have hBv5:=hBv4.same s5;have hrd:Zc8 ls N (ZaW N ls ks).sum:=⟨ks,lf,lp,hst,hin,rfl⟩
    generalize hR:(ZaW N ls ks).sum=R at ht hrd;refine⟨t,_,rfl,SqT.of ht,rfl,_,_,rfl,_,_,rfl,rfl,?_⟩
    match o,hO,hBv5 with
    | none,hO,hBv5=>
     have hv:v=.non:=hBv5;subst hv;refine⟨_,rfl,true,rfl,iteT ?_⟩;refine iteT ⟨_,rfl,_,rfl,_,rfl,(by show 3<=sizeLine;decide),fun bt nbt=>?_⟩;exact⟨some (R,i),.ref bt,_,_,_,_,rfl,hO.first hNi hfit hrd,⟨bt,pl,qs,N,ks,lf,lp,rfl,Zab,(Same.new nbt) _ _ hpl,hM.same (Same.new nbt),hNi,hst,hin,hfit,hR.symm⟩,s05.trans (Same.new nbt)⟩
    | some (R',n),hO,⟨bt0,pl0,qs0,N0,ks0,lf0,lp0,hv,hbt0,hrest⟩=>
     subst hv;refine⟨_,rfl,false,rfl,iteF ?_⟩;refine⟨_,rfl,_,rfl,bt0,_,0,.int R',rfl,rfl,SqT.of hbt0,rfl,R,R',rfl,rfl,_,rfl,?_⟩;refine ite2 (fun hlt=>?_) (fun hge=>?_)
     ·have hlt:R<R':=of_decide_eq_true hlt;refine⟨_,rfl,_,rfl,_,rfl,(by show 3<=sizeLine;decide),fun bt nbt=>?_⟩;exact⟨some (R,i),.ref bt,_,_,_,_,rfl,hO.better hNi hfit hrd hlt,⟨bt,pl,qs,N,ks,lf,lp,rfl,Zab,(Same.new nbt) _ _ hpl,hM.same (Same.new nbt),hNi,hst,hin,hfit,hR.symm⟩,s05.trans (Same.new nbt)⟩
     ·have hge:¬ R<R':=fun z=>hge (decide_eq_true z);exact⟨some (R',n),.ref bt0,_,_,_,_,rfl,hO.worse hNi hfit hrd hge,⟨bt0,pl0,qs0,N0,ks0,lf0,lp0,rfl,hbt0,hrest⟩,s05⟩
   ·have hf:¬ (ls.length:Int)<=(N.flatten.length:Int):=fun z=>hf (decide_eq_true z);exact⟨o,v,_,_,_,_,rfl,hO.skip hNi (fun z=>hf (by unfold Fit at z;omega)),hBv4,s04⟩
  ·rintro σ H2 ⟨o,v,o3,o4,o5,o6,rfl,hO,hBv,s2⟩;rw[Yab,hLv.1] at hO;exact⟨_,rfl,k o v H2 hO hBv s2⟩
theorem ZlT:FnScope ["p","lengths"] ["p","lengths"] (Zac sBPl):=⟨rfl,rfl,rfl,by decide +kernel,rfl,by decide +kernel,by decide +kernel⟩
theorem Zlr {f f1 f2 f3 f4:Addr}{fd d1 d2 d3 d4:FuncData} (F:Fun K "best_placing" "best_placing" sBPl f fd) (T:Txt mg) (CW:Cal P w K mg base 2 "check_ways" ["p"] Zg9 f1 d1) (CN:Cal P w K mg base 1 "next_numbers" ["numbers"] ZdO f2 d2) (CT:Cal P w K mg base 2 "numbers_told" ["p","following"] (Zfg f2) f3 d3) (CB:Cal P w K mg base 3 "best_by" ["levels","lengths"] (ZcL K) f4 d4):FnOk P w K mg base CX0 4 f fd ["p","lengths"] (Zkg K):=by
 refine F.ok ZlT (fun vs H Q E h=>?_) (fun cdv A outer s H vs Q E hr h=>?_)
 ·obtain⟨p,ll,b,ls,rfl,_⟩:=h;rfl
 ·obtain⟨p,ll,b,ls,rfl,h2,h7,hL,hl5,hb,k⟩:=h;have hr2:Room 2 _:=hr.mono (by decide);have hr3:Room 3 _:=hr.mono (by decide);refine⟨_,(Zaq (Za1 (ZaB CW hr2 rfl (Zaa (pv 0) Zad)))
   (Zav (ZaF (ZaB CB hr3 rfl (Zaa (ZaB CT hr2 rfl (Zaa (pv 0) (Zaa (Zll CN rfl) Zad))) (Zaa (pv 1) Zad)))))),?_⟩
  refine⟨_,rfl,p,rfl,by omega,by omega,?_⟩;refine⟨_,rfl,p,rfl,h2,h7,fun l as m H1 nl hl hLv hall hmore s1=>?_⟩;obtain⟨hm1,hm5⟩:=Zdm h2 h7 hmore;have hm9:∀ i,i<m->tot p i<=4000:=fun i hi=>by
   have:=hall i hi;have:=Zbc p i;omega
  have hN:∀ N∈Zb7 p m,N.length<=7/\N.flatten.length<=100000/\∀ xs∈N,∀ z∈xs,YaR z<=8000:=fun N hm=>by
   unfold Zb7 at hm;obtain⟨i,hi,rfl⟩:=Ya6.mp hm;have hi:=Ya2.mp hi;have ht:=hall i hi;have hg:=ZdJ h2 i;have hfl:=Zbc p i;refine⟨by rw[Zcr (by omega)];exact h7,by omega,fun xs hx z hz=>?_⟩;have h8:((p:Int))*i<=7*i:=YdI (by omega) (by omega);have:=Zgk p i xs hx z hz;exact ZbJ (by omega) (by omega)
  refine⟨_,rfl,l,ll,b,as,Zb7 p m,ls,rfl,hl,hLv,SqB.sameB s1 hL,hN,hb,fun o v H2 hO hV s2=>?_⟩;rw[Zew] at hO
  match o,hO,hV with
  | none,hO,hV=>
   exfalso;exact hO (m - 1) _ (by omega) (Zex (by omega)) (by unfold Fit;omega)
  | some (R,n),hO,⟨t,pl,qs,N,ks,lf,lp,hv,ht,hpl,hM,hNn,hst,hin,hfit,hR⟩=>
   subst hv;have hn:n<m:=hO.1;rw[Zex hn] at hNn;cases hNn;subst hR;have:=Zbc p m;exact k t pl qs ks lf lp n m H2 (.inr trivial) ht hpl hM hst hin hfit (hm9 n hn) hn hO hm9 (by omega) (s1.trans s2)
end
end Fk39
namespace Lv
open PySem L2 PyProof.Rows
theorem ZhM {a b c:List (List Int)} (h1:a.Perm c) (h2:b.Perm c) (s1:a.Pairwise (fun p q=>lxB q p=false)) (s2:b.Pairwise (fun p q=>lxB q p=false)):a=b :=
 YcJ (le:=fun p q=>lxB q p=false) (fun x y _ _ h1 h2=>Zcc x y h2 h1) s1 s2 (h1.trans h2.symm)
theorem Zfe {ls:List Int}{N ks lf lp ks' lf' lp':List (List Int)} (h:Zch ls N ks lf lp) (h':Zch ls N ks' lf' lp') (hle:ls.length<=N.flatten.length):ks=ks':=by
 obtain⟨a1,a2,a3,a4,a5,a6⟩:=h;obtain⟨b1,b2,b3,b4,b5,b6⟩:=h';have el:=ZhM a2 b2 a3 b3;have ep:=ZhM a4 b4 a5 b5;subst el ep;have lll:lf.length=ls.length:=by rw[a2.length_eq,Zbv]
 have llp:lp.length=N.flatten.length:=by rw[a4.length_eq];exact Zbo N 0
 apply YdA;intro j;by_cases hj:j<ls.length
 ·have hm:[-(ls[j]),(j:Int)]∈lf:=a2.mem_iff.mpr (Yaw (Zhm (Yaa hj)));obtain⟨t,ht,et⟩:=Ybk hm;have e1:lf[t]?=some [-(ls[j]),(j:Int)]:=by rw[Yaa ht,et]
  have e2:lp[t]?=some lp[t]:=Yaa (by omega);have q1:=a6 t _ _ e1 e2;have q2:=b6 t _ _ e1 e2;have ej:(([-(ls[j]),(j:Int)]:List Int).getD 1 0).toNat=j:=by simp
  rw[ej] at q1 q2;rw[q1,q2]
 ·rw[Ycx (by omega),Ycx (by omega)]
end Lv
namespace Fk39
open PySem L2 Lv
section
variable {P:Program}{w:World}{K:Yad}{mg:Str->Option Value}{base:Heap}
theorem scLaw39:FnScope ["script","cell","draws","p","lengths","kept","told","before","odd"] ["script"] (Zac sLaw):=⟨rfl,rfl,rfl,by decide +kernel,rfl,by decide +kernel,by decide +kernel⟩
theorem ix39 (b:Bool):∃ v:Nat,atI [V.int 30,.int 200] (if b then 1 else 0)=some (.int v)/\1<=v/\v<=200:=by
 cases b
 ·exact⟨30,rfl,by decide,by decide⟩
 ·exact⟨200,rfl,by decide,by decide⟩
theorem Zl0 {K:Yad}{H:Hp}{q1:Addr}{far i:Int} (h1:H q1=some (.lst [.int 2])) (i0:0<=i) (i1:i<8) (hf:2000<far) :
  ∃ v T,atI [V.int 1,.int 8,.bl true,.non,.str "2",.ref q1,.int far,.int (-2)] i=some v/\Thing K H v T/\NotIn 2 7 v T:=by
 rcases (show i=0∨i=1∨i=2∨i=3∨i=4∨i=5∨i=6∨i=7 by omega) with rfl | rfl | rfl | rfl | rfl | rfl | rfl | rfl
 ·exact⟨_,"int",rfl,⟨.int _,by decide⟩,.inr ⟨_,rfl,by omega⟩⟩
 ·exact⟨_,"int",rfl,⟨.int _,by decide⟩,.inr ⟨_,rfl,by omega⟩⟩
 ·exact⟨_,"bool",rfl,⟨.bl _,by decide⟩,.inl (by decide)⟩
 ·exact⟨_,"NoneType",rfl,⟨.non,by decide⟩,.inl (by decide)⟩
 ·exact⟨_,"str",rfl,⟨.str _,by decide⟩,.inl (by decide)⟩
 ·exact⟨_,"list",rfl,⟨.lst h1,by decide⟩,.inl (by decide)⟩
 ·exact⟨_,"int",rfl,⟨.int _,by decide⟩,.inr ⟨_,rfl,by omega⟩⟩
 ·exact⟨_,"int",rfl,⟨.int _,by decide⟩,.inr ⟨_,rfl,by omega⟩⟩
theorem TuM.toTT39 {H:Hp}{qs:List Addr}{ks:List (List Int)} (h:TuM H qs ks):TTs H qs ks:=by
 refine⟨h.len,fun j r xs e1 e2=>?_⟩;obtain⟨k,e3,e4⟩:=h.at e1;rw[e2] at e3;cases e3;exact e4
theorem ne39 {H:Hp}{a b:Addr}{qs:List Addr}{zs:List Int} (h1:H a=some (.lst (qs.map V.ref))) (h2:H b=some (.lst (zs.map V.int))) (hq:1<=qs.length):b≠a:=by
 rintro rfl;rw[h1] at h2
 match qs,hq with
 | q::qs,_=>
  match zs with
  | []=>cases h2
  | z::zs=>cases h2
theorem ZcN {H:Hp}:∀ {qs:List Addr}{ks:List (List Int)},TTs H qs ks->RdL H (qs.map V.ref) (ks.map fun k=>PyData.tuple (k.map Yc4))
 | [],[],_=>.nil
 | [],_::_,h=>absurd h.1 (by simp)
 | _::_,[],h=>absurd h.1 (by simp)
 | q::qs,k::ks,h=>.cons (.tup (h.2 0 q k rfl rfl) (ZfT k)) (ZcN (qs:=qs) (ks:=ks) ⟨by have:=h.1;simpa using this,fun j r xs e1 e2=>h.2 (j+1) r xs e1 e2⟩)
theorem ZcG:∀ ks:List (List Int),Ybc (ks.map fun k=>PyData.tuple (k.map Yc4))<=1
 | []=>by simp[Ybc]
 | k::ks=>by
  have:=ZcG ks;simp only[YaK,Ybc,Yel,Zdy];omega
theorem Zjg {f f1 f2 f3 f4 f5:Addr}{fd d1 d2 d3 d4 d5:FuncData} (F:Fun K "law" "law" sLaw f fd) (T:Txt mg) (CD:Cal P w K mg base 2 "_law_draws" ["cell","many","base"] ZdR f1 d1) (CE:Cal P w K mg base 1 "_law_lengths" ["draws","most"] Zfj f2 d2) (CB:Cal P w K mg base 4 "best_placing" ["p","lengths"] (Zkg K) f3 d3) (CR:Cal P w K mg base 3 "_law_right" ["p","lengths","told"] (ZcH K) f4 d4) (CX:Cal P w K mg base 8 "_law_refused" ["p","lengths","told"] (Zfh K) f5 d5):FnOk P w K mg base CX0 9 f fd ["script"] (ZiP K):=by
 refine okW F scLaw39 (fun vs H Q E h=>?_) (fun cdv A outer s H vs Q E hr h=>?_)
 ·obtain⟨a,cs,rfl,_⟩:=h;rfl
 ·obtain⟨a,cs,rfl,hS,hlen,k⟩:=h;have hr1:Room 1 _:=hr.mono (by decide);have hr2:Room 2 _:=hr.mono (by decide);have hr3:Room 3 _:=hr.mono (by decide);have hr4:Room 4 _:=hr.mono (by decide);have hr8:Room 8 _:=hr.mono (by decide);have hu0:_<cLine:=hr.units0;have hu12:_+12<cLine:=Ycq (Ydo (by decide:12<=64) _) hr.units;refine⟨_,(Zai (ws (ZcP YbI rfl (Zd2 (Zap Zcw (Zd3 Zhb (pv 0) Zfm (Zd1 Zaf)) (ZaQ (Zaa (Zaj Zao rfl T.len Ybb (Zaa (pv 0) Zad)) Zad)))) (Zam (i:=1) scLaw39.nd rfl (YaW rfl))
   (WSs.out (Zai (ws (Zar (i:=2) scLaw39.nd rfl (YaW rfl) (ZaB CD hr2 rfl (Zaa (pv 1) (Zaa Zaf (Zaa (Zap ZcT Zaf Zaf) Zad))))))
    (Zai (ws (Zar (i:=3) scLaw39.nd rfl (YaW rfl) (Zap Zba Zaf (Zap Za3 (ZaI ZaT (pv 2) Zaf (fun _ _=>rfl)) Zaf))))
    (Zai (ws (Zar (i:=4) scLaw39.nd rfl (YaW rfl) (ZaB CE hr1 rfl (Zaa (pv 2) (Zaa (ZaI ZaT (ZaQ (Zaa Zaf (Zaa Zaf Zad))) (Za0 Ziz rfl T.int ZkX (Zaa (Zht Zlq (Zap Za3 (ZaI ZaT (pv 2) Zaf (fun _ _=>rfl)) Zaf) Zaf (Za4 _)) Zad)) (fun _ _=>rfl)) Zad)))))
    (Zai (ws (Zar (i:=5) scLaw39.nd rfl (YaW rfl) (Za0 ZaU rfl T.tuple Zb3 (Zaa (pv 4) Zad))))
    (Zai (ws (Zar (i:=6) scLaw39.nd rfl (YaW rfl) (ZaB CB hr4 rfl (Zaa (pv 3) (Zaa (pv 4) Zad)))))
    (Zai (Zc9 (Za8 (Zbj (ZaB CR hr3 rfl (Zaa (pv 3) (Zaa (pv 4) (Zaa (pv 6) Zad))))))
    (wss Zbk)
    Zbn)
    (Zai (ZjF (i:=7) scLaw39.nd rfl (YaW rfl) (ZjG (ZaA rfl (ZaI Zbl (pv 6) Zaf (fun _ _=>rfl)) (ZaA rfl (ZaI Zbl (pv 6) Zaf (fun _ _=>rfl)) (ZaA rfl (Za0 Ze2 rfl T.list Zj6 (Zaa (ZaI Zbl (pv 6) Zaf (fun _ _=>rfl)) Zad)) ZfE)))))
    (Zai (ws (Za1 (Zlm Ybu PySem.F.slot_list_reverse PySem.F.type_list_reverse ZgM (ZaI Zbl (pv 6) Zaf (fun _ _=>rfl)))))
    (Zai (Zc9 (PW.pt (Zco (ZaP (Zlp hu12) (ZaB CB hr4 rfl (Zaa (pv 3) (Zaa (pv 5) Zad))) (pv 7) (Za4 _)) (Zcb (ZaP (ZjV hu0) (Za0 ZaU rfl T.tuple Zb3 (Zaa (pv 4) Zad)) (pv 5) (Za4 _)))))
    (wss Zbk)
    Zbn)
    (Zai (ZjF (i:=8) scLaw39.nd rfl (YaW rfl) (Zk0 ZaT (ZjH (ZaA rfl Zaf (ZaA rfl Zaf (ZaA rfl Zfq (ZaA rfl ZeH (ZaA rfl Zlj (ZaA rfl (ZaQ (Zaa Zaf Zad)) (ZaA rfl (Zap Zba Zaf (Zap ZcT Zaf Zaf)) (ZaA rfl (Zkp ZgZ Zaf) ZfE))))))))) (we (Zap Za3 (ZaI ZaT (pv 2) Zaf (fun _ _=>rfl)) Zaf)) (fun _ _=>rfl)))
    (Zax (Zc9 (PW.pt (Zco (Za8 (Zbj (ZaB CX hr8 rfl (Zaa (pv 8) (Zaa (pv 4) (Zaa ZeH Zad)))))) (Zcb (Za8 (Zbj (ZaB CX hr8 rfl (Zaa (pv 8) (Zaa (pv 4) (Zaa (pv 7) Zad)))))))))
    (wss Zbk)
    Zbn)))))))))))))))
   (Zax (ws (ZaF Zfq)))),?_⟩
  have hz:20000<sizeLine:=by decide
  refine⟨_,rfl,4,rfl,a,_,rfl,hS,fun u nu=>?_⟩;rw[show (some (4:Int))=some ((4:Nat):Int) from rfl,Zjy,<- Ydq];have s0:=Same.new (o:=.lst ((cs.take 4).map V.int)) nu;have e0:upd H u (.lst ((cs.take 4).map V.int)) u=some (.lst ((cs.take 4).map V.int)):=Zab;generalize upd H u (.lst ((cs.take 4).map V.int))=H0 at s0 e0 ⊢;refine⟨_,rfl,a,_,rfl,.inl (s0.seq hS),(by show 1<=sizeLine;decide),fun q nq=>?_⟩;have s1:=Same.new (o:=.lst [V.int ((cs.map V.int).length:Nat)]) nq;refine⟨u,q,_,_,rfl,rfl,s1 _ _ e0,Zab,by rw[Yab,YaA];simp;omega,fun sl nsl=>?_⟩;have hcat:(cs.take 4).map V.int++[V.int ((cs.map V.int).length:Nat)]=(cs.take 4++[((cs.map V.int).length:Int)]).map V.int:=by rw[YaC];rfl
  rw[hcat];generalize hcells:cs.take 4++[((cs.map V.int).length:Int)]=cells;generalize upd H0 q (.lst [V.int ((cs.map V.int).length:Nat)])=H1 at nsl;generalize hH2:upd H1 sl (.lst (cells.map V.int))=H2;have hsl:H2 sl=some (.lst (cells.map V.int)):=by rw[<- hH2];exact Zab
  refine⟨sl,true,rfl,⟨_,SqL.of hsl⟩,?_⟩;refine Zjr (b:=true) (K:=K) (a:=sl) (xs:=cells.map V.int) (fun i σ Hx=>∃ o1 o2 o3 o4 o5 o6 o7 o8:Option V,σ=[some (.ref a),o1,o2,o3,o4,o5,o6,o7,o8]/\Hx sl=some (.lst (cells.map V.int))) ⟨none,none,none,none,none,none,none,none,rfl,hsl⟩ (fun i σ Hx _ ⟨_,_,_,_,_,_,_,_,_,h⟩=>SqL.of h) ?_ ?_
  ·rintro i x σ Hx hx ⟨o1,o2,o3,o4,o5,o6,o7,o8,rfl,hsx⟩;obtain⟨z,hz',rfl⟩:=Zbp hx;refine⟨_,rfl,10,15,rfl,rfl,⟨by decide,by decide,by decide⟩,z,220,_,rfl,by decide,by decide,by decide,fun dl ds H3 ndl hdl dlen d0 s3=>?_⟩;have gd:∀ (j:Nat),j<220->atI (ds.map V.int) (j:Int)=some (.int (ds.getD j 0)):=fun j hj=>by
    rw[ZiD (by omega) (by omega),Yba]
   have m6a:=Ybh (ds.getD 210 0) (show (6:Int)≠0 by decide);have m6b:=Ybi (ds.getD 210 0) (show (0:Int)<6 by decide);refine⟨_,rfl,dl,_,210,_,rfl,rfl,SqL.of hdl,gd 210 (by omega),_,_,rfl,rfl,(by show (0:Int)<6;decide),2,_,rfl,rfl,?_⟩;obtain⟨p,hpd⟩:∃ p:Nat,2+ds.getD 210 0 % 6=(p:Int):=⟨(2+ds.getD 210 0 % 6).toNat,by omega⟩
   have p2:2<=p:=by omega
   have p7:p<=7:=by omega
   refine⟨_,rfl,(by show 2<=sizeLine;decide),fun q1 nq1=>?_⟩;have s3a:=Same.new (o:=.lst [V.int 30,.int 200]) nq1;have e3a:upd H3 q1 (.lst [V.int 30,.int 200]) q1=some (.lst [V.int 30,.int 200]):=Zab;have hdl3:=s3a _ _ hdl;generalize upd H3 q1 (.lst [V.int 30,.int 200])=H3a at s3a e3a hdl3 ⊢;have sx3a:=s3.trans s3a;refine⟨_,rfl,dl,_,211,_,rfl,rfl,SqL.of hdl3,gd 211 (by omega),_,_,rfl,rfl,(by show (0:Int)<8;decide),rfl,.inr ⟨_,rfl,?_⟩⟩;obtain⟨v,ev,v1,v2⟩:=ix39 (decide (V.int (ds.getD 211 0 % 8)=V.int 1));refine⟨q1,_,_,.int v,rfl,rfl,SqL.of e3a,ev,?_⟩;refine⟨dl,ds,v,rfl,hdl3,d0,v1,by omega,by omega,by omega,fun l0 ls H4 nl0 hl0 hls1 hlsv hlb s4=>?_⟩;have hls:ls.length<=200:=by omega
   clear ev v1 v2 hlsv;have hbits:∀ l∈ls,YaR l<=8000:=fun l hl=>ZbJ (by have:=hlb l hl;omega) (by have:=hlb l hl;omega);refine⟨_,rfl,l0,_,rfl,.inl ⟨SqL.of hl0,fun kp nkp=>?_⟩⟩;have s5:=Same.new (o:=.tup (ls.map V.int)) nkp;have e5:upd H4 kp (.tup (ls.map V.int)) kp=some (.tup (ls.map V.int)):=Zab;have hl05:=s5 _ _ hl0;generalize upd H4 kp (.tup (ls.map V.int))=H5 at s5 e5 hl05 ⊢;have sx5:=(sx3a.trans s4).trans s5;refine⟨_,rfl,_,rfl,p,l0,true,ls,by rw[<- hpd];rfl,p2,p7,SqL.of hl05,by omega,hbits,fun t pl qs ks lf lp n m H6 _ ht hpl hTu hSt hin hFit h4 hnm hB hall hm s6=>?_⟩;have hBG:=BestG.of (L:=num p) hB;have hTP:ToldP p m:=⟨hall,hm⟩
   have hQ:=TuM.toTT39 hTu;have hnd:=ZeA hSt hFit;have hkl:=hSt.1;have sx6:=sx5.trans s6;refine⟨_,rfl,_,rfl,_,rfl,p,l0,t,pl,qs,ls,ks,n,m,by rw[<- hpd];rfl,p2,p7,s6 _ _ hl05,hls1,by omega,hlb,ht,hpl,hQ,hin,hnd,hkl.symm,hBG,hTP,fun H7 s7=>⟨true,rfl,iteF ?_⟩⟩;have sx7:=sx6.trans s7;have ht7:=s7 _ _ ht;have hpl7:=s7 _ _ hpl;generalize hRv:(ZaW (num p n) ls ks).sum=Rv at ht ht7 hBG;refine⟨_,rfl,t,_,0,.int Rv,rfl,rfl,SqT.of ht7,rfl,_,rfl,t,_,1,.int (n:Int),rfl,rfl,SqT.of ht7,rfl,_,rfl,t,_,2,.ref pl,rfl,rfl,SqT.of ht7,rfl,pl,_,rfl,.inl (SqL.of hpl7),fun l2 nl2=>⟨(by show 3<=sizeLine;decide),fun b nb=>?_⟩⟩;have s8:=Same.new (o:=.lst (qs.map V.ref)) nl2;have e8:upd H7 l2 (.lst (qs.map V.ref)) l2=some (.lst (qs.map V.ref)):=Zab;have ne2:pl≠l2:=Zae hpl7 nl2;generalize upd H7 l2 (.lst (qs.map V.ref))=H8 at s8 e8 nb ⊢;have s9:=Same.new (o:=.tup [V.int Rv,.int (n:Int),.ref l2]) nb;have e9:upd H8 b (.tup [V.int Rv,.int (n:Int),.ref l2]) b=some (.tup [V.int Rv,.int (n:Int),.ref l2]):=Zab;generalize upd H8 b (.tup [V.int Rv,.int (n:Int),.ref l2])=H9 at s9 e9 ⊢;have s79:=s8.trans s9;have sx9:=sx7.trans s79;have hpl9:=s79 _ _ hpl7;refine⟨_,rfl,t,_,2,.ref pl,rfl,rfl,SqT.of (s79 _ _ ht7),rfl,.inl ⟨rfl,_,SqL.of hpl9⟩,pl,_,rfl,rfl,hpl9,?_⟩;have hq1:1<=qs.length:=by rw[hQ.1];omega
   have s69:=s7.trans s79;have s59:=s6.trans s69;have s49:=s5.trans s59;have hsl10:upd H9 pl (.lst (qs.map V.ref).reverse) sl=some (.lst (cells.map V.int)):=by
    rw[Zag (ne39 hpl9 (sx9 _ _ hsx) hq1)];exact sx9 _ _ hsx
   have hdl10:upd H9 pl (.lst (qs.map V.ref).reverse) dl=some (.lst (ds.map V.int)):=by
    have h:H9 dl=some (.lst (ds.map V.int)):=s49 _ _ (s4 _ _ hdl3);rw[Zag (ne39 hpl9 h hq1)];exact h
   have hl010:upd H9 pl (.lst (qs.map V.ref).reverse) l0=some (.lst (ls.map V.int)):=by
    have h:H9 l0=some (.lst (ls.map V.int)):=s59 _ _ hl05;rw[Zag (ne39 hpl9 h hq1)];exact h
   have hkp10:upd H9 pl (.lst (qs.map V.ref).reverse) kp=some (.tup (ls.map V.int)):=by
    have h:H9 kp=some (.tup (ls.map V.int)):=s59 _ _ e5;rw[Zag (fun e=>by rw[e,hpl9] at h;cases h)];exact h
   have hb10:upd H9 pl (.lst (qs.map V.ref).reverse) b=some (.tup [V.int Rv,.int (n:Int),.ref l2]):=by
    rw[Zag (fun e=>by rw[e,hpl9] at e9;cases e9)];exact e9
   have hl210:upd H9 pl (.lst (qs.map V.ref).reverse) l2=some (.lst (qs.map V.ref)):=by
    rw[Zag (Ybj ne2)];exact s9 _ _ e8
   have hQ10:TTs (upd H9 pl (.lst (qs.map V.ref).reverse)) qs ks:=TTs.offJ (hQ.same s69) hpl9;generalize upd H9 pl (.lst (qs.map V.ref).reverse)=H10 at hsl10 hdl10 hl010 hkp10 hb10 hl210 hQ10 ⊢;dsimp only;refine cut1 (a:=tIfS _ _ _) (fun σ' H'=>σ'=[some (.ref a),some (.int z),some (.ref dl),some (.int p),some (.ref l0),some (.ref kp),some (.ref t),some (.ref b),o8]/\Same H10 H') (fun R' hR=>?_) ?_
   ·refine⟨_,rfl,_,rfl,p,kp,false,ls,by rw[<- hpd];rfl,p2,p7,SqT.of hkp10,by omega,hbits,fun t' pl' qs' ks' lf' lp' n' m' H11 _ ht' hpl' hTu' hSt' hin' hFit' h4' hnm' hB' hall' hm' s11=>⟨_,rfl,?_⟩⟩;have hBG':=BestG.of (L:=num p) hB';have em:=(show ToldP p m' from⟨hall',hm'⟩).one hTP;subst em;obtain⟨eR,en⟩:=hBG'.one hBG;subst en;have ek:=Zfe hSt' hSt hFit;subst ek;rw[eR] at ht';refine⟨t',b,.tuple [.int Rv,.int (n':Int),.list (ks'.map fun k=>.tuple (k.map Yc4))],rfl,rfl,.tup ht' (.cons (.int _) (.cons (.int _) (.cons (.lst hpl' (ZcN (TuM.toTT39 hTu'))) .nil))),.tup (s11 _ _ hb10) (.cons (.int _) (.cons (.int _) (.cons (.lst (s11 _ _ hl210) (ZcN (hQ10.same s11))) .nil))),?_,_,rfl,iteF ?_⟩
    ·have:=ZcG ks';simp only[Ybc,Yel];omega
    have hl011:=s11 _ _ hl010;refine⟨_,rfl,l0,_,rfl,.inl ⟨SqL.of hl011,fun l nl=>⟨_,rfl,l,kp,_,_,rfl,rfl,SqT.of Zab,SqT.of ((Same.new nl) _ _ (s11 _ _ hkp10)),_,rfl,?_⟩⟩⟩;rw[decide_eq_true rfl];exact iteF (hR _ _ ⟨by rw[<- hpd];rfl,s11.trans (Same.new nl)⟩)
   rintro σ H17 ⟨rfl,s17⟩;have hdl17:=s17 _ _ hdl10;refine⟨(by show 1<=sizeLine;decide),fun q2 n2=>?_⟩;have s18:Same H17 (upd H17 q2 (.lst [.int 2])):=Same.new n2;have e18:upd H17 q2 (.lst [.int 2]) q2=some (.lst [.int 2]):=Zab;generalize upd H17 q2 (.lst [.int 2])=H18 at s18 e18 ⊢;refine⟨10,20,rfl,rfl,⟨by decide,by decide,by decide⟩,2,_,rfl,rfl,2,rfl,(by show 8<=sizeLine;decide),fun l9 nl9=>?_⟩;have s21:∀ o,Same H18 (upd H18 l9 o):=fun o=>Same.new nl9;have w0:=Ybh (ds.getD 212 0) (show (8:Int)≠0 by decide);have w1:=Ybi (ds.getD 212 0) (show (0:Int)<8 by decide);have e22:upd H18 l9 (.lst [V.int 1,.int 8,.bl true,.non,.str "2",.ref q2,.int (2+(10:Int) ^ (20:Int).toNat),.int (-2)]) l9=some (.lst [V.int 1,.int 8,.bl true,.non,.str "2",.ref q2,.int (2+(10:Int) ^ (20:Int).toNat),.int (-2)]):=Zab;have s22:=s21 (.lst [V.int 1,.int 8,.bl true,.non,.str "2",.ref q2,.int (2+(10:Int) ^ (20:Int).toNat),.int (-2)]);obtain⟨v,Tv,ev,th,hn⟩:=Zl0 (K:=K) (i:=ds.getD 212 0 % 8) (far:=2+(10:Int) ^ (20:Int).toNat) (s22 _ _ e18) w0 w1 (by decide);refine⟨_,rfl,dl,_,212,_,rfl,rfl,SqL.of ((s18.trans s22) _ _ hdl17),gd 212 (by omega),_,_,rfl,rfl,(by show (0:Int)<8;decide),l9,_,_,v,rfl,rfl,SqL.of e22,ev,?_⟩;have s1022:=s17.trans (s18.trans s22);generalize upd H18 l9 (.lst [V.int 1,.int 8,.bl true,.non,.str "2",.ref q2,.int (2+(10:Int) ^ (20:Int).toNat),.int (-2)])=H22 at th s1022 ⊢;refine⟨_,rfl,_,rfl,v,Tv,l0,.non,rfl,.inl rfl,th,hn,fun H23 s23=>⟨true,rfl,iteF ?_⟩⟩;refine⟨_,rfl,_,rfl,_,rfl,v,Tv,l0,.ref b,rfl,.inr ⟨_,rfl⟩,th.same s23,hn,fun H24 s24=>⟨true,rfl,iteF ?_⟩⟩;exact⟨_,_,_,_,_,_,_,_,rfl,((s1022.trans s23).trans s24) _ _ hsl10⟩
  ·rintro σ Hx ⟨o1,o2,o3,o4,o5,o6,o7,o8,rfl,_⟩;exact k Hx
end
end Fk39
namespace Fk39
open PySem L2 Lv
section
variable {P:Program}{w:World}{K:Yad}{mg:Str->Option Value}{base:Heap}
theorem ZiU:FnScope ["p"] ["p"] (Zac Zcm):=⟨rfl,rfl,rfl,by decide +kernel,rfl,by decide +kernel,by decide +kernel⟩
theorem ZhC {f:Addr}{fd:FuncData} (F:Fun K "first_numbers" "first_numbers" Zcm f fd) (T:Txt mg):FnOk P w K mg base CX0 1 f fd ["p"] ZdQ:=by
 refine F.ok ZiU (fun vs H Q E h=>?_) (fun cdv A outer s H vs Q E hr h=>?_)
 ·obtain⟨p,rfl,_⟩:=h;rfl
 ·obtain⟨p,rfl,h1,h2,k⟩:=h;refine⟨_,Zav (ZaF (Za0 ZaU rfl T.tuple Zb3 (Zaa (Zap Zcw (ZaQ (Zaa (ZbN (Zaa Zaf Zad)) Zad)) (Zap ZjU (ZaQ (Zaa (ZbN Zad) Zad)) (Zap ZeI (pv 0) Zaf))) Zad))),?_⟩;refine⟨(by show 1<=sizeLine;decide),fun q0 e0=>⟨(by show 1<=sizeLine;decide),fun p1 e1=>⟨YaP _,fun q1 f1=>⟨(by show 1<=sizeLine;decide),fun p2 e2=>⟨_,rfl,_,_,rfl,rfl,?_⟩⟩⟩⟩⟩;have t0:Same H (upd H q0 (.tup [.int 0])):=Same.new e0;have t1:=t0.trans (Same.new (o:=.lst [.ref q0]) e1);have t2:=t1.trans (Same.new (o:=.tup []) f1);have t3:=t2.trans (Same.new (o:=.lst [.ref q1]) e2);have a0:(upd (upd (upd (upd H q0 (.tup [.int 0])) p1 (.lst [.ref q0])) q1 (.tup [])) p2 (.lst [.ref q1])) q0=some (.tup [.int 0]):=((Same.new e1).trans ((Same.new f1).trans (Same.new e2))) q0 _ Zab;have a1:(upd (upd (upd (upd H q0 (.tup [.int 0])) p1 (.lst [.ref q0])) q1 (.tup [])) p2 (.lst [.ref q1])) p1=some (.lst [.ref q0]):=((Same.new f1).trans (Same.new e2)) p1 _ Zab;have a2:(upd (upd (upd (upd H q0 (.tup [.int 0])) p1 (.lst [.ref q0])) q1 (.tup [])) p2 (.lst [.ref q1])) q1=some (.tup []):=(Same.new e2) q1 _ Zab;have a3:(upd (upd (upd (upd H q0 (.tup [.int 0])) p1 (.lst [.ref q0])) q1 (.tup [])) p2 (.lst [.ref q1])) p2=some (.lst [.ref q1]):=Zab;generalize (upd (upd (upd (upd H q0 (.tup [.int 0])) p1 (.lst [.ref q0])) q1 (.tup [])) p2 (.lst [.ref q1]))=H1 at t3 a0 a1 a2 a3 ⊢;refine⟨p2,(p:Int) - 1,_,rfl,rfl,a3,by omega,by omega,?_,fun p3 e3=>?_⟩
  ·exact Ybs (ZaO (by show 1*((p:Int) - 1).toNat<=1000;omega))
  have ez:(Yau ((p:Int) - 1).toNat [V.ref q1]).flatten=Yau (p - 1) (V.ref q1):=by
   rw[show ((p:Int) - 1).toNat=p - 1 by omega];exact List.flatten_replicate_singleton
  rw[ez];have s3:=Same.new (o:=.lst (Yau (p - 1) (V.ref q1))) e3;refine⟨p1,p3,_,_,rfl,rfl,s3 p1 _ a1,Zab,?_,fun p4 e4=>⟨p4,_,rfl,.inl ⟨SqL.of Zab,fun l hl=>?_⟩⟩⟩
  ·exact Ybs (ZaO (by rw[YbS];show 1+(p - 1)<=1000;omega))
  have s4:=s3.trans (Same.new (o:=.lst ([.ref q0]++Yau (p - 1) (V.ref q1))) e4);have s5:=s4.trans (Same.new (o:=.tup ([.ref q0]++Yau (p - 1) (V.ref q1))) hl);have hl0:H l=none:=(t3.trans s4).free hl;refine k l (q0::Yau (p - 1) q1) _ hl0 (by rw[Zab];simp) ⟨by simp[num0],fun j r xs ha hb=>?_⟩ (t3.trans s5)
  cases j with
  | zero=>
   have:r=q0:=by simpa using ha.symm
   have:xs=[0]:=by simpa[num0] using hb.symm
   subst r xs;exact s5 q0 _ a0
  | succ j=>
   have:r=q1:=Zhg (j:=j) (by simpa using ha);have:xs=[]:=Zhg (j:=j) (by simpa[num0] using hb);subst r xs;exact s5 q1 _ a2
theorem scNextN:FnScope ["numbers","first"] ["numbers"] (Zac Zcu):=⟨rfl,rfl,rfl,by decide +kernel,rfl,by decide +kernel,by decide +kernel⟩
theorem Zjd {f:Addr}{fd:FuncData} (F:Fun K "next_numbers" "next_numbers" Zcu f fd) (T:Txt mg):FnOk P w K mg base CX0 1 f fd ["numbers"] ZdO:=by
 refine F.ok scNextN (fun vs H Q E h=>?_) (fun cdv A outer s H vs Q E hr h=>?_)
 ·obtain⟨a,rs,N,rfl,_⟩:=h;rfl
 ·obtain⟨a,rs,N,rfl,hA,hT,h1,h2,hne,hz,k⟩:=h;refine⟨_,Zaq (Zar (i:=1) scNextN.nd rfl (YcL rfl) (Za0 ZaU rfl T.tuple Zb3 (Zaa (ZaR (own:=["number"]) (js:=[]) (CompOk.by (sc:=Zac Zcu) (N:=["numbers","first"]) rfl rfl (by decide +kernel)) rfl (Zho (ZaI Zbl (pv 0) Zaf (fun _ _=>rfl))) ZaC
     (fun _ _ _ _ _=>Zam (i:=0) (by show (["number"]:List Str).Nodup;decide +kernel) rfl (YaW rfl) (.inr rfl)) (fun _ _ _ _ _=>ZaH) (fun _ _ _ _ _=>Zap Zba (pv 0) Zaf)) Zad)))
   (Zav (ZaF (Za0 ZaU rfl T.tuple Zb3 (Zaa (Zap Zcw
    (ZaR (own:=["reel"]) (js:=[1]) (CompOk.by (sc:=Zac Zcu) (N:=["numbers","first"]) rfl rfl (by decide +kernel)) rfl (Zho (Zd3 Zla (pv 0) (Zd1 Zaf) Zfm)) ZaC
     (fun _ _ _ _ _=>Zam (i:=0) (by show (["reel","first"]:List Str).Nodup;decide +kernel) rfl (YaW rfl) (.inr rfl)) (fun _ _ _ _ _=>ZaH) (fun _ _ _ _ _=>Zap (Zi9 K) (pv 1) (pv 0)))
    (ZaQ (Zaa (pv 1) Zad))) Zad)))),?_⟩
  obtain⟨x0,xr,rfl⟩:∃ x0 xr,N=x0::xr:=by
   cases N with
   | nil=>simp at h1
   | cons x y=>exact⟨x,y,rfl⟩
  obtain⟨r0,rr,rfl⟩:∃ r0 rr,rs=r0::rr:=by
   cases rs with
   | nil=>have:=hT.1;simp at this
   | cons x y=>exact⟨x,y,rfl⟩
  have hr0:H r0=some (.tup (x0.map V.int)):=hT.2 0 r0 x0 rfl rfl;have hrl:rr.length=xr.length:=by have:=hT.1;simpa using this
  have hxr:xr.length<=6:=by simpa using h2
  have hx0:x0.length<=4000:=hz x0 (by simp);have ef:fstN (x0::xr)=x0.map (·+1):=rfl;refine⟨_,rfl,a,_,0,.ref r0,rfl,rfl,SqT.of hA,Za2 (j:=0) rfl,r0,rfl,⟨_,SqT.of hr0⟩,?_⟩;refine Zeg (xs:=x0.map V.int) (fun acc i H2=>Same H H2/\H2 acc=some (.lst (((x0.take i).map (·+1)).map V.int))) (fun acc h0=>⟨Same.new h0,Zab⟩) (fun acc i H2 h0 _ p=>p.1.tup (SqT.of hr0)) ?_ ?_
  ·rintro acc i x H2 h0 hx ⟨s2,hacc⟩;obtain⟨z,hz',rfl⟩:=Zbp hx;have hi:=(Yae.mp hz').1
   refine⟨_,rfl,z,1,rfl,rfl,_,hacc,?_,by rw[Yab];exact hi,s2.put h0,?_⟩
   ·exact Zbu (by simp;omega)
   ·rw[Zab,Ybf,hz',Ybv,YaC,YaC];rfl
  rintro acc H2 h0 ⟨s2,hacc⟩;rw[Yab,YaT] at hacc;refine⟨acc,_,rfl,.inl ⟨SqL.of hacc,fun fl hfl=>?_⟩⟩;have s3:=s2.trans (Same.new (o:=.tup ((x0.map (·+1)).map V.int)) hfl);have hfl3:(upd H2 fl (.tup ((x0.map (·+1)).map V.int))) fl=some (.tup ((x0.map (·+1)).map V.int)):=Zab;generalize (upd H2 fl (.tup ((x0.map (·+1)).map V.int)))=H3 at s3 hfl3 ⊢;have hfl0:H fl=none:=s2.free hfl;refine⟨_,rfl,1,rfl,a,_,rfl,SqT.of (s3 a _ hA),?_,fun p1 e1=>⟨p1,rfl,⟨_,SqT.of Zab⟩,?_⟩⟩
  ·rintro⟨z,_⟩;have:HT.sIx ((r0::rr).map V.ref).length 0 (some ((1:Nat):Int))=0:=z;rw[HT.sIx_nat] at this;simp at this
  have ecut:cutV ((r0::rr).map V.ref) (some 1) none=rr.map V.ref:=by
   unfold cutV;show (((r0::rr).map V.ref).drop (HT.sIx ((r0::rr).map V.ref).length 0 (some ((1:Nat):Int)))).take (HT.sIx ((r0::rr).map V.ref).length ((r0::rr).map V.ref).length none - HT.sIx ((r0::rr).map V.ref).length 0 (some ((1:Nat):Int)))=_;rw[HT.sIx_nat];rw[show min 1 ((r0::rr).map V.ref).length=1 by simp];show (rr.map V.ref).take (((r0::rr).map V.ref).length - 1)=_;rw[Ybo (by simp)]
  rw[ecut];have s4:=s3.trans (Same.new (o:=.tup (rr.map V.ref)) e1);have hfl4:=(Same.new (o:=.tup (rr.map V.ref)) e1) fl _ hfl3;have hp14:(upd H3 p1 (.tup (rr.map V.ref))) p1=some (.tup (rr.map V.ref)):=Zab;generalize (upd H3 p1 (.tup (rr.map V.ref)))=H4 at s4 hfl4 hp14 ⊢;have hr:∀ (j:Nat) r xs,rr[j]?=some r->xr[j]?=some xs->H r=some (.tup (xs.map V.int)):=fun j r xs a b=>hT.2 (j+1) r xs a b;have hxz:∀ xs∈xr,xs.length<=4000:=fun xs hx=>hz xs (by simp[hx]);have hx0ne:x0≠[]:=hne;refine Zeg (xs:=rr.map V.ref) (fun acc i H5=>Same H4 H5/\∃ qs:List Addr,H5 acc=some (.lst (qs.map V.ref))/\TTs H5 qs ((xr.take i).map (x0.map (·+1)++·))) (fun acc h0=>⟨Same.new h0,[],Zab,rfl,fun j r xs a b=>by simp at a⟩) (fun acc i H5 h0 _ p=>p.1.tup (SqT.of hp14)) ?_ ?_
  ·rintro acc i x H5 h0 hx ⟨s5,qs,hacc,hq⟩;obtain⟨r,hr',rfl⟩:=ZbW hx;have hi:=(Yae.mp hr').1
   have hix:i<xr.length:=by omega
   have hrx:H5 r=some (.tup (xr[i].map V.int)):=(s4.trans s5) r _ (hr i r _ hr' (Yaa hix));have hfl5:=s5 fl _ hfl4;have hxi:xr[i].length<=4000:=hxz _ (Ybg hix);have hqs:qs.length<=6:=by have:=hq.1;simp at this;omega
   have e2:(xr.take (i+1)).map (x0.map (·+1)++·)=(xr.take i).map (x0.map (·+1)++·)++[x0.map (·+1)++xr[i]]:=by
    rw[Ydt hix,YaC];rfl
   rw[e2];refine⟨_,rfl,_,rfl,fl,r,_,_,rfl,rfl,SqT.of hfl5,SqT.of hrx,by simpa using hx0ne,?_,fun hemp=>?_,fun hemp pn en=>?_⟩
   ·exact Ybs (Zbu (by simp;omega))
   ·have hemp':xr[i]=[]:=by simpa using hemp
    refine⟨_,hacc,Zbu (by simp;omega),by rw[Yab];exact hi,s5.put h0,qs++[fl],by rw[Zab];simp,?_⟩;refine (hq.lst hacc).snoc ?_;rw[hemp',Ybw,Zag (by intro z;subst z;rw[hacc] at hfl5;cases hfl5)];exact hfl5
   ·have hacc6:=(Same.new (o:=.tup ((x0.map (·+1)).map V.int++xr[i].map V.int)) en) acc _ hacc;refine⟨_,hacc6,Zbu (by simp;omega),by rw[Yab];exact hi,(s5.trans (Same.new en)).put h0,qs++[pn],by rw[Zab];simp,?_⟩;refine ((hq.same (Same.new en)).lst hacc6).snoc ?_;rw[Zag (by intro z;subst z;rw[hacc] at en;cases en),Zab];simp
  ·rintro acc H5 h0 ⟨s5,qs,hacc,hq⟩;rw[Yab,hrl,YaT] at hq;have hfl5:=s5 fl _ hfl4;have hqs:qs.length<=6:=by have:=hq.1;simp at this;omega
   refine⟨_,rfl,(by show 1<=sizeLine;decide),fun p2 e2=>?_⟩;refine⟨acc,p2,_,_,rfl,rfl,(Same.new e2) acc _ hacc,Zab,?_,fun p3 e3=>⟨p3,_,rfl,.inl ⟨SqL.of Zab,fun l hl=>?_⟩⟩⟩
   ·exact Ybs (Zbu (by simp;omega))
   have sz:=((Same.new (o:=.lst [V.ref fl]) e2).trans (Same.new (o:=.lst (qs.map V.ref++[V.ref fl])) e3)).trans (Same.new (o:=.tup (qs.map V.ref++[V.ref fl])) hl);have s6:=(s4.trans s5).trans sz;refine k l (qs++[fl]) _ ?_ (by rw[Zab];simp) ?_ s6
   ·exact ((s4.trans s5).trans ((Same.new (o:=.lst [V.ref fl]) e2).trans (Same.new (o:=.lst (qs.map V.ref++[V.ref fl])) e3))).free hl
   ·exact (hq.same sz).snoc (sz fl _ hfl5)
theorem scMixed:FnScope ["cell","k","prime","part"] ["cell","k"] (Zac Zdq):=⟨rfl,rfl,rfl,by decide +kernel,rfl,by decide +kernel,by decide +kernel⟩
theorem ix7 {d:Int} (h0:0<=d) (h1:d<7):∃ v:Int,atI [V.int 2147483647,.int 2147483629,.int 2147483587,.int 2147483579,.int 2147483563,.int 2147483549,.int 2147483543] d=some (.int v)/\0<v/\v<=2147483647:=by
 have:d=0∨d=1∨d=2∨d=3∨d=4∨d=5∨d=6:=by omega
 rcases this with rfl | rfl | rfl | rfl | rfl | rfl | rfl
 all_goals exact⟨_,rfl,by decide,by decide⟩
theorem Zje {f:Addr}{fd:FuncData} (F:Fun K "_law_mixed" "_law_mixed" Zdq f fd) (T:Txt mg):FnOk P w K mg base CX0 1 f fd ["cell","k"] Zfi:=by
 refine F.ok scMixed (fun vs H Q E h=>?_) (fun cdv A outer s H vs Q E hr h=>?_)
 ·obtain⟨c,k,rfl,_⟩:=h;rfl
 ·obtain⟨c,kk,rfl,hk,k⟩:=h;refine⟨_,Zaq (Zar (i:=2) scMixed.nd rfl (YaW rfl) (ZaI ZaT (ZaQ (Zaa Zaf (Zaa Zaf (Zaa Zaf (Zaa Zaf (Zaa Zaf (Zaa Zaf (Zaa Zaf Zad)))))))) (Zap Za3 (pv 1) Zaf) (fun _ _=>rfl)))
   (Zaq (Zar (i:=3) scMixed.nd rfl (YaW rfl) (Zap Za3 (Zap Zba (Zap Zba (Zap ZcU (Zap Za3 (pv 0) Zaf) Zaf) (Zap ZcU Zaf (pv 1))) Zaf) (pv 2)))
   (Zaq (Zar (i:=3) scMixed.nd rfl (YaW rfl) (Zap Za3 (Zap ZcT (pv 3) Zaf) Zaf))
   (Zav (ZaF (Zap Zkv (Zap Za3 (Zap ZcU (Zap Zba (pv 3) (Zap ZcU Zaf (pv 1))) Zaf) Zaf) Zaf))))),?_⟩
  refine⟨(by show 7<=sizeLine;decide),fun q hq=>⟨_,rfl,_,_,rfl,rfl,(by show (0:Int)<7;decide),?_⟩⟩;obtain⟨v,ev,v0,v1⟩:=ix7 (Ybh (kk:Int) (show (7:Int)≠0 by decide)) (Ybi (kk:Int) (show (0:Int)<7 by decide));refine⟨q,_,_,_,rfl,rfl,SqL.of Zab,ev,?_⟩;refine⟨_,rfl,_,_,rfl,rfl,(by show (0:Int)<1000000000000000009;decide),_,_,rfl,rfl,.inr ⟨by decide,by decide⟩,_,rfl,_,_,rfl,rfl,.inl ⟨by decide,by decide⟩,_,_,rfl,rfl,_,_,rfl,rfl,_,rfl,_,v,rfl,rfl,v0,?_⟩;have m0:=Ybh (c % 1000000000000000009*40692+6361*(kk:Int)+77) (show v≠0 by omega);have m1:=Ybi (c % 1000000000000000009*40692+6361*(kk:Int)+77) v0;refine⟨_,rfl,_,5,rfl,rfl,⟨by decide,by decide,?_⟩,_,_,rfl,rfl,(by show (0:Int)<2305843009213693951;decide),?_⟩
  ·generalize (c % 1000000000000000009*40692+6361*(kk:Int)+77) % v=y at m0 m1;omega
  refine⟨_,rfl,_,rfl,_,_,rfl,rfl,.inl ⟨by decide,by decide⟩,_,_,rfl,rfl,_,_,rfl,rfl,.inr ⟨by decide,by decide⟩,_,_,rfl,rfl,(by show (0:Int)<2305843009213693921;decide),_,_,rfl,rfl,⟨by decide,by decide⟩,?_⟩;refine k _ _ ?_ (Same.new hq);exact Int.ediv_nonneg (Ybh _ (by decide)) (by decide)
end
end Fk39
namespace Fk39
open PySem L2 Lv
section
variable {P:Program}{w:World}{K:Yad}{mg:Str->Option Value}{base:Heap}
theorem Zgy:FnScope ["numbers"] ["numbers"] (Zac Zbi):=⟨rfl,rfl,rfl,by decide +kernel,rfl,by decide +kernel,by decide +kernel⟩
theorem Zfr {f:Addr}{fd:FuncData} (F:Fun K "places_in" "places_in" Zbi f fd) (T:Txt mg):FnOk P w K mg base CX0 1 f fd ["numbers"] ZbC:=by
 refine F.ok Zgy (fun vs H Q E h=>?_) (fun cdv A outer s H vs Q E hr h=>?_)
 ·obtain⟨a,rs,N,rfl,_⟩:=h;rfl
 ·obtain⟨a,rs,N,rfl,hA,hT,hN,k⟩:=h;refine⟨_,Zav (ZaF (Zaj (ZbA rfl) rfl T.sum ZiC (Zaa (ZaR (own:=["on_reel"]) (js:=[]) (CompOk.bare (by decide +kernel)) rfl (Zho (pv 0)) ZaC
    (fun _ _ _ _ _=>Zam (i:=0) (by show (["on_reel"]:List Str).Nodup;decide +kernel) rfl (YaW rfl) (.inr rfl)) (fun _ _ _ _ _=>ZaH) (fun _ _ _ _ _=>Zaj (Ze4 K) rfl T.len Ybb (Zaa (pv 0) Zad))) Zad))),?_⟩
  refine⟨_,rfl,a,rfl,⟨_,SqT.of hA⟩,?_⟩;refine Zeg (xs:=rs.map V.ref) (fun acc j H2=>Same H H2/\H2 acc=some (.lst ((ZcA (N.take j)).map V.int))) (fun acc h0=>⟨Same.new h0,Zab⟩) (fun acc j H2 h0 _ p=>SqT.of (p.1 _ _ hA)) ?_ ?_
  ·rintro acc j x H2 h0 hx ⟨s2,hacc⟩;obtain⟨q,hq,rfl⟩:=Zbx hx;have hj:=(Yae.mp hq).1
   obtain⟨xs,hxs⟩:∃ xs,N[j]?=some xs:=⟨_,Yaa (by rw[<- hT.1];exact hj)⟩
   refine⟨_,rfl,q,_,rfl,.inr (SqT.of (s2 _ _ (hT.2 j q xs hq hxs))),_,hacc,?_,by rw[Yab];exact hj,s2.put h0,?_⟩
   ·unfold ZcA;rw[Yab,Yab,YaA];exact ZaO (by omega)
   ·rw[Zab,Ybf,hxs,Ybv];unfold ZcA;rw[YaC,YaC,YaK,Ycw,Yab];rfl
  rintro acc H2 h0 ⟨s2,hacc⟩;have e:(rs.map V.ref).length=N.length:=by rw[Yab,hT.1]
  rw[e,YaT] at hacc;refine⟨acc,_,rfl,SqL.of hacc,?_⟩;have e2:(ZcA N).sum=(N.flatten.length:Int):=by
   unfold ZcA;clear hacc hT hN k e
   induction N with
   | nil=>rfl
   | cons xs N ih=>rw[YaK,Ybn,ih,Ya5,Yak];omega
  rw[e2];exact k H2 s2
theorem scLeastP:FnScope ["numbers","many","places"] ["numbers","many"] (Zac Zck):=⟨rfl,rfl,rfl,by decide +kernel,rfl,by decide +kernel,by decide +kernel⟩
theorem Zik (xs:List V) (c:Nat):cutV xs none (some (c:Int))=xs.take c:=by
 unfold cutV;show (xs.drop 0).take (HT.sIx xs.length xs.length (some (c:Int)) - 0)=_;rw[HT.sIx_nat,Nat.sub_zero,List.drop_zero];by_cases h:c<=xs.length
 ·rw[YcI h]
 ·rw[Nat.min_eq_right (by omega),YaT,Ybo (by omega)]
theorem Zjv {N:List (List Int)}{i j:Nat}{xs:List Int} (h:N[i]?=some xs) (hj:j<=xs.length):(N.take i).flatten.length+j<=N.flatten.length:=by
 have a:=Yae.mp h;have e1:N=N.take i++xs::N.drop (i+1):=by
  have:N.drop i=xs::N.drop (i+1):=by rw[Yeb a.1,a.2]
  rw[<- this,YaJ]
 conv=>rhs;rw[e1]
 rw[Yck,Yak,Ya5,Yak];omega
theorem ZhB {f:Addr}{fd:FuncData} (F:Fun K "least_places" "least_places" Zck f fd) (T:Txt mg) (Te:mg "enumerate"=none):FnOk P w K mg base CX0 1 f fd ["numbers","many"] ZdP:=by
 refine F.ok scLeastP (fun vs H Q E h=>?_) (fun cdv A outer s H vs Q E hr h=>?_)
 ·obtain⟨a,rs,N,m,rfl,_⟩:=h;rfl
 ·obtain⟨a,rs,N,m,rfl,hA,hT,hN,hF,k⟩:=h;refine⟨_,Zaq (Zi2 (i:=2) scLeastP.nd rfl rfl (own:=["reel","on_reel","place","number"]) (js:=[]) (fr:=[2,3]) (CompOk.bare (by decide +kernel)) rfl (ZcC rfl Te (Zaa (pv 0) Zad)) (ZgQ (i:=0) (k:=1) (K:=K)) (ZgP (i:=2) (k:=3) (K:=K))
    (fun _ _ _ _ _=>ZbT K rfl (Zan (Zam (i:=0) (by show (["reel","on_reel","place","number"]:List Str).Nodup;decide +kernel) rfl (YaW rfl) (.inr rfl)) (Zan (Zam (i:=1) (by show (["reel","on_reel","place","number"]:List Str).Nodup;decide +kernel) rfl (YaW rfl) (.inr rfl)) ZaX))) (fun _ _ _ _ _=>ZaH) (fun _ _ _ _ _=>Zhq K rfl Te (Zaa (pv 1) Zad))
    (fun _ _ _ _ _=>ZbT K rfl (Zan (Zam (i:=2) (by show (["reel","on_reel","place","number"]:List Str).Nodup;decide +kernel) rfl (YaW rfl) (.inr rfl)) (Zan (Zam (i:=3) (by show (["reel","on_reel","place","number"]:List Str).Nodup;decide +kernel) rfl (YaW rfl) (.inr rfl)) ZaX))) (fun _ _ _ _ _=>ZaH) (fun _ _ _ _ _=>ZbN (Zaa (pv 3) (Zaa (pv 0) (Zaa (pv 2) Zad)))))
   (Zav (ZaF (Zd3 Zhb (Zaj Zc7 rfl T.sorted ZcE (Zaa (pv 2) Zad)) Zfm (Zd1 (pv 1))))),?_⟩
  have hz:100000<sizeLine:=by decide
  refine⟨_,rfl,a,false,rfl,⟨_,SqT.of hA⟩,?_⟩;refine ZfA (b:=false) (xs:=rs.map V.ref) (fun acc i H2=>Same H H2/\∃ ps,H2 acc=some (.lst (ps.map V.ref))/\(∀ p∈ps,p≠acc)/\TuM H2 ps (trip 0 (N.take i))) (fun acc h0=>⟨Same.new h0,[],Zab,(fun p hp=>nomatch hp),TuM.nil⟩) (fun acc i H2 h0 _ p=>SqT.of (p.1 _ _ hA)) ?_ ?_
  ·rintro acc i x q H2 h0 hx ⟨s2,ps,hacc,hne,hpr⟩ hq;obtain⟨r,hr',rfl⟩:=Zbx hx;have hi:=(Yae.mp hr').1
   obtain⟨xs,e2⟩:∃ xs,N[i]?=some xs:=⟨_,Yaa (by rw[<- hT.1];exact hi)⟩
   have hrow:=hT.2 i r xs hr' e2;have s3:Same H2 (upd H2 q (.tup [.int i,.ref r])):=Same.new hq;have hq3:upd H2 q (.tup [.int i,.ref r]) q=some (.tup [.int i,.ref r]):=Zab;generalize upd H2 q (.tup [.int i,.ref r])=H3 at s3 hq3 ⊢;have s03:=s2.trans s3;refine⟨q,_,rfl,SqT.of hq3,rfl,_,_,rfl,_,_,rfl,rfl,?_⟩;refine⟨_,rfl,r,false,rfl,⟨_,SqT.of (s03 _ _ hrow)⟩,?_⟩;refine Zjo (b:=false) (xs:=xs.map V.int) (fun j H4=>Same H H4/\∃ ps,H4 acc=some (.lst (ps.map V.ref))/\(∀ p∈ps,p≠acc)/\TuM H4 ps (trip 0 (N.take i)++ZbR i (xs.take j))) ⟨s03,ps,s3 _ _ hacc,hne,by simpa[ZbR] using hpr.same s3⟩ (fun j H4 _ p=>SqT.of (p.1 _ _ hrow)) ?_ ?_
   ·rintro j y u H4 hy ⟨s4,ps,hac4,hne4,hpr4⟩ nu;obtain⟨z,hz',rfl⟩:=Zbp hy;have hj:=(Yae.mp hz').1
    have hle:=Zjv e2 (Ybs hj);have hpl:ps.length=(N.take i).flatten.length+j:=by
     rw[hpr4.len,Yak,Zbo,Zev,YaA];omega
    have su:Same H4 (upd H4 u (.tup [.int j,.int z])):=Same.new nu;have hu3:upd H4 u (.tup [.int j,.int z]) u=some (.tup [.int j,.int z]):=Zab;generalize upd H4 u (.tup [.int j,.int z])=H4' at su hu3 ⊢
    replace hac4:=su _ _ hac4
    replace hpr4:=hpr4.same su
    replace s4:=s4.trans su
    refine⟨u,_,rfl,SqT.of hu3,rfl,_,_,rfl,_,_,rfl,rfl,?_⟩;refine⟨_,rfl,_,rfl,_,rfl,(by show 3<=sizeLine;decide),fun t ht=>?_⟩;have hta:t≠acc:=Ybj (Zae hac4 ht);have s45:Same H4' (upd H4' t (.tup [.int z,.int i,.int j])):=Same.new ht;have ht5:upd H4' t (.tup [.int z,.int i,.int j]) t=some (.tup (([z,(i:Int),(j:Int)]:List Int).map V.int)):=Zab;generalize upd H4' t (.tup [.int z,.int i,.int j])=H5 at s45 ht5 ⊢;refine⟨_,s45 _ _ hac4,by rw[Yab];omega,by rw[Yab];exact hj,(s4.trans s45).put h0,ps++[t],by rw[Zab,YaC];rfl,fun p hp=>?_,?_⟩
    ·rcases Yan.mp hp with hp | hp
     ·exact hne4 p hp
     ·rw[YaE.mp hp];exact hta
    ·have:=(hpr4.same s45).snoc ht5 (by simp);rw[YaI,<- Zgo hz'] at this;refine this.keep fun p hp=>Zag ?_;rcases Yan.mp hp with hp | hp
     ·exact hne4 p hp
     ·rw[YaE.mp hp];exact hta
   ·rintro H4 ⟨s4,ps,hac4,hne4,hpr4⟩;rw[Yab,YaT,<- Zg4 e2] at hpr4;exact⟨by rw[Yab];exact hi,s4,ps,hac4,hne4,hpr4⟩
  rintro acc H2 h0 ⟨s2,ps,hacc,hne,hpr⟩;have e:(rs.map V.ref).length=N.length:=by rw[Yab,hT.1]
  rw[e,YaT] at hpr;have hks:∀ p∈ps,kf H2 p≠[]/\H2 p=some (.tup ((kf H2 p).map V.int)):=by
   intro p hp;obtain⟨k',hk,e⟩:=hpr.1 p hp;rw[Zfu e];exact⟨hk,e⟩
  refine⟨_,rfl,acc,ps,kf H2,rfl,SqL.of hacc,hks,fun l qs nl pm up=>?_⟩;have s23:Same H2 (upd H2 l (.lst (qs.map V.ref))):=Same.new nl;have hl3:upd H2 l (.lst (qs.map V.ref)) l=some (.lst (qs.map V.ref)):=Zab;generalize upd H2 l (.lst (qs.map V.ref))=H3 at s23 hl3 ⊢;have s03:=s2.trans s23;refine⟨_,rfl,(m:Int),rfl,l,_,rfl,SqL.of hl3,fun l2 nl2=>?_⟩;rw[Zik,<- Ydq];have s34:Same H3 (upd H3 l2 (.lst ((qs.take m).map V.ref))):=Same.new nl2;have hq2:TuM H2 qs (qs.map (kf H2)):=⟨fun p hp=>hpr.1 p (pm.mem_iff.mp hp),rfl⟩
  refine k l2 qs (qs.map (kf H2)) _ (s03.free nl2) Zab (hq2.same (s23.trans s34)) ?_ (Ya9.mpr up) (s03.trans s34);rw[<- hpr.2];exact pm.map _
end
end Fk39
namespace Fk39
open PySem L2 Lv
section
variable {P:Program}{w:World}{K:Yad}{mg:Str->Option Value}{base:Heap}
theorem ZiS:FnScope ["numbers","lengths","placing"] ["numbers","lengths","placing"] (Zac ZbS):=⟨rfl,rfl,rfl,by decide +kernel,rfl,by decide +kernel,by decide +kernel⟩
theorem SqB.sameP {b:Bool}{H H':Hp}{a:Addr}{xs:List V} (e:Same H H') (h:SqB b K H a xs):SqB b K H' a xs:=by
 cases b
 ·exact e.tup h
 ·exact e.seq h
theorem Zhz {f:Addr}{fd:FuncData} (F:Fun K "reading_by" "reading_by" ZbS f fd) (T:Txt mg):FnOk P w K mg base CX0 1 f fd ["numbers","lengths","placing"] (ZdN K):=by
 refine F.ok ZiS (fun vs H Q E h=>?_) (fun cdv A outer s H vs Q E hr h=>?_)
 ·obtain⟨a,ll,pl,b,rs,qs,N,ls,ks,rfl,_⟩:=h;rfl
 ·obtain⟨a,ll,pl,b,rs,qs,N,ls,ks,rfl,hA,hT,hL,hP,hM,hin,hlen,hl9,hb1,hb2,k⟩:=h;refine⟨_,Zav (ZaF (Zaj (ZbA rfl) rfl T.sum ZiC (Zaa (ZaR (own:=["length","reel","place"]) (js:=[0]) (CompOk.by (sc:=Zac ZbS) (N:=["numbers","lengths","placing"]) rfl rfl (by decide +kernel)) rfl (Zfn rfl T.zip (Zaa (pv 1) (Zaa (pv 2) Zad))) (Zdz (i:=0) (k:=1) (m:=2) (K:=K))
    (fun _ _ _ _ _=>ZbT K rfl (Zan (Zam (i:=0) (by show (["length","reel","place","numbers"]:List Str).Nodup;decide +kernel) rfl (YaW rfl) (.inr rfl)) (Zan (ZbT K rfl (Zan (Zam (i:=1) (by show (["length","reel","place","numbers"]:List Str).Nodup;decide +kernel) rfl (YaW rfl) (.inr rfl)) (Zan (Zam (i:=2) (by show (["length","reel","place","numbers"]:List Str).Nodup;decide +kernel) rfl (YaW rfl) (.inr rfl)) ZaX))) ZaX))) (fun _ _ _ _ _=>ZaH)
    (fun _ _ _ _ _=>Zap Zhx (pv 0) (ZaI (Zf8 K) (ZaI (Zf8 K) (pv 3) (pv 1) (fun _ _=>rfl)) (pv 2) (fun _ _=>rfl)))) Zad))),?_⟩
  have hz:100000<sizeLine:=by decide
  refine⟨_,rfl,_,rfl,b,true,ll,pl,rfl,⟨_,hL⟩,⟨_,SqL.of hP⟩,?_⟩;refine Zjz (b1:=b) (b2:=true) (xs:=ls.map V.int) (ys:=qs.map V.ref) (by rw[Yab,Yab,hM.len];omega) (fun acc i H2=>Same H H2/\H2 acc=some (.lst ((ZaW N (ls.take i) (ks.take i)).map V.int))) (fun acc h0=>⟨Same.new h0,Zab⟩) (fun acc i H2 h0 _ p=>⟨SqB.sameP p.1 hL,SqL.of (p.1 _ _ hP)⟩) ?_ ?_
  ·rintro acc i x y u H2 h0 hx hy ⟨s2,hacc⟩ nu;obtain⟨l,hl,rfl⟩:=Zbp hx;obtain⟨q,hq,rfl⟩:=Zbx hy;have hil:=(Yae.mp hl).1
   obtain⟨kk,hk,hqk⟩:=hM.at hq;obtain⟨r,p,xs,rfl,hr',hp⟩:=hin kk (Yaw hk);have su:Same H2 (upd H2 u (.tup [.int l,.ref q])):=Same.new nu;have hu3:upd H2 u (.tup [.int l,.ref q]) u=some (.tup [.int l,.ref q]):=Zab;generalize upd H2 u (.tup [.int l,.ref q])=H3 at su hu3 ⊢;have s3:=s2.trans su;have hq3:H3 q=some (.tup [.int (r:Int),.int (p:Int)]):=s3 _ _ hqk;have hrl:=(Yae.mp hr').1
   obtain⟨ra,hra⟩:∃ ra,rs[r]?=some ra:=⟨_,Yaa (by rw[hT.1];exact hrl)⟩
   have hrow:=s3 _ _ (hT.2 r ra xs hra hr');have hnum:numV N [(r:Int),(p:Int)]=xs[p]:=by
    unfold numV;simp[Yax,hr',hp]
   refine⟨u,_,rfl,SqT.of hu3,rfl,_,_,rfl,_,_,rfl,q,_,rfl,SqT.of hq3,rfl,_,_,rfl,_,_,rfl,rfl,rfl,?_⟩;refine⟨_,rfl,_,rfl,_,rfl,a,_,(r:Int),.ref ra,rfl,rfl,SqT.of (s3 _ _ hA),Za2 (by rw[Yal,hra];rfl),_,rfl,ra,_,(p:Int),.int xs[p],rfl,rfl,SqT.of hrow,Za2 (by rw[Yal,Yaa hp];rfl),?_⟩;refine⟨l,xs[p],rfl,rfl,⟨8000,8000,hb1 l (Yaw hl),hb2 xs (Yaw hr') _ (Ybg hp),by decide⟩,?_⟩;refine⟨_,su _ _ hacc,?_,by rw[Yab];exact hil,s3.put h0,?_⟩
   ·rw[Yab];unfold ZaW;rw[Ydh,YaA,YaA];omega
   ·rw[Zab,ZgC hl hk,YaC,hnum];rfl
  rintro acc H2 h0 ⟨s2,hacc⟩;rw[Yab,YaT,hlen,YaT] at hacc;exact⟨acc,_,rfl,SqL.of hacc,k H2 s2⟩
end
end Fk39
namespace Fk39
open PySem L2 Lv
section
variable {P:Program}{w:World}{K:Yad}{mg:Str->Option Value}{base:Heap}
theorem scLeastBy:FnScope ["numbers","lengths","longest_first","placing","length","row","number","reel","place"] ["numbers","lengths"] (Zac ZbD):=⟨rfl,rfl,rfl,by decide +kernel,rfl,by decide +kernel,by decide +kernel⟩
theorem SqB.sameL {b:Bool}{H H':Hp}{a:Addr}{xs:List V} (e:Same H H') (h:SqB b K H a xs):SqB b K H' a xs:=by
 cases b
 ·exact e.tup h
 ·exact e.seq h
theorem SqB.orL {b:Bool}{H:Hp}{a:Addr}{xs:List V} (h:SqB b K H a xs):SqL K H a xs∨SqT K H a xs:=by
 cases b
 ·exact .inr h
 ·exact .inl h
theorem Zkl (n:Nat):(Yau n [V.non]).flatten=Yau n V.non:=by
 induction n with
 | zero=>rfl
 | succ n ih=>rw[YbK,Ya5,ih,YbK];rfl
theorem ZgH {f f1 f2:Addr}{fd d1 d2:FuncData} (F:Fun K "least_by" "least_by" ZbD f fd) (T:Txt mg) (Te:mg "enumerate"=none) (CL:Cal P w K mg base 1 "least_places" ["numbers","many"] ZdP f1 d1) (CR:Cal P w K mg base 1 "reading_by" ["numbers","lengths","placing"] (ZdN K) f2 d2):FnOk P w K mg base CX0 2 f fd ["numbers","lengths"] (ZcI K):=by
 refine F.ok scLeastBy (fun vs H Q E h=>?_) (fun cdv A outer s H vs Q E hr h=>?_)
 ·obtain⟨a,ll,b,rs,N,ls,rfl,_⟩:=h;rfl
 ·obtain⟨a,ll,b,rs,N,ls,rfl,hA,hT,hN,hF,hL,hle,hb1,hb2,k⟩:=h;refine⟨_,Zaq (Zar (i:=2) scLeastBy.nd rfl (YaW rfl) (Zaj Zc7 rfl T.sorted ZcE (Zaa (ZaR (own:=["row","length"]) (js:=[]) (CompOk.bare (by decide +kernel)) rfl (ZcC rfl Te (Zaa (pv 1) Zad)) (Zh6 (i:=0) (k:=1) (K:=K))
    (fun _ _ _ _ _=>ZbT K rfl (Zan (Zam (i:=0) (by show (["row","length"]:List Str).Nodup;decide +kernel) rfl (YaW rfl) (.inr rfl)) (Zan (Zam (i:=1) (by show (["row","length"]:List Str).Nodup;decide +kernel) rfl (YaW rfl) (.inr rfl)) ZaX))) (fun _ _ _ _ _=>ZaH) (fun _ _ _ _ _=>ZbN (Zaa (Zkp ZgZ (pv 1)) (Zaa (pv 0) Zad)))) Zad)))
   (Zaq (Zar (i:=3) scLeastBy.nd rfl (YaW rfl) (Zap ZjU (ZaQ (Zaa ZeH Zad)) (Zaj Zao rfl T.len Ybb (Zaa (pv 1) Zad))))
   (Zaq (ZcP YbI rfl (Zfn rfl T.zip (Zaa (pv 2) (Zaa (ZaB CL hr rfl (Zaa (pv 0) (Zaa (Zaj Zao rfl T.len Ybb (Zaa (pv 1) Zad)) Zad))) Zad)))
     (ZcS rfl (Zan (ZcS rfl (Zan (Zam (i:=4) scLeastBy.nd rfl (YaW rfl)) (Zan (Zam (i:=5) scLeastBy.nd rfl (YaW rfl)) ZaX))) (Zan (ZcS rfl (Zan (Zam (i:=6) scLeastBy.nd rfl (YaW rfl)) (Zan (Zam (i:=7) scLeastBy.nd rfl (YaW rfl)) (Zan (Zam (i:=8) scLeastBy.nd rfl (YaW rfl)) ZaX)))) ZaX)))
    (Zav (Zhl (ZbN (Zaa (pv 7) (Zaa (pv 8) Zad))) (Zli (pv 3) (pv 5) ZiR))))
   (Zav (ZaF (ZbN (Zaa (ZaB CR hr rfl (Zaa (pv 0) (Zaa (pv 1) (Zaa (pv 3) Zad)))) (Zaa (pv 3) Zad))))))),?_⟩
  have hz:100000<sizeLine:=by decide
  have hls:ls.length<=100000:=by omega
  refine⟨_,rfl,ll,b,rfl,⟨_,hL⟩,?_⟩;refine ZgT (xs:=ls.map V.int) (fun acc i H2=>Same H H2/\∃ ps,H2 acc=some (.lst (ps.map V.ref))/\(∀ p∈ps,p≠acc)/\TuM H2 ps (prL (ls.take i))) (fun acc h0=>⟨Same.new h0,[],Zab,(fun p hp=>nomatch hp),TuM.nil⟩) (fun acc i H2 h0 _ p=>SqB.sameL p.1 hL) ?_ ?_
  ·rintro acc i x q H2 h0 hx ⟨s2,ps,hacc,hne,hpr⟩ hq;obtain⟨l,hl,rfl⟩:=Zbp hx;have hi:=(Yae.mp hl).1
   have s3:Same H2 (upd H2 q (.tup [.int i,.int l])):=Same.new hq;have hq3:upd H2 q (.tup [.int i,.int l]) q=some (.tup [.int i,.int l]):=Zab;generalize upd H2 q (.tup [.int i,.int l])=H3 at s3 hq3 ⊢;have hpl:ps.length=i:=by rw[hpr.len,Zbv,YaA];omega
   refine⟨q,_,rfl,SqT.of hq3,rfl,_,_,rfl,_,_,rfl,rfl,?_⟩;refine⟨_,rfl,l,rfl,_,rfl,(by show 2<=sizeLine;decide),fun t ht=>?_⟩;have hacc3:=s3 _ _ hacc;have hta:t≠acc:=Ybj (Zae hacc3 ht);have s45:Same H3 (upd H3 t (.tup [.int (-l),.int i])):=Same.new ht;have ht5:upd H3 t (.tup [.int (-l),.int i]) t=some (.tup (([-l,(i:Int)]:List Int).map V.int)):=Zab;generalize upd H3 t (.tup [.int (-l),.int i])=H5 at s45 ht5 ⊢;refine⟨_,s45 _ _ hacc3,by rw[Yab];omega,by rw[Yab];exact hi,(s2.trans (s3.trans s45)).put h0,ps++[t],by rw[Zab,YaC];rfl,fun p hp=>?_,?_⟩
   ·rcases Yan.mp hp with hp | hp
    ·exact hne p hp
    ·rw[YaE.mp hp];exact hta
   ·have:=(hpr.same (s3.trans s45)).snoc ht5 (by simp);rw[<- Zi3 hl] at this;refine this.keep fun p hp=>Zag ?_;rcases Yan.mp hp with hp | hp
    ·exact hne p hp
    ·rw[YaE.mp hp];exact hta
  rintro acc H2 h0 ⟨s2,ps,hacc,hne,hpr⟩;rw[Yab,YaT] at hpr;have hks:∀ p∈ps,kf H2 p≠[]/\H2 p=some (.tup ((kf H2 p).map V.int)):=by
   intro p hp;obtain⟨k',hk,e⟩:=hpr.1 p hp;rw[Zfu e];exact⟨hk,e⟩
  refine⟨acc,ps,kf H2,rfl,SqL.of hacc,hks,fun fl fs nfl pm up=>?_⟩;have s23:Same H2 (upd H2 fl (.lst (fs.map V.ref))):=Same.new nfl;have hfl:upd H2 fl (.lst (fs.map V.ref)) fl=some (.lst (fs.map V.ref)):=Zab;have hlf2:TuM H2 fs (fs.map (kf H2)):=⟨fun p hp=>hpr.1 p (pm.mem_iff.mp hp),rfl⟩
  have lfp:(fs.map (kf H2)).Perm (prL ls):=by rw[<- hpr.2];exact pm.map _
  have lfs:(fs.map (kf H2)).Pairwise (fun p q=>lxB q p=false):=Ya9.mpr up;have hlf:=hlf2.same s23;generalize fs.map (kf H2)=lf at hlf lfp lfs;generalize upd H2 fl (.lst (fs.map V.ref))=H3 at s23 hfl hlf ⊢;have s03:=s2.trans s23;refine⟨(by show 1<=sizeLine;decide),fun n1 nn1=>?_⟩;have x1:upd H3 n1 (.lst [.non]) n1=some (.lst [.non]):=Zab;have u1:Same H3 (upd H3 n1 (.lst [.non])):=Same.new nn1;generalize upd H3 n1 (.lst [.non])=H4 at x1 u1 ⊢;have s04:=s03.trans u1;refine⟨_,rfl,ll,_,rfl,SqB.orL (SqB.sameL s04 hL),n1,_,_,rfl,rfl,x1,by omega,by rw[Yab];omega,by rw[Yab];show 1*_<=_;omega,fun pl npl=>?_⟩;rw[Zkl,Yab,Yba];have x2:upd H4 pl (.lst (Yau ls.length V.non)) pl=some (.lst (Yau ls.length V.non)):=Zab;have u2:Same H4 (upd H4 pl (.lst (Yau ls.length V.non))):=Same.new npl;generalize upd H4 pl (.lst (Yau ls.length V.non))=H5 at x2 u2 ⊢;have plH:H pl=none:=s04.free npl;have s05:=s04.trans u2;have s35:=u1.trans u2;refine⟨_,rfl,_,rfl,_,rfl,ll,_,rfl,SqB.orL (SqB.sameL s05 hL),?_⟩;rw[Yab];refine⟨a,rs,N,ls.length,rfl,s05 _ _ hA,hT.same s05,hN,hF,fun gl gs lp H6 ngl hgl hlp lpp lps s6=>?_⟩;have s06:=s05.trans s6;have s36:=s35.trans s6;have hpl6:=s6 _ _ x2;have gll:gs.length=N.flatten.length:=by rw[hlp.len,lpp.length_eq,Zbo]
  have fsl:fs.length=ls.length:=by rw[hlf.len,lfp.length_eq,Zbv]
  have hnd:=ZgA lfp;have hflpl:fl≠pl:=Zae (u1 _ _ hfl) npl;have hglpl:gl≠pl:=Ybj (Zae x2 ngl);refine⟨true,true,fl,gl,rfl,⟨_,SqL.of (s36 _ _ hfl)⟩,⟨_,SqL.of hgl⟩,?_⟩;refine ZkO (b1:=true) (b2:=true) (xs:=fs.map V.ref) (ys:=(gs.take ls.length).map V.ref) (by rw[Yab,Yab,YaA];omega)
   (fun t σ H7=>∃ (o4 o5 o6 o7 o8:Option V) (vs:List V),σ=[some (.ref a),some (.ref ll),some (.ref fl),some (.ref pl),o4,o5,o6,o7,o8]/\H7 pl=some (.lst vs)/\vs.length=ls.length/\(∀ b o,H6 b=some o->b≠pl->H7 b=some o) /\
    (∀ (s:Nat) f p,s<t->lf[s]?=some f->lp[s]?=some p->∃ q,vs[(f.getD 1 0).toNat]?=some (.ref q)/\H7 q=some (.tup [.int (p.getD 1 0),.int (p.getD 2 0)])/\q≠pl))
   ⟨_,_,_,_,_,_,rfl,hpl6,by rw[YbS],fun _ _ e _=>e,fun s f p h=>absurd h (Ybp _)⟩ ?_ ?_ ?_
  ·rintro i σ H7 _ ⟨_,_,_,_,_,_,_,_,_,fr,_⟩;exact⟨SqL.of (fr _ _ (s36 _ _ hfl) hflpl),SqL.of (fr _ _ hgl hglpl)⟩
  ·rintro t x y u σ H7 hx hy ⟨o4,o5,o6,o7,o8,vs,rfl,hv,hvl,fr,hdone⟩ nu;obtain⟨xa,hxa,rfl⟩:=Zbx hx;obtain⟨ya,hya,rfl⟩:=Zbx hy;have htl:=(Yae.mp hxa).1
   rw[List.getElem?_take,if_pos (by omega)] at hya;obtain⟨f,hf,hxf⟩:=hlf.at hxa;obtain⟨p,hp,hyp⟩:=hlp.at hya;have hxpl:xa≠pl:=Zae (u1 _ _ hxf) npl;have hypl:ya≠pl:=fun z=>by rw[z,hpl6] at hyp;cases hyp
   obtain⟨j,l,ef,hj⟩:=Zd0 (lfp.mem_iff.mp (Yaw hf));obtain⟨r,jj,z,xs,ep,hr',hz'⟩:=ZbB (lpp.mem_iff.mp (Yaw hp));have hjl:=(Yae.mp hj).1
   have hx7:=fr _ _ (s36 _ _ hxf) hxpl;have hy7:=fr _ _ hyp hypl;have su:Same H7 (upd H7 u (.tup [.ref xa,.ref ya])):=Same.new nu;have hu3:upd H7 u (.tup [.ref xa,.ref ya]) u=some (.tup [.ref xa,.ref ya]):=Zab;generalize upd H7 u (.tup [.ref xa,.ref ya])=H8 at su hu3 ⊢;have hx8:H8 xa=some (.tup [.int (-l),.int (j:Int)]):=by have:=su _ _ hx7;rw[ef] at this;exact this
   have hy8:H8 ya=some (.tup [.int z,.int ((0+r:Nat):Int),.int (jj:Int)]):=by have:=su _ _ hy7;rw[ep] at this;exact this
   refine⟨u,_,rfl,SqT.of hu3,rfl,_,_,rfl,xa,_,rfl,SqT.of hx8,rfl,_,_,rfl,_,_,rfl,rfl,_,_,rfl,ya,_,rfl,SqT.of hy8,rfl,_,_,rfl,_,_,rfl,_,_,rfl,rfl,rfl,?_⟩;refine⟨_,rfl,_,rfl,(by show 2<=sizeLine;decide),fun q nq=>?_⟩;have hv8:=su _ _ hv;have hqpl:q≠pl:=Ybj (Zae hv8 nq);have sq:Same H8 (upd H8 q (.tup [.int ((0+r:Nat):Int),.int (jj:Int)])):=Same.new nq;have hq9:upd H8 q (.tup [.int ((0+r:Nat):Int),.int (jj:Int)]) q=some (.tup [.int ((0+r:Nat):Int),.int (jj:Int)]):=Zab;generalize upd H8 q (.tup [.int ((0+r:Nat):Int),.int (jj:Int)])=H9 at sq hq9 ⊢;refine⟨_,rfl,_,rfl,pl,vs,(j:Int),j,rfl,rfl,sq _ _ hv8,?_,?_⟩
   ·have:=Zj1 (n:=vs.length) (x:=(j:Int)) (by omega) (by omega)
    rwa [Yba] at this
   refine⟨_,_,_,_,_,vs.set j (.ref q),rfl,Zab,by rw[List.length_set];exact hvl,fun b o e hb=>?_,fun s f' p' hs hf' hp'=>?_⟩
   ·rw[Zag hb];exact sq _ _ (su _ _ (fr b o e hb))
   ·by_cases est:s=t
    ·subst est;rw[hf] at hf';rw[hp] at hp';cases hf';cases hp';refine⟨q,?_,?_,hqpl⟩
     ·rw[ef];show (vs.set j (.ref q))[(j:Int).toNat]?=_;rw[Yba];exact Yc1 (by omega)
     ·rw[Zag hqpl,ep];exact hq9
    ·obtain⟨q',g1,g2,g3⟩:=hdone s f' p' (by omega) hf' hp';obtain⟨j',l',ef',hj'⟩:=Zd0 (lfp.mem_iff.mp (Yaw hf'));have hjj:j≠j':=fun zz=>by
      have a1:(lf.map fun f=>f.getD 1 0)[s]?=some (j':Int):=by rw[Yal,hf',ef'];rfl
      have a2:(lf.map fun f=>f.getD 1 0)[t]?=some (j:Int):=by rw[Yal,hf,ef];rfl
      rw[<- zz] at a1;have b1:=Yae.mp a1;have b2:=Yae.mp a2;exact est ((Yfc hnd).mp (b1.2.trans b2.2.symm))
     refine⟨q',?_,?_,g3⟩
     ·rw[ef'] at g1 ⊢;have g1:vs[(j':Int).toNat]?=some (.ref q'):=g1;show (vs.set j (.ref q))[(j':Int).toNat]?=_;rw[Yba] at g1 ⊢;rw[YaN hjj];exact g1
     ·rw[Zag g3];exact sq _ _ (su _ _ g2)
  ·rintro σ H7 ⟨o4,o5,o6,o7,o8,vs,rfl,hv,hvl,fr,hdone⟩;rw[Yab] at hdone;have s07:Same H H7:=fun b o e=>fr b o (s06 _ _ e) (Zae e plH);have lfl:lf.length=ls.length:=by rw[lfp.length_eq,Zbv]
   have lpl:lp.length=N.flatten.length:=by rw[lpp.length_eq,Zbo]
   obtain⟨qs,ks,hvq,hM,hin⟩:=ZiF (H:=H7) (N:=N) (vs:=vs) fun j hj=>by
    obtain⟨l,hl⟩:∃ l,ls[j]?=some l:=⟨_,Yaa (by omega)⟩
    obtain⟨s,hs⟩:=YbR.mp (lfp.mem_iff.mpr (Yaw (Zhm hl)));have hsl:=(Yae.mp hs).1
    obtain⟨p,hp⟩:∃ p,lp[s]?=some p:=⟨_,Yaa (by omega)⟩
    obtain⟨q,g1,g2,g3⟩:=hdone s _ p (by omega) hs hp;obtain⟨r,jj,z,xs,ep,hr',hz'⟩:=ZbB (lpp.mem_iff.mp (Yaw hp));refine⟨q,[p.getD 1 0,p.getD 2 0],?_,g2,r,jj,xs,by rw[ep,YbD];rfl,hr',(Yae.mp hz').1⟩;have g1:vs[(j:Int).toNat]?=some (.ref q):=g1
    rwa [Yba] at g1
   have ksl:ks.length=ls.length:=by rw[<- hM.len,<- hvl,hvq,Yab]
   rw[hvq] at hv;refine⟨_,rfl,_,rfl,_,rfl,a,ll,pl,b,rs,qs,N,ls,ks,rfl,s07 _ _ hA,hT.same s07,SqB.sameL s07 hL,hv,hM,hin,ksl.symm,hls,hb1,hb2,fun H8 s8=>?_⟩;refine⟨_,rfl,(by show 2<=sizeLine;decide),fun tt ntt=>?_⟩;have s9:Same H8 (upd H8 tt (.tup [.int (ZaW N ls ks).sum,.ref pl])):=Same.new ntt;have s79:=s8.trans s9;refine k tt pl qs ks lf lp _ ((s07.trans s8).free ntt) Zab plH (s79 _ _ hv) (hM.same s79) hin ⟨ksl,lfp,lfs,lpp,lps,fun t f p hf hp=>?_⟩ (s07.trans s79);have htl:=(Yae.mp hf).1
   obtain⟨q,g1,g2,g3⟩:=hdone t f p (by omega) hf hp;rw[hvq,Yal] at g1
   cases eq:qs[(f.getD 1 0).toNat]? with
   | none=>rw[eq] at g1;cases g1
   | some q2=>
    rw[eq] at g1;cases g1;obtain⟨kk,h1,h2⟩:=hM.at eq;have e1:=Zfu h2;have e2:=Zfu (k:=[p.getD 1 0,p.getD 2 0]) g2;rw[h1,<- e1,e2]
end
end Fk39
namespace Fk39
open PySem L2 Lv
section
variable {P:Program}{w:World}{K:Yad}{mg:Str->Option Value}{base:Heap}
theorem Zki:FnScope ["thing"] ["thing"] (Zac Zdo):=⟨rfl,rfl,rfl,by decide +kernel,rfl,by decide +kernel,by decide +kernel⟩
theorem ZeK {f:Addr}{fd:FuncData} (F:Fun K "is_whole" "is_whole" Zdo f fd) (T:Txt mg):FnOk P w K mg base CX0 1 f fd ["thing"] (ZdM K):=by
 refine F.ok Zki (fun vs H Q E h=>?_) (fun cdv A outer s H vs Q E hr h=>?_)
 ·obtain⟨x,T,rfl,_⟩:=h;rfl
 ·obtain⟨x,Tx,rfl,⟨ty,hT⟩,k⟩:=h;refine⟨_,Zav (ZaF (Zf0 (Zaj ZaM rfl T.isinstance Zay (Zaa (pv 0) (Zaa (Zfo rfl T.int ZkX) Zad)))
   (ZfY (Zhs (Zaj ZaM rfl T.isinstance Zay (Zaa (pv 0) (Zaa (Zfo rfl T.bool Zj7) Zad))))))),?_⟩
  refine⟨_,rfl,x,"int",_,_,rfl,ty,ZgO hT,_,rfl,?_⟩;by_cases e1:Tx="int"
  ·subst e1;exact iteT ⟨_,rfl,x,"bool",_,_,rfl,ty,ZcY hT,_,rfl,by simpa using k⟩
  ·by_cases e2:Tx="bool"
   ·subst e2;exact iteT ⟨_,rfl,x,"bool",_,_,rfl,ty,ZcY hT,_,rfl,by simpa using k⟩
   ·have e:(decide (Tx="int") || decide (Tx="bool"))=false:=by simp[e1,e2]
    rw[decide_eq_false e1] at k;rw[e];exact iteF k
theorem Zkj:FnScope ["p"] ["p"] (Zac ZeE):=⟨rfl,rfl,rfl,by decide +kernel,rfl,by decide +kernel,by decide +kernel⟩
theorem Zhy {f fW:Addr}{fd dW:FuncData}{t2 t7:Tok}{C:Addr} (F:Fun K "check_ways" "check_ways" ZeE f fd) (T:Txt mg) (mW:mg "NoWays"=some (.ref C)) (hz:excAll K C=true) (hL:mg "LEAST_WAYS"=some (.int 2 t2)) (hM:mg "MOST_WAYS"=some (.int 7 t7)) (CW:Cal P w K mg base 1 "is_whole" ["thing"] (ZdM K) fW dW) :
  FnOk P w K mg base (CX1 P w) 2 f fd ["p"] (ZfJ K 2 7 C):=by
 refine F.okE Zkj (fun vs H Q E h=>?_) (fun cdv A outer s H vs Q E hr h=>?_)
 ·obtain⟨v,Tv,rfl,_⟩:=h;rfl
 ·obtain⟨v,Tv,rfl,th,hc⟩:=h;refine⟨_,Zav (Zfl (PW.pt (Zco (Za8 (Zbj (ZaB CW hr rfl (Zaa (pv 0) Zad))))
   (Zcb (Za8 (ZfV ZeJ ZeJ (ZbU rfl hL) (pv 0) (ZbU rfl hM))))))
   (Zav (Zi1 Zk1 rfl mW hz (Zaa (Zkq (.con (by decide) (.val (ZbU rfl hL) (.con (by decide) (.val (ZbU rfl hM) (.con (by decide) .nil)))))) Zad))) Zcp),?_⟩
  refine⟨_,rfl,v,Tv,rfl,th,_,rfl,?_⟩;rcases hc with ⟨i,rfl,h1,h2,k⟩ | ⟨hn | ⟨i,rfl,hni⟩,hE⟩
  ·rw[decide_eq_true th.ty_int];refine iteF ⟨_,rfl,2,i,rfl,rfl,_,rfl,?_⟩;rw[decide_eq_true h1];refine iteT ⟨i,7,rfl,rfl,_,rfl,?_⟩;rw[decide_eq_true h2];exact iteF k
  ·rw[decide_eq_false hn];exact iteT (iteT ⟨2,rfl,by decide,by decide,7,rfl,by decide,by decide,fun x=>⟨by show 1<=1000;decide,hE⟩⟩)
  ·rw[decide_eq_true th.ty_int];refine iteF ⟨_,rfl,2,i,rfl,rfl,_,rfl,?_⟩;by_cases h1:(2:Int)<=i
   ·rw[decide_eq_true h1];refine iteT ⟨i,7,rfl,rfl,_,rfl,?_⟩;rw[decide_eq_false (by omega)];exact iteT ⟨2,rfl,by decide,by decide,7,rfl,by decide,by decide,fun x=>⟨by show 1<=1000;decide,hE⟩⟩
   ·rw[decide_eq_false h1];exact iteF ⟨_,rfl,iteT ⟨2,rfl,by decide,by decide,7,rfl,by decide,by decide,fun x=>⟨by show 1<=1000;decide,hE⟩⟩⟩
theorem Zld:FnScope ["p","lengths"] ["p","lengths"] (Zac sBPl):=⟨rfl,rfl,rfl,by decide +kernel,rfl,by decide +kernel,by decide +kernel⟩
theorem Zky {f fW:Addr}{fd dW:FuncData}{C:Addr} (F:Fun K "best_placing" "best_placing" sBPl f fd) (CW:CalE P w K mg base 2 "check_ways" ["p"] [] (ZfJ K 2 7 C) fW dW):FnOk P w K mg base (CX1 P w) 4 f fd ["p","lengths"] (Zgt K 2 7 C 1):=by
 refine F.okE Zld (fun vs H Q E h=>?_) (fun cdv A outer s H vs Q E hr h=>?_)
 ·obtain⟨v,Tv,rest,rfl,hl,_⟩:=h;show rest.length+1=2;omega
 ·obtain⟨v,Tv,rest,rfl,hl,th,hn,hE⟩:=h;obtain⟨x0,rfl⟩:∃ x0,rest=[x0]:=by
   match rest,hl with
   | [x0],_=>exact⟨x0,rfl⟩
  exact⟨_,Zaq (Za1 (Zd5 CW (hr.mono (by decide)) Zhv rfl (Zaa (pv 0) Zad))) Zbk,_,rfl,v,Tv,rfl,th,.inr ⟨hn,hE⟩⟩
theorem Zlc:FnScope ["p","lengths","told","reading","level","placing","numbers"] ["p","lengths","told"] (Zac ZaG):=⟨rfl,rfl,rfl,by decide +kernel,rfl,by decide +kernel,by decide +kernel⟩
theorem Zjc {f fW:Addr}{fd dW:FuncData}{C:Addr} (F:Fun K "placing_right" "placing_right" ZaG f fd) (CW:CalE P w K mg base 2 "check_ways" ["p"] [] (ZfJ K 2 7 C) fW dW):FnOk P w K mg base (CX1 P w) 7 f fd ["p","lengths","told"] (Zgt K 2 7 C 2):=by
 refine F.okE Zlc (fun vs H Q E h=>?_) (fun cdv A outer s H vs Q E hr h=>?_)
 ·obtain⟨v,Tv,rest,rfl,hl,_⟩:=h;show rest.length+1=3;omega
 ·obtain⟨v,Tv,rest,rfl,hl,th,hn,hE⟩:=h;obtain⟨x0,x1,rfl⟩:∃ x0 x1,rest=[x0,x1]:=by
   match rest,hl with
   | [x0,x1],_=>exact⟨x0,x1,rfl⟩
  exact⟨_,Zaq (Za1 (Zd5 CW (hr.mono (by decide)) Zhv rfl (Zaa (pv 0) Zad))) Zbk,_,rfl,v,Tv,rfl,th,.inr ⟨hn,hE⟩⟩
end
end Fk39
namespace Fk39
open PySem L2 Lv
section
variable {P:Program}{w:World}{K:Yad}{mg:Str->Option Value}{base:Heap}
theorem Zlb:FnScope ["p"] ["p"] (Zac ZeE):=⟨rfl,rfl,rfl,by decide +kernel,rfl,by decide +kernel,by decide +kernel⟩
theorem Zkx {f fW:Addr}{fd dW:FuncData}{t2 t7:Tok} (F:Fun K "check_ways" "check_ways" ZeE f fd) (T:Txt mg) (hL:mg "LEAST_WAYS"=some (.int 2 t2)) (hM:mg "MOST_WAYS"=some (.int 7 t7)) (CW:Cal P w K mg base 1 "is_whole" ["thing"] Zcj fW dW) :
  FnOk P w K mg base CX0 2 f fd ["p"] Zg9:=by
 refine F.ok Zlb (fun vs H Q E h=>?_) (fun cdv A outer s H vs Q E hr h=>?_)
 ·obtain⟨i,rfl,_⟩:=h;rfl
 ·obtain⟨i,rfl,h1,h2,k⟩:=h;refine⟨_,Zav (Zfl (PW.pt (Zco (Za8 (Zbj (ZaB CW hr rfl (Zaa (pv 0) Zad))))
   (Zcb (Za8 (ZfV ZeJ ZeJ (ZbU rfl hL) (pv 0) (ZbU rfl hM)))))) Zbk Zcp),?_⟩
  refine⟨_,rfl,i,rfl,true,rfl,iteF ?_⟩;refine⟨_,rfl,2,i,rfl,rfl,_,rfl,?_⟩;rw[decide_eq_true h1];refine iteT ⟨i,7,rfl,rfl,_,rfl,?_⟩;rw[decide_eq_true h2];exact iteF k
theorem ZiT:FnScope ["thing"] ["thing"] (Zac Zcl):=⟨rfl,rfl,rfl,by decide +kernel,rfl,by decide +kernel,by decide +kernel⟩
theorem ZhA {f:Addr}{fd:FuncData} (F:Fun K "_law_whole" "_law_whole" Zcl f fd) (T:Txt mg):FnOk P w K mg base CX0 1 f fd ["thing"] Zcj:=by
 refine F.ok ZiT (fun vs H Q E h=>?_) (fun cdv A outer s H vs Q E hr h=>?_)
 ·obtain⟨i,rfl,_⟩:=h;rfl
 ·obtain⟨i,rfl,k⟩:=h;refine⟨_,Zav (ZaF (Zf0 (Zaj ZaM rfl T.isinstance Zay (Zaa (pv 0) (Zaa (Zfo rfl T.int ZkX) Zad)))
   (ZfY (Zhs (Zaj ZaM rfl T.isinstance Zay (Zaa (pv 0) (Zaa (Zfo rfl T.bool Zj7) Zad))))))),?_⟩
  refine⟨_,rfl,.int i,"int",_,true,rfl,.int i,Zft,true,rfl,iteT ?_⟩;exact⟨_,rfl,.int i,"bool",_,false,rfl,.int i,ZeR,false,rfl,k⟩
end
end Fk39
namespace Fk39
open PySem L2 Lv
theorem len1 {P:List Value->Prop} (us:List Value) (hl:us.length=1) (h:∀ a0:Value,P [a0]):P us:=by
 match us,hl with
 | [a0],_=>exact h a0
theorem len2 {P:List Value->Prop} (us:List Value) (hl:us.length=2) (h:∀ a0 a1:Value,P [a0,a1]):P us:=by
 match us,hl with
 | [a0,a1],_=>exact h a0 a1
theorem len3 {P:List Value->Prop} (us:List Value) (hl:us.length=3) (h:∀ a0 a1 a2:Value,P [a0,a1,a2]):P us:=by
 match us,hl with
 | [a0,a1,a2],_=>exact h a0 a1 a2
theorem all_mk {l:YdD}{w:World}{K:Yad}{h:Heap}{mg:Str->Option Value}{fa f0 f1 f2 f3 f4 f5 f6 f7 f8 f9 f10 f11 f12 f13 f14 f15 f16 f17 f18 f19 f20 f21 f22 f23 f24 f25 f26 f27 f28 f29 f30 f31 f32 f33 f34 f35 f36:Addr}{tk0 tk1 tk2 tk3:Tok} (X:K.In h) (G:h.Ns mainGlobals mg) (hfa:mg "law"=some (.ref fa))
  {od0 an0 od1 an1 od2 an2 od3 an3 od4 an4 od5 an5 od6 an6 od7 an7 od8 an8 od9 an9 od10 an10 od11 an11 od12 an12 od13 an13 od14 an14 od15 an15 od16 an16 od17 an17 od18 an18 od19 an19 od20 an20 od21 an21 od22 an22 od23 an23 od24 an24 od25 an25 od26 an26 od27 an27 od28 an28 od29 an29 od30 an30 od31 an31 od32 an32 od33 an33 od34 an34 od35 an35 od36 an36:Option Addr}{sl0 sl1 sl2 sl3 sl4 sl5 sl6 sl7 sl8 sl9 sl10 sl11 sl12 sl13 sl14 sl15 sl16 sl17 sl18 sl19 sl20 sl21 sl22 sl23 sl24 sl25 sl26 sl27 sl28 sl29 sl30 sl31 sl32 sl33 sl34 sl35 sl36:Array (Option Value)}{oc0 kV0 dc0 pm0 cd0 ct0 oc1 kV1 dc1 pm1 cd1 ct1 oc2 kV2 dc2 pm2 cd2 ct2 oc3 kV3 dc3 pm3 cd3 ct3 oc4 kV4 dc4 pm4 cd4 ct4 oc5 kV5 dc5 pm5 cd5 ct5 oc6 kV6 dc6 pm6 cd6 ct6 oc7 kV7 dc7 pm7 cd7 ct7 oc8 kV8 dc8 pm8 cd8 ct8 oc9 kV9 dc9 pm9 cd9 ct9 oc10 kV10 dc10 pm10 cd10 ct10 oc11 kV11 dc11 pm11 cd11 ct11 oc12 kV12 dc12 pm12 cd12 ct12 oc13 kV13 dc13 pm13 cd13 ct13 oc14 kV14 dc14 pm14 cd14 ct14 oc15 kV15 dc15 pm15 cd15 ct15 oc16 kV16 dc16 pm16 cd16 ct16 oc17 kV17 dc17 pm17 cd17 ct17 oc18 kV18 dc18 pm18 cd18 ct18 oc19 kV19 dc19 pm19 cd19 ct19 oc20 kV20 dc20 pm20 cd20 ct20 oc21 kV21 dc21 pm21 cd21 ct21 oc22 kV22 dc22 pm22 cd22 ct22 oc23 kV23 dc23 pm23 cd23 ct23 oc24 kV24 dc24 pm24 cd24 ct24 oc25 kV25 dc25 pm25 cd25 ct25 oc26 kV26 dc26 pm26 cd26 ct26 oc27 kV27 dc27 pm27 cd27 ct27 oc28 kV28 dc28 pm28 cd28 ct28 oc29 kV29 dc29 pm29 cd29 ct29 oc30 kV30 dc30 pm30 cd30 ct30 oc31 kV31 dc31 pm31 cd31 ct31 oc32 kV32 dc32 pm32 cd32 ct32 oc33 kV33 dc33 pm33 cd33 ct33 oc34 kV34 dc34 pm34 cd34 ct34 oc35 kV35 dc35 pm35 cd35 ct35 oc36 kV36 dc36 pm36 cd36 ct36:Value}
  {da5:Addr}{doc5:Value}{dod5:Option Addr}{dn5:Nat}{dsl5:Array (Option Value)}{dt5_0:Tok}
  (a0:Yam K mainGlobals "is_whole"=some (some (.ref f0))) (l0:K.lookup f0=some ⟨oc0,od0,.func (YaB "is_whole" "is_whole" (Zak Zdo) (Zah Zdo) (Zac Zdo) .none kV0 dc0 pm0 an0 cd0 ct0),sl0⟩) (c0:Yav K cd0 "is_whole"=true) (k0:Yaq K (.ref f0)=true)
  (a1:Yam K mainGlobals "is_place"=some (some (.ref f1))) (l1:K.lookup f1=some ⟨oc1,od1,.func (YaB "is_place" "is_place" (Zak ZfN) (Zah ZfN) (Zac ZfN) .none kV1 dc1 pm1 an1 cd1 ct1),sl1⟩) (c1:Yav K cd1 "is_place"=true) (k1:Yaq K (.ref f1)=true)
  (a2:Yam K mainGlobals "is_listed"=some (some (.ref f2))) (l2:K.lookup f2=some ⟨oc2,od2,.func (YaB "is_listed" "is_listed" (Zak ZdX) (Zah ZdX) (Zac ZdX) .none kV2 dc2 pm2 an2 cd2 ct2),sl2⟩) (c2:Yav K cd2 "is_listed"=true) (k2:Yaq K (.ref f2)=true)
  (a3:Yam K mainGlobals "is_tuple_of"=some (some (.ref f3))) (l3:K.lookup f3=some ⟨oc3,od3,.func (YaB "is_tuple_of" "is_tuple_of" (Zak ZfL) (Zah ZfL) (Zac ZfL) .none kV3 dc3 pm3 an3 cd3 ct3),sl3⟩) (c3:Yav K cd3 "is_tuple_of"=true) (k3:Yaq K (.ref f3)=true)
  (a4:Yam K mainGlobals "check_ways"=some (some (.ref f4))) (l4:K.lookup f4=some ⟨oc4,od4,.func (YaB "check_ways" "check_ways" (Zak ZeE) (Zah ZeE) (Zac ZeE) .none kV4 dc4 pm4 an4 cd4 ct4),sl4⟩) (c4:Yav K cd4 "check_ways"=true) (k4:Yaq K (.ref f4)=true)
  (a5:Yam K mainGlobals "check_level"=some (some (.ref f5))) (l5:K.lookup f5=some ⟨oc5,od5,.func (YaB "check_level" "check_level" (Zak ZfP) (Zah ZfP) (Zac ZfP) (.ref da5) kV5 dc5 pm5 an5 cd5 ct5),sl5⟩) (c5:Yav K cd5 "check_level"=true) (k5:Yaq K (.ref f5)=true)
  (d5:K.lookup da5=some ⟨doc5,dod5,.seq #[.int 300 dt5_0] dn5,dsl5⟩)
  (a6:Yam K mainGlobals "first_counts"=some (some (.ref f6))) (l6:K.lookup f6=some ⟨oc6,od6,.func (YaB "first_counts" "first_counts" (Zak ZfQ) (Zah ZfQ) (Zac ZfQ) .none kV6 dc6 pm6 an6 cd6 ct6),sl6⟩) (c6:Yav K cd6 "first_counts"=true) (k6:Yaq K (.ref f6)=true)
  (a7:Yam K mainGlobals "next_counts"=some (some (.ref f7))) (l7:K.lookup f7=some ⟨oc7,od7,.func (YaB "next_counts" "next_counts" (Zak ZiV) (Zah ZiV) (Zac ZiV) .none kV7 dc7 pm7 an7 cd7 ct7),sl7⟩) (c7:Yav K cd7 "next_counts"=true) (k7:Yaq K (.ref f7)=true)
  (a8:Yam K mainGlobals "level_counts"=some (some (.ref f8))) (l8:K.lookup f8=some ⟨oc8,od8,.func (YaB "level_counts" "level_counts" (Zak ZdZ) (Zah ZdZ) (Zac ZdZ) .none kV8 dc8 pm8 an8 cd8 ct8),sl8⟩) (c8:Yav K cd8 "level_counts"=true) (k8:Yaq K (.ref f8)=true)
  (a9:Yam K mainGlobals "level_total"=some (some (.ref f9))) (l9:K.lookup f9=some ⟨oc9,od9,.func (YaB "level_total" "level_total" (Zak ZfM) (Zah ZfM) (Zac ZfM) .none kV9 dc9 pm9 an9 cd9 ct9),sl9⟩) (c9:Yav K cd9 "level_total"=true) (k9:Yaq K (.ref f9)=true)
  (a10:Yam K mainGlobals "check_total"=some (some (.ref f10))) (l10:K.lookup f10=some ⟨oc10,od10,.func (YaB "check_total" "check_total" (Zak sTot) (Zah sTot) (Zac sTot) .none kV10 dc10 pm10 an10 cd10 ct10),sl10⟩) (c10:Yav K cd10 "check_total"=true) (k10:Yaq K (.ref f10)=true)
  (a11:Yam K mainGlobals "check_places"=some (some (.ref f11))) (l11:K.lookup f11=some ⟨oc11,od11,.func (YaB "check_places" "check_places" (Zak ZdW) (Zah ZdW) (Zac ZdW) .none kV11 dc11 pm11 an11 cd11 ct11),sl11⟩) (c11:Yav K cd11 "check_places"=true) (k11:Yaq K (.ref f11)=true)
  (a12:Yam K mainGlobals "first_numbers"=some (some (.ref f12))) (l12:K.lookup f12=some ⟨oc12,od12,.func (YaB "first_numbers" "first_numbers" (Zak Zcm) (Zah Zcm) (Zac Zcm) .none kV12 dc12 pm12 an12 cd12 ct12),sl12⟩) (c12:Yav K cd12 "first_numbers"=true) (k12:Yaq K (.ref f12)=true)
  (a13:Yam K mainGlobals "next_numbers"=some (some (.ref f13))) (l13:K.lookup f13=some ⟨oc13,od13,.func (YaB "next_numbers" "next_numbers" (Zak Zcu) (Zah Zcu) (Zac Zcu) .none kV13 dc13 pm13 an13 cd13 ct13),sl13⟩) (c13:Yav K cd13 "next_numbers"=true) (k13:Yaq K (.ref f13)=true)
  (a14:Yam K mainGlobals "numbers_after"=some (some (.ref f14))) (l14:K.lookup f14=some ⟨oc14,od14,.func (YaB "numbers_after" "numbers_after" (Zak ZfR) (Zah ZfR) (Zac ZfR) .none kV14 dc14 pm14 an14 cd14 ct14),sl14⟩) (c14:Yav K cd14 "numbers_after"=true) (k14:Yaq K (.ref f14)=true)
  (a15:Yam K mainGlobals "numbers_of"=some (some (.ref f15))) (l15:K.lookup f15=some ⟨oc15,od15,.func (YaB "numbers_of" "numbers_of" (Zak ZfO) (Zah ZfO) (Zac ZfO) .none kV15 dc15 pm15 an15 cd15 ct15),sl15⟩) (c15:Yav K cd15 "numbers_of"=true) (k15:Yaq K (.ref f15)=true)
  (a16:Yam K mainGlobals "places_in"=some (some (.ref f16))) (l16:K.lookup f16=some ⟨oc16,od16,.func (YaB "places_in" "places_in" (Zak Zbi) (Zah Zbi) (Zac Zbi) .none kV16 dc16 pm16 an16 cd16 ct16),sl16⟩) (c16:Yav K cd16 "places_in"=true) (k16:Yaq K (.ref f16)=true)
  (a17:Yam K mainGlobals "numbers_told"=some (some (.ref f17))) (l17:K.lookup f17=some ⟨oc17,od17,.func (YaB "numbers_told" "numbers_told" (Zak Zgz) (Zah Zgz) (Zac Zgz) .none kV17 dc17 pm17 an17 cd17 ct17),sl17⟩) (c17:Yav K cd17 "numbers_told"=true) (k17:Yaq K (.ref f17)=true)
  (a18:Yam K mainGlobals "level_numbers"=some (some (.ref f18))) (l18:K.lookup f18=some ⟨oc18,od18,.func (YaB "level_numbers" "level_numbers" (Zak sLN) (Zah sLN) (Zac sLN) .none kV18 dc18 pm18 an18 cd18 ct18),sl18⟩) (c18:Yav K cd18 "level_numbers"=true) (k18:Yaq K (.ref f18)=true)
  (a19:Yam K mainGlobals "least_places"=some (some (.ref f19))) (l19:K.lookup f19=some ⟨oc19,od19,.func (YaB "least_places" "least_places" (Zak Zck) (Zah Zck) (Zac Zck) .none kV19 dc19 pm19 an19 cd19 ct19),sl19⟩) (c19:Yav K cd19 "least_places"=true) (k19:Yaq K (.ref f19)=true)
  (a20:Yam K mainGlobals "is_spot"=some (some (.ref f20))) (l20:K.lookup f20=some ⟨oc20,od20,.func (YaB "is_spot" "is_spot" (Zak ZdY) (Zah ZdY) (Zac ZdY) .none kV20 dc20 pm20 an20 cd20 ct20),sl20⟩) (c20:Yav K cd20 "is_spot"=true) (k20:Yaq K (.ref f20)=true)
  (a21:Yam K mainGlobals "is_placing"=some (some (.ref f21))) (l21:K.lookup f21=some ⟨oc21,od21,.func (YaB "is_placing" "is_placing" (Zak ZbF) (Zah ZbF) (Zac ZbF) .none kV21 dc21 pm21 an21 cd21 ct21),sl21⟩) (c21:Yav K cd21 "is_placing"=true) (k21:Yaq K (.ref f21)=true)
  (a22:Yam K mainGlobals "reading_by"=some (some (.ref f22))) (l22:K.lookup f22=some ⟨oc22,od22,.func (YaB "reading_by" "reading_by" (Zak ZbS) (Zah ZbS) (Zac ZbS) .none kV22 dc22 pm22 an22 cd22 ct22),sl22⟩) (c22:Yav K cd22 "reading_by"=true) (k22:Yaq K (.ref f22)=true)
  (a23:Yam K mainGlobals "least_by"=some (some (.ref f23))) (l23:K.lookup f23=some ⟨oc23,od23,.func (YaB "least_by" "least_by" (Zak ZbD) (Zah ZbD) (Zac ZbD) .none kV23 dc23 pm23 an23 cd23 ct23),sl23⟩) (c23:Yav K cd23 "least_by"=true) (k23:Yaq K (.ref f23)=true)
  (a24:Yam K mainGlobals "best_by"=some (some (.ref f24))) (l24:K.lookup f24=some ⟨oc24,od24,.func (YaB "best_by" "best_by" (Zak Zcn) (Zah Zcn) (Zac Zcn) .none kV24 dc24 pm24 an24 cd24 ct24),sl24⟩) (c24:Yav K cd24 "best_by"=true) (k24:Yaq K (.ref f24)=true)
  (a25:Yam K mainGlobals "best_placing"=some (some (.ref f25))) (l25:K.lookup f25=some ⟨oc25,od25,.func (YaB "best_placing" "best_placing" (Zak sBPl) (Zah sBPl) (Zac sBPl) .none kV25 dc25 pm25 an25 cd25 ct25),sl25⟩) (c25:Yav K cd25 "best_placing"=true) (k25:Yaq K (.ref f25)=true)
  (a26:Yam K mainGlobals "placing_right"=some (some (.ref f26))) (l26:K.lookup f26=some ⟨oc26,od26,.func (YaB "placing_right" "placing_right" (Zak ZaG) (Zah ZaG) (Zac ZaG) .none kV26 dc26 pm26 an26 cd26 ct26),sl26⟩) (c26:Yav K cd26 "placing_right"=true) (k26:Yaq K (.ref f26)=true)
  (a27:Yam K mainGlobals "_law_mixed"=some (some (.ref f27))) (l27:K.lookup f27=some ⟨oc27,od27,.func (YaB "_law_mixed" "_law_mixed" (Zak Zdq) (Zah Zdq) (Zac Zdq) .none kV27 dc27 pm27 an27 cd27 ct27),sl27⟩) (c27:Yav K cd27 "_law_mixed"=true) (k27:Yaq K (.ref f27)=true)
  (a28:Yam K mainGlobals "_law_draws"=some (some (.ref f28))) (l28:K.lookup f28=some ⟨oc28,od28,.func (YaB "_law_draws" "_law_draws" (Zak Zds) (Zah Zds) (Zac Zds) .none kV28 dc28 pm28 an28 cd28 ct28),sl28⟩) (c28:Yav K cd28 "_law_draws"=true) (k28:Yaq K (.ref f28)=true)
  (a29:Yam K mainGlobals "_law_reels"=some (some (.ref f29))) (l29:K.lookup f29=some ⟨oc29,od29,.func (YaB "_law_reels" "_law_reels" (Zak Za6) (Zah Za6) (Zac Za6) .none kV29 dc29 pm29 an29 cd29 ct29),sl29⟩) (c29:Yav K cd29 "_law_reels"=true) (k29:Yaq K (.ref f29)=true)
  (a30:Yam K mainGlobals "_law_lengths"=some (some (.ref f30))) (l30:K.lookup f30=some ⟨oc30,od30,.func (YaB "_law_lengths" "_law_lengths" (Zak Zdr) (Zah Zdr) (Zac Zdr) .none kV30 dc30 pm30 an30 cd30 ct30),sl30⟩) (c30:Yav K cd30 "_law_lengths"=true) (k30:Yaq K (.ref f30)=true)
  (a31:Yam K mainGlobals "_law_whole"=some (some (.ref f31))) (l31:K.lookup f31=some ⟨oc31,od31,.func (YaB "_law_whole" "_law_whole" (Zak Zcl) (Zah Zcl) (Zac Zcl) .none kV31 dc31 pm31 an31 cd31 ct31),sl31⟩) (c31:Yav K cd31 "_law_whole"=true) (k31:Yaq K (.ref f31)=true)
  (a32:Yam K mainGlobals "_law_pair"=some (some (.ref f32))) (l32:K.lookup f32=some ⟨oc32,od32,.func (YaB "_law_pair" "_law_pair" (Zak ZbE) (Zah ZbE) (Zac ZbE) .none kV32 dc32 pm32 an32 cd32 ct32),sl32⟩) (c32:Yav K cd32 "_law_pair"=true) (k32:Yaq K (.ref f32)=true)
  (a33:Yam K mainGlobals "_law_best"=some (some (.ref f33))) (l33:K.lookup f33=some ⟨oc33,od33,.func (YaB "_law_best" "_law_best" (Zak ZaY) (Zah ZaY) (Zac ZaY) .none kV33 dc33 pm33 an33 cd33 ct33),sl33⟩) (c33:Yav K cd33 "_law_best"=true) (k33:Yaq K (.ref f33)=true)
  (a34:Yam K mainGlobals "_law_right"=some (some (.ref f34))) (l34:K.lookup f34=some ⟨oc34,od34,.func (YaB "_law_right" "_law_right" (Zak ZaZ) (Zah ZaZ) (Zac ZaZ) .none kV34 dc34 pm34 an34 cd34 ct34),sl34⟩) (c34:Yav K cd34 "_law_right"=true) (k34:Yaq K (.ref f34)=true)
  (a35:Yam K mainGlobals "_law_refused"=some (some (.ref f35))) (l35:K.lookup f35=some ⟨oc35,od35,.func (YaB "_law_refused" "_law_refused" (Zak Zdp) (Zah Zdp) (Zac Zdp) .none kV35 dc35 pm35 an35 cd35 ct35),sl35⟩) (c35:Yav K cd35 "_law_refused"=true) (k35:Yaq K (.ref f35)=true)
  (a36:Yam K mainGlobals "law"=some (some (.ref f36))) (l36:K.lookup f36=some ⟨oc36,od36,.func (YaB "law" "law" (Zak sLaw) (Zah sLaw) (Zac sLaw) .none kV36 dc36 pm36 an36 cd36 ct36),sl36⟩) (c36:Yav K cd36 "law"=true) (k36:Yaq K (.ref f36)=true)
  (y0:Yam K mainGlobals "LEAST_WAYS"=some (some (.int 2 tk0)))
  (y1:Yam K mainGlobals "MOST_WAYS"=some (some (.int 7 tk1)))
  (y2:Yam K mainGlobals "MOST_PLACES"=some (some (.int 4000 tk2)))
  (y3:Yam K mainGlobals "LAST_LEVEL"=some (some (.int 300 tk3)))
  {ecReelError ecNoWays ecNoLevel ecTooMany ecTooFew:Addr} (exReelError:Yam K mainGlobals "ReelError"=some (some (.ref ecReelError))) (exNoWays:Yam K mainGlobals "NoWays"=some (some (.ref ecNoWays))) (exNoLevel:Yam K mainGlobals "NoLevel"=some (some (.ref ecNoLevel))) (exTooMany:Yam K mainGlobals "TooMany"=some (some (.ref ecTooMany))) (exTooFew:Yam K mainGlobals "TooFew"=some (some (.ref ecTooFew)))
  (exnd:([ecNoWays,ecNoLevel,ecTooFew,ecTooMany]:List Addr).Nodup) (etNoWays:Zie K ecReelError ecNoWays [ecNoWays,ecNoLevel,ecTooFew,ecTooMany]=true)
  (z0:Yam K mainGlobals "isinstance"=some none) (z1:Yam K mainGlobals "int"=some none) (z2:Yam K mainGlobals "bool"=some none) (z3:Yam K mainGlobals "list"=some none) (z4:Yam K mainGlobals "tuple"=some none) (z5:Yam K mainGlobals "min"=some none) (z6:Yam K mainGlobals "max"=some none) (z7:Yam K mainGlobals "len"=some none) (z8:Yam K mainGlobals "range"=some none) (z9:Yam K mainGlobals "all"=some none) (z10:Yam K mainGlobals "sum"=some none) (z11:Yam K mainGlobals "sorted"=some none) (z12:Yam K mainGlobals "zip"=some none) (zenumerate:Yam K mainGlobals "enumerate"=some none) (zset:Yam K mainGlobals "set"=some none) :
  ∃ fd:FuncData,(∀ (s:Shared) (v:Value),BindsTo s fd ⟨[v],[]⟩ [("script",v)])/\∀ base:Heap,K.In base->base.Ns mainGlobals mg->FnOk l.prog w K mg base CX0 9 fa fd ["script"] (ZiP K):=by
 have e:=hfa.symm.trans (Ye8 X G a36);cases e;have T:Txt mg:=⟨YaQ X G z0,YaQ X G z1,YaQ X G z2,YaQ X G z3,YaQ X G z4,YaQ X G z5,YaQ X G z6,YaQ X G z7,YaQ X G z8,YaQ X G z9,YaQ X G z10,YaQ X G z11,YaQ X G z12⟩
 have F0:=Zat (st:=Zdo) l0 c0 k0;have b0:=F0.binds (ps:=["thing"]) fun _ _ _ _ _ _ us hl=>@len1 (fun us=>bindArgs _ ⟨us,[]⟩=pure (Ybd _ us)) us hl fun _=>rfl;have F1:=Zat (st:=ZfN) l1 c1 k1;have b1:=F1.binds (ps:=["thing","many"]) fun _ _ _ _ _ _ us hl=>@len2 (fun us=>bindArgs _ ⟨us,[]⟩=pure (Ybd _ us)) us hl fun _ _=>rfl;have F2:=Zat (st:=ZdX) l2 c2 k2;have b2:=F2.binds (ps:=["thing"]) fun _ _ _ _ _ _ us hl=>@len1 (fun us=>bindArgs _ ⟨us,[]⟩=pure (Ybd _ us)) us hl fun _=>rfl;have F3:=Zat (st:=ZfL) l3 c3 k3;have b3:=F3.binds (ps:=["thing","many"]) fun _ _ _ _ _ _ us hl=>@len2 (fun us=>bindArgs _ ⟨us,[]⟩=pure (Ybd _ us)) us hl fun _ _=>rfl;have F4:=Zat (st:=ZeE) l4 c4 k4;have b4:=F4.binds (ps:=["p"]) fun _ _ _ _ _ _ us hl=>@len1 (fun us=>bindArgs _ ⟨us,[]⟩=pure (Ybd _ us)) us hl fun _=>rfl;have F5:=ZkN (st:=ZfP) l5 c5 k5;have b5:=F5.binds (ps:=["n","last"]) d5 rfl [.int 300 dt5_0] ["n"] rfl fun _ _ _ _ _ _ us hl=>match us,hl with | [_],_=>⟨_,rfl,rfl⟩
 have F6:=Zat (st:=ZfQ) l6 c6 k6;have b6:=F6.binds (ps:=["p"]) fun _ _ _ _ _ _ us hl=>@len1 (fun us=>bindArgs _ ⟨us,[]⟩=pure (Ybd _ us)) us hl fun _=>rfl;have F7:=Zat (st:=ZiV) l7 c7 k7;have b7:=F7.binds (ps:=["counts"]) fun _ _ _ _ _ _ us hl=>@len1 (fun us=>bindArgs _ ⟨us,[]⟩=pure (Ybd _ us)) us hl fun _=>rfl;have F8:=Zat (st:=ZdZ) l8 c8 k8;have b8:=F8.binds (ps:=["p","n"]) fun _ _ _ _ _ _ us hl=>@len2 (fun us=>bindArgs _ ⟨us,[]⟩=pure (Ybd _ us)) us hl fun _ _=>rfl;have F9:=Zat (st:=ZfM) l9 c9 k9;have b9:=F9.binds (ps:=["p","n"]) fun _ _ _ _ _ _ us hl=>@len2 (fun us=>bindArgs _ ⟨us,[]⟩=pure (Ybd _ us)) us hl fun _ _=>rfl;have F10:=Zat (st:=sTot) l10 c10 k10;have b10:=F10.binds (ps:=["total"]) fun _ _ _ _ _ _ us hl=>@len1 (fun us=>bindArgs _ ⟨us,[]⟩=pure (Ybd _ us)) us hl fun _=>rfl;have F11:=Zat (st:=ZdW) l11 c11 k11;have b11:=F11.binds (ps:=["p","n"]) fun _ _ _ _ _ _ us hl=>@len2 (fun us=>bindArgs _ ⟨us,[]⟩=pure (Ybd _ us)) us hl fun _ _=>rfl;have F12:=Zat (st:=Zcm) l12 c12 k12;have b12:=F12.binds (ps:=["p"]) fun _ _ _ _ _ _ us hl=>@len1 (fun us=>bindArgs _ ⟨us,[]⟩=pure (Ybd _ us)) us hl fun _=>rfl;have F13:=Zat (st:=Zcu) l13 c13 k13;have b13:=F13.binds (ps:=["numbers"]) fun _ _ _ _ _ _ us hl=>@len1 (fun us=>bindArgs _ ⟨us,[]⟩=pure (Ybd _ us)) us hl fun _=>rfl;have F14:=Zat (st:=ZfR) l14 c14 k14;have b14:=F14.binds (ps:=["p","n","following"]) fun _ _ _ _ _ _ us hl=>@len3 (fun us=>bindArgs _ ⟨us,[]⟩=pure (Ybd _ us)) us hl fun _ _ _=>rfl;have F15:=Zat (st:=ZfO) l15 c15 k15;have b15:=F15.binds (ps:=["p","n"]) fun _ _ _ _ _ _ us hl=>@len2 (fun us=>bindArgs _ ⟨us,[]⟩=pure (Ybd _ us)) us hl fun _ _=>rfl;have F16:=Zat (st:=Zbi) l16 c16 k16;have b16:=F16.binds (ps:=["numbers"]) fun _ _ _ _ _ _ us hl=>@len1 (fun us=>bindArgs _ ⟨us,[]⟩=pure (Ybd _ us)) us hl fun _=>rfl;have F17:=Zat (st:=Zgz) l17 c17 k17;have b17:=F17.binds (ps:=["p","following"]) fun _ _ _ _ _ _ us hl=>@len2 (fun us=>bindArgs _ ⟨us,[]⟩=pure (Ybd _ us)) us hl fun _ _=>rfl;have F18:=Zat (st:=sLN) l18 c18 k18;have b18:=F18.binds (ps:=["p","n"]) fun _ _ _ _ _ _ us hl=>@len2 (fun us=>bindArgs _ ⟨us,[]⟩=pure (Ybd _ us)) us hl fun _ _=>rfl;have F19:=Zat (st:=Zck) l19 c19 k19;have b19:=F19.binds (ps:=["numbers","many"]) fun _ _ _ _ _ _ us hl=>@len2 (fun us=>bindArgs _ ⟨us,[]⟩=pure (Ybd _ us)) us hl fun _ _=>rfl;have F20:=Zat (st:=ZdY) l20 c20 k20;have b20:=F20.binds (ps:=["numbers","pair"]) fun _ _ _ _ _ _ us hl=>@len2 (fun us=>bindArgs _ ⟨us,[]⟩=pure (Ybd _ us)) us hl fun _ _=>rfl;have F21:=Zat (st:=ZbF) l21 c21 k21;have b21:=F21.binds (ps:=["numbers","rows","placing"]) fun _ _ _ _ _ _ us hl=>@len3 (fun us=>bindArgs _ ⟨us,[]⟩=pure (Ybd _ us)) us hl fun _ _ _=>rfl;have F22:=Zat (st:=ZbS) l22 c22 k22;have b22:=F22.binds (ps:=["numbers","lengths","placing"]) fun _ _ _ _ _ _ us hl=>@len3 (fun us=>bindArgs _ ⟨us,[]⟩=pure (Ybd _ us)) us hl fun _ _ _=>rfl;have F23:=Zat (st:=ZbD) l23 c23 k23;have b23:=F23.binds (ps:=["numbers","lengths"]) fun _ _ _ _ _ _ us hl=>@len2 (fun us=>bindArgs _ ⟨us,[]⟩=pure (Ybd _ us)) us hl fun _ _=>rfl;have F24:=Zat (st:=Zcn) l24 c24 k24;have b24:=F24.binds (ps:=["levels","lengths"]) fun _ _ _ _ _ _ us hl=>@len2 (fun us=>bindArgs _ ⟨us,[]⟩=pure (Ybd _ us)) us hl fun _ _=>rfl;have F25:=Zat (st:=sBPl) l25 c25 k25;have b25:=F25.binds (ps:=["p","lengths"]) fun _ _ _ _ _ _ us hl=>@len2 (fun us=>bindArgs _ ⟨us,[]⟩=pure (Ybd _ us)) us hl fun _ _=>rfl;have F26:=Zat (st:=ZaG) l26 c26 k26;have b26:=F26.binds (ps:=["p","lengths","told"]) fun _ _ _ _ _ _ us hl=>@len3 (fun us=>bindArgs _ ⟨us,[]⟩=pure (Ybd _ us)) us hl fun _ _ _=>rfl;have F27:=Zat (st:=Zdq) l27 c27 k27;have b27:=F27.binds (ps:=["cell","k"]) fun _ _ _ _ _ _ us hl=>@len2 (fun us=>bindArgs _ ⟨us,[]⟩=pure (Ybd _ us)) us hl fun _ _=>rfl;have F28:=Zat (st:=Zds) l28 c28 k28;have b28:=F28.binds (ps:=["cell","many","base"]) fun _ _ _ _ _ _ us hl=>@len3 (fun us=>bindArgs _ ⟨us,[]⟩=pure (Ybd _ us)) us hl fun _ _ _=>rfl;have F29:=Zat (st:=Za6) l29 c29 k29;have b29:=F29.binds (ps:=["p","n"]) fun _ _ _ _ _ _ us hl=>@len2 (fun us=>bindArgs _ ⟨us,[]⟩=pure (Ybd _ us)) us hl fun _ _=>rfl;have F30:=Zat (st:=Zdr) l30 c30 k30;have b30:=F30.binds (ps:=["draws","most"]) fun _ _ _ _ _ _ us hl=>@len2 (fun us=>bindArgs _ ⟨us,[]⟩=pure (Ybd _ us)) us hl fun _ _=>rfl;have F31:=Zat (st:=Zcl) l31 c31 k31;have b31:=F31.binds (ps:=["thing"]) fun _ _ _ _ _ _ us hl=>@len1 (fun us=>bindArgs _ ⟨us,[]⟩=pure (Ybd _ us)) us hl fun _=>rfl;have F32:=Zat (st:=ZbE) l32 c32 k32;have b32:=F32.binds (ps:=["thing","reels"]) fun _ _ _ _ _ _ us hl=>@len2 (fun us=>bindArgs _ ⟨us,[]⟩=pure (Ybd _ us)) us hl fun _ _=>rfl;have F33:=Zat (st:=ZaY) l33 c33 k33;have b33:=F33.binds (ps:=["p","lengths"]) fun _ _ _ _ _ _ us hl=>@len2 (fun us=>bindArgs _ ⟨us,[]⟩=pure (Ybd _ us)) us hl fun _ _=>rfl;have F34:=Zat (st:=ZaZ) l34 c34 k34;have b34:=F34.binds (ps:=["p","lengths","told"]) fun _ _ _ _ _ _ us hl=>@len3 (fun us=>bindArgs _ ⟨us,[]⟩=pure (Ybd _ us)) us hl fun _ _ _=>rfl;have F35:=Zat (st:=Zdp) l35 c35 k35;have b35:=F35.binds (ps:=["p","lengths","told"]) fun _ _ _ _ _ _ us hl=>@len3 (fun us=>bindArgs _ ⟨us,[]⟩=pure (Ybd _ us)) us hl fun _ _ _=>rfl;have F36:=Zat (st:=sLaw) l36 c36 k36;refine⟨YaB "law" "law" (Zak sLaw) (Zah sLaw) (Zac sLaw) .none kV36 dc36 pm36 an36 cd36 ct36,fun s v=>.of_eq rfl,fun base _ _=>?_⟩;have m:=fun {x:Str}{v:Value} (a:Yam K mainGlobals x=some (some v))=>Ye8 X G a;have mLEAST_WAYS:=m y0;have mMOST_WAYS:=m y1;have mMOST_PLACES:=m y2;have mLAST_LEVEL:=m y3;have mReelError:=m exReelError;have mNoWays:=m exNoWays;have mNoLevel:=m exNoLevel;have mTooMany:=m exTooMany;have mTooFew:=m exTooFew;have tabNoWays:ExcTab K ecReelError ecNoWays [ecNoWays,ecNoLevel,ecTooFew,ecTooMany]:=ExcTab.of etNoWays;have Cis_whole:Cal l.prog w K mg base 1 "is_whole" ["thing"] (ZdM K) _ _:=⟨ZeK F0 T,m a0,k0,b0⟩
 have Cwhole:Cal l.prog w K mg base 1 "is_whole" ["thing"] Zcj _ _:=⟨(ZeK F0 T).imp (fun vs H Q E ⟨i,e,q⟩=>⟨.int i,"int",e,⟨.int i,by decide⟩,q⟩),m a0,k0,b0⟩
 have Cways:Cal l.prog w K mg base 2 "check_ways" ["p"] Zg9 _ _:=⟨Zkx F4 T mLEAST_WAYS mMOST_WAYS Cwhole,m a4,k4,b4⟩
 have CwaysE:CalE l.prog w K mg base 2 "check_ways" ["p"] [] (ZfJ K 2 7 ecNoWays) _ _:=⟨Zhy F4 T mNoWays tabNoWays.ok mLEAST_WAYS mMOST_WAYS Cis_whole,m a4,k4,[],b4,.nil⟩
 have Cfirst_numbers:Cal l.prog w K mg base 1 "first_numbers" ["p"] ZdQ _ _:=⟨ZhC F12 T,m a12,k12,b12⟩
 have Cnext_numbers:Cal l.prog w K mg base 1 "next_numbers" ["numbers"] ZdO _ _:=⟨Zjd F13 T,m a13,k13,b13⟩
 have Cplaces_in:Cal l.prog w K mg base 1 "places_in" ["numbers"] ZbC _ _:=⟨Zfr F16 T,m a16,k16,b16⟩
 have Cnumbers_told:Cal l.prog w K mg base 2 "numbers_told" ["p","following"] (Zfg _) _ _:=⟨Zja F17 T mMOST_PLACES Cfirst_numbers Cplaces_in Cnext_numbers,m a17,k17,b17⟩
 have Cleast_places:Cal l.prog w K mg base 1 "least_places" ["numbers","many"] ZdP _ _:=⟨ZhB F19 T (YaQ X G zenumerate),m a19,k19,b19⟩
 have Creading_by:Cal l.prog w K mg base 1 "reading_by" ["numbers","lengths","placing"] (ZdN K) _ _:=⟨Zhz F22 T,m a22,k22,b22⟩
 have Cleast_by:Cal l.prog w K mg base 2 "least_by" ["numbers","lengths"] (ZcI K) _ _:=⟨ZgH F23 T (YaQ X G zenumerate) Cleast_places Creading_by,m a23,k23,b23⟩
 have Cbest_by:Cal l.prog w K mg base 3 "best_by" ["levels","lengths"] (ZcL K) _ _:=⟨ZgK F24 T (YaQ X G zenumerate) Cplaces_in Cleast_by,m a24,k24,b24⟩
 have Cbest_placing:Cal l.prog w K mg base 4 "best_placing" ["p","lengths"] (Zkg K) _ _:=⟨Zlr F25 T Cways Cnext_numbers Cnumbers_told Cbest_by,m a25,k25,b25⟩
 have Cbp:CalE l.prog w K mg base 4 "best_placing" ["p","lengths"] [] (Zgt K 2 7 ecNoWays 1) _ _:=⟨Zky F25 CwaysE,m a25,k25,[],b25,.nil⟩
 have Cpr:CalE l.prog w K mg base 7 "placing_right" ["p","lengths","told"] [] (Zgt K 2 7 ecNoWays 2) _ _:=⟨Zjc F26 CwaysE,m a26,k26,[],b26,.nil⟩
 have C_law_mixed:Cal l.prog w K mg base 1 "_law_mixed" ["cell","k"] Zfi _ _:=⟨Zje F27 T,m a27,k27,b27⟩
 have C_law_draws:Cal l.prog w K mg base 2 "_law_draws" ["cell","many","base"] ZdR _ _:=⟨Zjh F28 T C_law_mixed,m a28,k28,b28⟩
 have C_law_reels:Cal l.prog w K mg base 1 "_law_reels" ["p","n"] (Zb9 K) _ _:=⟨ZgG F29 T,m a29,k29,b29⟩
 have C_law_lengths:Cal l.prog w K mg base 1 "_law_lengths" ["draws","most"] Zfj _ _:=⟨Zjf F30 T,m a30,k30,b30⟩
 have C_law_whole:Cal l.prog w K mg base 1 "_law_whole" ["thing"] Zcj _ _:=⟨ZhA F31 T,m a31,k31,b31⟩
 have C_law_pair:Cal l.prog w K mg base 2 "_law_pair" ["thing","reels"] ZcJ _ _:=⟨ZgJ F32 T C_law_whole,m a32,k32,b32⟩
 have C_law_best:Cal l.prog w K mg base 2 "_law_best" ["p","lengths"] (ZcK K) _ _:=⟨ZgI F33 T C_law_reels,m a33,k33,b33⟩
 have C_law_right:Cal l.prog w K mg base 3 "_law_right" ["p","lengths","told"] (ZcH K) _ _:=⟨ZgF F34 T (YaQ X G zset) C_law_whole C_law_best C_law_reels C_law_pair,m a34,k34,b34⟩
 have C_law_refused:Cal l.prog w K mg base 8 "_law_refused" ["p","lengths","told"] (Zfh K) _ _:=⟨Zjb F35 T mReelError mNoWays mNoLevel mTooFew mTooMany tabNoWays exnd Cbp Cpr,m a35,k35,b35⟩
 exact Zjg F36 T C_law_draws C_law_lengths Cbest_placing C_law_right C_law_refused
theorem walk {l:YdD}{q:Program}{loose:List Str}{XP:(Str->Option Value)->Heap->Prop}{YP:World->Heap->Prop}{d:DefRec}{K:Params->Yad} (hn:l.most=some 63) (hdf:d.params.defaults=[])
  (hY:∀ (w:World) (h:Heap),YP w h->(K w.params).In h)
  (F:∀ (w:World) (mg:Str->Option Value) (fa:Addr) (h:Heap),(K w.params).In h->h.Ns mainGlobals mg->mg d.name=some (.ref fa) ->
   ∃ fd:FuncData,(∀ (s:Shared) (u:Value),BindsTo s fd ⟨[u],[]⟩ [("script",u)])/\∀ base:Heap,(K w.params).In base->base.Ns mainGlobals mg->FnOk l.prog w (K w.params) mg base CX0 9 fa fd ["script"] (ZiP (K w.params))) :
  Ye9 q loose XP YP l.row.toRowW d [] (fun f vs=>YeS f vs) :=
 L2.walk_of (n:=63) (k:=9) (x:="script") (CX:=fun _=>CX0) (sp:=fun w=>ZiP (K w.params)) hn (by decide) hdf ⟨rfl,by decide,by decide,rfl⟩ hY F (fun _ _ a ns hl _ hS=>⟨a,ns,rfl,hS,hl,fun _=>rfl⟩) fun _ _ _ _ _ z=>z
end Fk39
def PySem.W.Fast.tw17685248335128207606 : Unit := ()
def PySem.W.Fast.tw3583630508474426001 : Unit := ()
def PySem.W.Fast.tw13003362142842409773 : Unit := ()
def PySem.W.Fast.tw6357942061558578156 : Unit := ()
def PySem.W.Fast.tw12459132406374244711 : Unit := ()
def PySem.W.Fast.tw8403090226978606737 : Unit := ()
def PySem.W.Fast.tw12308559737794869608 : Unit := ()
def PySem.W.Fast.tw6447702837491812977 : Unit := ()
def PySem.W.Fast.tw14129103849297984922 : Unit := ()
def PySem.W.Fast.tw6249245404693954953 : Unit := ()
def PySem.W.Fast.tw17963706039458782471 : Unit := ()
def PySem.W.Fast.tw852658622821879662 : Unit := ()
def PySem.W.Fast.tw397126655096877571 : Unit := ()
def PySem.W.Fast.tw16796686436390272141 : Unit := ()
def PySem.W.Fast.tw15825801977246064668 : Unit := ()
def PySem.W.Fast.tw15207033774021261652 : Unit := ()
def PySem.W.Fast.tw2385622496595499670 : Unit := ()
def PySem.W.Fast.tw12635085746856338109 : Unit := ()
def PySem.W.Fast.tw4336655407938942457 : Unit := ()
def PySem.W.Fast.tw15315935073190708485 : Unit := ()
def PySem.W.Fast.tw8442236572779208633 : Unit := ()
def PySem.W.Fast.tw14104859813051445608 : Unit := ()
def PySem.W.Fast.tw11885039987302224149 : Unit := ()
def PySem.W.Fast.tw12058744621401708520 : Unit := ()
def PySem.W.Fast.tw13852559105483240335 : Unit := ()
def PySem.W.Fast.tw3821248127711052516 : Unit := ()
def PySem.W.Fast.tw17954301834980041046 : Unit := ()
def PySem.W.Fast.tw13908346573911296003 : Unit := ()
def PySem.W.Fast.tw107120593586481164 : Unit := ()
def PySem.W.Fast.tw16996091240155631566 : Unit := ()
def PySem.W.Fast.tw9649185042951536546 : Unit := ()
def PySem.W.Fast.tw7333881601030660162 : Unit := ()
def PySem.W.Fast.tw16562483403825239407 : Unit := ()
def PySem.W.Fast.tw16846223639836104945 : Unit := ()
def PySem.W.Fast.tw9957753548421104226 : Unit := ()
def PySem.W.Fast.tw10191984447674431483 : Unit := ()
def PySem.W.Fast.tw5846562772431442513 : Unit := ()
def PySem.W.Fast.tw4102177902629204904 : Unit := ()
def PySem.W.Fast.tw12202067990055058087 : Unit := ()
def PySem.W.Fast.tw11731915314390026077 : Unit := ()
def PySem.W.Fast.tw3011854513764122590 : Unit := ()
def PySem.W.Fast.tw4385457556778020508 : Unit := ()
def PySem.W.Fast.tw12317002578568299344 : Unit := ()
def PySem.W.Fast.tw4187321413880735484 : Unit := ()
def PySem.W.Fast.tw15727429739064687463 : Unit := ()
def PySem.W.Fast.tw1744712997203004853 : Unit := ()
def PySem.W.Fast.tw13977941996178493965 : Unit := ()
def PySem.W.Fast.tw8783661070502574824 : Unit := ()
def PySem.W.Fast.tw1482878570282984713 : Unit := ()
def PySem.W.Fast.tw12420920356439969966 : Unit := ()
def PySem.W.Fast.tw15337672785963926012 : Unit := ()
def PySem.W.Fast.tw595584365194103822 : Unit := ()
def PySem.W.Fast.tw10231616793770999566 : Unit := ()
def PySem.W.Fast.tw17342535646082146792 : Unit := ()
def PySem.W.Fast.tw6238796901098262484 : Unit := ()
def PySem.W.Fast.tw1412048485679139205 : Unit := ()
def PySem.W.Fast.tw5210232238582767159 : Unit := ()
def PySem.W.Fast.tw1881499925892510460 : Unit := ()
def PySem.W.Fast.tw4762789717844343541 : Unit := ()
def PySem.W.Fast.tw14318307616964033964 : Unit := ()
def PySem.W.Fast.tw12203454929032809340 : Unit := ()
def PySem.W.Fast.tw7565405186952041058 : Unit := ()
def PySem.W.Fast.tw6359534100580569936 : Unit := ()
def PySem.W.Fast.tw16432047325930473526 : Unit := ()
def PySem.W.Fast.tw10472136480571346627 : Unit := ()
def PySem.W.Fast.tw2869443388890278882 : Unit := ()
def PySem.W.Fast.tw17491729708439659674 : Unit := ()
def PySem.W.Fast.tw2415487670043671724 : Unit := ()
def PySem.W.Fast.tw16108589116909401819 : Unit := ()
def PySem.W.Fast.tw638401064425124109 : Unit := ()
def PySem.W.Fast.tw6285892209956045972 : Unit := ()
def PySem.W.Fast.tw9186831334364408218 : Unit := ()
def PySem.W.Fast.tw18296437319031527844 : Unit := ()
def PySem.W.Fast.tw17362330495266478300 : Unit := ()
def PySem.W.Fast.tw16610999587287490540 : Unit := ()
def PySem.W.Fast.tw8761981998933093084 : Unit := ()
def PySem.W.Fast.tw8751472431719796983 : Unit := ()
def PySem.W.Fast.tw10012958265676242424 : Unit := ()
def PySem.W.Fast.tw11724322923191549129 : Unit := ()
def PySem.W.Fast.tw17609889456286465884 : Unit := ()
def PySem.W.Fast.tw9715438432551002524 : Unit := ()
def PySem.W.Fast.tw13166298632710226937 : Unit := ()
def PySem.W.Fast.tw6636449495650231946 : Unit := ()
def PySem.W.Fast.tw2731471458706610225 : Unit := ()
def PySem.W.Fast.tw9682371533721185966 : Unit := ()
def PySem.W.Fast.tw14291150619243237791 : Unit := ()
def PySem.W.Fast.tw16721336190896793767 : Unit := ()
def PySem.W.Fast.tw12420705910494313446 : Unit := ()
def PySem.W.Fast.tw6787500451333091623 : Unit := ()
def PySem.W.Fast.tw8635220301933548165 : Unit := ()
def PySem.W.Fast.tw8811472527541395955 : Unit := ()
def PySem.W.Fast.tw7725347412504258855 : Unit := ()
def PySem.W.Fast.tw13726214852584293133 : Unit := ()
def PySem.W.Fast.tw988553882136701311 : Unit := ()
def PySem.W.Fast.tw11065330244206252003 : Unit := ()
def PySem.W.Fast.tw4510274159233205378 : Unit := ()
def PySem.W.Fast.tw9554685456897409257 : Unit := ()
def PySem.W.Fast.tw9168745287719164826 : Unit := ()
def PySem.W.Fast.tw10838309235784151937 : Unit := ()
def PySem.W.Fast.tw10331833102867278612 : Unit := ()
def PySem.W.Fast.tw10261189135617269953 : Unit := ()
def PySem.W.Fast.tw9419452077013095081 : Unit := ()
def PySem.W.Fast.tw2058636268122301885 : Unit := ()
def PySem.W.Fast.tw17580564728288424527 : Unit := ()
def PySem.W.Fast.tw13680308241445810733 : Unit := ()
def PySem.W.Fast.tw14538175724704657694 : Unit := ()
def PySem.W.Fast.tw11438842606457735341 : Unit := ()
def PySem.W.Fast.tw11297719198803885314 : Unit := ()
def PySem.W.Fast.tw6009900790432560762 : Unit := ()
def PySem.W.Fast.tw1268174884696464405 : Unit := ()
def PySem.W.Fast.tw15074880863687325026 : Unit := ()
def PySem.W.Fast.tw7147995704798063445 : Unit := ()
def PySem.W.Fast.tw15213157791366547618 : Unit := ()
def PySem.W.Fast.tw1515820494621764231 : Unit := ()
def PySem.W.Fast.tw10079574968671401088 : Unit := ()
def PySem.W.Fast.tw16206592093171003280 : Unit := ()
def PySem.W.Fast.tw13060288109653970261 : Unit := ()
def PySem.W.Fast.tw1289918226016789068 : Unit := ()
def PySem.W.Fast.tw12276696639653570401 : Unit := ()
def PySem.W.Fast.tw5937267398148764408 : Unit := ()
def PySem.W.Fast.tw8486515654761529756 : Unit := ()
def PySem.W.Fast.tw5308288322611913234 : Unit := ()
def PySem.W.Fast.tw2308225817640610942 : Unit := ()
def PySem.W.Fast.tw8602149087998839546 : Unit := ()
def PySem.W.Fast.tw5540796835571941643 : Unit := ()
def PySem.W.Fast.tw2853847986846346152 : Unit := ()
def PySem.W.Fast.tw16238322779372073885 : Unit := ()
def PySem.W.Fast.tw10363922993064447171 : Unit := ()
def PySem.W.Fast.tw2885095301398728329 : Unit := ()
def PySem.W.Fast.tw6416535948871536562 : Unit := ()
def PySem.W.Fast.tw14330191506393742568 : Unit := ()
def PySem.W.Fast.tw14656635139383344694 : Unit := ()
def PySem.W.Fast.tw10250312271780869030 : Unit := ()
def PySem.W.Fast.tw4403591027923802747 : Unit := ()
def PySem.W.Fast.tw17380220744902084328 : Unit := ()
def PySem.W.Fast.tw4199129803832733238 : Unit := ()
def PySem.W.Fast.tw10737090024021369298 : Unit := ()
def PySem.W.Fast.tw8137355792796279175 : Unit := ()
def PySem.W.Fast.tw8239890226974511624 : Unit := ()
def PySem.W.Fast.tw3107091544089558062 : Unit := ()
def PySem.W.Fast.tw31813279156458322 : Unit := ()
def PySem.W.Fast.tw15683936750696327530 : Unit := ()
def PySem.W.Fast.tw1234130970685944068 : Unit := ()
def PySem.W.Fast.tw3566978477151069991 : Unit := ()
def PySem.W.Fast.tw5938251930151440380 : Unit := ()
def PySem.W.Fast.tw7464965483843666652 : Unit := ()
def PySem.W.Fast.tw12085059763001175873 : Unit := ()
def PySem.W.Fast.tw4130122781747814506 : Unit := ()
def PySem.W.Fast.tw9208286684442128733 : Unit := ()
def PySem.W.Fast.tw4468683029305855560 : Unit := ()
def PySem.W.Fast.tw4388937587325009878 : Unit := ()
def PySem.W.Fast.tw5372631147797309962 : Unit := ()
def PySem.W.Fast.tw12526250063924301133 : Unit := ()
def PySem.W.Fast.tw17181000294835438253 : Unit := ()
def PySem.W.Fast.tw1206292635736253404 : Unit := ()
def PySem.W.Fast.tw8021266455371577405 : Unit := ()
def PySem.W.Fast.tw17492120214524729438 : Unit := ()
def PySem.W.Fast.tw11804608285208524926 : Unit := ()
def PySem.W.Fast.tw18403446627472282879 : Unit := ()
def PySem.W.Fast.tw17744867037563357764 : Unit := ()
def PySem.W.Fast.tw14570931938022505587 : Unit := ()
def PySem.W.Fast.tw10610412880704665468 : Unit := ()
def PySem.W.Fast.tw6644679766927850575 : Unit := ()
def PySem.W.Fast.tw902859325105951329 : Unit := ()
def PySem.W.Fast.tw8256627288857288667 : Unit := ()
def PySem.W.Fast.tw16326414093373642673 : Unit := ()
def PySem.W.Fast.tw16580939947332328756 : Unit := ()
def PySem.W.Fast.tw14336573312407295470 : Unit := ()
def PySem.W.Fast.tw6237454863746947566 : Unit := ()
def PySem.W.Fast.tw8413765841637975492 : Unit := ()
def PySem.W.Fast.tw17580876300493378079 : Unit := ()
def PySem.W.Fast.tw17378201541314668985 : Unit := ()
def PySem.W.Fast.tw11437804437377618910 : Unit := ()
def PySem.W.Fast.tw5043262048115693720 : Unit := ()
def PySem.W.Fast.tw4576564330475793589 : Unit := ()
open PySem PySem.W PyProof.Rows
set_option maxRecDepth 100000 in
set_option maxHeartbeats 0 in
theorem PySem.Challenge.cw_fewreels_k39_best_over_levels_holds : PySem.Challenge.rw_fewreels_k39_best_over_levels.Holds := by
  w_on; o_law; k_head; (case hw => w_witness2)
  k_fill
  refine Fk39.walk (l := PySem.Challenge.rw_fewreels_k39_best_over_levels) rfl rfl (fun w h Y => PySem.W.kIn_of Y) ?F
  case F =>
    intro w mg fa h KX G hmg
    refine' Fk39.all_mk KX G hmg ?a0 ?l0 ?c0 ?k0 ?a1 ?l1 ?c1 ?k1 ?a2 ?l2 ?c2 ?k2 ?a3 ?l3 ?c3 ?k3 ?a4 ?l4 ?c4 ?k4 ?a5 ?l5 ?c5 ?k5 ?d5 ?a6 ?l6 ?c6 ?k6 ?a7 ?l7 ?c7 ?k7 ?a8 ?l8 ?c8 ?k8 ?a9 ?l9 ?c9 ?k9 ?a10 ?l10 ?c10 ?k10 ?a11 ?l11 ?c11 ?k11 ?a12 ?l12 ?c12 ?k12 ?a13 ?l13 ?c13 ?k13 ?a14 ?l14 ?c14 ?k14 ?a15 ?l15 ?c15 ?k15 ?a16 ?l16 ?c16 ?k16 ?a17 ?l17 ?c17 ?k17 ?a18 ?l18 ?c18 ?k18 ?a19 ?l19 ?c19 ?k19 ?a20 ?l20 ?c20 ?k20 ?a21 ?l21 ?c21 ?k21 ?a22 ?l22 ?c22 ?k22 ?a23 ?l23 ?c23 ?k23 ?a24 ?l24 ?c24 ?k24 ?a25 ?l25 ?c25 ?k25 ?a26 ?l26 ?c26 ?k26 ?a27 ?l27 ?c27 ?k27 ?a28 ?l28 ?c28 ?k28 ?a29 ?l29 ?c29 ?k29 ?a30 ?l30 ?c30 ?k30 ?a31 ?l31 ?c31 ?k31 ?a32 ?l32 ?c32 ?k32 ?a33 ?l33 ?c33 ?k33 ?a34 ?l34 ?c34 ?k34 ?a35 ?l35 ?c35 ?k35 ?a36 ?l36 ?c36 ?k36 ?y0 ?y1 ?y2 ?y3 ?exReelError ?exNoWays ?exNoLevel ?exTooMany ?exTooFew ?exnd ?etNoWays ?z0 ?z1 ?z2 ?z3 ?z4 ?z5 ?z6 ?z7 ?z8 ?z9 ?z10 ?z11 ?z12 ?zenumerate ?zset
    (case a0 => k_is); (case l0 => k_is); (case c0 => k_is); (case k0 => k_is); (case a1 => k_is); (case l1 => k_is)
    (case c1 => k_is); (case k1 => k_is); (case a2 => k_is); (case l2 => k_is); (case c2 => k_is); (case k2 => k_is)
    (case a3 => k_is); (case l3 => k_is); (case c3 => k_is); (case k3 => k_is); (case a4 => k_is); (case l4 => k_is)
    (case c4 => k_is); (case k4 => k_is); (case a5 => k_is); (case l5 => k_is); (case c5 => k_is); (case k5 => k_is)
    (case d5 => k_is); (case a6 => k_is); (case l6 => k_is); (case c6 => k_is); (case k6 => k_is); (case a7 => k_is)
    (case l7 => k_is); (case c7 => k_is); (case k7 => k_is); (case a8 => k_is); (case l8 => k_is); (case c8 => k_is)
    (case k8 => k_is); (case a9 => k_is); (case l9 => k_is); (case c9 => k_is); (case k9 => k_is); (case a10 => k_is)
    (case l10 => k_is); (case c10 => k_is); (case k10 => k_is); (case a11 => k_is); (case l11 => k_is); (case c11 => k_is)
    (case k11 => k_is); (case a12 => k_is); (case l12 => k_is); (case c12 => k_is); (case k12 => k_is); (case a13 => k_is)
    (case l13 => k_is); (case c13 => k_is); (case k13 => k_is); (case a14 => k_is); (case l14 => k_is); (case c14 => k_is)
    (case k14 => k_is); (case a15 => k_is); (case l15 => k_is); (case c15 => k_is); (case k15 => k_is); (case a16 => k_is)
    (case l16 => k_is); (case c16 => k_is); (case k16 => k_is); (case a17 => k_is); (case l17 => k_is); (case c17 => k_is)
    (case k17 => k_is); (case a18 => k_is); (case l18 => k_is); (case c18 => k_is); (case k18 => k_is); (case a19 => k_is)
    (case l19 => k_is); (case c19 => k_is); (case k19 => k_is); (case a20 => k_is); (case l20 => k_is); (case c20 => k_is)
    (case k20 => k_is); (case a21 => k_is); (case l21 => k_is); (case c21 => k_is); (case k21 => k_is); (case a22 => k_is)
    (case l22 => k_is); (case c22 => k_is); (case k22 => k_is); (case a23 => k_is); (case l23 => k_is); (case c23 => k_is)
    (case k23 => k_is); (case a24 => k_is); (case l24 => k_is); (case c24 => k_is); (case k24 => k_is); (case a25 => k_is)
    (case l25 => k_is); (case c25 => k_is); (case k25 => k_is); (case a26 => k_is); (case l26 => k_is); (case c26 => k_is)
    (case k26 => k_is); (case a27 => k_is); (case l27 => k_is); (case c27 => k_is); (case k27 => k_is); (case a28 => k_is)
    (case l28 => k_is); (case c28 => k_is); (case k28 => k_is); (case a29 => k_is); (case l29 => k_is); (case c29 => k_is)
    (case k29 => k_is); (case a30 => k_is); (case l30 => k_is); (case c30 => k_is); (case k30 => k_is); (case a31 => k_is)
    (case l31 => k_is); (case c31 => k_is); (case k31 => k_is); (case a32 => k_is); (case l32 => k_is); (case c32 => k_is)
    (case k32 => k_is); (case a33 => k_is); (case l33 => k_is); (case c33 => k_is); (case k33 => k_is); (case a34 => k_is)
    (case l34 => k_is); (case c34 => k_is); (case k34 => k_is); (case a35 => k_is); (case l35 => k_is); (case c35 => k_is)
    (case k35 => k_is); (case a36 => k_is); (case l36 => k_is); (case c36 => k_is); (case k36 => k_is); (case y0 => k_is)
    (case y1 => k_is); (case y2 => k_is); (case y3 => k_is); (case exReelError => k_is); (case exNoWays => k_is); (case exNoLevel => k_is)
    (case exTooMany => k_is); (case exTooFew => k_is); (case z0 => k_is); (case z1 => k_is); (case z2 => k_is); (case z3 => k_is)
    (case z4 => k_is); (case z5 => k_is); (case z6 => k_is); (case z7 => k_is); (case z8 => k_is); (case z9 => k_is)
    (case z10 => k_is); (case z11 => k_is); (case z12 => k_is); (case zenumerate => k_is); (case zset => k_is)
    (case exnd => decide)
    (case etNoWays => with_unfolding_all rfl)
