import PyProof.Rows.All
import Wide.All
import OpenK.AllK
import Wide.FinOn
import Lean
import PyProof.EqAt
import PyProof.EqKinds
import PyProof.TupleCall
import PyProof.NeKinds
import PyProof.Draws
import PyProof.SumWalkG
import PyProof.ListRange
import PyProof.ZipIter
import PyProof.Rows.SortRev
import KE.IntBitsLaws
import PyProof.ListMulRoad
import PyProof.TupleKey
import PyProof.StationsW
import PyProof.RulesAs
import PyProof.NsDelKeeps
import PyProof.Rows.Own
import PyProof.Rows.Catch
import KE.KTryMore
import KE.KIsNot
import OpenK.KDescr
import PyProof.ExcAttrAll.ValueError
import PyProof.FString
import KE.KItemsList
import KE.KPairComp
import PyProof.DictWalks
import PyProof.Rows.SortShellK
import KE.KSortTup
import KE.KDictSum
import PyProof.ReprRoads
import PyProof.ReprLen
import PyProof.CallStr
import PyProof.Rows.RuleIs
import PyProof.Rows.SeqMore2
import KE.KRevIter
import PyProof.StrLawsRepr
import PyProof.RulesTry
import PyProof.InstStoreFacts
import OpenK.KMake
import PyProof.FactsAll.range_2
import PyProof.RangeFor
import PyProof.Rows.TupAdd
import PyProof.Rows.StrJoin2
import PyProof.Rows.Range3
import PyProof.Rows.SetFrom
import PyProof.WalksMore
import PySem.Challenge.RW_fewreels_k38_least_of_a_level
open List renaming getElem?_eq_getElem → Yaa, length_map → Yab, getElem?_eq_some_iff → Yae, mem_cons → Yah, length_append → Yai, mem_append → Yak, size_toArray → Yal, getElem?_map → Yam, replicate → Yan, mem_cons_of_mem → Yap, getD_eq_getElem?_getD → Yau, mem_of_getElem? → Yaw, length_take → Yax, mem_append_right → Yay, map_append → Yaz, mem_cons_self → YaC, mem_singleton → YaG, append_assoc → YaH, take_append_drop → YaI, pairwise_append → YaN, getElem?_set_ne → YaO, take_length → YaS, range → YaT, mem_append_left → YaU, map_cons → YaV, mem_map → YaW, getElem?_append_left → Ya4, pairwise_map → Ya5, take_of_length_le → Ya6, getElem?_append_right → Ya9, take_add_one → Yba, not_mem_nil → Ybb, length_cons → Ybc, flatten_cons → Ybd, pairwise_cons → Ybe, mem_range → Ybh, sum_cons → Ybk, getElem_of_mem → Ybl, length_drop → Ybm, filterMap_cons → Ybo, getElem_mem → Ybp, ext_getElem → Ybq, zip → Ybs, append_nil → YbA, mem_of_mem_take → YbC, zipWith → YbI, length_replicate → YbJ, lookup_cons → YbM, mem_of_mem_drop → YbN, replicate_succ → YbP, mem_iff_getElem? → YbU, getElem?_eq_none → YbV, reverse_cons → YbX, length_range → YbY, getElem?_replicate → Yb1, flatten_append → Yb2, nodup_cons → Yb7, take_zero → Ych, nodup_range → Yci, all_eq_true → Ycj, mergeSort_perm → Ycm, map_congr_left → Ycn, length_reverse → Yco, length → Ycp, getElem?_take_of_lt → Ycq, pairwise_mergeSort → Yct, take_succ_eq_append_getElem → Ycx, flatten_replicate_singleton → Ycy, reverse_perm → YcA, getElem_take → YcB, pairwise_reverse → YcD, getElem_map → YcH, getElem?_mapIdx → YcJ, reverse_append → YcL, nodup_iff_pairwise_ne → YcQ, mem_replicate → YcR, getElem?_drop → YcS, filterMap_map → YcT, pairwise_iff_getElem → YcV, nodup_nil → YcW, nodup_append → YcY, getElem_drop → YcZ, getD → Yc0, ext_getElem? → Yc1, length_eq_zero_iff → Yc2, reverse_nil → Yc5, mem_reverse → Yc6, getElem?_set_self → Yc8, map_nil → Yde, map_map → Ydf, getElem?_zipWith → Ydg, length_zipWith → Ydp, getElem?_range → Ydq, mem_filterMap → Ydv, map_take → Ydw, take_sublist → YdE, zipIdx_cons → YdJ, cons_append → YdK, dropLast_concat_getLast → YdR, sum_append → YdX, of_mem_zip → YdY, nil_append → YdZ, length_set → Yd0, forIn_cons → Yd1, foldl_cons → Yd2, perm_ext_iff_of_nodup → Yec, perm_append_singleton → Yed, take_left → Yeg, getElem?_zip_eq_some → Yeh, getElem?_eq_none_iff → Yei, drop_eq_getElem_cons → Yej, foldl → Yeq, pairwise_singleton → Yey, zipWith_cons_cons → YeB, perm_append_comm → YeG, extract → YeH, mem_iff_getElem → YeR, map_eq_cons_iff → YeS, dropLast_concat → YeT, map_id → YeX, length_flatten → YeY, zip_cons_cons → Ye9, mapIdx_append → Yfa, perm_middle → Yfo, mem_flatten → Yfp, getElem_inj → Yfq
open PySem.W renaming Frag → Yac, nsIn → Yaq, keepIn → Yav, codeIn → YaD, fnOf → YaE, mg_none_of → YaJ, kitOne → Yby, kia_one → Ybz, findIn → YcN, methodObj → Ydt, kat_nil → YdF, instObj → YdG, OpenLaw → YdH, lookIn → YdO, cellsFrom_some → Yee, callWith_K → YeE, specialIn → YeM, kitx_list → YeN, kitx_dict → YeO, plainGet → YeW, mg_of → Yfl, WalkO → Yfm
open PySem.Heap renaming get?_push_of_some → Yad, lt_size → Yaj, get?_push_size → Yat, size_push → YaZ, SameBut → Ycs, get?_update_self → Ydh, IsTuple → Ydi, get?_none_of_le → Ydn, ExtBut → Ydr, IsList → Yd3, get?_update_other → YeC, get?_update_ne → YeZ
open Array renaming getElem?_toList → Yaf, length_toList → Yao, getElem?_eq_getElem → YaK, getElem?_eq_some_iff → YaP, getD_eq_getD_getElem? → YaX, toList_append → Ya0, getD → YbL, toList_reverse → Yce, toList_push → Ycz, toList_extract → YcI, getElem?_modify → Ydd, mem_toList_iff → Ydm, toList_setIfInBounds → Yd6, perm_iff_toList_perm → Yd7, getElem?_replicate → Yen, forIn_toList → Ye1
open Nat renaming le_refl → Yag, lt_of_lt_of_le → Yas, ne_of_lt → YaB, zero_le → YaR, lt_or_ge → Ybf, le_of_lt → Ybj, lt_irrefl → Ybt, lt_succ_self → Ybu, zero_add → Ybw, le_trans → Ybx, not_lt_zero → YbB, lt_succ_of_lt → YbE, ne_of_gt → YbO, min_eq_left → Ycw, lt_of_le_of_lt → YcU, le_succ → Yc3, add_sub_cancel_left → Yc4, le_add_right → Yc7, add_zero → Ydk, eq_zero_or_pos → Ydz, min_eq_right → YdP, max_eq_right → YdQ, mod_lt → Yex, div_div_eq_div_mul → YeF, succ_pos → YeP, lt_trans → YeQ, add_lt_add_left → Ye7, add_le_add_left → Ye8, lt_or_eq_of_le → Yff, le_of_succ_le → Yfn
open Bool renaming false_eq_true → Yar, false_ne_true → YaA, and_eq_true → Ybr, not_true → YbW, eq_iff_iff → YcM, and_false → Ydo, or_eq_true → Yd5, not_false → Yem, eq_false_iff → Yfk
open Option.some renaming inj → YaF
open PySem.Value renaming ref → YaL, none → YbR, type → Yck, bool → Ydy, str → YdM, int → YdN, isInt → YeL
open Int renaming toNat_natCast → YaM, emod_nonneg → Ya2, emod_lt_of_pos → Ybg, le_refl → Ycr, toNat → YdC, mul_le_mul_of_nonneg_right → YdL, fdiv_eq_ediv_of_nonneg → Yek, mul_comm → YeU
open Or renaming inl → YaQ, inr → Ydc
open PySem.Builtin.SmallTypes renaming nextOf → YaY, ownedTupleIsFree → YbF, ownedTupleHandOut → YcP
open PySem.F renaming plainAttrs_list → Ya1, type_list_append → YbG, slot_list_append → YbH, excBase_ValueError → YdI, type_list_extend → YdU, slot_list_extend → YdV, args_tuple_add_2 → YdW, entry_tuple_add → Yea, slot_tuple_add → Yef
open PySem.Builtin.Int renaming intBits → Ya3
open PySem renaming boot_len → Ya7, mem_of_lookup → YbD, call → Ye4
open ForInStep renaming yield → Ya8, done → Ycb
open PySem.PyData renaming depthAll → Ybi, int → Ydb, depth → Yev
open Ne renaming symm → Ybn
open PySem.PassesOwn renaming never → Ybv
open List.Pairwise renaming nil → YbK, imp_of_mem → Yb8
open PySem.SetTable.probe renaming go → YbQ
open Option renaming toList_some → YbS, isSome_iff_exists → Yeb, getD_some → Ye5, getD_none → Ye6, map_some → Yfd
open PySem.Obj renaming mapSeq → YbT, putSet → Yew, data_mapFields → Yfe
open PySem.Str renaming ofString → YbZ, empty → Ydj
open PyProof.Rows renaming callWith_type1 → Yb0, slot_tuple_getitem → Ycl
open List.Perm renaming append_left → Yb3, swap → Ycu, refl → Ycv, eq_of_pairwise → YcO, append_right → YcX, trans → YdA, of_eq → YdB
open PySem.Builtin.Slice renaming slicePlaces → Yb4, sliceAdjust → YcG, sliceApplied → Yds
open PySem.NameKind renaming free → Yb5, cell → Yfg
open PyProof.Rows.KeyOrd renaming kle_refl → Yb6, kle_of_klt → Yb9, kle_trans → YcE, kle_antisymm → YeI
open PySem.Builtin.Tuple renaming tupleExact → Yca
open False renaming elim → Ycc
open PySem.Builtin.List renaming listTooLong → Ycd
open PySem.AutoSeq1 renaming wpAny_loadPart' → Ycf
open PySem.Shared renaming heap → Ycg
open PySem.Heap.SameBut renaming update → YcC
open PySem.Builtin.ObjectAttr renaming find → YcF, getOf → Yfh, dataDescriptor? → Yfi, bindTo → Yfj
open Decidable renaming byContradiction → YcK
open PySem.Builtin.Frozenset renaming updateFrom → Yc9
open PySem.SetTable renaming fresh → Yda, fill → YdT, slot → Yfb, fits → Yfc
open List.cons renaming inj → Ydl
open PyProof.Rows.SortSt renaming mk' → Ydu
open PySem.Code renaming quiet_builtin → Ydx
open True renaming intro → YdD
open PySem.Heap.IsSliceOf renaming new → YdS
open PySem.Calls renaming Name_function_global → Yd4, callWith_builtin → YeA, evalArgs_plain → YeK, Constant_str → Ye0
open Sum renaming inr → Yd8, inl → Yd9
open PySem.Heap.IsTuple renaming push → Yel
open PySem.SeqAt.EqAt renaming str_int → Yeo, int_str → Yep, same → YeJ
open PySem.Builtin.Getset_descriptor renaming descrNameAndClass → Yer, descrGetter → Yes, descrGet → Yet, descrCheckInstance → Yeu
open PySem.Heap.IsList renaming push → Yez
open PySem.Around renaming under_plainId → YeD, under_plain → YeV
open PySem.Walks renaming list → Ye2
open PySem.SetFound renaming there → Ye3
set_option Elab.async false
set_option linter.all false
set_option maxRecDepth 100000
namespace L2
open PySem PySem.Spec PyProof.Rows
abbrev Key:=Sum Int Str
def Zmt:Key->Value->Bool
 | .inl k,v=>YeL k v
 | .inr x,v=>Value.isStrOf x v
def keyH (w:World):Key->Int
 | .inl k=>hashInt k
 | .inr x=>hashStr w x
theorem ZaK:∀ {k:Key}{v:Value},Zmt k v=true->(∃ i t,k=Yd9 i/\v=YdN i t)∨(∃ x t,k=Yd8 x/\v=YdM x t)
 | .inl i,v,h=>by
  obtain⟨t,e⟩:=Value.isInt_shape (k:=i) (v:=v) h;exact .inl ⟨i,t,rfl,e⟩
 | .inr x,v,h=>by
  obtain⟨t,e⟩:=Value.isStrOf_shape (x:=x) (v:=v) h;exact .inr ⟨x,t,rfl,e⟩
theorem Zms (a b:Int):decide ((Yd9 a:Key)=Yd9 b)=(a == b):=by
 by_cases e:a=b
 ·subst e;simp
 ·have h:¬ (Yd9 a:Key)=Yd9 b:=fun q=>e (Sum.inl.inj q);rw[decide_eq_false h];exact (beq_eq_false_iff_ne.mpr e).symm
theorem Zmp (a b:Str):decide ((Yd8 a:Key)=Yd8 b)=decide (a=b):=by
 by_cases e:a=b
 ·subst e;simp
 ·have h:¬ (Yd8 a:Key)=Yd8 b:=fun q=>e (Sum.inr.inj q);rw[decide_eq_false h,decide_eq_false e]
theorem Zmr (a:Int) (b:Str):decide ((Yd9 a:Key)=Yd8 b)=false:=decide_eq_false (fun q=>nomatch q)
theorem Zmq (a:Str) (b:Int):decide ((Yd8 a:Key)=Yd9 b)=false:=decide_eq_false (fun q=>nomatch q)
def Zif (prog:Program) (w:World):PySem.KeyKind prog w Key where
 is:=Zmt
 hash:=keyH w
 inj:=fun v a b ha hb=>by
  rcases ZaK ha with ⟨i,t,rfl,rfl⟩ | ⟨x,t,rfl,rfl⟩
  ·rcases ZaK hb with ⟨j,u,rfl,e⟩ | ⟨y,u,rfl,e⟩
   ·injection e with e1 _;rw[e1]
   ·exact nomatch e
  ·rcases ZaK hb with ⟨j,u,rfl,e⟩ | ⟨y,u,rfl,e⟩
   ·exact nomatch e
   ·injection e with e1 _;rw[e1]
 byValue:=fun k v h=>by
  rcases ZaK h with ⟨i,t,rfl,rfl⟩ | ⟨x,t,rfl,rfl⟩ <;> rfl
 pyHash:=fun hv h=>by
  rcases ZaK hv with ⟨i,t,rfl,rfl⟩ | ⟨x,t,rfl,rfl⟩
  ·exact wpAny_pyHash_int h
  ·exact wpAny_pyHash_str h
 eqBool:=fun hu hv h=>by
  rcases ZaK hu with ⟨i,t,rfl,rfl⟩ | ⟨x,t,rfl,rfl⟩
  ·rcases ZaK hv with ⟨j,u,rfl,rfl⟩ | ⟨y,u,rfl,rfl⟩
   ·rw[Zms] at h;exact wpAny_eqBool_int h
   ·rw[Zmr] at h;exact Yep i t y u _ _ _ _ h
  ·rcases ZaK hv with ⟨j,u,rfl,rfl⟩ | ⟨y,u,rfl,rfl⟩
   ·rw[Zmq] at h;exact Yeo x t j u _ _ _ _ h
   ·rw[Zmp] at h;exact wpAny_eqBool_str h
 «strs»:=fun k x t v h=>by
  rcases ZaK h with ⟨i,u,rfl,e⟩ | ⟨y,u,rfl,e⟩
  ·exact nomatch e
  ·injection e with e1 _;subst e1;cases v <;> rfl
end L2
namespace L2
open PySem PySem.Spec PyProof.Rows
inductive V where
 | non | bl (b:Bool) | int (i:Int) | str (x:Str) | byt (b:Array UInt8) | flt (b:UInt64) | ref (a:Addr) | ty (n:String)
 deriving DecidableEq
def RelV:V->Value->Prop
 | .non,u=>u=YbR
 | .bl b,u=>u=Ydy b
 | .int i,u=>∃ t,u=YdN i t
 | .str x,u=>∃ t,u=YdM x t
 | .byt b,u=>∃ t,u=Value.bytes b t
 | .flt b,u=>∃ t,u=Value.float b t
 | .ref a,u=>u=YaL a
 | .ty n,u=>u=Yck n
abbrev Vals:List V->List Value->Prop:=Paired RelV
theorem Vals.length {xs:List V}{us:List Value} (r:Vals xs us):xs.length=us.length:=Paired.length r
theorem Vals.get:∀ {xs:List V}{us:List Value}{i:Nat}{x:V},Vals xs us->xs[i]?=some x->∃ u,us[i]?=some u/\RelV x u
 | _,_,_,_,.nil,e=>by simp at e
 | _,_,0,_,.cons r _,e=>by simp at e;subst e;exact⟨_,rfl,r⟩
 | _,_,i+1,x,.cons _ t,e=>by
  obtain⟨u,h1,h2⟩:=Vals.get (i:=i) (x:=x) t (by simpa using e);exact⟨u,by simpa using h1,h2⟩
theorem Vals.set {x:V}{u:Value} (r:RelV x u):∀ {xs:List V}{us:List Value} (i:Nat),Vals xs us->Vals (xs.set i x) (us.set i u)
 | _,_,_,.nil=>.nil
 | _,_,0,.cons _ t=>.cons r t
 | _,_,i+1,.cons q t=>.cons q (Vals.set r i t)
theorem Vals.append:∀ {xs ys:List V}{us ws:List Value},Vals xs us->Vals ys ws->Vals (xs++ys) (us++ws)
 | _,_,_,_,.nil,s=>s
 | _,_,_,_,.cons r t,s=>.cons r (Vals.append t s)
theorem Vals.take:∀ {xs:List V}{us:List Value} (n:Nat),Vals xs us->Vals (xs.take n) (us.take n)
 | _,_,0,_=>.nil
 | _,_,_+1,.nil=>.nil
 | _,_,n+1,.cons r t=>.cons r (Vals.take n t)
theorem Vals.drop:∀ {xs:List V}{us:List Value} (n:Nat),Vals xs us->Vals (xs.drop n) (us.drop n)
 | _,_,0,r=>r
 | _,_,_+1,.nil=>.nil
 | _,_,n+1,.cons _ t=>Vals.drop n t
theorem Vals.none_of:∀ {xs:List V}{us:List Value}{i:Nat},Vals xs us->xs[i]?=none->us[i]?=none:=fun {xs us i} r e=>by
 have h1:=r.length;have h2:xs.length<=i:=Yei.mp e;exact Yei.mpr (by omega)
def RelO:Option V->Option Value->Prop
 | some v,some u=>RelV v u
 | none,none=>True
 | _,_=>False
def KV {κ:Type}:List (κ × V)->List (κ × Value)->Prop:=Paired fun (p:κ × V) (q:κ × Value)=>p.1=q.1/\RelV p.2 q.2
def kV:Key->V
 | .inl i=>.int i
 | .inr x=>.str x
inductive HO where
 | lst (xs:List V)
 | tup (xs:List V)
 | dK (kvs:List (Key × V)) | dT (kvs:List (List Key × V))
 | set (S:Int->Bool) (n:Nat)
 | ins (C dx:Addr) (fs:List (Str × V))
 | own (x:Addr)
 | xd (fs:List (Str × V))
 | met (f x:Addr)
 | rng (lo hi:Int)
 | frz (o:Obj) (u:HO)
 | tbl (ps:Array Value)
 | ext (φ:Heap->Prop)
abbrev Hp:=Addr->Option HO
def upd (H:Hp) (a:Addr) (o:HO):Hp:=fun b=>if b=a then some o else H b
theorem Zab {H:Hp}{a:Addr}{o:HO}:upd H a o a=some o:=by unfold upd;rw[if_pos rfl]
theorem Zah {H:Hp}{a b:Addr}{o:HO} (h:b≠a):upd H a o b=H b:=by unfold upd;rw[if_neg h]
theorem Zag {H:Hp}{a b:Addr}{o:HO} (h:H a=some o) (h':H b=none):a≠b:=by
 intro e;subst e;rw[h] at h';cases h'
def IsTupD (h:Heap) (a:Addr) (items:Array Value):Prop:=∃ o,h.get? a=some o/\o.cls=.type "tuple"/\o.dict=none/\∃ n,o.data=.seq items n
theorem IsTupD.tup {h:Heap}{a:Addr}{items:Array Value} (x:IsTupD h a items):IsTup h a items:=let ⟨o,e,c,_,d⟩:=x;⟨o,e,c,d⟩
theorem IsTupD.new (h:Heap) (items:Array Value):IsTupD (h.push { cls:=.type "tuple",data:=.seq items }) h.objs.size items:=⟨_,Yat _ rfl,rfl,rfl,_,rfl⟩
section
variable (P:Program) (w:World)
def ObjOk (H:Hp) (h:Heap) (a:Addr):HO->Prop
 | .lst xs=>xs.length<=sizeLine/\∃ (its:List Value) (n:Nat),Vals xs its/\h.get? a=some { cls:=.type "list",data:=.seq its.toArray n }
 | .tup xs=>xs.length<=sizeLine/\∃ its:List Value,Vals xs its/\IsTupD h a its.toArray
 | .dK kvs=>kvs.length<=sizeLine/\(a == sysModules)=false/\∃ vs,KV kvs vs/\h.DictOf (Zif P w) a vs
 | .dT kvs=>kvs.length<=sizeLine/\(a == sysModules)=false/\∃ xs:List (List Key × Addr × Value),
   Paired (fun (p:List Key × V) (q:List Key × Addr × Value)=>p.1=q.1/\H q.2.1=some (.tup (p.1.map kV))/\RelV p.2 q.2.2) kvs xs /\
   ∃ o es ep,h.get? a=some o/\o.ExactDict/\o.data=.dict es ep/\es.toList=xs.map (entryOfKey (tupleKind (Zif P w)))/\(xs.map (·.1)).Nodup
 | .set S n=>h.SetOf (intKind P w) a S n
 | .ins C dx fs=>H dx=some (.own a)/\fs.length<=1000/\dx≠a/\h.get? a=some (YdG C dx) /\
   ∃ mA,h.Ns1 dx mA/\(∀ f,RelO (fs.lookup f) (mA f))/\PySem.Within mA (fs.map (·.1))
 | .own _=>∃ o,h.get? a=some o
 | .xd fs=>∃ mA,h.Ns1 a mA/\∀ f,RelO (fs.lookup f) (mA f)
 | .rng lo hi=>∃ t u v,h.get? a=some { cls:=.type "range",data:=.fields #[.int lo t,.int hi u,.int 1 v] }
 | .frz o u=>h.get? a=some o/\ObjOk H h a u
 | .tbl ps=>h.get? a=some { cls:=.none,data:=.fields ps }
 | .met f x=>h.get? a=some (Ydt (.ref f) (.ref x))
 | .ext φ=>φ h/\(∃ o,h.get? a=some o)/\∀ h1 h2:Heap,φ h1->(∀ o,h1.get? a=some o->h2.get? a=some o)->φ h2
def HOk (H:Hp) (h:Heap):Prop:=∀ a o,H a=some o->ObjOk P w H h a o
end
section
variable {P:Program}{w:World}{H H':Hp}{h h':Heap}{a:Addr}{o:HO}
theorem ObjOk.lt (x:ObjOk P w H h a o):a<h.objs.size:=by
 cases o with
 | lst xs=>obtain⟨_,_,_,_,e⟩:=x;exact Yaj e
 | tup xs=>obtain⟨_,_,_,p⟩:=x;exact p.tup.lt
 | dK kvs=>obtain⟨_,_,_,_,o,_,_,e,_⟩:=x;exact Yaj e
 | dT kvs=>obtain⟨_,_,_,_,o,_,_,e,_⟩:=x;exact Yaj e
 | set S n=>obtain⟨o,_,_,_,e,_⟩:=x;exact Yaj e
 | ins C dx fs=>obtain⟨_,_,_,e,_⟩:=x;exact Yaj e
 | own y=>obtain⟨_,e⟩:=x;exact Yaj e
 | xd fs=>obtain⟨_,⟨_,_,_,e,_⟩,_⟩:=x;exact Yaj e
 | rng lo hi=>obtain⟨_,_,_,e⟩:=x;exact Yaj e
 | frz ob u=>obtain⟨e,_⟩:=x;exact Yaj e
 | tbl ps=>exact Yaj (show h.get? a=some _ from x)
 | met f y=>exact Yaj (show h.get? a=some _ from x)
 | ext φ=>obtain⟨_,⟨_,e⟩,_⟩:=x;exact Yaj e
theorem Paired.mapP {α β:Type}{F G:α->β->Prop}:∀ {l₁:List α}{l₂:List β},Paired F l₁ l₂->(∀ a b,F a b->G a b)->Paired G l₁ l₂
 | _,_,.nil,_=>.nil
 | _,_,.cons r t,f=>.cons (f _ _ r) (Paired.mapP t f)
theorem ObjOk.stay (x:ObjOk P w H h a o) (k:∀ b u,(b=a∨H b=some (.own a))->h.get? b=some u->h'.get? b=some u)
  (ho:∀ b,H b=some (.own a)->H' b=some (.own a)) (ht:∀ b xs,H b=some (.tup xs)->H' b=some (.tup xs)):ObjOk P w H' h' a o:=by
 induction o with
 | lst xs=>obtain⟨z,its,n,r,e⟩:=x;exact⟨z,its,n,r,k _ _ (.inl rfl) e⟩
 | tup xs=>obtain⟨z,its,r,ob,e,c⟩:=x;exact⟨z,its,r,ob,k _ _ (.inl rfl) e,c⟩
 | dK kvs=>obtain⟨z,y,vs,r,ob,es,ep,e,c⟩:=x;exact⟨z,y,vs,r,ob,es,ep,k _ _ (.inl rfl) e,c⟩
 | dT kvs=>
  obtain⟨z,y,xs,r,ob,es,ep,e,c⟩:=x;exact⟨z,y,xs,Paired.mapP r fun p q z=>⟨z.1,ht _ _ z.2.1,z.2.2⟩,ob,es,ep,k _ _ (.inl rfl) e,c⟩
 | set S n=>obtain⟨ob,es,ep,t,e,c⟩:=x;exact⟨ob,es,ep,t,k _ _ (.inl rfl) e,c⟩
 | ins C dx fs=>
  obtain⟨d,z,ne,e,mA,⟨od,es,ep,e2,c⟩,r⟩:=x;exact⟨ho _ d,z,ne,k _ _ (.inl rfl) e,mA,⟨od,es,ep,k _ _ (.inr d) e2,c⟩,r⟩
 | own y=>obtain⟨ob,e⟩:=x;exact⟨ob,k _ _ (.inl rfl) e⟩
 | xd fs=>obtain⟨mA,⟨od,es,ep,e,c⟩,r⟩:=x;exact⟨mA,⟨od,es,ep,k _ _ (.inl rfl) e,c⟩,r⟩
 | rng lo hi=>obtain⟨t,u,v,e⟩:=x;exact⟨t,u,v,k _ _ (.inl rfl) e⟩
 | frz ob u ih=>obtain⟨e,q⟩:=x;exact⟨k _ _ (.inl rfl) e,ih q⟩
 | tbl ps=>
  have e:h.get? a=some { cls:=.none,data:=.fields ps }:=x;show h'.get? a=some { cls:=.none,data:=.fields ps };exact k a _ (.inl rfl) e
 | met f y=>
  have e:h.get? a=some (Ydt (.ref f) (.ref y)):=x;show h'.get? a=some (Ydt (.ref f) (.ref y));exact k a _ (.inl rfl) e
 | ext φ=>obtain⟨p,⟨o,e⟩,st⟩:=x;exact⟨st _ _ p fun o q=>k _ _ (.inl rfl) q,⟨o,k _ _ (.inl rfl) e⟩,st⟩
theorem HOk.lt (x:HOk P w H h) (e:H a=some o):a<h.objs.size:=(x a o e).lt
theorem HOk.fresh (x:HOk P w H h) (e:h.objs.size<=a):H a=none:=by
 cases q:H a with
 | none=>rfl
 | some u=>exact absurd (Yas (x.lt q) e) (Ybt _)
theorem HOk.kept (x:HOk P w H h) (k:∀ b u,h.get? b=some u->h'.get? b=some u):HOk P w H h':=fun a o e=>
 (x a o e).stay (fun b u _ q=>k b u q) (fun _ q=>q) fun _ _ q=>q
theorem HOk.laid (x:HOk P w H h) (k:∀ b u,h.get? b=some u->h'.get? b=some u) (hp:h.objs.size<=a) (new:ObjOk P w (upd H a o) h' a o):HOk P w (upd H a o) h':=fun b u e=>by
 have hn:=x.fresh hp;by_cases hb:b=a
 ·subst hb;rw[Zab] at e;cases e;exact new
 ·rw[Zah hb] at e;exact (x b u e).stay (fun c v _ q=>k c v q) (fun c q=>by rw[Zah (Zag q hn)];exact q) fun c xs q=>by rw[Zah (Zag q hn)];exact q
end
def Rd (H:Hp) (a:Addr) (u:HO):Prop:=H a=some u∨∃ o,H a=some (.frz o u)
theorem Rd.ok {P:Program}{w:World}{H:Hp}{h:Heap}{a:Addr}{u:HO} (r:Rd H a u) (x:HOk P w H h):ObjOk P w H h a u:=by
 rcases r with r | ⟨o,r⟩
 ·exact x a u r
 ·obtain⟨_,q⟩:=x a _ r;exact q
def Mut:Option HO->Prop
 | some (.lst _)=>True
 | some (.dK _)=>True
 | some (.dT _)=>True
 | some (.set _ _)=>True
 | some (.ins _ _ _)=>True
 | some (.ext _)=>True
 | _=>False
section
variable {P:Program}{w:World}{H:Hp}{h h':Heap}{x e:Addr}{o':HO}
theorem HOk.write (ok:HOk P w H h) (mu:Mut (H x)) (he:e=x∨H e=some (.own x)) (k:∀ b u,b≠e->h.get? b=some u->h'.get? b=some u) (heo:∃ u,h'.get? e=some u)
  (new:ObjOk P w (upd H x o') h' x o'):HOk P w (upd H x o') h':=fun b u q=>by
 have nown:∀ c y,H c=some (.own y)->c≠x:=fun c y r z=>by subst z;rw[r] at mu;exact mu
 have ntup:∀ c xs,H c=some (.tup xs)->c≠x:=fun c xs r z=>by subst z;rw[r] at mu;exact mu
 by_cases hb:b=x
 ·subst hb;rw[Zab] at q;cases q;exact new
 ·rw[Zah hb] at q;by_cases hbe:b=e
  ·have q':H b=some (.own x):=by
    rcases he with z | z
    ·exact absurd (hbe.trans z) hb
    ·rw[hbe];exact z
   rw[q] at q';cases q';obtain⟨v,hv⟩:=heo;exact⟨v,by rw[hbe];exact hv⟩
  ·refine (ok b u q).stay (fun c v hc r=>k c v ?_ r) (fun c r=>by rw[Zah (nown c b r)];exact r) fun c xs r=>by rw[Zah (ntup c xs r)];exact r
   rcases hc with rfl | hc
   ·exact hbe
   ·rintro rfl;rcases he with z | z
    ·exact nown c b hc z
    ·rw[hc] at z;cases z;exact hb rfl
end
structure Un (fs ex:List Addr) (H H':Hp) (h h':Heap):Prop where
 keep:∀ b o,h.get? b=some o->H b=none->b ∉ fs->b ∉ ex->h'.get? b=some o
 slot:∀ b o,h.get? b=some o->H b=none->b∈fs->b ∉ ex->∃ sl,h'.get? b=some { o with slots:=sl }
 free:∀ b o,h.get? b=some o->H b=none->b ∉ ex->H' b=none
 there:∀ b o,h.get? b=some o->b ∉ ex->∃ o',h'.get? b=some o'
 tups:∀ b xs,H b=some (.tup xs)->H' b=some (.tup xs)
 frzs:∀ b o u,H b=some (.frz o u)->H' b=some (.frz o u)
 tbls:∀ b ps,H b=some (.tbl ps)->∃ more,H' b=some (.tbl (ps++more))
section
variable {fs fs' ex ex':List Addr}{H H1 H2:Hp}{h h1 h2 h':Heap}{a x e:Addr}{o:HO}
theorem Un.any (u:Un fs ex H H1 h h1) {b:Addr}{ob:Obj} (q:h.get? b=some ob) (n:H b=none) (hx:b ∉ ex):∃ sl,h1.get? b=some { ob with slots:=sl }:=by
 by_cases hb:b∈fs
 ·exact u.slot b ob q n hb hx
 ·exact⟨ob.slots,u.keep b ob q n hb hx⟩
theorem Un.kept (k:∀ b u,h.get? b=some u->h'.get? b=some u):Un fs ex H H h h' :=
 ⟨fun b ob q _ _ _=>k b ob q,fun b ob q _ _ _=>⟨ob.slots,k b ob q⟩,fun _ _ _ n _=>n,fun b ob q _=>⟨ob,k b ob q⟩,fun _ _ q=>q,fun _ _ _ q=>q,fun _ ps q=>⟨#[],by rw[q];simp⟩⟩
theorem Un.refl:Un fs ex H H h h:=Un.kept fun _ _ q=>q
theorem Un.laid (k:∀ b u,h.get? b=some u->h'.get? b=some u) (hp:h.objs.size<=a) (hn:H a=none):Un fs ex H (upd H a o) h h' where
 keep:=fun b u q _ _ _=>k b u q
 slot:=fun b u q _ _ _=>⟨u.slots,k b u q⟩
 free:=fun b u q n _=>by rw[Zah (YaB (Yas (Yaj q) hp))];exact n
 there:=fun b u q _=>⟨u,k b u q⟩
 tups:=fun b xs q=>by rw[Zah (Zag q hn)];exact q
 frzs:=fun b u xs q=>by rw[Zah (Zag q hn)];exact q
 tbls:=fun b ps q=>⟨#[],by rw[Zah (Zag q hn),q];simp⟩
theorem Un.write (mu:Mut (H x)) (he:e=x∨H e=some (.own x)) (k:∀ b u,b≠e->h.get? b=some u->h'.get? b=some u) (heo:∃ u,h'.get? e=some u):Un fs ex H (upd H x o) h h':=by
 have hx:∀ b,H b=none->b≠x:=fun b n z=>by subst z;rw[n] at mu;exact mu
 have hb:∀ b,H b=none->b≠e:=fun b n z=>by
  subst z;rcases he with r | r
  ·exact hx b n r
  ·rw[n] at r;cases r
 have hm:∀ b u,H b=some u->¬ Mut (some u)->b≠x:=fun b u q nm z=>by subst z;rw[q] at mu;exact nm mu
 refine⟨fun b u q n _ _=>k b u (hb b n) q,fun b u q n _ _=>⟨u.slots,k b u (hb b n) q⟩,fun b u q n _=>by rw[Zah (hx b n)];exact n,fun b u q _=>?_,
  fun b xs q=>by rw[Zah (hm b _ q fun z=>z)];exact q,fun b u xs q=>by rw[Zah (hm b _ q fun z=>z)];exact q,fun b ps q=>⟨#[],by rw[Zah (hm b _ q fun z=>z),q];simp⟩⟩
 by_cases hbe:b=e
 ·subst hbe;exact heo
 ·exact⟨u,k b u hbe q⟩
end
def trk (h:Heap) (H:Hp):List Addr:=(YaT h.objs.size).filter fun a=>(H a).isSome
def hidT (h:Heap) (H:Hp):Heap:=PySem.W.hideAll h (trk h H)
theorem ZiC (h:Heap) (H:Hp):(hidT h H).objs.size=h.objs.size:=PySem.W.hideAll_size _ _
theorem ZjV {h:Heap}{H:Hp}{b:Addr}{o:Obj} (e:h.get? b=some o) (n:H b=none):(hidT h H).get? b=some o :=
 PySem.W.hideAll_get _ e fun hm=>by
  have q:(H b).isSome=true:=(List.mem_filter.mp hm).2
  rw[n] at q;simp at q
theorem Zll {h:Heap}{H:Hp}{b:Addr}{o:Obj} (e:(hidT h H).get? b=some o):h.get? b=some o/\H b=none:=by
 have e':h.get? b=some o:=PySem.W.of_hideAll (trk h H) e;refine⟨e',?_⟩
 cases q:H b with
 | none=>rfl
 | some x=>
  have hm:b∈trk h H:=List.mem_filter.mpr ⟨Ybh.mpr (Yaj e'),by simp[q]⟩;have z:(hidT h H).get? b=none:=PySem.W.hideAll_none (trk h H) hm;rw[z] at e;cases e
def ZlI (g h:Heap) (L:Addr):List (Addr × Obj):=(YaT h.objs.size).filterMap fun a=>if a=L∨(g.get? a).isSome=true then none else (h.get? a).map fun o=>(a,o)
def rest (g h:Heap) (L d:Addr):List (Addr × Obj):=(ZlI g h L).filter fun p=>decide (p.1≠d)
end L2
namespace L2
open PySem PySem.Spec PyProof.Rows
structure Mod (K:Yac) (mg:Str->Option Value) (base:Heap):Prop where
 kin:K.In base
 glob:base.Ns mainGlobals mg
 blt:∃ mb,base.Ns builtinsNs mb/\∀ x:Str,x≠"__name__"->mb x=bootBuiltins x
 nolimit:base.NoLimit
structure Cx where
 prog:Program
 w:World
 K:Yac
 mg:Str->Option Value
 base:Heap
 A:Around
 N:List Str
 s₀:Shared
 H₀:Hp
 env:Env
 outer:List Env
 stack:List Env
 ex:List Addr
 fn:Str->Bool
 calm:Bool
 pn:List (Addr × Obj)
 xe:Value->Shared->Prop
def frs (l:List Env):List Addr:=l.filterMap (·.frame)
abbrev Cx.fs (X:Cx):List Addr:=frs X.outer
def Vis (sc:Scope) (x:Str):Prop:=sc.names.lookup x=some .local ∨ sc.names.lookup x=some .cell∨sc.names.lookup x=some .free
def Loc (sc:Scope) (x:Str):Prop:=sc.names.lookup x=some .local ∨ sc.names.lookup x=some .cell
def Look (env:Env) (h:Heap) (m:Str->Option Value) (x:Str) (u:Value):Prop :=
 (env.kindOf x=some .local /\ m x=some u)∨((env.kindOf x=some .cell∨env.kindOf x=some .free)/\∃ c,env.cells.lookup x=some c/\h.IsCell c (some u))
structure Cx.Ok (X:Cx):Prop where
 mod:Mod X.K X.mg X.base
 kind:X.env.scope.kind=.function
 glob:X.env.globals=mainGlobals
 blt:X.env.builtins=builtinsNs
 above:X.s₀.heap.objs.size<=X.env.locals
 inj:∀ x y c,X.env.cells.lookup x=some c->X.env.cells.lookup y=some c->x=y
 has:∀ x,(X.env.kindOf x=some .cell∨X.env.kindOf x=some .free)->∃ c,X.env.cells.lookup x=some c
 cab:∀ x c,X.fn x=true->X.env.cells.lookup x=some c->X.s₀.heap.objs.size<=c
 hd:X.calm=true->X.A.handled=none
 frames:X.A.frames=some X.stack
 stk:X.stack=X.outer∨(X.stack=X.env::X.outer/\X.env.frame=some X.env.locals)
 exf:∀ b∈X.ex,b≠X.env.locals/\∀ x c,X.env.cells.lookup x=some c->c≠b
 bs:∀ b o,X.base.get? b=some o->X.s₀.heap.get? b=some o/\X.H₀ b=none
 bsz:X.base.objs.size<=X.s₀.heap.objs.size
 noex:∀ b o,X.base.get? b=some o->b ∉ X.ex
 exfs:∀ b∈X.ex,b ∉ X.fs
 funs:X.s₀.heap.FunFrames X.base X.outer
 frf:∀ b∈X.fs,X.H₀ b=none
structure Inv (X:Cx) (pins:List (Addr × Obj)) (σ:List (Option V)) (H:Hp) (s:Shared):Prop where
 ok:X.Ok
 os:s.os=X.s₀.os
 bare:AllBare s.gens
 base:Un X.fs X.ex X.H₀ H X.s₀.heap s.heap
 loc:∃ m,s.heap.Ns X.env.locals m/\∀ (i:Nat) (x:Str) (v:V),X.N[i]?=some x->σ[i]?=some (some v)->Vis X.env.scope x->∃ u,RelV v u/\Look X.env s.heap m x u
 cell:∀ x c,X.env.cells.lookup x=some c->∃ v,s.heap.IsCell c v
 free:H X.env.locals=none
 freeC:∀ x c,X.env.cells.lookup x=some c->H c=none
 pin:∀ p∈X.pn++pins,s.heap.get? p.1=some p.2/\H p.1=none/\p.1≠X.env.locals/\p.1 ∉ X.fs/\∀ v,p.2.data≠.cell v
 hok:HOk X.prog X.w H s.heap
 len:σ.length=X.N.length
section
variable {X:Cx}{pins:List (Addr × Obj)}{σ:List (Option V)}{H H':Hp}{s:Shared}{h':Heap}
theorem Cx.Ok.nofr (ok:X.Ok) {b:Addr}{o:Obj} (e:X.base.get? b=some o):b ∉ X.fs:=fun hb=>by
 have:=(ok.funs.mem hb).1
 rw[e] at this;cases this
theorem Inv.bs (I:Inv X pins σ H s):∀ b o,X.base.get? b=some o->s.heap.get? b=some o/\H b=none:=fun b o e=>
 ⟨I.base.keep b o (I.ok.bs b o e).1 (I.ok.bs b o e).2 (I.ok.nofr e) (I.ok.noex b o e),I.base.free b o (I.ok.bs b o e).1 (I.ok.bs b o e).2 (I.ok.noex b o e)⟩
theorem Inv.bk (I:Inv X pins σ H s):∀ b o,X.base.get? b=some o->s.heap.get? b=some o:=fun b o e=>(I.bs b o e).1
theorem Inv.mod (I:Inv X pins σ H s):Mod X.K X.mg X.base:=I.ok.mod
theorem Inv.kIn (I:Inv X pins σ H s):X.K.In s.heap:=I.ok.mod.kin.keeps I.bk
theorem Inv.lt (I:Inv X pins σ H s):X.env.locals<s.heap.objs.size:=let ⟨_,hn,_⟩:=I.loc;hn.lt
theorem Inv.sz (I:Inv X pins σ H s):X.s₀.heap.objs.size<=s.heap.objs.size:=Ybx I.ok.above (Ybj I.lt)
theorem Inv.nofs (I:Inv X pins σ H s) {a:Addr} (h:s.heap.objs.size<=a):a ∉ X.fs:=fun hb=>by
 obtain⟨_,o,ho,_⟩:=I.ok.funs.mem hb;exact absurd (Yas (Yaj ho) (Ybx I.sz h)) (Ybt _)
theorem Inv.cne (I:Inv X pins σ H s):∀ x c,X.env.cells.lookup x=some c->c≠X.env.locals:=fun x c e z=>by
 obtain⟨v,o,ho,hd⟩:=I.cell x c e;obtain⟨m,⟨o',es,ep,ho',hd',_⟩,_⟩:=I.loc;rw[z,ho'] at ho;cases ho;rw[hd'] at hd;cases hd
theorem Inv.funs (I:Inv X pins σ H s):s.heap.FunFrames X.base X.outer:=by
 have all:∀ (l:List Env),(∀ b∈frs l,b∈X.fs)->X.s₀.heap.FunFrames X.base l->s.heap.FunFrames X.base l:=by
  intro l
  induction l with
  | nil=>intro _ _;trivial
  | cons env r ih=>
   intro hs hl;obtain⟨hk,⟨L,o,hf,hn,ho,hd⟩,hr⟩:=hl;have hL:L∈X.fs:=hs L (by unfold frs;rw[Ybo,hf];exact YaC);obtain⟨sl,e⟩:=I.base.slot L o ho (I.ok.frf L hL) hL fun z=>I.ok.exfs L z hL;exact⟨hk,⟨L,_,hf,hn,e,hd⟩,ih (fun b hb=>hs b (by unfold frs;rw[Ybo,hf];exact Yap _ hb)) hr⟩
 exact all X.outer (fun _ hb=>hb) I.ok.funs
theorem Inv.stack (I:Inv X pins σ H s):s.heap.FunFrames X.base X.stack:=by
 rcases I.ok.stk with e | ⟨e,hf⟩
 ·rw[e];exact I.funs
 ·rw[e];obtain⟨m,hn,_⟩:=I.loc;refine .cons (by rw[I.ok.kind];decide) hf hn ?_ I.funs;exact Ydn (Ybx I.ok.bsz I.ok.above)
theorem Inv.stkSub (I:Inv X pins σ H s):∀ b∈frs X.stack,b∈X.env.locals::X.fs:=fun b hb=>by
 rcases I.ok.stk with e | ⟨e,hf⟩
 ·rw[e] at hb;exact Yap _ hb
 ·rw[e] at hb;unfold frs at hb;rw[Ybo,hf] at hb;exact hb
theorem Inv.stkFree (I:Inv X pins σ H s):∀ b∈frs X.stack,H b=none:=fun b hb=>by
 rcases Yah.mp (I.stkSub b hb) with e | hb
 ·rw[e];exact I.free
 ·obtain⟨_,o,ho,_⟩:=I.ok.funs.mem hb;exact I.base.free b o ho (I.ok.frf b hb) fun z=>I.ok.exfs b z hb
theorem Inv.step {g':Array GenState}{t':Nat}{d':Drawn}{ch:List Addr} (I:Inv X pins σ H s)
  (hch:∀ b∈ch,(b∈X.ex∨X.s₀.heap.objs.size<=b)/\b≠X.env.locals/\(∀ x c,X.env.cells.lookup x=some c->c≠b)/\∀ p∈X.pn++pins,p.1≠b)
  (keep:∀ b o,b≠X.env.locals->b ∉ X.fs->b ∉ ch->s.heap.get? b=some o->H b=none->h'.get? b=some o)
  (slot:∀ b o,b≠X.env.locals->b∈X.fs->b ∉ ch->s.heap.get? b=some o->H b=none->∃ sl,h'.get? b=some { o with slots:=sl }) (free:∀ b o,b ∉ ch->s.heap.get? b=some o->H b=none->H' b=none)
  (there:∀ b o,b ∉ ch->s.heap.get? b=some o->∃ o',h'.get? b=some o')
  (tups:∀ b xs,H b=some (.tup xs)->H' b=some (.tup xs)) (frzs:∀ b o u,H b=some (.frz o u)->H' b=some (.frz o u)) (tbls:∀ b ps,H b=some (.tbl ps)->∃ more,H' b=some (.tbl (ps++more)))
  (ns:∀ m,s.heap.Ns X.env.locals m->h'.Ns X.env.locals m) (hok:HOk X.prog X.w H' h') (hg:AllBare g') :
  Inv X pins σ H' { s with heap:=h',gens:=g',drawn:=d',toks:=t' }:=by
 have neL:∀ b o,X.s₀.heap.get? b=some o->b≠X.env.locals:=fun b o e=>YaB (Yas (Yaj e) I.ok.above);have neC:∀ b o,X.s₀.heap.get? b=some o->b ∉ X.ex->b ∉ ch:=fun b o e hx hb=>by
  rcases (hch b hb).1 with z | z
  ·exact hx z
  ·exact absurd (Yas (Yaj e) z) (Ybt _)
 have cellK:∀ x c,X.env.cells.lookup x=some c->∀ v,s.heap.IsCell c v->h'.IsCell c v:=fun x c e v ⟨o,ho,hd⟩=>by
  have nch:c ∉ ch:=fun z=>(hch c z).2.2.1 x c e rfl;by_cases hc:c∈X.fs
  ·obtain⟨sl,q⟩:=slot c o (I.cne x c e) hc nch ho (I.freeC x c e);exact⟨_,q,hd⟩
  ·exact⟨o,keep c o (I.cne x c e) hc nch ho (I.freeC x c e),hd⟩
 refine⟨I.ok,I.os,hg,⟨fun b o e n hb hx=>?_,fun b o e n hb hx=>?_,fun b o e n hx=>?_,fun b o e hx=>?_,fun b xs e=>tups b xs (I.base.tups b xs e),fun b o xs e=>frzs b o xs (I.base.frzs b o xs e),fun b ps e=>?_⟩,?_,fun x c e=>?_,?_,fun x c e=>?_,fun p hp=>?_,hok,I.len⟩
 ·exact keep b o (neL b o e) hb (neC b o e hx) (I.base.keep b o e n hb hx) (I.base.free b o e n hx)
 ·obtain⟨sl,e1⟩:=I.base.slot b o e n hb hx;obtain⟨sl',e2⟩:=slot b _ (neL b o e) hb (neC b o e hx) e1 (I.base.free b o e n hx);exact⟨sl',e2⟩
 ·obtain⟨o',e1⟩:=I.base.there b o e hx;exact free b o' (neC b o e hx) e1 (I.base.free b o e n hx)
 ·obtain⟨o',e1⟩:=I.base.there b o e hx;exact there b o' (neC b o e hx) e1
 ·obtain⟨m1,e1⟩:=I.base.tbls b ps e;obtain⟨m2,e2⟩:=tbls b _ e1;exact⟨m1++m2,by rw[e2,Array.append_assoc]⟩
 ·obtain⟨m,hn,hl⟩:=I.loc;refine⟨m,ns m hn,fun i x v e1 e2 e3=>?_⟩;obtain⟨u,r,l⟩:=hl i x v e1 e2 e3;refine⟨u,r,?_⟩;rcases l with l | ⟨k,c,e,z⟩
  ·exact .inl l
  ·exact .inr ⟨k,c,e,cellK x c e _ z⟩
 ·obtain⟨v,z⟩:=I.cell x c e;exact⟨v,cellK x c e v z⟩
 ·obtain⟨m,⟨o,_,_,ho,_⟩,_⟩:=I.loc;exact free _ o (fun z=>(hch _ z).2.1 rfl) ho I.free
 ·obtain⟨v,o,ho,hd⟩:=I.cell x c e;exact free c o (fun z=>(hch c z).2.2.1 x c e rfl) ho (I.freeC x c e)
 ·obtain⟨e,n,ne,nf,d⟩:=I.pin p hp;have nch:p.1 ∉ ch:=fun z=>(hch p.1 z).2.2.2 p hp rfl;exact⟨keep p.1 p.2 ne nf nch e n,free p.1 p.2 nch e n,ne,nf,d⟩
theorem Inv.un {t':Nat} (I:Inv X pins σ H s) (u:Un X.fs [] H H' s.heap h') (hok:HOk X.prog X.w H' h'):Inv X pins σ H' { s with heap:=h',toks:=t' }:=by
 obtain⟨m,⟨o,es,ep,ho,r⟩,_⟩:=id I.loc;obtain⟨sl,hL⟩:=u.any ho I.free (by simp);exact I.step (g':=s.gens) (d':=s.drawn) (ch:=[]) (fun _ z=>nomatch z) (fun b o _ hb _ e n=>u.keep b o e n hb (by simp)) (fun b o _ hb _ e n=>u.slot b o e n hb (by simp)) (fun b o _ e n=>u.free b o e n (by simp)) (fun b o _ e=>u.there b o e (by simp)) u.tups u.frzs u.tbls (fun m' hm=>by
  obtain⟨o',es',ep',ho',r'⟩:=hm;rw[ho] at ho';cases ho';exact⟨_,es',ep',hL,r'⟩) hok I.bare
theorem Inv.call {g':Array GenState}{t':Nat}{d':Drawn}{ch:List Addr} (I:Inv X pins σ H s) (u:Un (frs X.stack) ch H H' s.heap h') (hok:HOk X.prog X.w H' h') (hg:AllBare g')
  (hch:∀ b∈ch,(b∈X.ex∨X.s₀.heap.objs.size<=b)/\b≠X.env.locals/\(∀ x c,X.env.cells.lookup x=some c->c≠b)/\∀ p∈X.pn++pins,p.1≠b) :
  Inv X pins σ H' { s with heap:=h',gens:=g',drawn:=d',toks:=t' }:=by
 obtain⟨m,⟨o,es,ep,ho,r⟩,_⟩:=id I.loc;obtain⟨sl,hL⟩:=u.any ho I.free fun z=>(hch _ z).2.1 rfl;exact I.step (ch:=ch) hch (fun b o hL hb hc e n=>u.keep b o e n (fun z=>(Yah.mp (I.stkSub b z)).elim hL hb) hc) (fun b o _ _ hc e n=>u.any e n hc) (fun b o hc e n=>u.free b o e n hc) (fun b o hc e=>u.there b o e hc) u.tups u.frzs u.tbls (fun m' hm=>by
  obtain⟨o',es',ep',ho',r'⟩:=hm;rw[ho] at ho';cases ho';exact⟨_,es',ep',hL,r'⟩) hok hg
theorem Inv.turned {t':Nat}{it:Addr} (I:Inv X pins σ H s) (k:∀ b o,b≠it->s.heap.get? b=some o->h'.get? b=some o) (hn:H it=none) (hL:it≠X.env.locals)
  (h1:it∈X.ex∨X.s₀.heap.objs.size<=it) (h2:∀ x c,X.env.cells.lookup x=some c->c≠it) (h3:∀ p∈X.pn++pins,p.1≠it):Inv X pins σ H { s with heap:=h',toks:=t' }:=by
 have nit:∀ b u,H b=some u->b≠it:=fun b u e z=>by rw[z,hn] at e;cases e
 refine I.step (g':=s.gens) (d':=s.drawn) (ch:=[it]) (fun b hb=>?_) (fun b o _ _ hc e _=>k b o (fun z=>hc (by simp[z])) e) (fun b o _ _ hc e _=>⟨o.slots,k b o (fun z=>hc (by simp[z])) e⟩) (fun _ _ _ _ n=>n)
  (fun b o hc e=>⟨o,k b o (fun z=>hc (by simp[z])) e⟩) (fun _ _ e=>e) (fun _ _ _ e=>e) (fun b ps e=>⟨#[],by rw[e];simp⟩) (fun m hm=>?_) (fun b u e=>?_) I.bare
 ·have e:b=it:=by simpa using hb
  subst e;exact⟨h1,hL,h2,h3⟩
 ·obtain⟨o,es,ep,ho,r⟩:=hm;exact⟨o,es,ep,k _ o (Ybn hL) ho,r⟩
 ·refine (I.hok b u e).stay (fun c v hc q=>k c v ?_ q) (fun _ q=>q) fun _ _ q=>q;rcases hc with z | z
  ·rw[z];exact nit b u e
  ·exact nit c _ z
theorem Inv.tok (I:Inv X pins σ H s) (t:Nat):Inv X pins σ H { s with toks:=t }:=I.un (h':=s.heap) (t':=t) Un.refl I.hok
theorem Inv.kept {t':Nat} (I:Inv X pins σ H s) (k:∀ b u,s.heap.get? b=some u->h'.get? b=some u):Inv X pins σ H { s with heap:=h',toks:=t' }:=I.un (Un.kept k) (I.hok.kept k)
theorem Inv.laid {a:Addr}{o:HO}{t':Nat} (I:Inv X pins σ H s) (k:∀ b u,s.heap.get? b=some u->h'.get? b=some u) (hp:s.heap.objs.size<=a) (new:ObjOk X.prog X.w (upd H a o) h' a o) :
  Inv X pins σ (upd H a o) { s with heap:=h',toks:=t' }:=I.un (Un.laid k hp (I.hok.fresh hp)) (I.hok.laid k hp new)
theorem Inv.write {x e:Addr}{o:HO}{t':Nat} (I:Inv X pins σ H s) (mu:Mut (H x)) (he:e=x∨H e=some (.own x)) (k:∀ b u,b≠e->s.heap.get? b=some u->h'.get? b=some u) (heo:∃ u,h'.get? e=some u)
  (new:ObjOk X.prog X.w (upd H x o) h' x o):Inv X pins σ (upd H x o) { s with heap:=h',toks:=t' }:=I.un (Un.write mu he k heo) (I.hok.write mu he k heo new)
theorem Inv.weak {σ':List (Option V)} (I:Inv X pins σ H s) (hl:σ'.length=σ.length) (w:∀ (i:Nat) v,σ'[i]?=some (some v)->σ[i]?=some (some v)):Inv X pins σ' H s :=
 ⟨I.ok,I.os,I.bare,I.base,let ⟨m,hn,hl'⟩:=I.loc;⟨m,hn,fun i x v e1 e2 e3=>hl' i x v e1 (w i v e2) e3⟩,I.cell,I.free,I.freeC,I.pin,I.hok,hl.trans I.len⟩
theorem Inv.pins_of {pins':List (Addr × Obj)} (I:Inv X pins σ H s) (h:∀ p∈pins',s.heap.get? p.1=some p.2/\H p.1=none/\p.1≠X.env.locals/\p.1 ∉ X.fs/\∀ v,p.2.data≠.cell v):Inv X pins' σ H s :=
 ⟨I.ok,I.os,I.bare,I.base,I.loc,I.cell,I.free,I.freeC,fun p hp=>(Yak.mp hp).elim (fun z=>I.pin p (YaU _ z)) (h p),I.hok,I.len⟩
theorem Zei {N:List Str} (hN:N.Nodup) {i j:Nat}{x:Str} (a:N[i]?=some x) (b:N[j]?=some x):i=j:=by
 obtain⟨h1,e1⟩:=Yae.mp a;obtain⟨h2,e2⟩:=Yae.mp b;exact (Yfq hN).mp (e1.trans e2.symm)
theorem ZeI {M:Model}{A:Around}{E:Value->Shared->Prop}{i:Nat}{x:Str}{v:V}{u:Value}{Q:Unit->Shared->Prop} (I:Inv X pins σ H s) (hN:X.N.Nodup) (hi:X.N[i]?=some x) (hx:Loc X.env.scope x) (r:RelV v u)
  (h:∀ s',Inv X pins (σ.set i (some v)) H s'->(∃ a,Ycs a s.heap s'.heap/\(a=X.env.locals∨X.env.cells.lookup x=some a))->Q () s') (hf:X.fn x=true∨X.env.scope.names.lookup x=some .local:=by first | exact .inl rfl | exact .inr rfl | assumption):wpAny M A (storeName X.env x u) Q E s:=by
 obtain⟨m,hn,hl⟩:=id I.loc;have hcls:(X.env.scope.kind == .class || (X.env.scope.kind == .module && X.env.locals != X.env.globals))=false:=by rw[I.ok.kind];rfl
 have hiσ:i<σ.length:=by rw[I.len];exact (Yae.mp hi).1
 have cne:=I.cne;have tracked:∀ {a:Addr}{h':Heap},(∃ o,s.heap.get? a=some o/\H a=none)->Ycs a s.heap h'->HOk X.prog X.w H h':=fun {a h'} ha hs b ob e=>by
  obtain⟨_,_,hfree⟩:=ha;refine (I.hok b ob e).stay (fun c w' hc q=>(hs.2 c ?_).trans q) (fun _ q=>q) fun _ _ q=>q;rintro rfl;rcases hc with rfl | hc
  ·rw[hfree] at e;cases e
  ·rw[hfree] at hc;cases hc
 rcases hx with hk | hk
 ·refine wpAny_storeName_local hk hn (fun h' hn' hs=>?_) hcls;obtain⟨oL,_,_,hoL,_⟩:=id hn;refine h _ ⟨I.ok,I.os,I.bare,⟨fun b o e n hb hx=>?_,fun b o e n hb hx=>?_,I.base.free,fun b o e hx=>?_,I.base.tups,I.base.frzs,I.base.tbls⟩,⟨_,hn',fun j y v' e1 e2 e3=>?_⟩,fun y c e=>?_,I.free,I.freeC,fun p hp=>?_,tracked ⟨oL,hoL,I.free⟩ hs,by simpa using I.len⟩ ⟨_,hs,.inl rfl⟩
  ·exact (hs.2 b (YaB (Yas (Yaj e) I.ok.above))).trans (I.base.keep b o e n hb hx)
  ·obtain⟨sl,e1⟩:=I.base.slot b o e n hb hx;exact⟨sl,(hs.2 b (YaB (Yas (Yaj e) I.ok.above))).trans e1⟩
  ·obtain⟨o',e1⟩:=I.base.there b o e hx;exact⟨o',(hs.2 b (YaB (Yas (Yaj e) I.ok.above))).trans e1⟩
  ·by_cases hj:j=i
   ·subst hj;rw[hi] at e1;cases e1;rw[Yc8 hiσ] at e2;cases e2;exact⟨u,r,.inl ⟨hk,by simp⟩⟩
   ·rw[YaO (Ybn hj)] at e2;obtain⟨u',r',q⟩:=hl j y v' e1 e2 e3;refine⟨u',r',?_⟩;rcases q with ⟨k,e⟩ | ⟨k,c,e,z⟩
    ·refine .inl ⟨k,?_⟩;have:y≠x:=fun e=>hj (Zei hN e1 (e ▸ hi));simp[this,e]
    ·exact .inr ⟨k,c,e,z.sameBut hs (cne y c e)⟩
  ·obtain⟨w',z⟩:=I.cell y c e;exact⟨w',z.sameBut hs (cne y c e)⟩
  ·obtain⟨e,n,ne,nf,d⟩:=I.pin p hp;exact⟨(hs.2 p.1 ne).trans e,n,ne,nf,d⟩
 ·have hfn:X.fn x=true:=by
   rcases hf with z | z
   ·exact z
   ·rw[z] at hk;cases hk
  obtain⟨c,hc⟩:=I.ok.has x (.inl hk);obtain⟨w',z⟩:=I.cell x c hc;refine wpAny_storeName_cell I.ok.kind hk hc z (fun h' hc' hs=>?_);obtain⟨oc,hoc,hocd⟩:=id z;refine h { s with heap:=h' } ⟨I.ok,I.os,I.bare,⟨fun b o e n hb hx=>?_,fun b o e n hb hx=>?_,I.base.free,fun b o e hx=>?_,I.base.tups,I.base.frzs,I.base.tbls⟩,⟨m,hn.sameBut hs (Ybn (cne x c hc)),fun j y v' e1 e2 e3=>?_⟩,fun y c' e=>?_,I.free,I.freeC,fun p hp=>?_,tracked ⟨oc,hoc,I.freeC x c hc⟩ hs,by simpa using I.len⟩ ⟨c,hs,.inr hc⟩
  ·exact (hs.2 b (YaB (Yas (Yaj e) (I.ok.cab x c hfn hc)))).trans (I.base.keep b o e n hb hx)
  ·obtain⟨sl,e1⟩:=I.base.slot b o e n hb hx;exact⟨sl,(hs.2 b (YaB (Yas (Yaj e) (I.ok.cab x c hfn hc)))).trans e1⟩
  ·obtain⟨o',e1⟩:=I.base.there b o e hx;exact⟨o',(hs.2 b (YaB (Yas (Yaj e) (I.ok.cab x c hfn hc)))).trans e1⟩
  ·by_cases hj:j=i
   ·subst hj;rw[hi] at e1;cases e1;rw[Yc8 hiσ] at e2;cases e2;exact⟨u,r,.inr ⟨.inl hk,c,hc,hc'⟩⟩
   ·rw[YaO (Ybn hj)] at e2;obtain⟨u',r',q⟩:=hl j y v' e1 e2 e3;refine⟨u',r',?_⟩;rcases q with q | ⟨k,c',e,z'⟩
    ·exact .inl q
    ·refine .inr ⟨k,c',e,z'.sameBut hs ?_⟩;rintro rfl;exact hj (Zei hN e1 (I.ok.inj _ _ _ e hc ▸ hi))
  ·by_cases hcc:c'=c
   ·subst hcc;exact⟨_,hc'⟩
   ·obtain⟨w2,z2⟩:=I.cell y c' e;exact⟨w2,z2.sameBut hs hcc⟩
  ·obtain⟨e,n,ne,nf,d⟩:=I.pin p hp;refine⟨(hs.2 p.1 ?_).trans e,n,ne,nf,d⟩;intro q;rw[q,hoc] at e;have q':oc=p.2:=YaF e;exact d w' (by rw[<- q'];exact hocd)
theorem ZdX {M:Model}{A:Around}{E:Value->Shared->Prop}{i:Nat}{x:Str}{v:V}{u:Value}{Q:Unit->Shared->Prop} (I:Inv X pins σ H s) (hN:X.N.Nodup) (hi:X.N[i]?=some x) (hx:Loc X.env.scope x) (r:RelV v u)
  (h:∀ s',Inv X pins (σ.set i (some v)) H s'->Q () s') (hf:X.fn x=true∨X.env.scope.names.lookup x=some .local:=by first | exact .inl rfl | exact .inr rfl | assumption):wpAny M A (storeName X.env x u) Q E s :=
 ZeI I hN hi hx r (fun s' I' _=>h s' I') hf
theorem Inv.call' {s':Shared}{ch:List Addr} (I:Inv X pins σ H s) (ho:s'.os=s.os) (u:Un (frs X.stack) ch H H' s.heap s'.heap) (hok:HOk X.prog X.w H' s'.heap) (hg:AllBare s'.gens)
  (hch:∀ b∈ch,(b∈X.ex∨X.s₀.heap.objs.size<=b)/\b≠X.env.locals/\(∀ x c,X.env.cells.lookup x=some c->c≠b)/\∀ p∈X.pn++pins,p.1≠b):Inv X pins σ H' s':=by
 obtain⟨h',g',d',t',o'⟩:=s';have e:o'=s.os:=ho;subst e;exact I.call (g':=g') (t':=t') (d':=d') u hok hg hch
end
abbrev XK:=Value->Option Addr->Hp->Prop
abbrev St:=List (Option V)
abbrev VK:=V->Hp->Prop
abbrev TE:=St->Hp->VK->Prop
abbrev TT:=St->Hp->(Bool->Hp->Prop)->Prop
abbrev TA:=St->Hp->(List V->Hp->Prop)->Prop
structure Ends where
 nx:St->Hp->Prop
 rt:VK
 bk:St->Hp->Prop:=fun _ _=>False
 ct:St->Hp->Prop:=fun _ _=>False
abbrev TS:=Ends->St->Hp->Prop
def EP (X:Cx) (pins:List (Addr × Obj)) (σ:St) (Q:VK) (u:Value) (s':Shared):Prop:=∃ v H',Inv X pins σ H' s'/\RelV v u/\Q v H'
def TP (X:Cx) (pins:List (Addr × Obj)) (σ:St) (Q:Bool->Hp->Prop) (b:Bool) (s':Shared):Prop:=∃ H',Inv X pins σ H' s'/\Q b H'
def AP (X:Cx) (pins:List (Addr × Obj)) (σ:St) (Q:List V->Hp->Prop) (us:List Value) (s':Shared):Prop:=∃ vs H',Inv X pins σ H' s'/\Vals vs us/\Q vs H'
def SP (X:Cx) (pins:List (Addr × Obj)) (D:Ends) (f:Flow) (s':Shared):Prop :=
 match f with
 | .next=>∃ σ' H',Inv X pins σ' H' s'/\D.nx σ' H'
 | .brk=>∃ σ' H',Inv X pins σ' H' s'/\D.bk σ' H'
 | .cont=>∃ σ' H',Inv X pins σ' H' s'/\D.ct σ' H'
 | .ret u=>∃ v σ' H',Inv X pins σ' H' s'/\RelV v u/\D.rt v H'
def PE (X:Cx) (e:Expr) (t:TE):Prop :=
 ∀ (pins:List (Addr × Obj)) (s:Shared) (σ:St) (H:Hp) (Q:VK),Inv X pins σ H s->t σ H Q->wpAny (model X.prog X.w) X.A (eval e X.env) (EP X pins σ Q) X.xe s
def PT (X:Cx) (e:Expr) (t:TT):Prop :=
 ∀ (pins:List (Addr × Obj)) (s:Shared) (σ:St) (H:Hp) (Q:Bool->Hp->Prop),Inv X pins σ H s->t σ H Q->wpAny (model X.prog X.w) X.A (isTrue e X.env (eval e X.env)) (TP X pins σ Q) X.xe s
def PW (X:Cx) (e:Expr) (t:TT):Prop :=
 ∀ (whole:Sem Value) (pins:List (Addr × Obj)) (s:Shared) (σ:St) (H:Hp) (Q:Bool->Hp->Prop),Inv X pins σ H s->t σ H Q->wpAny (model X.prog X.w) X.A (isTrue e X.env whole) (TP X pins σ Q) X.xe s
theorem PW.pt {X:Cx}{e:Expr}{t:TT} (h:PW X e t):PT X e t:=h _
def PA (X:Cx) (es:List Expr) (t:TA):Prop :=
 ∀ (pos:Pos) (pins:List (Addr × Obj)) (s:Shared) (σ:St) (H:Hp) (Q:List V->Hp->Prop),Inv X pins σ H s->t σ H Q->wpAny (model X.prog X.w) X.A (spliced (backTo pos (starEach es X.env))) (AP X pins σ Q) X.xe s
def PS (X:Cx) (st:Stmt) (t:TS):Prop :=
 ∀ (pins:List (Addr × Obj)) (s:Shared) (σ:St) (H:Hp) (D:Ends),Inv X pins σ H s->t D σ H->wpAny (model X.prog X.w) X.A (exec st X.env) (SP X pins D) X.xe s
def PSs (X:Cx) (st:List Stmt) (t:TS):Prop :=
 ∀ (pins:List (Addr × Obj)) (s:Shared) (σ:St) (H:Hp) (D:Ends),Inv X pins σ H s->t D σ H->wpAny (model X.prog X.w) X.A (execs st X.env) (SP X pins D) X.xe s
theorem thn {α:Type}{t:Sem α}{Q Q':α->Shared->Prop}{M:Model}{A:Around}{E:Value->Shared->Prop}{s:Shared} (h:wpAny M A t Q E s) (hQ:∀ a s,Q a s->Q' a s):wpAny M A t Q' E s:=wpAny_mono h hQ fun _ _ x=>x
end L2
namespace L2
open PySem PySem.Spec PyProof.Rows
section
variable {X:Cx}
def tVar (i:Nat):TE:=fun σ H Q=>∃ v,σ[i]?=some (some v)/\Q v H
def tC (v:V):TE:=fun _ H Q=>Q v H
theorem Zks {i:Nat}{x:Str}{pos:Pos} (hN:X.N[i]?=some x) (hv:Vis X.env.scope x) (hd:(x == ("__debug__":Str))=false:=by decide) (hcd:(x == ("__classdict__":Str))=false:=by decide):PE X (.Name x pos) (tVar i):=by
 intro pins s σ H Q I h;obtain⟨v,e,h⟩:=h;obtain⟨m,hn,hl⟩:=I.loc;obtain⟨u,r,l⟩:=hl i x v hN e hv;have fin:EP X pins σ Q u s:=⟨v,H,I,r,h⟩
 rcases l with ⟨hk,hm⟩ | ⟨hk,c,hc,hcell⟩
 ·exact wpAny_Name (wpAny_loadName_local I.ok.kind hk hn hm fin) hd
 ·rcases hk with hk | hk
  ·exact wpAny_Name (wpAny_loadName_cell I.ok.kind hk hc hcell fin) hd
  ·exact wpAny_Name (wpAny_loadName_free I.ok.kind hk hc hcell fin hcd) hd
theorem Zae {i j pos}:PE X (.Constant (.int i) j pos) (tC (.int i)):=fun _ _ _ H _ I h=>wpAny_Constant_int ⟨.int i,H,I.tok _,⟨_,rfl⟩,h⟩
theorem Zeg {b j pos}:PE X (.Constant (.bool b) j pos) (tC (.bl b)):=fun _ _ _ H _ I h=>Constant_bool ⟨.bl b,H,I,rfl,h⟩
theorem ZhS {j pos}:PE X (.Constant .none j pos) (tC .non):=fun _ _ _ H _ I h=>Constant_none ⟨.non,H,I,rfl,h⟩
theorem Zbh {x j pos}:PE X (.Constant (.str x) j pos) (tC (.str x)):=fun _ _ _ H _ I h=>Ye0 ⟨.str x,H,I.tok _,⟨_,rfl⟩,h⟩
def Gl (X:Cx) (x:Str):Prop:=X.env.kindOf x=some .globalImplicit
theorem Zek {E:Value->Shared->Prop}{pins:List (Addr × Obj)}{s:Shared}{σ:St}{H:Hp}{x:Str}{u:Value}{pos:Pos}{Q:Value->Shared->Prop} (I:Inv X pins σ H s) (hg:Gl X x) (hm:X.mg x=some u) (h:Q u s)
  (hd:(x == ("__debug__":Str))=false:=by decide):wpAny (model X.prog X.w) X.A (eval (.Name x pos) X.env) Q E s :=
 Yd4 I.ok.kind hg (Calls.loadGlobal_global (by rw[I.ok.glob];exact I.mod.glob.keeps I.bk) hm h) hd
theorem ZdN {E:Value->Shared->Prop}{pins:List (Addr × Obj)}{s:Shared}{σ:St}{H:Hp}{x:Str}{u:Value}{pos:Pos}{Q:Value->Shared->Prop} (I:Inv X pins σ H s) (hg:Gl X x) (hm:X.mg x=none) (hv:bootBuiltins x=some u) (h:Q u s)
  (hn:x≠"__name__":=by decide) (hd:(x == ("__debug__":Str))=false:=by decide):wpAny (model X.prog X.w) X.A (eval (.Name x pos) X.env) Q E s:=by
 obtain⟨mb,h1,h2⟩:=I.mod.blt;exact Yd4 I.ok.kind hg (Calls.loadGlobal_builtin (by rw[I.ok.glob];exact I.mod.glob.keeps I.bk) hm (by rw[I.ok.blt];exact h1.keeps I.bk) ((h2 x hn).trans hv) h) hd
theorem ZfI {x:Str}{v:V}{u:Value}{pos:Pos} (hg:Gl X x) (hm:X.mg x=some u) (r:RelV v u) (hd:(x == ("__debug__":Str))=false:=by decide):PE X (.Name x pos) (tC v) :=
 fun _ _ _ H _ I h=>Zek I hg hm ⟨v,H,I,r,h⟩ hd
theorem Zlc {x:Str}{v:V}{u:Value}{pos:Pos} (hg:Gl X x) (hm:X.mg x=none) (hv:bootBuiltins x=some u) (r:RelV v u) (hn:x≠"__name__":=by decide) (hd:(x == ("__debug__":Str))=false:=by decide):PE X (.Name x pos) (tC v) :=
 fun _ _ _ H _ I h=>ZdN I hg hm hv ⟨v,H,I,r,h⟩ hn hd
variable {a b:Expr}{ta tb:TE}{pos:Pos}
def PC (X:Cx) (op:CmpOp) (a b:Expr) (t:TE):Prop :=
 ∀ (pins:List (Addr × Obj)) (s:Shared) (σ:St) (H:Hp) (Q:VK),Inv X pins σ H s->t σ H Q ->
  wpAny (model X.prog X.w) X.A (eval a X.env) (fun v s₁=>wpAny (model X.prog X.w) X.A (eval b X.env) (fun u s₂=>wpAny (model X.prog X.w) X.A (compareOp op v u) (EP X pins σ Q) X.xe s₂) X.xe s₁) X.xe s
theorem ZjP (b:Expr) {op:CmpOp} (h:op≠.In) (h2:op≠.NotIn):behindInMarks op b=false:=by
 have e1:(op == CmpOp.In)=false:=by cases op <;> first | rfl | exact absurd rfl h
 have e2:(op == CmpOp.NotIn)=false:=by cases op <;> first | rfl | exact absurd rfl h2
 cases b <;> simp[behindInMarks,e1,e2]
def ZmJ (ta:TE):TE:=fun σ H Q=>ta σ H fun x H1=>Q (.bl (!decide (x=.non))) H1
theorem RelV.none_iff {x:V}{v:Value} (r:RelV x v):(v == YbR)=decide (x=.non):=by
 cases x with
 | non=>cases r;rfl
 | bl _=>cases r;rfl
 | int _=>obtain⟨t,rfl⟩:=r;rfl
 | str _=>obtain⟨t,rfl⟩:=r;rfl
 | byt _=>obtain⟨t,rfl⟩:=r;rfl
 | flt _=>obtain⟨t,rfl⟩:=r;rfl
 | ref _=>cases r;rfl
 | ty _=>cases r;rfl
theorem Zld {j pos'} (ha:PE X a ta):PC X .IsNot a (.Constant .none j pos') (ZmJ ta):=by
 intro pins s σ H Q I h;refine thn (ha pins s σ H _ I h) fun v s1 ⟨x,H1,I1,r1,q1⟩=>?_;exact Constant_none (isnot_none_gen ⟨.bl _,H1,I1,by rw[r1.none_iff];rfl,q1⟩)
def tB (t:TE):TT:=fun σ H Q=>t σ H fun x H1=>∃ c,x=.bl c/\Q c H1
theorem Zl6 {op:CmpOp}{t:TE} (h:PC X op a b t) (h1:behindInMarks op b=false:=by first | exact ZjP _ (by decide) (by decide) | rfl):PT X (.Compare a [op] [b] pos) (tB t):=by
 intro pins s σ H Q I hw;refine wpAny_isTrue_Compare1 (thn (h pins s σ H _ I hw) fun v s1 h1=>thn h1 fun u s2 h2=>thn h2 fun c s3 ⟨x,H1,I1,r1,q1⟩=>?_) h1;obtain⟨d,rfl,q⟩:=q1;cases r1;exact wpAny_truthy_bool ⟨H1,I1,q⟩
theorem Zbm {e:Expr}{t:TE} (h:PE X e t) (he:∀ whole,isTrue e X.env whole=(do let v <- whole;standAt e.pos;holding [v] (truthy v)):=by intro _;rfl):PT X e (tB t):=by
 intro pins s σ H Q I hw;refine isTrue_plain (thn (h pins s σ H _ I hw) fun v s1 ⟨x,H1,I1,r1,q1⟩=>?_) (he _);obtain⟨d,rfl,q⟩:=q1;cases r1;exact wpAny_truthy_bool ⟨H1,I1,q⟩
variable {tA tB':TT}{rest:List Expr}
def tAnd (t u:TT):TT:=fun σ H Q=>t σ H fun c H1=>if c=true then u σ H1 Q else Q false H1
def tOr (t u:TT):TT:=fun σ H Q=>t σ H fun c H1=>if c=true then Q true H1 else u σ H1 Q
def tNot (t:TT):TT:=fun σ H Q=>t σ H fun c H1=>Q (!c) H1
theorem ZhI (ha:PT X a tA):PW X (.BoolOp .And [a] pos) tA:=by
 intro wh pins s σ H Q I h;refine isTrue_and (thn (ha pins s σ H Q I h) fun c s1 e=>?_)
 cases c with
 | true=>exact isTrue_and_nil e
 | false=>exact e
theorem ZbG (ha:PT X a tA):PW X (.BoolOp .Or [a] pos) tA:=by
 intro wh pins s σ H Q I h;refine isTrue_or (thn (ha pins s σ H Q I h) fun c s1 e=>?_)
 cases c with
 | false=>exact isTrue_or_nil e
 | true=>exact e
theorem Zkp (ha:PT X a tA) (hb:PW X (.BoolOp .And (b::rest) pos) tB'):PW X (.BoolOp .And (a::b::rest) pos) (tAnd tA tB'):=by
 intro wh pins s σ H Q I h;refine isTrue_and (thn (ha pins s σ H _ I h) fun c s1 ⟨H1,I1,q1⟩=>?_)
 cases c with
 | true=>exact hb wh pins s1 σ H1 Q I1 q1
 | false=>exact⟨H1,I1,q1⟩
theorem Zb9 (ha:PT X a tA) (hb:PW X (.BoolOp .Or (b::rest) pos) tB'):PW X (.BoolOp .Or (a::b::rest) pos) (tOr tA tB'):=by
 intro wh pins s σ H Q I h;refine isTrue_or (thn (ha pins s σ H _ I h) fun c s1 ⟨H1,I1,q1⟩=>?_)
 cases c with
 | true=>exact⟨H1,I1,q1⟩
 | false=>exact hb wh pins s1 σ H1 Q I1 q1
theorem Za9 (ha:PT X a tA):PT X (.UnaryOp .Not a pos) (tNot tA):=by
 intro pins s σ H Q I h;exact isTrue_not (ha pins s σ H (fun c H1=>Q (!c) H1) I h)
def ZmM (ta tb:TE):TE:=fun σ H Q=>ta σ H fun x H1=>∃ c,x=.bl c/\if c=true then tb σ H1 Q else Q (.bl false) H1
def ZmI (ta:TE):TE:=fun σ H Q=>ta σ H fun x H1=>∃ c,x=.bl c/\Q (.bl (!c)) H1
theorem ZhR {op}{t:TE} (h:PE X a t):PE X (.BoolOp op [a] pos) t:=fun pins s σ H Q I hw=>BoolOp_one (h pins s σ H Q I hw)
theorem ZhU (ha:PE X a ta) (hb:PE X (.BoolOp .And (b::rest) pos) tb):PE X (.BoolOp .And (a::b::rest) pos) (ZmM ta tb):=by
 intro pins s σ H Q I h;refine BoolOp_and (thn (ha pins s σ H _ I h) fun v s1 ⟨x,H1,I1,r1,q1⟩=>?_);obtain⟨c,rfl,q1⟩:=q1;cases r1;refine wpAny_truthy_bool ?_
 cases c with
 | true=>exact hb pins s1 σ H1 Q I1 q1
 | false=>exact⟨.bl false,H1,I1,rfl,q1⟩
theorem Zkt (ha:PE X a ta):PE X (.UnaryOp .Not a pos) (ZmI ta):=by
 intro pins s σ H Q I h;refine UnaryOp_ (thn (ha pins s σ H _ I h) fun v s1 ⟨x,H1,I1,r1,q1⟩=>?_);obtain⟨c,rfl,q1⟩:=q1;cases r1;exact not_of (wpAny_truthy_bool ⟨.bl (!c),H1,I1,rfl,q1⟩)
end
end L2
namespace L2
open PySem PySem.Spec PyProof.Rows
def SqL (K:Yac) (H:Hp) (a:Addr) (xs:List V):Prop :=
 Rd H a (.lst xs) ∨
  ∃ (o:Obj) (its:Array Value) (n:Nat),K.lookup a=some o/\o.cls=.type "list"/\o.dict=none/\o.data=.seq its n/\its.size<=sizeLine/\Vals xs its.toList
def SqT (K:Yac) (H:Hp) (a:Addr) (xs:List V):Prop :=
 Rd H a (.tup xs) ∨
  ∃ (o:Obj) (its:Array Value) (n:Nat),K.lookup a=some o/\o.cls=.type "tuple"/\o.data=.seq its n/\its.size<=sizeLine/\Vals xs its.toList
def absV:Value->Option V
 | .none=>some .non
 | .bool b=>some (.bl b)
 | .int i _=>some (.int i)
 | .str x _=>some (.str x)
 | .bytes b _=>some (.byt b)
 | .float b _=>some (.flt b)
 | .ref a=>some (.ref a)
 | .type n=>some (.ty n)
 | _=>none
theorem RelV.abs {x:V}{u:Value} (r:RelV x u):absV u=some x:=by
 cases x with
 | non=>cases r;rfl
 | bl _=>cases r;rfl
 | int _=>obtain⟨t,rfl⟩:=r;rfl
 | str _=>obtain⟨t,rfl⟩:=r;rfl
 | byt _=>obtain⟨t,rfl⟩:=r;rfl
 | flt _=>obtain⟨t,rfl⟩:=r;rfl
 | ref _=>cases r;rfl
 | ty _=>cases r;rfl
theorem RelV.inj {x y:V}{u:Value} (r:RelV x u) (q:RelV y u):x=y:=YaF (r.abs.symm.trans q.abs)
theorem Vals.inj:∀ {xs ys:List V}{us:List Value},Vals xs us->Vals ys us->xs=ys
 | _,_,_,.nil,.nil=>rfl
 | _,_,_,.cons r t,.cons r' t'=>by rw[r.inj r',Vals.inj t t']
section
variable {X:Cx}{pins:List (Addr × Obj)}{σ:St}{H:Hp}{s:Shared}{a:Addr}{xs ys:List V}
theorem SqL.of {K:Yac} (h:H a=some (.lst xs)):SqL K H a xs:=.inl (.inl h)
theorem SqT.of {K:Yac} (h:H a=some (.tup xs)):SqT K H a xs:=.inl (.inl h)
theorem Inv.list (I:Inv X pins σ H s) (h:SqL X.K H a xs):∃ its:List Value,Vals xs its/\PlainL s.heap a its.toArray/\xs.length<=sizeLine:=by
 rcases h with h | ⟨o,its,n,hk,hc,hd,hs,hz,r⟩
 ·obtain⟨z,its,n,r,e⟩:=h.ok I.hok;exact⟨its,r,⟨_,n,e,rfl,rfl,rfl⟩,z⟩
 ·refine⟨its.toList,r,⟨o,n,I.kIn a o hk,hc,hd,by simpa using hs⟩,?_⟩;have e:=r.length;simp only[Yao] at e;omega
theorem Inv.tuple (I:Inv X pins σ H s) (h:SqT X.K H a xs):∃ its:List Value,Vals xs its/\IsTup s.heap a its.toArray/\xs.length<=sizeLine:=by
 rcases h with h | ⟨o,its,n,hk,hc,hs,hz,r⟩
 ·obtain⟨z,its,r,p⟩:=h.ok I.hok;exact⟨its,r,p.tup,z⟩
 ·refine⟨its.toList,r,⟨o,I.kIn a o hk,hc,n,by simpa using hs⟩,?_⟩;have e:=r.length;simp only[Yao] at e;omega
theorem Inv.list_inj (I:Inv X pins σ H s) (h:SqL X.K H a xs) (h':SqL X.K H a ys):xs=ys:=by
 obtain⟨its,r,⟨o,n,e,_,_,d⟩,_⟩:=I.list h;obtain⟨its',r',⟨o',n',e',_,_,d'⟩,_⟩:=I.list h';rw[e] at e';cases e';rw[d] at d';injection d' with d1 _;have:its=its':=by simpa using congrArg Array.toList d1
 subst this;exact r.inj r'
theorem Inv.tuple_inj (I:Inv X pins σ H s) (h:SqT X.K H a xs) (h':SqT X.K H a ys):xs=ys:=by
 obtain⟨its,r,⟨o,e,_,n,d⟩,_⟩:=I.tuple h;obtain⟨its',r',⟨o',e',_,n',d'⟩,_⟩:=I.tuple h';rw[e] at e';cases e';rw[d] at d';injection d' with d1 _;have:its=its':=by simpa using congrArg Array.toList d1
 subst this;exact r.inj r'
end
abbrev Cx.wish (X:Cx) (E:Value->Shared->Prop):Cx:={ X with xe:=E }
abbrev Cx.nox (X:Cx):Cx:=X.wish fun _ _=>False
theorem Cx.Ok.wish {X:Cx} (ok:X.Ok) (E:Value->Shared->Prop):(X.wish E).Ok :=
 ⟨ok.mod,ok.kind,ok.glob,ok.blt,ok.above,ok.inj,ok.has,ok.cab,ok.hd,ok.frames,ok.stk,ok.exf,ok.bs,ok.bsz,ok.noex,ok.exfs,ok.funs,ok.frf⟩
theorem Cx.Ok.unwish {X:Cx}{E:Value->Shared->Prop} (ok:(X.wish E).Ok):X.Ok :=
 ⟨ok.mod,ok.kind,ok.glob,ok.blt,ok.above,ok.inj,ok.has,ok.cab,ok.hd,ok.frames,ok.stk,ok.exf,ok.bs,ok.bsz,ok.noex,ok.exfs,ok.funs,ok.frf⟩
section
variable {X:Cx}{pins:List (Addr × Obj)}{σ:St}{H:Hp}{s:Shared}{E:Value->Shared->Prop}
theorem Inv.wish (I:Inv X pins σ H s) (E:Value->Shared->Prop):Inv (X.wish E) pins σ H s:=⟨I.ok.wish E,I.os,I.bare,I.base,I.loc,I.cell,I.free,I.freeC,I.pin,I.hok,I.len⟩
theorem Inv.unwish (I:Inv (X.wish E) pins σ H s):Inv X pins σ H s:=⟨I.ok.unwish,I.os,I.bare,I.base,I.loc,I.cell,I.free,I.freeC,I.pin,I.hok,I.len⟩
theorem SP.unwish {D:Ends}{f:Flow}{s':Shared} (h:SP (X.wish E) pins D f s'):SP X pins D f s':=by
 cases f with
 | next=>obtain⟨σ',H',I,q⟩:=h;exact⟨σ',H',I.unwish,q⟩
 | brk=>obtain⟨σ',H',I,q⟩:=h;exact⟨σ',H',I.unwish,q⟩
 | cont=>obtain⟨σ',H',I,q⟩:=h;exact⟨σ',H',I.unwish,q⟩
 | ret u=>obtain⟨v,σ',H',I,r,q⟩:=h;exact⟨v,σ',H',I.unwish,r,q⟩
theorem PSs.nox {st:List Stmt}{t:TS} (h:PSs X.nox st t):PSs X st t:=fun pins s σ H D I hw=>
 wpAny_mono (h pins s σ H D (I.wish _) hw) (fun _ _ q=>q.unwish) fun _ _ z=>Ycc z
end
section
variable {X:Cx}{st:Stmt}{rest:List Stmt}{t u:TS}{e:Expr}{te:TE}{pos:Pos}
def ZlR:TS:=fun D σ H=>D.nx σ H
def tSeq (t u:TS):TS:=fun D σ H=>t { D with nx:=u D } σ H
theorem Zbt:PSs X [] ZlR:=fun _ _ σ H _ I h=>wpAny_execs_nil ⟨σ,H,I,h⟩
theorem Zas (h1:PS X st t) (h2:PSs X rest u):PSs X (st::rest) (tSeq t u):=by
 intro pins s σ H D I h;refine wpAny_execs_cons (thn (h1 pins s σ H { D with nx:=u D } I h) fun f s1 q=>?_)
 cases f with
 | next=>
  obtain⟨σ',H',I',q⟩:=q;exact h2 pins s1 σ' H' D I' q
 | ret v=>exact q
 | brk=>exact q
 | cont=>exact q
theorem Zao (h1:PS X st t):PSs X [st] t:=by
 intro pins s σ H D I h;refine wpAny_execs_cons (thn (h1 pins s σ H D I h) fun f s1 q=>?_)
 cases f with
 | next=>exact wpAny_execs_nil q
 | ret v=>exact q
 | brk=>exact q
 | cont=>exact q
theorem Inv.quiet {pins:List (Addr × Obj)}{σ:St}{H:Hp}{s:Shared} (I:Inv X pins σ H s):interactive X.env=false:=by simp[interactive,I.ok.kind]
def ZmK (te:TE):TS:=fun D σ H=>te σ H fun _ H1=>D.nx σ H1
theorem ZaN (he:PE X e te) (hs:swapsWith e none pos.line X.env=pure false:=by rfl):PS X (.Expr e pos) (ZmK te):=by
 intro pins s σ H D I h;exact wpAny_Expr_any (thn (he pins s σ H _ I h) fun v s1 ⟨x,H1,I1,r1,q1⟩=>⟨σ,H1,I1,q1⟩) I.quiet hs
def tRet (te:TE):TS:=fun D σ H=>te σ H D.rt
theorem Zay (he:PE X e te):PS X (.Return (some e) pos) (tRet te):=by
 intro pins s σ H D I h;exact wpAny_Return_some (thn (he pins s σ H _ I h) fun v s1 ⟨x,H1,I1,r1,q1⟩=>⟨x,σ,H1,I1,r1,q1⟩)
def tIfS (c:TT) (t u:TS):TS:=fun D σ H=>c σ H fun b H1=>if b=true then t D σ H1 else u D σ H1
theorem Zdq {c:Expr}{a b:List Stmt}{tc:TT} (hc:PT X c tc) (ha:PSs X a t) (hb:PSs X b u):PS X (.If c a b pos) (tIfS tc t u):=by
 intro pins s σ H D I h;refine wpAny_If (thn (hc pins s σ H _ I h) fun d s1 ⟨H1,I1,q1⟩=>?_)
 cases d with
 | true=>exact ha pins s1 σ H1 D I1 q1
 | false=>exact hb pins s1 σ H1 D I1 q1
def ZlS:TS:=fun _ _ _=>False
theorem ZaH {sts:List Stmt}:PSs X sts ZlS:=fun _ _ _ _ _ _ h=>h.elim
end
abbrev TG:=V->St->Hp->(St->Hp->Prop)->Prop
abbrev TGs:=List V->St->Hp->(St->Hp->Prop)->Prop
def PG (X:Cx) (target:Expr) (t:TG):Prop :=
 ∀ (pins:List (Addr × Obj)) (s:Shared) (σ:St) (H:Hp) (v:V) (u:Value) (Q:St->Hp->Prop),Inv X pins σ H s->RelV v u->t v σ H Q ->
  wpAny (model X.prog X.w) X.A (assign target X.env u) (fun _ s'=>∃ σ' H',Inv X pins σ' H' s'/\Q σ' H') X.xe s
def PGs (X:Cx) (ts:List Expr) (t:TGs):Prop :=
 ∀ (pins:List (Addr × Obj)) (s:Shared) (σ:St) (H:Hp) (vs:List V) (us:List Value) (Q:St->Hp->Prop),Inv X pins σ H s->Vals vs us->t vs σ H Q ->
  wpAny (model X.prog X.w) X.A (assignInOrder ((assignEach ts X.env).map (·.2)) us) (fun _ s'=>∃ σ' H',Inv X pins σ' H' s'/\Q σ' H') X.xe s
abbrev TSet:=V->V->V->Hp->(Hp->Prop)->Prop
def PSet (X:Cx) (t:TSet):Prop :=
 ∀ (pins:List (Addr × Obj)) (s:Shared) (σ:St) (H:Hp) (o i v:V) (ov iv u:Value) (Q:Hp->Prop),Inv X pins σ H s->RelV o ov->RelV i iv->RelV v u->t o i v H Q ->
  wpAny (model X.prog X.w) X.A (setItem ov iv u) (fun _ s'=>∃ H',Inv X pins σ H' s'/\Q H') X.xe s
section
variable {X:Cx}{pos:Pos}
def ZbK (i:Nat):TG:=fun v σ H Q=>Q (σ.set i (some v)) H
theorem Zaq {i:Nat}{x:Str} (hN:X.N.Nodup) (hi:X.N[i]?=some x) (hx:Loc X.env.scope x) (hf:X.fn x=true∨X.env.scope.names.lookup x=some .local:=by first | exact .inl rfl | exact .inr rfl | assumption):PG X (.Name x pos) (ZbK i):=by
 intro pins s σ H v u Q I r h;exact wpAny_assign_Name (ZdX I hN hi hx r (fun s' I'=>⟨_,H,I',h⟩) hf)
def gNil:TGs:=fun vs σ H Q=>vs=[]/\Q σ H
def Zdh (t:TG) (u:TGs):TGs:=fun vs σ H Q=>∃ v r,vs=v::r/\t v σ H fun σ' H'=>u r σ' H' Q
theorem Zbb:PGs X [] gNil:=by
 intro pins s σ H vs us Q I r h;obtain⟨e,h⟩:=h;subst e;cases r;exact assignInOrder_nil ⟨σ,H,I,h⟩
theorem Zat {e:Expr}{es:List Expr}{t:TG}{u:TGs} (h1:PG X e t) (h2:PGs X es u)
  (hs:(assignEach (e::es) X.env).map (·.2)=assign e X.env::(assignEach es X.env).map (·.2):=by rfl):PGs X (e::es) (Zdh t u):=by
 intro pins s σ H vs us Q I r h;obtain⟨v,vr,e1,h⟩:=h;subst e1
 cases r with
 | cons r rr=>
  rw[hs];refine assignInOrder_cons (thn (h1 pins s σ H _ _ _ I r h) fun _ s1 ⟨σ1,H1,I1,q1⟩=>?_);exact h2 pins s1 σ1 H1 _ _ Q I1 rr q1
def gTup (K:Yac) (n:Nat) (t:TGs):TG:=fun v σ H Q=>∃ a xs,v=.ref a/\SqT K H a xs/\xs.length=n/\t xs σ H Q
theorem ZeR {es:List Expr}{k:Nat}{t:TGs}{n:Nat} (hc:X.calm=true) (h:PGs X es t)
  (hn:(assignEach es X.env).length=n:=by rfl) (hst:(assignEach es X.env).findIdx? (·.1)=none:=by rfl):PG X (.Tuple es k pos) (gTup X.K n t):=by
 intro pins s σ H v u Q I r hw;obtain⟨a,xs,e1,hq,hl,hw⟩:=hw;subst e1;cases r;obtain⟨its,rv,ht,hz⟩:=I.tuple hq;refine assign_Tuple_tuple (I.ok.hd hc) ht (by simp[hn,<- hl,rv.length]) hst fun h' hx=>?_;have I1:Inv X pins σ H { s with heap:=h' }:=I.kept (t':=s.toks) fun b o e=>hx b o (YaB (Yaj e)) e;exact h pins _ σ H xs _ Q I1 (by simpa using rv) hw
def gSub (to ti:TE) (t:TSet):TG:=fun v σ H Q=>to σ H fun o H1=>ti σ H1 fun i H2=>t o i v H2 fun H3=>Q σ H3
theorem Zkr {o i:Expr}{to ti:TE}{t:TSet} (ho:PE X o to) (hi:PE X i ti) (hs:PSet X t)
  (ha:∀ v,assign (.Subscript o i pos) X.env v=(do
   let ov <- holding [v] (eval o X.env)
   let iv <- holding [v,ov] (eval i X.env)
   standAt pos
   holding [v,ov,iv] (setItem ov iv v)
   release [v,ov,iv] []):=by intro _;rfl):PG X (.Subscript o i pos) (gSub to ti t):=by
 intro pins s σ H v u Q I r h;rw[ha];refine wpAny_bind (wpAny_holding (thn (ho pins s σ H _ I h) fun ov s1 ⟨x,H1,I1,r1,q1⟩=>?_));refine wpAny_bind (wpAny_holding (thn (hi pins s1 σ H1 _ I1 q1) fun iv s2 ⟨y,H2,I2,r2,q2⟩=>?_));refine wpAny_bind (wpAny_standAt (wpAny_bind (wpAny_holding (thn (hs pins s2 σ H2 x y v ov iv u _ I2 r1 r2 r q2) fun _ s3 ⟨H3,I3,q3⟩=>?_))));exact wpAny_release ⟨σ,H3,I3,q3⟩
def tAsg (te:TE) (g:TG):TS:=fun D σ H=>te σ H fun x H1=>g x σ H1 D.nx
theorem Zkq {tg e:Expr}{te:TE}{g:TG} (he:PE X e te) (hg:PG X tg g) (hs:swapsWithSole [tg] e pos.line X.env=pure false:=by rfl) (hw:swappedStores [tg] e X.env=pure none:=by rfl)
  (h1:(assignEach [tg] X.env).map (·.2)=[assign tg X.env]:=by rfl):PS X (.Assign [tg] e pos) (tAsg te g):=by
 intro pins s σ H D I h;refine wpAny_Assign_stores (thn (he pins s σ H _ I h) fun v s1 ⟨x,H1,I1,r1,q1⟩=>?_) hs hw;rw[h1];exact thn (hg pins s1 σ H1 x v _ I1 r1 q1) fun _ s2 q=>q
theorem Zap {i:Nat}{x:Str}{e:Expr}{te:TE}{pos':Pos} (hN:X.N.Nodup) (hi:X.N[i]?=some x) (hx:Loc X.env.scope x) (he:PE X e te) (hs:swapsWith e (some (.Name x pos')) pos.line X.env=pure false:=by rfl) (hf:X.fn x=true∨X.env.scope.names.lookup x=some .local:=by first | exact .inl rfl | exact .inr rfl | assumption) :
  PS X (.Assign [.Name x pos'] e pos) (tAsg te (ZbK i)):=by
 intro pins s σ H D I h;refine wpAny_Assign_Name (thn (he pins s σ H _ I h) fun v s1 ⟨y,H1,I1,r1,q1⟩=>?_) hs;exact ZdX I1 hN hi hx r1 (fun s2 I2=>⟨_,H1,I2,q1⟩) hf
end
section
variable {X:Cx}{pos:Pos}
def ZlO (c:TT) (tb:TS):TS:=fun D σ H=>∃ W:Nat->St->Hp->Prop,(∃ m,W m σ H)/\∀ m σ H,W m σ H ->
 c σ H fun b H1=>if b=true then ∃ N:St->Hp->Prop,(∀ σ' H',N σ' H'->∃ m',m'<m/\W m' σ' H')/\tb { D with nx:=N,ct:=N,bk:=D.nx } σ H1 else D.nx σ H1
theorem Zjq {c:Expr}{body:List Stmt}{tc:TT}{tb:TS} (hp:PassesOwn (model X.prog X.w) X.A X.env X.xe) (hc:PT X c tc) (hb:PSs X body tb):PS X (.While c body [] pos) (ZlO tc tb):=by
 intro pins s σ H D I h;obtain⟨W,⟨m0,w0⟩,turn⟩:=h;refine wpAny_While (codeAny_whileLoop (fun n s'=>∃ σ' H',Inv X pins σ' H' s'/\W n σ' H') ?_ m0 ⟨σ,H,I,w0⟩);rintro n s1 ⟨σ1,H1,I1,w1⟩;refine wpAny_passesOwn hp (thn (hc pins s1 σ1 H1 _ I1 (turn n σ1 H1 w1)) fun b s2 ⟨H2,I2,q2⟩=>?_)
 cases b with
 | true=>
  obtain⟨N,hN,q2⟩:=q2;rw[if_pos rfl];refine wpAny_passesOwn hp (thn (hb pins s2 σ1 H2 _ I2 q2) fun f s3 q3=>?_)
  cases f with
  | next=>
   obtain⟨σ3,H3,I3,n3⟩:=q3;obtain⟨m',hm,w3⟩:=hN σ3 H3 n3;exact⟨m',hm,σ3,H3,I3,w3⟩
  | cont=>
   obtain⟨σ3,H3,I3,n3⟩:=q3;obtain⟨m',hm,w3⟩:=hN σ3 H3 n3;exact⟨m',hm,σ3,H3,I3,w3⟩
  | brk=>exact q3
  | ret v=>exact q3
 | false=>
  rw[if_neg YaA];exact wpAny_execs_nil ⟨σ1,H2,I2,q2⟩
end
structure It where
 go:Nat->Hp->Prop
 yld:Nat->Hp->V->Hp->Prop
 stop:Nat->Hp->Prop
def FpOk (X:Cx) (pins:List (Addr × Obj)) (H:Hp) (b:Addr):Prop :=
 H b=none/\b≠X.env.locals/\b ∉ X.fs/\(b∈X.ex∨X.s₀.heap.objs.size<=b)/\(∀ x c,X.env.cells.lookup x=some c->c≠b)/\∀ p∈X.pn++pins,p.1≠b
theorem Inv.fpOk {X:Cx}{pins:List (Addr × Obj)}{σ:St}{H H':Hp}{s:Shared}{b:Addr} (I:Inv X pins σ H s) (hb:s.heap.objs.size<=b) (hn:H' b=none):FpOk X pins H' b:=by
 refine⟨hn,YbO (Yas I.lt hb),I.nofs hb,.inr (Ybx I.sz hb),fun x c e z=>?_,fun p hp z=>?_⟩
 ·obtain⟨v,q⟩:=I.cell x c e;exact absurd (Yas q.lt (by rw[z];exact hb)) (Ybt _)
 ·exact absurd (Yas (Yaj (I.pin p hp).1) (by rw[z];exact hb)) (Ybt _)
structure Turn (P:Program) (w:World) (K:Yac) (tg:Expr) (J:It) (fp:List Addr) (it:Addr) (tn:Nat->Heap->Prop):Prop where
 mem:it∈fp
 obj:∀ i h,tn i h->∀ b∈fp,∃ o,h.get? b=some o/\∀ v,o.data≠.cell v
 keep:∀ i h h',tn i h->(∀ b∈fp,∀ o,h.get? b=some o->h'.get? b=some o)->tn i h'
 item:∀ (X:Cx),X.prog=P->X.w=w->X.K=K->X.calm=true->∀ (i:Nat) (pins:List (Addr × Obj)) (s:Shared) (σ:St) (H:Hp) (E:Value->Shared->Prop),Inv X pins σ H s->(∀ b∈fp,FpOk X pins H b)->tn i s.heap->J.go i H ->
  wpAny (model P w) X.A (pyNext (.ref it)) (fun r s1=>∃ u,r=some u /\
   wpAny (model P w) X.A (letOwnedTupleGo tg (.ref it) u) (fun _ s2=>∃ x H',Inv X pins σ H' s2/\RelV x u/\J.yld i H x H'/\tn (i+1) s2.heap/\∀ b∈fp,H' b=none) E s1) E s
 done:∀ (X:Cx),X.prog=P->X.w=w->X.K=K->X.calm=true->∀ (i:Nat) (pins:List (Addr × Obj)) (s:Shared) (σ:St) (H:Hp) (E:Value->Shared->Prop),Inv X pins σ H s->(∀ b∈fp,FpOk X pins H b)->tn i s.heap->J.stop i H ->
  wpAny (model P w) X.A (pyNext (.ref it)) (fun r s1=>r=none/\Inv X pins σ H s1) E s
 self:∀ (A:Around) (i:Nat) (s:Shared) (Q:Value->Shared->Prop) (E:Value->Shared->Prop),tn i s.heap->Q (.ref it) s->wpAny (model P w) A (pyIter (.ref it)) Q E s
abbrev TI:=St->Hp->(It->Hp->Prop)->Prop
def PIE (X:Cx) (pins:List (Addr × Obj)) (σ:St) (tg:Expr) (R:It->Hp->Prop) (itv:Value) (s2:Shared):Prop :=
 ∃ (it:Addr) (fp:List Addr) (tn:Nat->Heap->Prop) (J:It) (H':Hp),itv=.ref it/\Inv X pins σ H' s2/\Turn X.prog X.w X.K tg J fp it tn/\tn 0 s2.heap/\(∀ b∈fp,FpOk X pins H' b)/\R J H'
def PI (X:Cx) (tg iter:Expr) (wi:TI):Prop :=
 ∀ (pins:List (Addr × Obj)) (s:Shared) (σ:St) (H:Hp) (R:It->Hp->Prop),Inv X pins σ H s->wi σ H R ->
  wpAny (model X.prog X.w) X.A (eval iter X.env) (fun v s1=>wpAny (model X.prog X.w) X.A (pyIter v) (PIE X pins σ tg R) X.xe s1) X.xe s
theorem Zlx {M:Model}{A:Around}{E:Value->Shared->Prop}{s:Shared}{tg:Expr}{it:Addr}{u:Value}{o:Obj}{n:String}{vs:Array Value}{Q:Unit->Shared->Prop} (ho:s.heap.get? it=some o) (hc:o.cls=.type n) (hd:o.data=.fields vs)
    (hn:["enumerate","zip","dict_itemiterator","dict_reverseitemiterator","odict_iterator","itertools.zip_longest","itertools.pairwise"].contains n=false) (hQ:Q () s):wpAny M A (letOwnedTupleGo tg (.ref it) u) Q E s:=by
  unfold letOwnedTupleGo;cases tg <;> first
    | exact wpAny_pure hQ
    | (cases u <;> first
        | exact wpAny_pure hQ
        | (refine wpAny_bind (wpAny_load ho ?_)
           rw[hc,hd];show wpAny M A (if (["enumerate","zip","dict_itemiterator","dict_reverseitemiterator","odict_iterator","itertools.zip_longest","itertools.pairwise"].contains n && vs[0]? == some (rawInt _))=true then _ else _) Q E s;rw[if_neg (by intro h;rw[hn,Bool.false_and] at h;cases h)];exact wpAny_pure hQ))
def Itl (K:Yac) (a:Addr):It :=
 ⟨fun i H=>∃ xs x,SqL K H a xs/\xs[i]?=some x,fun i H x H'=>H'=H/\∀ xs,SqL K H a xs->xs[i]?=some x,fun i H=>∃ xs,SqL K H a xs/\xs.length<=i⟩
def Itt (K:Yac) (a:Addr):It :=
 ⟨fun i H=>∃ xs x,SqT K H a xs/\xs[i]?=some x,fun i H x H'=>H'=H/\∀ xs,SqT K H a xs->xs[i]?=some x,fun i H=>∃ xs,SqT K H a xs/\xs.length<=i⟩
def Itr (lo:Int) (n:Nat):It:=⟨fun i _=>i<n,fun i H x H'=>H'=H/\x=.int (lo+i),fun i _=>n<=i⟩
theorem ZeD {P:Program}{w:World}{K:Yac}{tg:Expr} (a it:Addr):Turn P w K tg (Itl K a) [it] it (fun i h=>h.IsListIter it a i) where
 mem:=by simp
 obj:=fun i h st b hb=>by
  have e:b=it:=by simpa using hb
  subst e;obtain⟨o,e,c,d⟩:=st;exact⟨o,e,fun v z=>by rw[d] at z;cases z⟩
 keep:=fun i h h' st k=>st.at fun o e=>k it (by simp) o e
 item:=by
  intro X hP hw hK hc i pins s σ H E I hf st hg;subst hP hw hK;obtain⟨xs,x,hq,hx⟩:=hg;obtain⟨its,rv,p,hz⟩:=I.list hq;obtain⟨u,hu,ru⟩:=rv.get hx;obtain⟨f0,f1,f2,f3,f4,f5⟩:=hf it (by simp);refine wpAny_pyNext_list_item st p.isList (x:=u) (by simpa using hu) fun h' st' sb=>?_;have I1:Inv X pins σ H { s with heap:=h' }:=I.turned (t':=s.toks) (fun b o hb e=>(sb.2 b hb).trans e) f0 f1 f3 f4 f5;obtain⟨o,e,c,d⟩:=id st';exact⟨u,rfl,Zlx (s:={ s with heap:=h' }) e c d (by decide) ⟨x,H,I1,ru,⟨rfl,fun ys hy=>by rw[I.list_inj hy hq];exact hx⟩,st',fun b hb=>(hf b hb).1⟩⟩
 done:=by
  intro X hP hw hK hc i pins s σ H E I hf st hg;subst hP hw hK;obtain⟨xs,hq,hx⟩:=hg;obtain⟨its,rv,p,hz⟩:=I.list hq;obtain⟨f0,f1,f2,f3,f4,f5⟩:=hf it (by simp);have hl:=rv.length;exact wpAny_pyNext_list_end (I.ok.hd hc) st p.isList (by simp;omega) fun h' eb=>⟨rfl,I.turned (t':=s.toks) (fun b o hb e=>eb b o hb e) f0 f1 f3 f4 f5⟩
 self:=fun _ _ _ _ _ st h=>wpAny_pyIter_listiter st h
theorem Zdy {P:Program}{w:World}{K:Yac}{tg:Expr} (a it:Addr):Turn P w K tg (Itt K a) [it] it (fun i h=>h.IsTupleIter it a i) where
 mem:=by simp
 obj:=fun i h st b hb=>by
  have e:b=it:=by simpa using hb
  subst e;obtain⟨o,e,c,d⟩:=st;exact⟨o,e,fun v z=>by rw[d] at z;cases z⟩
 keep:=fun i h h' st k=>st.at fun o e=>k it (by simp) o e
 item:=by
  intro X hP hw hK hc i pins s σ H E I hf st hg;subst hP hw hK;obtain⟨xs,x,hq,hx⟩:=hg;obtain⟨its,rv,p,hz⟩:=I.tuple hq;obtain⟨u,hu,ru⟩:=rv.get hx;obtain⟨f0,f1,f2,f3,f4,f5⟩:=hf it (by simp);refine wpAny_pyNext_tuple_item st (show s.heap.IsTuple a its.toArray from p) (x:=u) (by simpa using hu) fun h' st' sb=>?_;have I1:Inv X pins σ H { s with heap:=h' }:=I.turned (t':=s.toks) (fun b o hb e=>(sb.2 b hb).trans e) f0 f1 f3 f4 f5;obtain⟨o,e,c,d⟩:=id st';exact⟨u,rfl,Zlx (s:={ s with heap:=h' }) e c d (by decide) ⟨x,H,I1,ru,⟨rfl,fun ys hy=>by rw[I.tuple_inj hy hq];exact hx⟩,st',fun b hb=>(hf b hb).1⟩⟩
 done:=by
  intro X hP hw hK hc i pins s σ H E I hf st hg;subst hP hw hK;obtain⟨xs,hq,hx⟩:=hg;obtain⟨its,rv,p,hz⟩:=I.tuple hq;obtain⟨f0,f1,f2,f3,f4,f5⟩:=hf it (by simp);have hl:=rv.length;exact wpAny_pyNext_tuple_end (I.ok.hd hc) st (show s.heap.IsTuple a its.toArray from p) (by simp;omega) fun h' eb=>⟨rfl,I.turned (t':=s.toks) (fun b o hb e=>eb b o hb e) f0 f1 f3 f4 f5⟩
 self:=fun _ _ _ _ _ st h=>wpAny_pyIter_tupleiter st h
theorem ZgC {P:Program}{w:World}{K:Yac}{tg:Expr} (it:Addr) (lo:Int) (n:Nat):Turn P w K tg (Itr lo n) [it] it (fun i h=>IsRangeIter h it (lo+(i:Nat)*1) ((n:Int) - (i:Nat)) 1) where
 mem:=by simp
 obj:=fun i h st b hb=>by
  have e:b=it:=by simpa using hb
  subst e;exact⟨_,st,fun v z=>by
   have z':Data.fields _=Data.cell v:=z;cases z'⟩
 keep:=fun i h h' st k=>k it (by simp) _ st
 item:=by
  intro X hP hw hK hc i pins s σ H E I hf st hg;subst hP hw hK;obtain⟨f0,f1,f2,f3,f4,f5⟩:=hf it (by simp);have W:=Walks.range (prog:=X.prog) (w:=X.w) (I.ok.hd hc) it lo 1 n;refine W.item i s _ _ hg st fun v h' tk hv st' kk=>?_;obtain⟨t,rfl⟩:=hv;have I1:Inv X pins σ H { s with heap:=h',toks:=tk }:=I.turned (fun b o hb e=>kk b o (by simpa using hb) e) f0 f1 f3 f4 f5;refine⟨_,rfl,Zlx (s:={ s with heap:=h',toks:=tk }) (n:="range_iterator") st' rfl rfl (by decide) ⟨.int (lo+i),H,I1,⟨t,?_⟩,⟨rfl,rfl⟩,st',fun b hb=>(hf b hb).1⟩⟩;rw[Int.mul_one]
 done:=by
  intro X hP hw hK hc i pins s σ H E I hf st hg;subst hP hw hK;obtain⟨f0,f1,f2,f3,f4,f5⟩:=hf it (by simp);exact wpAny_pyNext_range_end (I.ok.hd hc) st (by have:n<=i:=hg;omega) fun h' eb=>⟨rfl,I.turned (t':=s.toks) (fun b o hb e=>eb b o hb e) f0 f1 f3 f4 f5⟩
 self:=fun _ _ _ _ _ st h=>wpAny_pyIter_rangeiter st h
end L2
namespace L2
open PySem PySem.Spec PyProof.Rows
section
variable {X:Cx}{tg:Expr}
def Zm4 (K:Yac) (tl:TE):TI:=fun σ H R=>tl σ H fun x H1=>∃ a,x=.ref a/\(∃ xs,SqL K H1 a xs)/\R (Itl K a) H1
def iTup (K:Yac) (tl:TE):TI:=fun σ H R=>tl σ H fun x H1=>∃ a,x=.ref a/\(∃ xs,SqT K H1 a xs)/\R (Itt K a) H1
theorem Zk9 {l:Expr}{tl:TE} (hl:PE X l tl):PI X tg l (Zm4 X.K tl):=by
 intro pins s σ H R I h;refine thn (hl pins s σ H _ I h) fun v s1 ⟨x,H1,I1,r1,q1⟩=>?_;obtain⟨a,e,⟨xs,hq⟩,q⟩:=q1;subst e;cases r1;obtain⟨its,rv,p,hz⟩:=I1.list hq;refine wpAny_pyIter_list p.isList ?_;refine⟨s1.heap.objs.size,[s1.heap.objs.size],_,_,H1,rfl,I1.kept (t':=s1.toks) fun b o e=>Yad _ e,ZeD a _,⟨_,Yat _ rfl,rfl,rfl⟩,fun b hb=>?_,q⟩;have e:b=s1.heap.objs.size:=by simpa using hb
 subst e;exact I1.fpOk (Yag _) (I1.hok.fresh (Yag _))
theorem ZhO {l:Expr}{tl:TE} (hl:PE X l tl):PI X tg l (iTup X.K tl):=by
 intro pins s σ H R I h;refine thn (hl pins s σ H _ I h) fun v s1 ⟨x,H1,I1,r1,q1⟩=>?_;obtain⟨a,e,⟨xs,hq⟩,q⟩:=q1;subst e;cases r1;obtain⟨its,rv,p,hz⟩:=I1.tuple hq;refine wpAny_pyIter_tuple (show s1.heap.IsTuple a its.toArray from p) ?_;refine⟨s1.heap.objs.size,[s1.heap.objs.size],_,_,H1,rfl,I1.kept (t':=s1.toks) fun b o e=>Yad _ e,Zdy a _,⟨_,Yat _ rfl,rfl,rfl⟩,fun b hb=>?_,q⟩;have e:b=s1.heap.objs.size:=by simpa using hb
 subst e;exact I1.fpOk (Yag _) (I1.hok.fresh (Yag _))
theorem Zjp {pins:List (Addr × Obj)}{σ:St}{H:Hp}{s:Shared}{R:It->Hp->Prop}{E:Value->Shared->Prop}{lo hi:Int}{t u v:Tok}{tk:Nat} (I:Inv X pins σ H s) (h1:-(2 ^ 62)<=lo) (h2:lo<2 ^ 62) (h3:-(2 ^ 62)<=hi) (h4:hi<2 ^ 62)
  (q:R (Itr lo (hi - lo).toNat) H):wpAny (model X.prog X.w) X.A (pyIter (.ref s.heap.objs.size)) (PIE X pins σ tg R) E { s with heap:=s.heap.push { cls:=.type "range",data:=.fields #[.int lo t,.int hi u,.int 1 v] },toks:=tk }:=by
 refine wpAny_pyIter_range (IsRange.new ..) (small_one h1 h2 h3 h4) ?_;have I1:Inv X pins σ H { s with heap:=s.heap.push { cls:=.type "range",data:=.fields #[.int lo t,.int hi u,.int 1 v] },toks:=tk }:=I.kept fun b o e=>Yad _ e;refine⟨(s.heap.push { cls:=.type "range",data:=.fields #[.int lo t,.int hi u,.int 1 v] }).objs.size,[(s.heap.push { cls:=.type "range",data:=.fields #[.int lo t,.int hi u,.int 1 v] }).objs.size],_,_,H,rfl,
  I1.kept (t':=tk) fun b o e=>Yad _ e,ZgC _ lo (hi - lo).toNat,?_,fun b hb=>?_,q⟩
 ·have e1:lo+((0:Nat):Int)*1=lo:=by simp
  have e2:(((hi - lo).toNat:Nat):Int) - ((0:Nat):Int)=Builtin.Range.rangeSize lo hi 1:=by rw[rangeSize_one];split <;> omega
  show IsRangeIter _ _ (lo+((0:Nat):Int)*1) ((((hi - lo).toNat:Nat):Int) - ((0:Nat):Int)) 1;rw[e1,e2];exact Yat _ rfl
 ·have e:b=(s.heap.push { cls:=.type "range",data:=.fields #[.int lo t,.int hi u,.int 1 v] }).objs.size:=by simpa using hb
  subst e;exact I1.fpOk (Yag _) (I1.hok.fresh (Yag _))
def Zm3 (ta:TA):TI:=fun σ H R=>ta σ H fun vs H1=>∃ j:Int,vs=[.int j]/\-(2 ^ 62)<=j/\j<2 ^ 62/\R (Itr 0 j.toNat) H1
theorem ZaS {a:Expr}{ta:TA}{p pos:Pos} (hg:Gl X "range") (hm:X.mg "range"=none) (ha:PA X [a] ta) (hs:starEach [a] X.env=[(false,eval a X.env)]:=by rfl):PI X tg (.Call (.Name "range" p) [a] [] pos) (Zm3 ta):=by
 intro pins s σ H R I h;refine Call_ (ZdN I hg hm boot_range (Yb0 (thn (ha pos pins s σ H _ I h) fun us s1 ⟨vs,H1,I1,r1,q1⟩=>?_) hs rfl));obtain⟨j,e,q1,q2,q⟩:=q1;subst e
 cases r1 with
 | cons r rr=>
  cases rr;obtain⟨t,rfl⟩:=r;exact call_range_1 (Zjp I1 (by omega) (by omega) q1 q2 (by simpa using q))
def tFor (wi:TI) (g:TG) (tb:TS):TS:=fun D σ H=>wi σ H fun J H1=>∃ W:Nat->Nat->St->Hp->Prop,(∃ m,W 0 m σ H1)/\∀ i m σ H,W i m σ H ->
 (J.stop i H/\D.nx σ H)∨(J.go i H/\∃ N:St->Hp->Prop,(∀ σ' H',N σ' H'->∃ m',m'<m/\W (i+1) m' σ' H')/\∀ x H',J.yld i H x H'->g x σ H' fun σ2 H2=>tb { D with nx:=N,ct:=N,bk:=D.nx } σ2 H2)
def Zda (fp:List Addr) (h:Heap):List (Addr × Obj):=fp.filterMap fun b=>(h.get? b).map fun o=>(b,o)
theorem Za1 {fp:List Addr}{h:Heap}{b:Addr}{o:Obj} (hb:b∈fp) (e:h.get? b=some o):(b,o)∈Zda fp h:=Ydv.mpr ⟨b,hb,by rw[e];rfl⟩
theorem Zh7 {fp:List Addr}{h:Heap}{p:Addr × Obj} (hp:p∈Zda fp h):p.1∈fp/\h.get? p.1=some p.2:=by
 obtain⟨b,hb,e⟩:=Ydv.mp hp
 cases q:h.get? b with
 | none=>rw[q] at e;cases e
 | some o=>
  rw[q] at e;have e':(b,o)=p:=YaF e;subst e';exact⟨hb,q⟩
theorem Inv.pinned {pins:List (Addr × Obj)}{σ:St}{H:Hp}{s:Shared}{fp:List Addr} (I:Inv X pins σ H s) (hf:∀ b∈fp,FpOk X pins H b) (ho:∀ b∈fp,∃ o,s.heap.get? b=some o/\∀ v,o.data≠.cell v):Inv X (pins++Zda fp s.heap) σ H s :=
 I.pins_of fun p hp=>(Yak.mp hp).elim (fun z=>I.pin p (Yay _ z)) fun z=>by
  obtain⟨hb,e⟩:=Zh7 z;obtain⟨f0,f1,f2,_⟩:=hf p.1 hb;obtain⟨o,e',d⟩:=ho p.1 hb;rw[e] at e';cases e';exact⟨e,f0,f1,f2,d⟩
theorem Inv.unpinned {pins pl:List (Addr × Obj)}{σ:St}{H:Hp}{s:Shared} (I:Inv X (pins++pl) σ H s):Inv X pins σ H s:=I.pins_of fun p hp=>I.pin p (Yay _ (YaU _ hp))
theorem ZbY {iter:Expr}{body:List Stmt}{wi:TI}{g:TG}{tb:TS}{pos:Pos} (hp:PassesOwn (model X.prog X.w) X.A X.env X.xe) (hc:X.calm=true) (hi:PI X tg iter wi) (hg:PG X tg g) (hb:PSs X body tb)
  (hs:∀ x,foldedSetIterable iter X.env x=pure x:=by intro _;rfl):PS X (.For tg iter body [] pos) (tFor wi g tb):=by
 intro pins s σ H D I h;refine wpAny_For (thn (hi pins s σ H _ I h) fun v s1 h1=>thn h1 fun itv s2 h2=>?_) hs;obtain⟨it,fp,tn,J,H2,e,I2,T,st2,f2,W,⟨m0,w0⟩,turn⟩:=h2;subst e;have stat:∀ {H':Hp},(∀ b∈fp,H' b=none)->∀ b∈fp,FpOk X pins H' b:=fun hn b hb=>⟨hn b hb,(f2 b hb).2⟩
 refine codeAny_forLoop_any (fun n s'=>∃ i σ' H',Inv X pins σ' H' s'/\tn i s'.heap/\(∀ b∈fp,H' b=none)/\W i n σ' H') ?_ m0 ⟨0,σ,H2,I2,st2,fun b hb=>(f2 b hb).1,w0⟩;rintro n s3 ⟨i,σ3,H3,I3,st3,fr3,w3⟩;rcases turn i n σ3 H3 w3 with ⟨stop,qn⟩ | ⟨go,N,hN,step⟩
 ·refine wpAny_passesOwn hp (thn (T.done X rfl rfl rfl hc i pins s3 σ3 H3 X.xe I3 (stat fr3) st3 stop) fun r s4 ⟨hr,I4⟩=>?_);subst hr;exact wpAny_execs_nil ⟨σ3,H3,I4,qn⟩
 ·refine wpAny_passesOwn hp (thn (T.item X rfl rfl rfl hc i pins s3 σ3 H3 X.xe I3 (stat fr3) st3 go) fun r s4 ⟨u,hr,h4⟩=>?_);subst hr;refine wpAny_passesOwn hp (thn h4 fun _ s5 ⟨x,H5,I5,r5,y5,st5,fr5⟩=>?_);have I5':=I5.pinned (stat fr5) (T.obj _ _ st5);refine wpAny_passesOwn hp (thn (hg _ s5 σ3 H5 x u _ I5' r5 (step x H5 y5)) fun _ s6 ⟨σ6,H6,I6,q6⟩=>?_);refine wpAny_passesOwn hp (thn (hb _ s6 σ6 H6 _ I6 q6) fun f s7 q7=>?_);have again:∀ {σ7:St}{H7:Hp},Inv X (pins++Zda fp s5.heap) σ7 H7 s7->N σ7 H7->∃ m,m<n/\∃ i σ' H',Inv X pins σ' H' s7/\tn i s7.heap/\(∀ b∈fp,H' b=none)/\W i m σ' H':=fun {σ7 H7} I7 n7=>by
   obtain⟨m',hm,w7⟩:=hN σ7 H7 n7;refine⟨m',hm,i+1,σ7,H7,I7.unpinned,T.keep _ _ _ st5 fun b hb o e=>(I7.pin (b,o) (Yay _ (Yay _ (Za1 hb e)))).1,fun b hb=>?_,w7⟩;obtain⟨o,e,d⟩:=T.obj _ _ st5 b hb;exact (I7.pin (b,o) (Yay _ (Yay _ (Za1 hb e)))).2.1
  cases f with
  | next=>obtain⟨σ7,H7,I7,n7⟩:=q7;exact again I7 n7
  | cont=>obtain⟨σ7,H7,I7,n7⟩:=q7;exact again I7 n7
  | brk=>obtain⟨σ7,H7,I7,q7⟩:=q7;exact⟨σ7,H7,I7.unpinned,q7⟩
  | ret v=>obtain⟨x7,σ7,H7,I7,r7,q7⟩:=q7;exact⟨x7,σ7,H7,I7.unpinned,r7,q7⟩
end
theorem ZjY {K:Yac}{a:Addr}{xs:List V}{g:TG}{tb:TS}{D:Ends}{σ:St}{H:Hp} (Pv:Nat->St->Hp->Prop) (h0:Pv 0 σ H) (hl:∀ i σ H,i<=xs.length->Pv i σ H->SqL K H a xs)
  (hs:∀ i x σ H,xs[i]?=some x->Pv i σ H->g x σ H fun σ2 H2=>tb { D with nx:=Pv (i+1),ct:=Pv (i+1),bk:=D.nx } σ2 H2) (hd:∀ σ H,Pv xs.length σ H->D.nx σ H) :
  ∃ W:Nat->Nat->St->Hp->Prop,(∃ m,W 0 m σ H)/\∀ i m σ H,W i m σ H ->
   ((Itl K a).stop i H/\D.nx σ H)∨((Itl K a).go i H/\∃ N:St->Hp->Prop,(∀ σ' H',N σ' H'->∃ m',m'<m/\W (i+1) m' σ' H')/\∀ x H',(Itl K a).yld i H x H'->g x σ H' fun σ2 H2=>tb { D with nx:=N,ct:=N,bk:=D.nx } σ2 H2):=by
 refine⟨fun i m σ H=>m=xs.length - i/\i<=xs.length/\Pv i σ H,⟨xs.length,by simp,YaR _,h0⟩,?_⟩;rintro i m σ H ⟨rfl,hi,p⟩;have q:=hl i σ H hi p;by_cases hlt:i<xs.length
 ·refine .inr ⟨⟨xs,xs[i],q,by simp[hlt]⟩,Pv (i+1),fun σ' H' p'=>⟨xs.length - (i+1),by omega,rfl,hlt,p'⟩,fun x H' y=>?_⟩;obtain⟨e,y⟩:=y;subst e;exact hs i x σ _ (y xs q) p
 ·have e:i=xs.length:=by omega
  subst e;exact .inl ⟨⟨xs,q,Yag _⟩,hd σ H p⟩
theorem Zbn {lo:Int}{n:Nat}{g:TG}{tb:TS}{D:Ends}{σ:St}{H:Hp} (Pv:Nat->St->Hp->Prop) (h0:Pv 0 σ H)
  (hs:∀ i σ H,i<n->Pv i σ H->g (.int (lo+i)) σ H fun σ2 H2=>tb { D with nx:=Pv (i+1),ct:=Pv (i+1),bk:=D.nx } σ2 H2) (hd:∀ σ H,Pv n σ H->D.nx σ H) :
  ∃ W:Nat->Nat->St->Hp->Prop,(∃ m,W 0 m σ H)/\∀ i m σ H,W i m σ H ->
   ((Itr lo n).stop i H/\D.nx σ H)∨((Itr lo n).go i H/\∃ N:St->Hp->Prop,(∀ σ' H',N σ' H'->∃ m',m'<m/\W (i+1) m' σ' H')/\∀ x H',(Itr lo n).yld i H x H'->g x σ H' fun σ2 H2=>tb { D with nx:=N,ct:=N,bk:=D.nx } σ2 H2):=by
 refine⟨fun i m σ H=>m=n - i/\i<=n/\Pv i σ H,⟨n,by simp,YaR _,h0⟩,?_⟩;rintro i m σ H ⟨rfl,hi,p⟩;by_cases hlt:i<n
 ·refine .inr ⟨hlt,Pv (i+1),fun σ' H' p'=>⟨n - (i+1),by omega,rfl,hlt,p'⟩,fun x H' y=>?_⟩;obtain⟨e,y⟩:=y;subst e y;exact hs i σ _ hlt p
 ·have e:i=n:=by omega
  subst e;exact .inl ⟨Yag _,hd σ H p⟩
end L2
namespace L2
open PySem PySem.Spec PyProof.Rows
abbrev R2:=V->V->Hp->VK->Prop
def OpR (X:Cx) (f:Value->Value->Sem Value) (r:R2):Prop :=
 ∀ (pins:List (Addr × Obj)) (s:Shared) (σ:St) (H:Hp) (x y:V) (v u:Value) (Q:VK),Inv X pins σ H s->RelV x v->RelV y u->r x y H Q ->
  wpAny (model X.prog X.w) X.A (f v u) (EP X pins σ Q) X.xe s
def UnR (X:Cx) (f:Value->Sem Value) (r:V->Hp->VK->Prop):Prop :=
 ∀ (pins:List (Addr × Obj)) (s:Shared) (σ:St) (H:Hp) (x:V) (v:Value) (Q:VK),Inv X pins σ H s->RelV x v->r x H Q ->
  wpAny (model X.prog X.w) X.A (f v) (EP X pins σ Q) X.xe s
def ZbO (X:Cx) (f:Value) (r:List V->Hp->VK->Prop):Prop :=
 ∀ (pins:List (Addr × Obj)) (s:Shared) (σ:St) (H:Hp) (xs:List V) (us:List Value) (Q:VK),Inv X pins σ H s->Vals xs us->r xs H Q ->
  wpAny (model X.prog X.w) X.A (call f us) (EP X pins σ Q) X.xe s
def tOp (r:R2) (ta tb:TE):TE:=fun σ H Q=>ta σ H fun x H1=>tb σ H1 fun y H2=>r x y H2 Q
def tUn (r:V->Hp->VK->Prop) (ta:TE):TE:=fun σ H Q=>ta σ H fun x H1=>r x H1 Q
def rI (C:Int->Int->Prop) (g:Int->Int->V):R2:=fun x y H Q=>∃ i j,x=.int i/\y=.int j/\C i j/\Q (g i j) H
def rI0 (g:Int->Int->V):R2:=fun x y H Q=>∃ i j,x=.int i/\y=.int j/\Q (g i j) H
def rU (g:Int->V):V->Hp->VK->Prop:=fun x H Q=>∃ i,x=.int i/\Q (g i) H
section
variable {X:Cx}{a b c:Expr}{ta tb tc:TE}{pos:Pos}
theorem binT (ha:PE X a ta) (hb:PE X b tb) {pins:List (Addr × Obj)}{s:Shared}{σ:St}{H:Hp}{R:V->V->Hp->Prop} (I:Inv X pins σ H s)
  (h:ta σ H fun x H1=>tb σ H1 fun y H2=>R x y H2) {Q:Value->Shared->Prop}{f:Value->Value->Sem Value}
  (hf:∀ v u s2 x y H2,Inv X pins σ H2 s2->RelV x v->RelV y u->R x y H2->wpAny (model X.prog X.w) X.A (f v u) Q X.xe s2) :
  wpAny (model X.prog X.w) X.A (eval a X.env) (fun v s₁=>wpAny (model X.prog X.w) X.A (eval b X.env) (fun u s₂=>wpAny (model X.prog X.w) X.A (f v u) Q X.xe s₂) X.xe s₁) X.xe s:=by
 refine thn (ha pins s σ H _ I h) fun v s1 ⟨x,H1,I1,r1,q1⟩=>?_;refine thn (hb pins s1 σ H1 _ I1 q1) fun u s2 ⟨y,H2,I2,r2,q2⟩=>?_;exact hf v u s2 x y H2 I2 r1 r2 q2
theorem Zak {op:Operator}{r:R2} (ho:OpR X (binaryOp op) r) (ha:PE X a ta) (hb:PE X b tb):PE X (.BinOp a op b pos) (tOp r ta tb):=by
 intro pins s σ H Q I h;exact wpAny_BinOp (binT ha hb I h fun v u s2 x y H2 I2 rx ry q=>ho pins s2 σ H2 x y v u Q I2 rx ry q)
theorem Zjw {op:UnaryOp}{r:V->Hp->VK->Prop} (ho:UnR X (unaryOp op) r) (ha:PE X a ta):PE X (.UnaryOp op a pos) (tUn r ta):=by
 intro pins s σ H Q I h;exact UnaryOp_ (thn (ha pins s σ H _ I h) fun v s1 ⟨x,H1,I1,r1,q1⟩=>ho pins s1 σ H1 x v Q I1 r1 q1)
theorem opI {f:Value->Value->Sem Value}{C:Int->Int->Prop}{g:Int->Int->Int}
  (rule:∀ (i j:Int) (t u:Tok) (s:Shared) (Q:Value->Shared->Prop) (E:Value->Shared->Prop),C i j->Q (.int (g i j) s.toks) { s with toks:=s.toks+1 }->wpAny (model X.prog X.w) X.A (f (.int i t) (.int j u)) Q E s) :
  OpR X f (rI C fun i j=>.int (g i j)):=by
 intro pins s σ H x y v u Q I rx ry h;obtain⟨i,j,rfl,rfl,hc,q⟩:=h;obtain⟨t,rfl⟩:=rx;obtain⟨t',rfl⟩:=ry;exact rule i j t t' s _ _ hc ⟨.int (g i j),H,I.tok _,⟨_,rfl⟩,q⟩
theorem opI0 {f:Value->Value->Sem Value}{g:Int->Int->Int}
  (rule:∀ (i j:Int) (t u:Tok) (s:Shared) (Q:Value->Shared->Prop) (E:Value->Shared->Prop),Q (.int (g i j) s.toks) { s with toks:=s.toks+1 }->wpAny (model X.prog X.w) X.A (f (.int i t) (.int j u)) Q E s) :
  OpR X f (rI0 fun i j=>.int (g i j)):=by
 intro pins s σ H x y v u Q I rx ry h;obtain⟨i,j,rfl,rfl,q⟩:=h;obtain⟨t,rfl⟩:=rx;obtain⟨t',rfl⟩:=ry;exact rule i j t t' s _ _ ⟨.int (g i j),H,I.tok _,⟨_,rfl⟩,q⟩
theorem opB0 {f:Value->Value->Sem Value}{g:Int->Int->Bool}
  (rule:∀ (i j:Int) (t u:Tok) (s:Shared) (Q:Value->Shared->Prop) (E:Value->Shared->Prop),Q (.bool (g i j)) s->wpAny (model X.prog X.w) X.A (f (.int i t) (.int j u)) Q E s) :
  OpR X f (rI0 fun i j=>.bl (g i j)):=by
 intro pins s σ H x y v u Q I rx ry h;obtain⟨i,j,rfl,rfl,q⟩:=h;obtain⟨t,rfl⟩:=rx;obtain⟨t',rfl⟩:=ry;exact rule i j t t' s _ _ ⟨.bl (g i j),H,I,rfl,q⟩
def CDiv (i j:Int):Prop:=0<j/\j<1073741824
def CPow (i j:Int):Prop:=0<=j/\j<=1000000/\i.natAbs<2 ^ 64
def CMul (i j:Int):Prop:=(-(2 ^ 64)<i/\i<2 ^ 64)∨(-(2 ^ 64)<j/\j<2 ^ 64)
theorem CMul.ok {i j:Int} (h:CMul i j):IntMulOk i j:=by
 rcases h with ⟨h1,h2⟩ | ⟨h1,h2⟩
 ·exact .of_left (intBits_le_64 h1 h2)
 ·exact .of_right (intBits_le_64 h1 h2)
theorem Za7:OpR X (binaryOp .Add) (rI0 fun i j=>.int (i+j)):=opI0 fun _ _ _ _ _ _ _ q=>add_int q
theorem ZbA:OpR X (binaryOp .Sub) (rI0 fun i j=>.int (i - j)):=opI0 fun _ _ _ _ _ _ _ q=>sub_int q
theorem Zdb:OpR X (binaryOp .Mult) (rI CMul fun i j=>.int (i*j)):=opI fun _ _ _ _ _ _ _ hc q=>mul_int q hc.ok
theorem Zlf:OpR X (binaryOp .FloorDiv) (rI CDiv fun i j=>.int (i / j)):=opI fun i j _ _ _ _ _ hc q=>by
 have h1:(0:Int)<j:=hc.1;have h2:j<1073741824:=hc.2;exact floordiv_int (by omega) (by rw[Yek i (by omega)];exact q) (.inl (PyProof.noPylong_small (by omega)))
theorem ZaU:OpR X (binaryOp .Mod) (rI (fun _ j=>0<j) fun i j=>.int (i % j)):=opI fun i j _ _ _ _ _ hc q=>by
 have h1:(0:Int)<j:=hc;exact mod_int' (by omega) (by rw[Int.fmod_eq_emod_of_nonneg i (by omega)];exact q)
theorem ZcJ:OpR X (binaryOp .Pow) (rI CPow fun i j=>.int (i ^ j.toNat)):=opI fun _ _ _ _ _ _ _ hc q=>pow_int_small hc.1 hc.2.1 hc.2.2 q
theorem unI {f:Value->Sem Value}{g:Int->Int}
  (rule:∀ (i:Int) (t:Tok) (s:Shared) (Q:Value->Shared->Prop) (E:Value->Shared->Prop),Q (.int (g i) s.toks) { s with toks:=s.toks+1 }->wpAny (model X.prog X.w) X.A (f (.int i t)) Q E s) :
  UnR X f (rU fun i=>.int (g i)):=by
 intro pins s σ H x v Q I rx h;obtain⟨i,rfl,q⟩:=h;obtain⟨t,rfl⟩:=rx;exact rule i t s _ _ ⟨.int (g i),H,I.tok _,⟨_,rfl⟩,q⟩
theorem Zf1:UnR X (unaryOp .USub) (rU fun i=>.int (-i)):=unI fun _ _ _ _ _ q=>neg_int q
end
def scal:V->V->Bool
 | .non,.non=>true | .non,.int _=>true | .int _,.non=>true | .non,.bl _=>true | .bl _,.non=>true | .non,.str _=>true | .str _,.non=>true
 | .int _,.int _=>true | .bl _,.bl _=>true | .str _,.str _=>true | .byt _,.byt _=>true
 | .int _,.str _=>true | .str _,.int _=>true | .bl _,.str _=>true | .str _,.bl _=>true
 | _,_=>false
def rEq:R2:=fun x y H Q=>scal x y=true/\Q (.bl (decide (x=y))) H
def rNe:R2:=fun x y H Q=>scal x y=true/\Q (.bl (!decide (x=y))) H
theorem ZiO {i j:Int}:decide (V.int i=V.int j)=(i == j):=by
 rw[YcM];simp
theorem ZkF {i j:Bool}:decide (V.bl i=V.bl j)=(i == j):=by
 rw[YcM];simp
theorem ZiN {i j:Str}:decide (V.str i=V.str j)=(i == j):=by
 rw[YcM];simp
theorem ZiP {i j:Array UInt8}:decide (V.byt i=V.byt j)=(i.toList == j.toList):=by
 rw[YcM];cases i;cases j;simp
section
variable {X:Cx}{a b c:Expr}{ta tb tc:TE}{pos:Pos}
theorem ZaE {pins:List (Addr × Obj)}{σ:St}{H:Hp}{s:Shared}{Q:VK}{k k':Bool} (I:Inv X pins σ H s) (q:Q (.bl k) H) (e:k=k'):EP X pins σ Q (.bool k') s:=by
 subst e;exact⟨.bl k,H,I,rfl,q⟩
theorem ZjA:OpR X (compareOp .Eq) rEq:=by
 intro pins s σ H x y v u Q I rx ry h;obtain⟨hs,q⟩:=h
 cases x with
 | non=>
  cases rx
  cases y with
  | non=>cases ry;exact PySem.EqNone.eq_none_none (ZaE I q (by simp))
  | bl j=>cases ry;exact PySem.EqNone.eq_none_bool (ZaE I q (by simp))
  | int j=>obtain⟨t',rfl⟩:=ry;exact PySem.EqNone.eq_none_int (ZaE I q (by simp))
  | str j=>obtain⟨t',rfl⟩:=ry;exact PySem.EqNone.eq_none_str (ZaE I q (by simp))
  | _=>exact absurd (show false=true from hs) YaA
 | bl i=>
  cases rx
  cases y with
  | non=>cases ry;exact PySem.EqNone.eq_bool_none (ZaE I q (by simp))
  | bl j=>cases ry;exact eq_bool (ZaE I q ZkF)
  | str j=>obtain⟨t',rfl⟩:=ry;exact PySem.EqMixed.eq_bool_str (ZaE I q (by simp))
  | _=>exact absurd (show false=true from hs) YaA
 | int i=>
  obtain⟨t,rfl⟩:=rx
  cases y with
  | non=>cases ry;exact PySem.EqNone.eq_int_none (ZaE I q (by simp))
  | int j=>obtain⟨t',rfl⟩:=ry;exact eq_int (ZaE I q ZiO)
  | str j=>obtain⟨t',rfl⟩:=ry;exact PySem.EqMixed.eq_int_str (ZaE I q (by simp))
  | _=>exact absurd (show false=true from hs) YaA
 | str i=>
  obtain⟨t,rfl⟩:=rx
  cases y with
  | non=>cases ry;exact PySem.EqNone.eq_str_none (ZaE I q (by simp))
  | bl j=>cases ry;exact PySem.EqMixed.eq_str_bool (ZaE I q (by simp))
  | int j=>obtain⟨t',rfl⟩:=ry;exact PySem.EqMixed.eq_str_int (ZaE I q (by simp))
  | str j=>obtain⟨t',rfl⟩:=ry;exact eq_str (ZaE I q ZiN)
  | _=>exact absurd (show false=true from hs) YaA
 | byt i=>
  obtain⟨t,rfl⟩:=rx
  cases y with
  | byt j=>obtain⟨t',rfl⟩:=ry;exact PySem.W.eq_bytes (ZaE I q ZiP)
  | _=>exact absurd (show false=true from hs) YaA
 | _=>cases y <;> exact absurd (show false=true from hs) YaA
theorem Zds:OpR X (compareOp .NotEq) rNe:=by
 intro pins s σ H x y v u Q I rx ry h;obtain⟨hs,q⟩:=h
 cases x with
 | non=>
  cases rx
  cases y with
  | non=>cases ry;exact PySem.EqNone.ne_none_none (ZaE I q (by simp))
  | bl j=>cases ry;exact PySem.EqNone.ne_none_bool (ZaE I q (by simp))
  | int j=>obtain⟨t',rfl⟩:=ry;exact PySem.EqNone.ne_none_int (ZaE I q (by simp))
  | str j=>obtain⟨t',rfl⟩:=ry;exact PySem.EqNone.ne_none_str (ZaE I q (by simp))
  | _=>exact absurd (show false=true from hs) YaA
 | bl i=>
  cases rx
  cases y with
  | non=>cases ry;exact PySem.EqNone.ne_bool_none (ZaE I q (by simp))
  | bl j=>cases ry;exact ne_bool (ZaE I q (congrArg not ZkF))
  | str j=>obtain⟨t',rfl⟩:=ry;exact PySem.EqMixed.ne_bool_str (ZaE I q (by simp))
  | _=>exact absurd (show false=true from hs) YaA
 | int i=>
  obtain⟨t,rfl⟩:=rx
  cases y with
  | non=>cases ry;exact PySem.EqNone.ne_int_none (ZaE I q (by simp))
  | int j=>obtain⟨t',rfl⟩:=ry;exact ne_int (ZaE I q (congrArg not ZiO))
  | str j=>obtain⟨t',rfl⟩:=ry;exact PySem.EqMixed.ne_int_str (ZaE I q (by simp))
  | _=>exact absurd (show false=true from hs) YaA
 | str i=>
  obtain⟨t,rfl⟩:=rx
  cases y with
  | non=>cases ry;exact PySem.EqNone.ne_str_none (ZaE I q (by simp))
  | bl j=>cases ry;exact PySem.EqMixed.ne_str_bool (ZaE I q (by simp))
  | int j=>obtain⟨t',rfl⟩:=ry;exact PySem.EqMixed.ne_str_int (ZaE I q (by simp))
  | str j=>obtain⟨t',rfl⟩:=ry;exact ne_str (ZaE I q (congrArg not ZiN))
  | _=>exact absurd (show false=true from hs) YaA
 | byt i=>
  obtain⟨t,rfl⟩:=rx
  cases y with
  | byt j=>obtain⟨t',rfl⟩:=ry;exact PySem.W.ne_bytes (ZaE I q (congrArg not ZiP))
  | _=>exact absurd (show false=true from hs) YaA
 | _=>cases y <;> exact absurd (show false=true from hs) YaA
theorem ZgU:OpR X (compareOp .Lt) (rI0 fun i j=>.bl (decide (i<j))):=opB0 fun _ _ _ _ _ _ _ q=>lt_int q
theorem Zdt:OpR X (compareOp .LtE) (rI0 fun i j=>.bl (decide (i<=j))):=opB0 fun _ _ _ _ _ _ _ q=>le_int q
theorem ZfL:OpR X (compareOp .Gt) (rI0 fun i j=>.bl (decide (j<i))):=opB0 fun _ _ _ _ _ _ _ q=>gt_int q
theorem Zmd:OpR X (compareOp .GtE) (rI0 fun i j=>.bl (decide (j<=i))):=opB0 fun _ _ _ _ _ _ _ q=>ge_int q
theorem ZaJ (b:Expr) {op:CmpOp} (h:op≠.In:=by decide) (h2:op≠.NotIn:=by decide):behindInMarks op b=false:=by
 have e1:(op == CmpOp.In)=false:=by cases op <;> first | rfl | exact absurd rfl h
 have e2:(op == CmpOp.NotIn)=false:=by cases op <;> first | rfl | exact absurd rfl h2
 cases b <;> simp[behindInMarks,e1,e2]
theorem ZhT {op:CmpOp}{r:R2} (ho:OpR X (compareOp op) r) (ha:PE X a ta) (hb:PE X b tb) (hm:behindInMarks op b=false):PE X (.Compare a [op] [b] pos) (tOp r ta tb):=by
 intro pins s σ H Q I h;exact wpAny_Compare1 (binT ha hb I h fun v u s2 x y H2 I2 rx ry q=>ho pins s2 σ H2 x y v u Q I2 rx ry q) hm
def ZlP (t:TE):TT:=fun σ H Q=>t σ H fun x H'=>∃ k,x=.bl k/\Q k H'
theorem Zaz {op:CmpOp}{r:R2} (ho:OpR X (compareOp op) r) (ha:PE X a ta) (hb:PE X b tb) (hm:behindInMarks op b=false):PT X (.Compare a [op] [b] pos) (ZlP (tOp r ta tb)):=by
 intro pins s σ H Q I h;refine wpAny_isTrue_Compare1 (thn (ha pins s σ H _ I h) fun v s1 ⟨x,H1,I1,r1,q1⟩=>thn (hb pins s1 σ H1 _ I1 q1) fun u s2 ⟨y,H2,I2,r2,q2⟩=>
  thn (ho pins s2 σ H2 x y v u _ I2 r1 r2 q2) fun c s3 ⟨z,H3,I3,r3,k,e,q3⟩=>?_) hm
 subst e;cases r3;exact wpAny_truthy_bool ⟨H3,I3,q3⟩
def Zkh (r r':R2) (ta tb tc:TE):TE:=fun σ H Q=>ta σ H fun x H1=>tb σ H1 fun y H2=>r x y H2 fun z H3=>∃ k,z=.bl k /\
 (if k=true then tc σ H3 fun w' H4=>r' y w' H4 Q else Q (.bl false) H3)
theorem Zef {op op':CmpOp}{r r':R2} (ho:OpR X (compareOp op) r) (ho':OpR X (compareOp op') r') (ha:PE X a ta) (hb:PE X b tb) (hc:PE X c tc)
  (hm:lastMarks [op,op'] [b,c]=false:=by with_unfolding_all rfl):PE X (.Compare a [op,op'] [b,c] pos) (Zkh r r' ta tb tc):=by
 intro pins s σ H Q I h;refine Compare_chain (thn (ha pins s σ H _ I h) fun v s1 ⟨x,H1,I1,r1,q1⟩=>chain_link (thn (hb pins s1 σ H1 _ I1 q1) fun u s2 ⟨y,H2,I2,r2,q2⟩=>
  thn (ho pins s2 σ H2 x y v u _ I2 r1 r2 q2) fun d s3 ⟨z,H3,I3,r3,k,e,q3⟩=>?_)) hm
 subst e;cases r3;refine wpAny_truthy_bool ?_
 cases k with
 | false=>exact ite_ff ⟨.bl false,H3,I3,rfl,q3⟩
 | true=>exact ite_tt (chain_last (thn (hc pins s3 σ H3 _ I3 q3) fun w' s4 ⟨z',H4,I4,r4,q4⟩=>ho' pins s4 σ H4 y z' u w' Q I4 r2 r4 q4))
theorem ZcS {op op':CmpOp}{r r':R2} (ho:OpR X (compareOp op) r) (ho':OpR X (compareOp op') r') (ha:PE X a ta) (hb:PE X b tb) (hc:PE X c tc)
  (hm:lastMarks [op,op'] [b,c]=false:=by with_unfolding_all rfl):PT X (.Compare a [op,op'] [b,c] pos) (ZlP (Zkh r r' ta tb tc)):=by
 intro pins s σ H Q I h;refine isTrue_chain (thn (ha pins s σ H _ I h) fun v s1 ⟨x,H1,I1,r1,q1⟩=>test_link (thn (hb pins s1 σ H1 _ I1 q1) fun u s2 ⟨y,H2,I2,r2,q2⟩=>
  thn (ho pins s2 σ H2 x y v u _ I2 r1 r2 q2) fun d s3 ⟨z,H3,I3,r3,k,e,q3⟩=>?_)) hm
 subst e;cases r3;refine wpAny_truthy_bool ?_
 cases k with
 | false=>
  obtain⟨k',e',q'⟩:=q3;cases e';exact ite_ff ⟨H3,I3,q'⟩
 | true=>
  refine ite_tt (test_last (thn (hc pins s3 σ H3 _ I3 q3) fun w' s4 ⟨z',H4,I4,r4,q4⟩=>thn (ho' pins s4 σ H4 y z' u w' _ I4 r2 r4 q4) fun d' s5 ⟨z2,H5,I5,r5,k2,e2,q5⟩=>?_));subst e2;cases r5;exact wpAny_truthy_bool ⟨H5,I5,q5⟩
theorem ZeZ:(sizeLine:Nat)<2 ^ 63:=by rw[sizeLine_eq];decide
theorem Zcv {x:V}{us:List Value} (r:Vals [x] us):∃ u,us=[u]/\RelV x u:=by
 cases r with
 | cons r1 r2=>cases r2;exact⟨_,rfl,r1⟩
theorem ZkP {x y:V}{us:List Value} (r:Vals [x,y] us):∃ u w',us=[u,w']/\RelV x u/\RelV y w':=by
 cases r with
 | cons r1 r2=>
  cases r2 with
  | cons r3 r4=>cases r4;exact⟨_,_,rfl,r1,r3⟩
theorem Zfi:ZbO X (.type "int") (fun xs H Q=>(∃ i,xs=[.int i]/\Q (.int i) H)∨∃ k,xs=[.bl k]/\Q (.int (if k then 1 else 0)) H):=by
 intro pins s σ H xs us Q I r h;rcases h with ⟨i,rfl,q⟩ | ⟨k,rfl,q⟩
 ·obtain⟨u,rfl,t,rfl⟩:=Zcv r;exact call_int_int ⟨.int i,H,I,⟨_,rfl⟩,q⟩
 ·obtain⟨u,rfl,r1⟩:=Zcv r;cases r1;exact call_int_bool ⟨.int (if k then 1 else 0),H,I.tok _,⟨_,rfl⟩,q⟩
end
end L2
namespace L2
open PySem PySem.Spec PyProof.Rows
structure ObjM (h:Heap) (x dx C:Addr) (mA:Str->Option Value):Prop where
 obj:h.get? x=some (YdG C dx)
 ns:h.Ns1 dx mA
 ne:dx≠x
theorem Zil {h:Heap}{dx:Addr}{mA:Str->Option Value} (n:h.Ns1 dx mA):∃ od,h.get? dx=some od/\∀ name,YdO name od=some (mA name):=by
 obtain⟨o,es,ep,ho,hd,hk,_,hm⟩:=n;refine⟨o,ho,fun name=>?_⟩;have e:=hm name;unfold nsFind findBy at e;rw[<- Array.find?_toList] at e;unfold YdO;rw[hd];dsimp only;split
 ·rename_i y q;rw[q] at e;exact congrArg some e
 ·rename_i q;rw[q] at e;have a:es.toList.any (·.refKey)=false:=by
   rw[List.any_eq_false];intro y hy;obtain⟨z,t,hkey⟩:=hk y (Ydm.mp hy);simp[DictEntry.refKey,hkey]
  have a':¬ es.toList.any (·.refKey)=true:=by rw[a];exact YaA
  rw[if_neg a'];exact congrArg some e
theorem ObjM.look {h:Heap}{x dx C:Addr}{mA:Str->Option Value} (I:ObjM h x dx C mA):∃ od,PySem.W.InstAt h x (YdG C dx) C (some od)/\∀ name,YdO name od=some (mA name) :=
 let ⟨od,ho,hl⟩:=Zil I.ns
 ⟨od,⟨I.obj,rfl,rfl,ho⟩,hl⟩
section
variable {prog:Program}{w:World}{A:Around}{E:Value->Shared->Prop}{s:Shared}{K:Yac}{x dx C f:Addr}{mA:Str->Option Value}{name:Str}{v:Value}
end
section
variable {P:Program}{w:World}{H H':Hp}{h h':Heap}{a C dx:Addr}{fs fs':List (Str × V)}
theorem Zlu (hok:HOk P w H h) (e:H a=some (.ins C dx fs)):∃ mA,ObjM h a dx C mA/\(∀ f,RelO (fs.lookup f) (mA f))/\PySem.Within mA (fs.map (·.1))/\fs.length<=1000/\H dx=some (.own a):=by
 obtain⟨d,z,ne,ob,mA,n,r,q⟩:=(show ObjOk P w H h a (.ins C dx fs) from hok a _ e)
 exact⟨mA,⟨ob,n,ne⟩,r,q,z,d⟩
end
structure Cls (K:Yac) (C:Addr):Prop where
 pg:YeW K C Ydj=true
 hd:PySem.W.hasDictIn K C=true
 po:PySem.W.plainOver K C=true
 sa:YcN K (.ref C) "__setattr__"=some (some (.builtin "object.__setattr__"))
theorem Cls.get {K:Yac}{C:Addr} (c:Cls K C) (f:Str):YeW K C f=true:=c.pg
structure Con (K:Yac) (C:Addr) (f:Str) (v:V) (u:Value):Prop where
 at_:YcN K (.ref C) f=some (some u)
 rel:RelV v u
 get:YeM K u "__get__"=some none
 cp:PySem.W.copiedNames.contains f=false
structure Meth (K:Yac) (C:Addr) (m:Str) (f:Addr):Prop where
 at_:YcN K (.ref C) m=some (some (.ref f))
 fn:PySem.W.isFn K (.ref f)=true
 kp:Yav K (.ref f)=true
section
variable {X:Cx}{pins:List (Addr × Obj)}{σ:St}{H:Hp}{s:Shared}{a C dx:Addr}{fs:List (Str × V)}{f:Str}{v:V}{A:Around}{E:Value->Shared->Prop}
end
section
variable {X:Cx}{o e value:Expr}{f:Str}{pos pos' tpos:Pos}{ta tv:TE}
end
section
variable {X:Cx}{pins:List (Addr × Obj)}{σ:St}{H:Hp}{s:Shared}{A:Around}{E:Value->Shared->Prop}{Q:Value->Shared->Prop}{c:Value}{b:Bool}
inductive TyOf (K:Yac) (H:Hp):V->Value->Prop where
 | non:TyOf K H .non (.type "NoneType")
 | bl (x:Bool):TyOf K H (.bl x) (.type "bool")
 | int (i:Int):TyOf K H (.int i) (.type "int")
 | str (x:Str):TyOf K H (.str x) (.type "str")
 | flt (x:UInt64):TyOf K H (.flt x) (.type "float")
 | lst {a:Addr}{xs:List V} (e:H a=some (.lst xs)):TyOf K H (.ref a) (.type "list")
 | frz {a:Addr}{o:Obj}{xs:List V} (e:H a=some (.frz o (.lst xs))):TyOf K H (.ref a) (.type "list")
 | tup {a:Addr}{xs:List V} (e:H a=some (.tup xs)):TyOf K H (.ref a) (.type "tuple")
 | dK {a:Addr}{kvs:List (Key × V)} (e:H a=some (.dK kvs)):TyOf K H (.ref a) (.type "dict")
 | dT {a:Addr}{kvs:List (List Key × V)} (e:H a=some (.dT kvs)):TyOf K H (.ref a) (.type "dict")
 | ins {a C dx:Addr}{fs:List (Str × V)} (e:H a=some (.ins C dx fs)) (cl:Cls K C) (ha:YcN K (.ref C) "__class__"=some (some (.builtin "object.__class__")))
   (hn:YeM K (.builtin "object.__class__") "__get__"=some (some (.builtin "getset_descriptor.__get__"))) (htk:PySem.W.takesIn K (.builtin "object.__class__")=some true)
   (hm:PySem.W.mroIn K C (.type "object")=some true):TyOf K H (.ref a) (.ref C)
theorem Zix {x:V}{u t:Value} (I:Inv X pins σ H s) (rx:RelV x u) (ty:TyOf X.K H x t) (e:Yby X.K t c=some b) (h:∀ tk,Q (.bool b) { s with toks:=tk }) :
  wpAny (model X.prog X.w) A (call (.builtin "isinstance") [u,c]) Q E s:=by
 cases ty with
 | non=>cases (show u=YbR from rx);exact Ybz PySem.W.kitx_none I.kIn YdD e (fun z=>nomatch z) h
 | bl y=>cases (show u=Ydy y from rx);exact Ybz PySem.W.kitx_bool I.kIn YdD e (fun z=>nomatch z) h
 | int i=>obtain⟨t,q⟩:=(show ∃ t,u=YdN i t from rx);cases q;exact Ybz PySem.W.kitx_int I.kIn YdD e (fun z=>nomatch z) h
 | str y=>obtain⟨t,q⟩:=(show ∃ t,u=YdM y t from rx);cases q;exact Ybz PySem.W.kitx_str I.kIn YdD e (fun z=>nomatch z) h
 | flt y=>obtain⟨t,q⟩:=(show ∃ t,u=Value.float y t from rx);cases q;exact Ybz PySem.W.kitx_float I.kIn YdD e (fun z=>nomatch z) h
 | @lst a xs ea=>
  cases (show u=YaL a from rx);obtain⟨_,_,n,_,h1⟩:=(show ObjOk X.prog X.w H s.heap a (.lst xs) from I.hok a _ ea)
  exact Ybz YeN I.kIn ⟨_,h1,rfl⟩ e (fun z=>nomatch z) h
 | @frz a ob xs ea=>
  cases (show u=YaL a from rx);obtain⟨_,_,_,n,_,h1⟩:=(show ObjOk X.prog X.w H s.heap a (.frz ob (.lst xs)) from I.hok a _ ea)
  exact Ybz YeN I.kIn ⟨_,h1,rfl⟩ e (fun z=>nomatch z) h
 | @tup a xs ea=>
  cases (show u=YaL a from rx);obtain⟨_,_,_,p⟩:=(show ObjOk X.prog X.w H s.heap a (.tup xs) from I.hok a _ ea)
  obtain⟨o,h1,h2,_⟩:=p;exact Ybz PySem.W.kitx_tuple I.kIn ⟨o,h1,h2⟩ e (fun z=>nomatch z) h
 | @dK a kvs ea=>
  cases (show u=YaL a from rx);obtain⟨_,_,vs,_,p⟩:=(show ObjOk X.prog X.w H s.heap a (.dK kvs) from I.hok a _ ea)
  obtain⟨o,es,ep,h1,h2,_⟩:=p;exact Ybz YeO I.kIn ⟨o,h1,h2.1⟩ e (fun z=>nomatch z) h
 | @dT a kvs ea=>
  cases (show u=YaL a from rx);obtain⟨_,_,xs,_,o,es,ep,h1,h2,_⟩:=(show ObjOk X.prog X.w H s.heap a (.dT kvs) from I.hok a _ ea)
  exact Ybz YeO I.kIn ⟨o,h1,h2.1⟩ e (fun z=>nomatch z) h
 | @ins a C dx fs ea cl ha hn htk hm=>
  cases (show u=YaL a from rx);obtain⟨mA,O,_⟩:=Zlu I.hok ea;obtain⟨od,J,_⟩:=O.look;exact Ybz (PySem.W.kitx_own (cl.get _) cl.hd ha hn htk hm) I.kIn J e (fun z=>nomatch z) h
end
end L2
namespace L2
open PySem PySem.Spec PyProof.Rows
structure Room (k:Nat) (A:Around):Prop where
 hd:A.handled=none
 dp:A.depth+3*k+5<recursionLimit
 un:A.units+16*k+200<cLine
 gd:A.guards=some []
theorem Room.mono {j k:Nat}{A:Around} (r:Room k A) (h:j<=k):Room j A:=⟨r.hd,by have:=r.dp;omega,by have:=r.un;omega,r.gd⟩
theorem Room.deeper {k:Nat}{A:Around} (r:Room (k+1) A) (env:Env):Room k (A.deeper env) :=
 ⟨r.hd,by have:=r.dp;show A.depth+1+3*k+5<_;omega,by have:=r.un;show A.units+3+16*k+200<_;omega,r.gd⟩
theorem Room.depth {k:Nat}{A:Around} (r:Room k A):A.depth<recursionLimit:=by have:=r.dp;omega
theorem Room.units {k:Nat}{A:Around} (r:Room k A):A.units+64<cLine:=by have:=r.un;omega
def tNil:TA:=fun _ H Q=>Q [] H
def ZlU (ta:TE) (tr:TA):TA:=fun σ H Q=>ta σ H fun x H1=>tr σ H1 fun xs H2=>Q (x::xs) H2
section
variable {X:Cx}{e:Expr}{es:List Expr}{te:TE}{t:TA}{pos:Pos}
theorem Zac:PA X [] tNil:=fun _ _ _ _ H Q I h=>Calls.spliced_nil ⟨[],H,I,.nil,h⟩
theorem Zaa (ha:PE X e te) (hr:PA X es t) (hs:starEach (e::es) X.env=(false,eval e X.env)::starEach es X.env:=by rfl):PA X (e::es) (ZlU te t):=by
 intro pos pins s σ H Q I h;rw[hs];show wpAny _ _ (spliced ((false,eval e X.env)::backTo pos (starEach es X.env))) _ _ s;refine Calls.spliced_cons (thn (ha pins s σ H _ I h) fun u s1 ⟨x,H1,I1,r1,q1⟩=>?_);exact thn (hr pos pins s1 σ H1 _ I1 q1) fun us s2 ⟨xs,H2,I2,r2,q2⟩=>⟨x::xs,H2,I2,.cons r1 r2,q2⟩
def tTup (t:TA):TE:=fun σ H Q=>t σ H fun xs H1=>xs.length<=sizeLine/\∀ p,H1 p=none->Q (.ref p) (upd H1 p (.tup xs))
def tLst (t:TA):TE:=fun σ H Q=>t σ H fun xs H1=>xs.length<=sizeLine/\∀ p,H1 p=none->Q (.ref p) (upd H1 p (.lst xs))
theorem ZbZ {x1} (h:PA X es t):PE X (.Tuple es x1 pos) (tTup t):=by
 intro pins s σ H Q I hq;refine wpAny_Tuple_spliced (thn (h pos pins s σ H _ I hq) fun us s1 ⟨xs,H1,I1,r,z,q⟩=>⟨by rw[<- r.length];exact z,?_⟩);have hf:H1 s1.heap.objs.size=none:=I1.hok.fresh (Yag _);refine⟨.ref s1.heap.objs.size,upd H1 s1.heap.objs.size (.tup xs),I1.laid (t':=s1.toks) (fun b u e=>Yad _ e) (Yag _) ?_,rfl,q _ hf⟩;exact⟨z,us,r,⟨_,Yat _ rfl,rfl,rfl,_,rfl⟩⟩
theorem ZaM (h:PA X es t):PE X (.List es pos) (tLst t):=by
 intro pins s σ H Q I hq;refine wpAny_List_spliced (thn (h pos pins s σ H _ I hq) fun us s1 ⟨xs,H1,I1,r,z,q⟩=>⟨by rw[<- r.length];exact z,?_⟩);have hf:H1 s1.heap.objs.size=none:=I1.hok.fresh (Yag _);refine⟨.ref s1.heap.objs.size,upd H1 s1.heap.objs.size (.lst xs),I1.laid (t':=s1.toks) (fun b u e=>Yad _ e) (Yag _) ?_,rfl,q _ hf⟩;exact⟨z,us,0,r,Yat _ rfl⟩
end
abbrev Sp:=List V->Hp->VK->XK->Prop
abbrev CXT:=List Env->Hp->Shared->XK->Value->Shared->Prop
structure Env0 (P:Program) (w:World) (K:Yac) (mg:Str->Option Value) (base:Heap) (A:Around) (outer:List Env) (s:Shared) (H:Hp):Prop where
 frames:A.frames=some outer
 mod:Mod K mg base
 bs:∀ b o,base.get? b=some o->s.heap.get? b=some o/\H b=none
 bsz:base.objs.size<=s.heap.objs.size
 funs:s.heap.FunFrames base outer
 frf:∀ b∈frs outer,H b=none
 hok:HOk P w H s.heap
 bare:AllBare s.gens
def CE (outer:List Env) (P:Program) (w:World) (H:Hp) (s:Shared) (Q:VK) (u:Value) (s':Shared):Prop :=
 ∃ v H',s'.os=s.os/\AllBare s'.gens/\Un (frs outer) [] H H' s.heap s'.heap/\HOk P w H' s'.heap/\RelV v u/\Q v H'
def CR (CX:CXT) (outer:List Env) (P:Program) (w:World) (H:Hp) (s:Shared) (Q:VK) (E:XK) (r:Result) (s':Shared):Prop :=
 match r with
 | .ok (.ret u)=>CE outer P w H s Q u s'
 | .ok _=>False
 | .error e=>CX outer H s E e s'
structure FnOk (P:Program) (w:World) (K:Yac) (mg:Str->Option Value) (base:Heap) (CX:CXT) (k:Nat) (f:Addr) (fd:FuncData) (ps:List Str) (sp:Sp):Prop where
 len:∀ vs H Q E,sp vs H Q E->vs.length=ps.length
 run:∀ (A:Around) (outer:List Env) (s:Shared) (H:Hp) (args:Args) (us:List Value) (vs:List V) (Q:VK) (E:XK),Room k A->Env0 P w K mg base A outer s H->BindsTo s fd args (ps.zip us)->Vals vs us->sp vs H Q E ->
  codeAny (model P w) A (.call (.ref f) args) (CR CX outer P w H s Q E) s
theorem FnOk.imp {P:Program}{w:World}{K:Yac}{mg:Str->Option Value}{base:Heap}{CX:CXT}{k:Nat}{f:Addr}{fd:FuncData}{ps:List Str}{sp sp':Sp} (F:FnOk P w K mg base CX k f fd ps sp)
  (h:∀ vs H Q E,sp' vs H Q E->sp vs H Q E):FnOk P w K mg base CX k f fd ps sp' :=
 ⟨fun vs H Q E q=>F.len vs H Q E (h _ _ _ _ q),fun A outer s H args us vs Q E hr he hb hv hs=>F.run A outer s H args us vs Q E hr he hb hv (h _ _ _ _ hs)⟩
section
variable {X:Cx}{pins:List (Addr × Obj)}{σ:St}{H:Hp}{s s':Shared}
theorem Inv.env0 (I:Inv X pins σ H s):Env0 X.prog X.w X.K X.mg X.base X.A X.stack s H :=
 ⟨I.ok.frames,I.ok.mod,I.bs,Ybx I.ok.bsz I.sz,I.stack,I.stkFree,I.hok,I.bare⟩
theorem Inv.after {Q:VK}{u:Value} (I:Inv X pins σ H s) (h:CE X.stack X.prog X.w H s Q u s'):EP X pins σ Q u s':=by
 obtain⟨v,H',os,bare,un,hok,r,q⟩:=h;obtain⟨hh,g,d,t,os'⟩:=s';obtain rfl:os'=s.os:=os;exact⟨v,H',I.call (h':=hh) (g':=g) (d':=d) (t':=t) (ch:=[]) un hok bare (fun b z=>absurd z (by simp)),r,q⟩
end
def Zhp (sp:Sp) (dvs:List V) (E:XK) (t:TA):TE:=fun σ H Q=>t σ H fun vs H1=>sp (vs++dvs) H1 Q E
def Binds (K:Yac) (fd:FuncData) (ps:List Str) (ds:List Value):Prop :=
 ∀ (s:Shared) (us:List Value),K.In s.heap->(us++ds).length=ps.length->BindsTo s fd ⟨us,[]⟩ (ps.zip (us++ds))
theorem Binds.all {K:Yac}{fd:FuncData}{ps:List Str} (h:∀ us:List Value,us.length=ps.length->bindArgs fd ⟨us,[]⟩=pure (ps.zip us)):Binds K fd ps []:=fun s us _ hl=>by
 rw[YbA] at hl ⊢;exact .of_eq (h us hl)
def ZdW (CX:CXT) (X:Cx) (E:XK):Prop:=∀ (pins:List (Addr × Obj)) (σ:St) (H:Hp) (s:Shared) (e:Value) (s':Shared),Inv X pins σ H s->CX X.stack H s E e s'->X.xe e s'
section
variable {X:Cx}{CX:CXT}{k:Nat}{f C:Addr}{fd:FuncData}{ps:List Str}{sp:Sp}{dvs:List V}{ds:List Value}{E:XK}{x m:Str}{p pos apos:Pos}{e o:Expr}{es:List Expr}{ta:TE}{t:TA}
theorem Zkm {pins:List (Addr × Obj)}{σ:St}{H:Hp}{s:Shared}{Q:VK}{us:List Value}{vs:List V} (F:FnOk X.prog X.w X.K X.mg X.base CX k f fd ps sp) (hr:Room k X.A) (hb:Binds X.K fd ps ds) (hd:Vals dvs ds) (hx:ZdW CX X E)
  (I:Inv X pins σ H s) (r:Vals vs us) (h:sp (vs++dvs) H Q E):wpAny (model X.prog X.w) X.A (call (.ref f) us) (EP X pins σ Q) X.xe s:=by
 have r2:Vals (vs++dvs) (us++ds):=r.append hd;have hl:(us++ds).length=ps.length:=by rw[<- r2.length];exact F.len _ _ _ _ h
 refine wpAny_call (codeAny_mono (F.run X.A X.stack s H ⟨us,[]⟩ (us++ds) (vs++dvs) Q E hr I.env0 (hb s us I.kIn hl) r2 h) fun r s' hq=>?_)
 cases r with
 | error e=>exact hx pins σ H s e s' I hq
 | ok fl=>
  cases fl with
  | ret u=>exact I.after hq
  | next=>exact Ycc hq
  | brk=>exact Ycc hq
  | cont=>exact Ycc hq
theorem ZfK (F:FnOk X.prog X.w X.K X.mg X.base CX k f fd ps sp) (hr:Room k X.A) (hg:Gl X x) (hm:X.mg x=some (.ref f)) (hk:Yav X.K (.ref f)=true) (hb:Binds X.K fd ps ds) (hd:Vals dvs ds) (hx:ZdW CX X E)
  (ha:PA X (e::es) t) (hdb:(x == ("__debug__":Str))=false:=by decide) (he:starEach (e::es) X.env=(false,eval e X.env)::starEach es X.env:=by rfl) (hpl:(backTo pos (starEach es X.env)).any (·.1)=false:=by rfl) :
  PE X (.Call (.Name x p) (e::es) [] pos) (Zhp sp dvs E t):=by
 intro pins s σ H Q I h;refine wpAny_Call_Name_kw (Zek I hg hm ?_ hdb);refine YeE (h₀:=X.base) I.ok.mod.kin hk (thn (ha pos pins s σ H _ I h) fun us s1 ⟨vs,H1,I1,r,q⟩=>⟨I1.kIn,?_⟩) he hpl;exact Zkm F hr hb hd hx I1 r q
structure Mk (K:Yac) (C f:Addr):Prop where
 makes:PySem.W.makesIn K C=true
 init:YcN K (.ref C) "__init__"=some (some (.ref f))
 fn:PySem.W.isFn K (.ref f)=true
 kp:Yav K (.ref C)=true
end
section
variable {X:Cx}{CX:CXT}{k:Nat}{f C:Addr}{fd:FuncData}{ps ks:List Str}{sp:Sp}{E:XK}{x m:Str}{p pos apos kpos:Pos}{e o:Expr}{es:List Expr}{kws:List Keyword}{te ta:TE}{t tk:TA}{nm:Option Str}
structure KBinds (K:Yac) (fd:FuncData) (ps ks:List Str) (g:List Value->List Value->List Value) (gV:List V->List V->List V):Prop where
 to:∀ (s:Shared) (us ws:List Value),K.In s.heap->(g us ws).length=ps.length->BindsTo s fd ⟨us,ks.zip ws⟩ (ps.zip (g us ws))
 rel:∀ {vs:List V}{us:List Value}{zs:List V}{ws:List Value},Vals vs us->Vals zs ws->Vals (gV vs zs) (g us ws)
variable {g:List Value->List Value->List Value}{gV:List V->List V->List V}
end
structure FnScope (N P:List Str) (sc:Scope):Prop where
 kind:sc.kind=.function
 co:sc.isCoroutine=false
 gen:sc.isGenerator=false
 nd:N.Nodup
 pre:N.take P.length=P
 par:∀ x∈P,sc.names.lookup x=some .local ∨ sc.names.lookup x=some .cell
 nofree:∀ y∈sc.names,y.2≠.free
theorem Zfk {kindOf:Str->Option NameKind}{x:Str}:∀ {binds:List (Str × Value)}{m:Str->Option Value},(∀ v,(x,v) ∉ binds)->bindL kindOf binds m x=m x
 | [],_,_=>rfl
 | (n,v)::r,m,h=>by
  unfold bindL;rw[Zfk fun w hw=>h w (Yap _ hw)];split
  ·have:x≠n:=by rintro rfl;exact h v YaC
   simp[this]
  ·rfl
theorem Zfm {kindOf:Str->Option NameKind}{x:Str}:∀ {binds:List (Str × Value)}{m:Str->Option Value},(∀ v,(x,v) ∉ binds)->bindC kindOf binds m x=m x
 | [],_,_=>rfl
 | (n,v)::r,m,h=>by
  unfold bindC;rw[Zfm fun w hw=>h w (Yap _ hw)];split
  ·rfl
  ·have:x≠n:=by rintro rfl;exact h v YaC
   simp[this]
theorem Zfl {kindOf:Str->Option NameKind}{x:Str}{v:Value}:∀ {P:List Str}{vs:List Value}{i:Nat}{m:Str->Option Value},P.Nodup->P[i]?=some x->vs[i]?=some v->kindOf x=some .local ->
  bindL kindOf (P.zip vs) m x=some v
 | [],_,_,_,_,h,_,_=>by simp at h
 | _::_,[],_,_,_,_,h,_=>by simp at h
 | p::P,w::vs,0,m,nd,h1,h2,hk=>by
  simp at h1 h2;subst h1;subst h2;show bindL kindOf ((p,w)::P.zip vs) m p=_;unfold bindL;rw[Zfk fun v hv=>(Yb7.mp nd).1 (YdY hv).1,if_pos hk];simp
 | p::P,w::vs,i+1,m,nd,h1,h2,hk=>by
  show bindL kindOf ((p,w)::P.zip vs) m x=_;unfold bindL;exact Zfl (i:=i) (Yb7.mp nd).2 (by simpa using h1) (by simpa using h2) hk
theorem Zfn {kindOf:Str->Option NameKind}{x:Str}{v:Value}:∀ {P:List Str}{vs:List Value}{i:Nat}{m:Str->Option Value},P.Nodup->P[i]?=some x->vs[i]?=some v->kindOf x≠some .local ->
  bindC kindOf (P.zip vs) m x=some v
 | [],_,_,_,_,h,_,_=>by simp at h
 | _::_,[],_,_,_,_,h,_=>by simp at h
 | p::P,w::vs,0,m,nd,h1,h2,hk=>by
  simp at h1 h2;subst h1;subst h2;show bindC kindOf ((p,w)::P.zip vs) m p=_;unfold bindC;rw[Zfm fun v hv=>(Yb7.mp nd).1 (YdY hv).1,if_neg hk];simp
 | p::P,w::vs,i+1,m,nd,h1,h2,hk=>by
  show bindC kindOf ((p,w)::P.zip vs) m x=_;unfold bindC;exact Zfn (i:=i) (Yb7.mp nd).2 (by simpa using h1) (by simpa using h2) hk
def start (N:List Str) (vs:List V):St:=vs.map some++Yan (N.length - vs.length) none
def cxOf (CX:CXT) (P:Program) (w:World) (K:Yac) (mg:Str->Option Value) (base:Heap) (N:List Str) (qual:Str) (scope:Scope) (f:Addr) (cd:Value) (A:Around) (outer:List Env) (s:Shared) (H:Hp) (E:XK):Cx where
 prog:=P
 w:=w
 K:=K
 mg:=mg
 base:=base
 A:=A.deeper (envOfC qual scope s.heap.objs.size f cd)
 N:=N
 s₀:=s
 H₀:=H
 env:=envOfC qual scope s.heap.objs.size f cd
 outer:=outer
 stack:=envOfC qual scope s.heap.objs.size f cd::outer
 ex:=[]
 calm:=true
 fn:=fun _=>true
 pn:=[]
 xe:=fun e s'=>wpAny (model P w) (A.deeper (envOfC qual scope s.heap.objs.size f cd)) (leaving (envOfC qual scope s.heap.objs.size f cd) e) (fun _ s''=>CX outer H s E e s'') (fun e' s''=>CX outer H s E e' s'') s'
theorem Zgy {sc:Scope}{n:Nat}{x:Str} (h:sc.names.lookup x=some .cell):∃ c,(cellsFrom n sc.names []).lookup x=some c:=by
 have q:=Yee sc.names n [] (.inl h);exact Yeb.mp q
theorem Ziy {CX:CXT}{P:Program}{w:World}{K:Yac}{mg:Str->Option Value}{base:Heap}{N ps:List Str}{qual:Str}{scope:Scope}{f:Addr}{cd:Value}{A:Around}{outer:List Env}{s s1:Shared}{H:Hp}{E:XK}{us:List Value}{vs:List V}
  (S:FnScope N ps scope) (hd:A.handled=none) (e0:Env0 P w K mg base A outer s H) (hl:vs.length=ps.length) (r:Vals vs us)
  (x:InCallC s s.heap.objs.size (bindL (envOfC qual scope s.heap.objs.size f cd).kindOf (ps.zip us) fun _=>none) (cellsFrom (s.heap.objs.size+1) scope.names []) (bindC (envOfC qual scope s.heap.objs.size f cd).kindOf (ps.zip us) fun _=>none) s1) :
  Inv (cxOf CX P w K mg base N qual scope f cd A outer s H E) [] (start N vs) H s1:=by
 have hpl:ps.length<=N.length:=by have:=congrArg Ycp S.pre;rw[Yax] at this;omega
 obtain⟨h1,tk,rfl,hk⟩:=x.done;have noA:∀ b:Addr,b ∉ (cxOf CX P w K mg base N qual scope f cd A outer s H E).ex:=fun b z=>absurd (show b∈([]:List Addr) from z) (by simp);refine⟨⟨e0.mod,S.kind,rfl,rfl,Yag _,fun y z c h1 h2=>?_,fun y hy=>?_,fun y c _ h=>?_,fun _=>hd,Around.frames_deeper e0.frames,.inr ⟨rfl,rfl⟩,fun b z=>absurd z (noA b),e0.bs,e0.bsz,fun b _ _=>noA b,fun b z=>absurd z (noA b),e0.funs,e0.frf⟩,
  rfl,e0.bare,Un.kept hk,⟨_,x.toInCall.ns,fun i y v h1 h2 h3=>?_⟩,fun y c h=>⟨_,x.cell y c h⟩,e0.hok.fresh (Yag _),fun y c h=>?_,fun p hp=>absurd (show p∈([]:List (Addr × Obj)) from hp) (by simp),e0.hok.kept hk,?_⟩
 ·exact name_of_addr x.apart (YbD h1) (YbD h2)
 ·have hy:scope.names.lookup y=some .cell∨scope.names.lookup y=some .free:=hy;rcases hy with hy | hy
  ·exact Zgy hy
  ·exact absurd rfl (S.nofree _ (YbD hy))
 ·exact Ybj (x.above y c (YbD h))
 ·have hi:i<vs.length:=by
   unfold start at h2;by_cases hi:i<vs.length
   ·exact hi
   ·rw[Ya9 (by simpa using hi)] at h2;rw[Yb1] at h2;split at h2 <;> cases h2
  have ha:vs[i]?=some v:=by
   unfold start at h2;rw[Ya4 (by simpa using hi),Yam] at h2
   cases e:vs[i]? with
   | none=>rw[e] at h2;cases h2
   | some a=>rw[e] at h2;cases h2;rfl
  obtain⟨u,hu,rv⟩:=r.get ha;have hp:ps[i]?=some y:=by
   rw[<- S.pre,Ycq (by omega)];exact h1
  have ndP:ps.Nodup:=by rw[<- S.pre];exact S.nd.sublist (YdE _ _)
  refine⟨u,rv,?_⟩;rcases S.par y (Yaw hp) with k | k
  ·exact .inl ⟨k,Zfl ndP hp hu k⟩
  ·obtain⟨c,e⟩:=Zgy (n:=s.heap.objs.size+1) k;refine .inr ⟨.inl k,c,e,?_⟩;have q:=x.cell y c e;rw[Zfn ndP hp hu (by show scope.names.lookup y≠_;rw[k];decide)] at q;exact q
 ·exact e0.hok.fresh (Ybj (x.above y c (YbD h)))
 ·unfold start;show _=N.length;rw[Yai,Yab,YbJ];omega
theorem ZjZ {CX:CXT}{P:Program}{w:World}{K:Yac}{mg:Str->Option Value}{base:Heap}{k:Nat}{f:Addr}{name qual:Str}{params:Arguments}{body:List Stmt}{scope:Scope}{dV kV doc pm cdv ct oc:Value}{an od:Option Addr}
  {osl:Array (Option Value)}{N ps:List Str}{sp:Sp} (lk:K.lookup f=some ⟨oc,od,.func (YaE name qual params body scope dV kV doc pm an cdv ct),osl⟩) (hcd:YaD K cdv qual=true) (S:FnScope N ps scope)
  (len:∀ vs H Q E,sp vs H Q E->vs.length=ps.length)
  (hbody:∀ (A:Around) (outer:List Env) (s:Shared) (H:Hp) (vs:List V) (Q:VK) (E:XK),Room k (A.deeper (envOfC qual scope s.heap.objs.size f cdv))->sp vs H Q E ->
   ∃ t,PSs (cxOf CX P w K mg base N qual scope f cdv A outer s H E) body t/\t { nx:=fun _ H'=>Q .non H',rt:=Q } (start N vs) H) :
  FnOk P w K mg base CX (k+1) f (YaE name qual params body scope dV kV doc pm an cdv ct) ps sp:=by
 refine⟨len,fun A outer s H args us vs Q E hr e0 hb r hsp=>?_⟩;have hl:=len _ _ _ _ hsp;have KX:K.In s.heap:=e0.mod.kin.keeps fun b o e=>(e0.bs b o e).1
 have lim:s.heap.NoLimit:=e0.mod.nolimit.keeps fun b o e=>(e0.bs b o e).1
 have hkind:∀ y∈ps.zip us,scope.names.lookup y.1=some .local ∨ (scope.names.lookup y.1=some .cell/\((cellsFrom (s.heap.objs.size+1) scope.names []).lookup y.1).isSome=true):=fun ⟨n,v⟩ hy=>by
  rcases S.par n (YdY hy).1 with q | q
  ·exact .inl q
  ·exact .inr ⟨q,Yee _ _ _ (.inl q)⟩
 refine codeAny_call_function hr.depth (KX _ _ lk) rfl S.co S.gen rfl (PySem.W.codeRec_of KX hcd) (hb _ _ _ _ ?_);refine wpAny_newFunctionEnv_cells S.kind hkind fun env he s1 x=>?_;subst he;refine⟨lim.keeps x.toInCall.keep,codeAny_func ?_⟩;obtain⟨t,ht,hq⟩:=hbody A outer s H vs Q E (hr.deeper _) hsp;have I:Inv (cxOf CX P w K mg base N qual scope f cdv A outer s H E) [] (start N vs) H s1:=Ziy S hr.hd e0 hl r x;refine wpAny_mono (ht [] s1 (start N vs) H _ I hq) (fun fl s' hs=>?_) fun e s' hs=>hs;have fin:∀ {σ':St}{H':Hp}{v:V}{u:Value},Inv (cxOf CX P w K mg base N qual scope f cdv A outer s H E) [] σ' H' s'->RelV v u->Q v H'->CE outer P w H s Q u s' :=
  fun {σ' H' v u} J rv q=>⟨v,H',J.os,J.bare,J.base,J.hok,rv,q⟩
 cases fl with
 | ret u=>
  obtain⟨v,σ',H',J,rv,q⟩:=hs;exact fin J rv q
 | next=>
  obtain⟨σ',H',J,q⟩:=hs;exact fin (v:=V.non) (u:=YbR) J rfl q
 | brk=>
  obtain⟨_,_,_,q⟩:=hs;exact Ycc q
 | cont=>
  obtain⟨_,_,_,q⟩:=hs;exact Ycc q
end L2
namespace L2
open PySem PySem.Spec PyProof.Rows
section
variable {X:Cx}{x:Str}{p pos:Pos}{e:Expr}{es:List Expr}{t:TA}{id T:String}{r:List V->Hp->VK->Prop}
def tCB (r:List V->Hp->VK->Prop) (t:TA):TE:=fun σ H Q=>t σ H fun vs H1=>r vs H1 Q
theorem Zai (hc:ZbO X (.builtin id) r) (hg:Gl X x) (hm:X.mg x=none) (hv:bootBuiltins x=some (.builtin id)) (ha:PA X (e::es) t) (hn:x≠"__name__":=by decide) (hdb:(x == ("__debug__":Str))=false:=by decide)
  (he:starEach (e::es) X.env=(false,eval e X.env)::starEach es X.env:=by rfl) (hpl:(backTo pos (starEach es X.env)).any (·.1)=false:=by rfl):PE X (.Call (.Name x p) (e::es) [] pos) (tCB r t):=by
 intro pins s σ H Q I h;refine wpAny_Call_Name_kw (ZdN I hg hm hv ?_ hn hdb);exact PyProof.Rows.callWith_builtin1 (thn (ha pos pins s σ H _ I h) fun us s1 ⟨vs,H1,I1,r1,q1⟩=>hc pins s1 σ H1 vs us Q I1 r1 q1) he hpl
theorem ZaT (hc:ZbO X (.type T) r) (hg:Gl X x) (hm:X.mg x=none) (hv:bootBuiltins x=some (.type T)) (ha:PA X (e::es) t) (hn:x≠"__name__":=by decide) (hdb:(x == ("__debug__":Str))=false:=by decide)
  (he:starEach (e::es) X.env=(false,eval e X.env)::starEach es X.env:=by rfl) (hpl:(backTo pos (starEach es X.env)).any (·.1)=false:=by rfl):PE X (.Call (.Name x p) (e::es) [] pos) (tCB r t):=by
 intro pins s σ H Q I h;refine wpAny_Call_Name_kw (ZdN I hg hm hv ?_ hn hdb);exact Yb0 (thn (ha pos pins s σ H _ I h) fun us s1 ⟨vs,H1,I1,r1,q1⟩=>hc pins s1 σ H1 vs us Q I1 r1 q1) he hpl
end
end L2
namespace HT
open PySem PyProof.Rows
section
open PySem.SeqAt
open PySem.AutoSeq1 (wpAny_loadPart')
open PySem.MeetsSeq PySem.MeetsSeq2 PySem.MeetsSeq3
end
section
variable {prog:Program}{w:World}{A:Around}{E:Value->Shared->Prop}{s:Shared}
theorem cat_tup {t b:Addr}{vs ws:List Value}{Q:Value->Shared->Prop} (ht:IsTup s.heap t vs.toArray) (hb:IsTup s.heap b ws.toArray) (hv:vs≠[])
  (h1:ws=[]->Q (.ref t) s) (h2:ws≠[]->Q (.ref s.heap.objs.size) { s with heap:=s.heap.push { cls:=.type "tuple",data:=.seq (vs++ws).toArray } })
  (hsz:vs.length+ws.length<=sizeLine):wpAny (model prog w) A (binaryOp .Add (.ref t) (.ref b)) Q E s:=by
 obtain⟨⟨cls,dd,data,sl⟩,ho,hc,n,hd⟩:=id ht;obtain⟨⟨cls2,dd2,data2,sl2⟩,ho2,hc2,n2,hd2⟩:=id hb;simp only at hc hd hc2 hd2;subst hc hd hc2 hd2;have e:vs.toArray++ws.toArray=(vs++ws).toArray:=by simp
 by_cases hw:ws=[]
 ·exact concat_meets ⟨_,ho,rfl⟩ ⟨_,ho2,rfl⟩ noFill_tuple_add seq_tuple_add Yef Yea (YdW _ _)
   (tuple_addW1 t b vs.toArray ws.toArray n n2 dd dd2 sl sl2 (by simpa using hv) (by simp[hw])) ⟨ho,ho2,h1 hw⟩
 ·refine concat_meets ⟨_,ho,rfl⟩ ⟨_,ho2,rfl⟩ noFill_tuple_add seq_tuple_add Yef Yea (YdW _ _)
   (tuple_addW2 t b vs.toArray ws.toArray n n2 dd dd2 sl sl2 (by simpa using hv) (by simpa using hw) (by rw[Yal,Yal];exact hsz)) ⟨ho,ho2,?_⟩
  rw[e];exact h2 hw
def sIx (n d:Nat):Option Int->Nat
 | none=>d
 | some v=>if v<0 then (v+(n:Int)).toNat else min v.toNat n
theorem sIx_nat (n d k:Nat):sIx n d (some (k:Int))=min k n:=by
 show (if (k:Int)<0 then ((k:Int)+(n:Int)).toNat else min (k:Int).toNat n)=min k n;rw[if_neg (by omega),YaM]
theorem Zl1 (n d:Nat) (hd:d<=n) (o:Option Int):sIx n d o<=n:=by
 cases o with
 | none=>exact hd
 | some v=>
  show (if v<0 then (v+(n:Int)).toNat else min v.toNat n)<=n;by_cases hv:v<0
  ·rw[if_pos hv];omega
  ·rw[if_neg hv];exact Nat.min_le_right _ _
theorem ZiX (v:Int) (n d:Nat):(if v<0 then max (v+(n:Int)) 0 else min v (n:Int))=((sIx n d (some v):Nat):Int):=by
 show (if v<0 then max (v+(n:Int)) 0 else min v (n:Int))=(((if v<0 then (v+(n:Int)).toNat else min v.toNat n):Nat):Int);by_cases hv:v<0
 ·simp only[if_pos hv];omega
 ·simp only[if_neg hv];omega
theorem Zhb (lo hi:Option Int) (n:Nat):YcG lo hi 1 (n:Int)=(((sIx n 0 lo:Nat):Int),((sIx n n hi:Nat):Int)):=by
 have h1:¬ ((1:Int)<0):=by omega
 unfold YcG;simp only[h1,if_false];refine Prod.ext ?_ ?_
 ·cases lo with
  | none=>rfl
  | some v=>exact ZiX v n 0
 ·cases hi with
  | none=>rfl
  | some v=>exact ZiX v n n
theorem ZgT (i j:Nat):Yb4 (i:Int) (j:Int) 1=j - i:=by
 unfold Yb4;have h1:(1:Int) > 0:=by omega
 simp only[h1,if_true,Int.ediv_one];split <;> omega
theorem ZdA {v:Value}{o:Option Int}{Q:Option Int->Shared->Prop} (p:IsPart v o) (h:Q o s):wpAny (model prog w) A (Builtin.Slice.slicePartIndex v) Q E s:=by
 cases p with
 | none=>exact slicePart_none h
 | int i t=>exact slicePart_int h
theorem ZcN {sl:Addr}{vl vu:Value}{lo hi:Option Int}{n:Nat}{Q:Int × Int × Nat->Shared->Prop} (hs:s.heap.IsSliceOf sl vl vu .none) (pl:IsPart vl lo) (pu:IsPart vu hi)
  (h:Q (((sIx n 0 lo:Nat):Int),1,sIx n n hi - sIx n 0 lo) s):wpAny (model prog w) A (Yds (.ref sl) (pure (n:Int))) Q E s:=by
 obtain⟨os,hos,hcs,hds⟩:=id hs;unfold Yds Builtin.Slice.sliceFields;refine wpAny_bind (wpAny_bind (wpAny_field hos hds (x:=vl) rfl (wpAny_bind (wpAny_field hos hds (x:=vu) rfl (wpAny_bind (wpAny_field hos hds (x:=.none) rfl (wpAny_pure ?_)))))));refine wpAny_bind (slicePart_none ?_);show wpAny _ _ (if ((1:Int) == 0)=true then _ else _) _ _ s;rw[if_neg (by decide)];refine wpAny_bind (ZdA pl (wpAny_bind (ZdA pu (wpAny_bind (wpAny_pure ?_)))));show wpAny _ _ (match YcG lo hi 1 (n:Int) with | (lo,hi)=>pure (lo,(1:Int),Yb4 lo hi 1)) _ _ s;rw[Zhb lo hi n];show wpAny _ _ (pure (((sIx n 0 lo:Nat):Int),(1:Int),Yb4 ((sIx n 0 lo:Nat):Int) ((sIx n n hi:Nat):Int) 1)) _ _ s;rw[ZgT];exact wpAny_pure h
theorem Zjt (xs:Array Value) (i k:Nat):((YaT k).filterMap fun (m:Nat)=>xs[((i:Int)+(m:Int)*1).toNat]?).toArray=((xs.toList.drop i).take k).toArray:=by
 have e:(fun (m:Nat)=>xs[((i:Int)+(m:Int)*1).toNat]?)=fun m=>xs[i+m]?:=by
  funext m
  have:((i:Int)+(m:Int)*1).toNat=i+m:=by omega
  rw[this]
 rw[e];have:=pick_run xs i k;rw[YcT] at this;have e2:((fun x=>xs[x]?) ∘ fun x=>i+x)=fun m=>xs[i+m]?:=rfl;rw[e2] at this;rw[this]
theorem getItem_tuple_cut {t sl:Addr}{items:Array Value}{vl vu:Value}{lo hi:Option Int}{Q:Value->Shared->Prop} (ht:IsTup s.heap t items) (hs:s.heap.IsSliceOf sl vl vu .none) (pl:IsPart vl lo) (pu:IsPart vu hi)
  (hw:¬ (sIx items.size 0 lo=0/\sIx items.size items.size hi=items.size))
  (h:Q (.ref s.heap.objs.size) { s with heap:=s.heap.push { cls:=.type "tuple",data:=.seq ((items.toList.drop (sIx items.size 0 lo)).take (sIx items.size items.size hi - sIx items.size 0 lo)).toArray } })
  (hsz:items.size<=sizeLine):wpAny (model prog w) A (getItem (.ref t) (.ref sl)) Q E s:=by
 have htake:sizeOk (.seq ((items.toList.drop (sIx items.size 0 lo)).take (sIx items.size items.size hi - sIx items.size 0 lo)).toArray):=by
  show ((items.toList.drop (sIx items.size 0 lo)).take (sIx items.size items.size hi - sIx items.size 0 lo)).toArray.size<=sizeLine;rw[Yal,Yax,Ybm,Yao];omega
 have hj:sIx items.size items.size hi<=items.size:=Zl1 _ _ (Yag _) hi;obtain⟨os,hos,hcs,hds⟩:=id hs;have hTs:s.TypeIs (.ref sl) "slice":=⟨os,hos,hcs⟩
 unfold getItem
 try with_reducible refine wpAny_holding ?_
 first | refine wpAny_bind (wpAny_pure ?_) | skip
 refine wpAny_bind (wpAny_sequenceKey ht.typeIs (by decide) ?_);refine wpAny_bind (wpAny_callSpecial?_slot (name:=YbZ "__getitem__") ht.typeIs Ycl
  (wpAny_call_entry Ycl ht.typeIs entry_tuple_getitem ?_ (args_tuple_getitem _ _)))
 show wpAny _ _ (Builtin.Tuple.tupleItemsOf (.ref t) >>= _) _ _ s;refine wpAny_bind (tupleItemsOf_ ht ?_);refine wpAny_bind (wpAny_typeOf hTs ?_);rw[if_pos (by decide)];refine wpAny_bind (ZcN hs pl pu ?_);have hno:¬ ((((sIx items.size 0 lo:Nat):Int) == 0 && (1:Int) == 1 && (sIx items.size items.size hi - sIx items.size 0 lo) == items.size)=true):=by
  intro q;rw[Ybr,Ybr] at q;have q1:((sIx items.size 0 lo:Nat):Int)=0:=eq_of_beq q.1.1;have q2:sIx items.size items.size hi - sIx items.size 0 lo=items.size:=eq_of_beq q.2;exact hw ⟨by omega,by omega⟩
 show wpAny _ _ (if (((sIx items.size 0 lo:Nat):Int) == 0 && (1:Int) == 1 && (sIx items.size items.size hi - sIx items.size 0 lo) == items.size)=true then _ else _) _ _ s;rw[if_neg hno,Zjt]
 first
  | exact wpAny_bind (m:=Yca _) (wpAny_newObj_type (wpAny_pure ⟨_,rfl,wpAny_pure h⟩) htake)
  | exact wpAny_bind (m:=Yca _) (wpAny_newObj_type (wpAny_bind (wpAny_pure (wpAny_pure ⟨_,rfl,wpAny_pure h⟩))) htake)
  | exact wpAny_bind (wpAny_bind (m:=Yca _) (wpAny_newObj_type (wpAny_pure (wpAny_pure ⟨_,rfl,wpAny_pure h⟩)) htake))
  | exact wpAny_bind (wpAny_bind (m:=Yca _) (wpAny_newObj_type (wpAny_pure ⟨_,rfl,wpAny_pure h⟩) htake))
end
end HT
namespace L2
open PySem PySem.Spec PyProof.Rows
abbrev TO:=St->Hp->(Option Int->Hp->Prop)->Prop
def PO (X:Cx) (e:Option Expr) (t:TO):Prop :=
 ∀ (pins:List (Addr × Obj)) (s:Shared) (σ:St) (H:Hp) (Q:Option Int->Hp->Prop),Inv X pins σ H s->t σ H Q ->
  wpAny (model X.prog X.w) X.A (evalPart e X.env) (fun u s'=>∃ o H',Inv X pins σ H' s'/\IsPart u o/\Q o H') X.xe s
def ZkR:TO:=fun _ H Q=>Q none H
def ZmH (t:TE):TO:=fun σ H Q=>t σ H fun x H1=>∃ i,x=.int i/\Q (some i) H1
theorem ZcC {ns:List Int}:∀ {us:List Value},Vals (ns.map V.int) us->IntsAre us ns:=by
 induction ns with
 | nil=>intro us r;rw[Yde] at r;cases r;exact .nil
 | cons n ns ih=>
  intro us r;rw[YaV] at r
  cases r with
  | cons r1 r2=>
   obtain⟨t,e⟩:=r1;subst e;exact .cons n t (ih r2)
section
variable {X:Cx}{e:Expr}{te:TE}{lo hi:Option Expr}{tl th:TO}{pos p2:Pos}
theorem Zc9:PO X none ZkR:=by
 intro pins s σ H Q I h;rw[evalPart_none];exact wpAny_pure ⟨none,H,I,.none,h⟩
theorem ZcA (h:PE X e te):PO X (some e) (ZmH te):=by
 intro pins s σ H Q I hw;rw[evalPart_some];refine thn (h pins s σ H _ I hw) fun u s1 ⟨x,H1,I1,r1,q1⟩=>?_;obtain⟨i,rfl,q⟩:=q1;obtain⟨t,rfl⟩:=r1;exact⟨some i,H1,I1,.int i t,q⟩
def SlR (X:Cx) (r:V->Option Int->Option Int->Hp->VK->Prop):Prop :=
 ∀ (pins:List (Addr × Obj)) (s:Shared) (σ:St) (H:Hp) (x:V) (v vl vu:Value) (lo hi:Option Int) (sl:Addr) (Q:VK),Inv X pins σ H s->RelV x v->s.heap.IsSliceOf sl vl vu .none->IsPart vl lo->IsPart vu hi->r x lo hi H Q ->
  ∃ T id,typeLookup (.type T) "__getitem__"=pure (some (.builtin id))/\s.TypeIs v T/\wpAny (model X.prog X.w) X.A (getItem v (.ref sl)) (EP X pins σ Q) X.xe s
def tSl (r:V->Option Int->Option Int->Hp->VK->Prop) (te:TE) (tl th:TO):TE:=fun σ H Q=>te σ H fun x H1=>tl σ H1 fun l H2=>th σ H2 fun u H3=>r x l u H3 Q
theorem Zcn {r:V->Option Int->Option Int->Hp->VK->Prop} (hr:SlR X r) (he:PE X e te) (hl:PO X lo tl) (hu:PO X hi th):PE X (.Subscript e (.Slice lo hi none p2) pos) (tSl r te tl th):=by
 intro pins s σ H Q I h;refine Subscript_ (thn (he pins s σ H _ I h) fun v s1 ⟨x,H1,I1,r1,q1⟩=>?_);refine wpAny_Slice (thn (hl pins s1 σ H1 _ I1 q1) fun vl s2 ⟨l,H2,I2,pl,q2⟩=>thn (hu pins s2 σ H2 _ I2 q2) fun vu s3 ⟨u,H3,I3,pu,q3⟩=>?_);rw[evalPart_none];refine wpAny_pure ?_;have I4:Inv X pins σ H3 { s3 with heap:=s3.heap.push { cls:=.type "slice",data:=.fields #[vl,vu,.none] } }:=I3.kept (t':=s3.toks) fun b ob q=>Yad _ q;obtain⟨T,id,hT,ht,hg⟩:=hr pins { s3 with heap:=s3.heap.push { cls:=.type "slice",data:=.fields #[vl,vu,.none] } } σ H3 x v vl vu l u s3.heap.objs.size Q I4 r1 (YdS ..) pl pu q3;show wpAny (model X.prog X.w) X.A (subscriptTail e (.Slice lo hi none p2) v (.ref s3.heap.objs.size)) (EP X pins σ Q) X.xe { s3 with heap:=s3.heap.push { cls:=.type "slice",data:=.fields #[vl,vu,.none] } };exact tail_any (ops:=[.ref s3.heap.objs.size,v]) ht hT hg (by with_unfolding_all rfl)
def cutV (xs:List V) (lo hi:Option Int):List V:=(xs.drop (HT.sIx xs.length 0 lo)).take (HT.sIx xs.length xs.length hi - HT.sIx xs.length 0 lo)
theorem Zdj (xs:List V) (lo hi:Option Int):(cutV xs lo hi).length<=xs.length:=by
 unfold cutV;rw[Yax,Ybm];omega
def rSlT (K:Yac):V->Option Int->Option Int->Hp->VK->Prop:=fun x lo hi H Q=>∃ a xs,x=.ref a/\SqT K H a xs /\
 ¬ (HT.sIx xs.length 0 lo=0/\HT.sIx xs.length xs.length hi=xs.length)/\∀ p,H p=none->Q (.ref p) (upd H p (.tup (cutV xs lo hi)))
theorem Zkj:SlR X (rSlT X.K):=by
 intro pins s σ H x v vl vu lo hi sl Q I rx hs pl pu h;obtain⟨a,xs,rfl,hx,hw,q⟩:=h;cases rx;obtain⟨its,r,ht,hz⟩:=I.tuple hx;have hlen:its.toArray.size=xs.length:=by rw[Yal];exact r.length.symm
 refine⟨"tuple",_,Ycl.lookup,ht.typeIs,?_⟩;refine HT.getItem_tuple_cut ht hs pl pu (by rw[hlen];exact hw) ?_ (by rw[hlen];exact hz);rw[hlen];refine⟨.ref s.heap.objs.size,_,I.laid (t':=s.toks) (o:=.tup (cutV xs lo hi)) (fun b ob q=>Yad _ q) (Yag _) ?_,rfl,q _ (I.hok.fresh (Yag _))⟩;exact⟨Ybx (Zdj xs lo hi) hz,_,(r.drop (HT.sIx xs.length 0 lo)).take (HT.sIx xs.length xs.length hi - HT.sIx xs.length 0 lo),IsTupD.new _ _⟩
def Zl5 (K:Yac):R2:=fun x y H Q=>∃ a b xs ys,x=.ref a/\y=.ref b/\SqT K H a xs/\SqT K H b ys/\xs≠[]/\xs.length+ys.length<=sizeLine /\
 (ys=[]->Q (.ref a) H)/\(ys≠[]->∀ p,H p=none->Q (.ref p) (upd H p (.tup (xs++ys))))
theorem Vals.nil_iff {xs:List V}{us:List Value} (r:Vals xs us):us=[]↔xs=[]:=by
 cases r with
 | nil=>simp
 | cons _ _=>simp
theorem Zlg:OpR X (binaryOp .Add) (Zl5 X.K):=by
 intro pins s σ H x y v u Q I rx ry h;obtain⟨a,b,xs,ys,rfl,rfl,ha,hb,hx,hz,q1,q2⟩:=h;cases rx;cases ry;obtain⟨its,r1,p1,_⟩:=I.tuple ha;obtain⟨its2,r2,p2,_⟩:=I.tuple hb;refine HT.cat_tup p1 p2 (fun z=>hx (r1.nil_iff.mp z)) (fun z=>⟨.ref a,H,I,rfl,q1 (r2.nil_iff.mp z)⟩) (fun z=>?_) (by rw[<- r1.length,<- r2.length];exact hz);refine⟨.ref s.heap.objs.size,_,I.laid (t':=s.toks) (o:=.tup (xs++ys)) (fun b ob q=>Yad _ q) (Yag _) ?_,rfl,q2 (fun w=>z (r2.nil_iff.mpr w)) _ (I.hok.fresh (Yag _))⟩;exact⟨by rw[Yai];exact hz,_,r1.append r2,IsTupD.new _ _⟩
end
end L2
namespace L2
open PySem PySem.Spec PyProof.Rows
def ixN (n:Nat) (i:Int):Option Nat:=if 0<=i then (if i<n then some i.toNat else none) else if -(n:Int)<=i then some (i+n).toNat else none
def atI {α:Type} (xs:List α) (i:Int):Option α:=(ixN xs.length i).bind fun j=>xs[j]?
theorem Zis {n:Nat}{i:Int}{j:Nat} (h:ixN n i=some j):seqIndex? i n=some j/\j<n/\-(n:Int)<=i/\i<n:=by
 unfold ixN at h;by_cases h0:0<=i
 ·rw[if_pos h0] at h;by_cases h1:i<n
  ·rw[if_pos h1] at h;have e:i.toNat=j:=YaF h;exact⟨by rw[seqIndex_of h0 h1,e],by omega,by omega,h1⟩
  ·rw[if_neg h1] at h;cases h
 ·rw[if_neg h0] at h;by_cases h1:-(n:Int)<=i
  ·rw[if_pos h1] at h;have e:(i+n).toNat=j:=YaF h;exact⟨by rw[seqIndex_neg (by omega) h1,e],by omega,h1,by omega⟩
  ·rw[if_neg h1] at h;cases h
theorem Zi6 {α:Type}{xs:List α}{i:Int}{v:α} (h:atI xs i=some v):∃ j,seqIndex? i xs.length=some j/\xs[j]?=some v/\j<xs.length/\-(xs.length:Int)<=i/\i<xs.length:=by
 unfold atI at h
 cases e:ixN xs.length i with
 | none=>rw[e] at h;cases h
 | some j=>
  rw[e] at h;obtain⟨h1,h2,h3,h4⟩:=Zis e;exact⟨j,h1,h,h2,h3,h4⟩
theorem Zbg {α:Type}{xs:List α}{j:Nat}{v:α} (h:xs[j]?=some v):atI xs (j:Int)=some v:=by
 have hj:j<xs.length:=(Yae.mp h).1
 have e:ixN xs.length (j:Int)=some j:=by
  unfold ixN;rw[if_pos (by omega),if_pos (by omega)];simp
 unfold atI;rw[e];exact h
theorem Zkb {α:Type} (xs:List α) (v:α):atI (xs++[v]) (-1)=some v:=by
 have hl:(xs++[v]).length=xs.length+1:=by simp
 have e:ixN (xs++[v]).length (-1)=some xs.length:=by
  unfold ixN;rw[hl,if_neg (by decide),if_pos (by omega)];congr 1;omega
 unfold atI;rw[e];show (xs++[v])[xs.length]?=some v;simp
def Zi8 (b:Expr):Prop:=∀ o i,subscripted b false o i=operate [o,i] (getItem o i)
def IxR (X:Cx) (r:R2):Prop :=
 ∀ (value slice:Expr) (pins:List (Addr × Obj)) (s:Shared) (σ:St) (H:Hp) (x y:V) (v u:Value) (Q:VK),Inv X pins σ H s->RelV x v->RelV y u->r x y H Q ->
  subscripted slice false v u=operate [v,u] (getItem v u)->wpAny (model X.prog X.w) X.A (subscriptTail value slice v u) (EP X pins σ Q) X.xe s
def MtR (X:Cx) (id:String) (r:V->List V->Hp->VK->Prop):Prop :=
 ∀ (pins:List (Addr × Obj)) (s:Shared) (σ:St) (H:Hp) (x:V) (xs:List V) (v:Value) (us:List Value) (Q:VK),Inv X pins σ H s->RelV x v->Vals xs us->r x xs H Q ->
  wpAny (model X.prog X.w) X.A (call (.builtin id) (v::us)) (EP X pins σ Q) X.xe s
section
variable {X:Cx}{a b:Expr}{ta tb:TE}{pos:Pos}
theorem ZaB {r:R2} (hr:IxR X r) (ha:PE X a ta) (hb:PE X b tb) (hs:Zi8 b):PE X (.Subscript a b pos) (tOp r ta tb):=by
 intro pins s σ H Q I h;exact Subscript_ (binT ha hb I h fun v u s2 x y H2 I2 rx ry q=>hr a b pins s2 σ H2 x y v u Q I2 rx ry q (hs _ _))
def rIxL (K:Yac):R2:=fun x y H Q=>∃ p xs i v,x=.ref p/\y=.int i/\SqL K H p xs/\atI xs i=some v/\Q v H
def rIxT (K:Yac):R2:=fun x y H Q=>∃ p xs i v,x=.ref p/\y=.int i/\SqT K H p xs/\atI xs i=some v/\Q v H
theorem ZaA:IxR X (rIxL X.K):=by
 intro value slice pins s σ H x y v u Q I rx ry h hs;obtain⟨p,xs,i,z,rfl,rfl,hq,he,q⟩:=h;cases rx;obtain⟨t,rfl⟩:=ry;obtain⟨its,r,pl,hz⟩:=I.list hq;obtain⟨j,h1,h2,h3,h4,h5⟩:=Zi6 he;obtain⟨w,ew,rw'⟩:=r.get h2;have hl:=r.length;have hn:=ZeZ;have fin:EP X pins σ Q w s:=⟨z,H,I,rw',q⟩
 by_cases h0:0<=i
 ·have hj:i.toNat=j:=by
   rw[seqIndex_of h0 h5] at h1;exact YaF h1
  exact item_listR pl.isList h0 (by omega) (by rw[hj];simpa using ew) fin hs
 ·have hj:(i+(its.toArray.size:Int)).toNat=j:=by
   rw[seqIndex_neg (by omega) h4] at h1;rw[Yal,<- hl];exact YaF h1
  exact subscriptTail_builtinR (x:=w) pl.isList.typeIs slot_list_getitem.lookup
   (wpAny_getItem_list_neg (Q:=fun r s'=>r=w/\EP X pins σ Q r s') pl.isList (by omega) (by rw[Yal] <;> omega) (by omega) (by rw[hj];simpa using ew) ⟨rfl,fin⟩) hs
theorem Za2:IxR X (rIxT X.K):=by
 intro value slice pins s σ H x y v u Q I rx ry h hs;obtain⟨p,xs,i,z,rfl,rfl,hq,he,q⟩:=h;cases rx;obtain⟨t,rfl⟩:=ry;obtain⟨its,r,pl,hz⟩:=I.tuple hq;obtain⟨j,h1,h2,h3,h4,h5⟩:=Zi6 he;obtain⟨w,ew,rw'⟩:=r.get h2;have hl:=r.length;have hn:=ZeZ;have fin:EP X pins σ Q w s:=⟨z,H,I,rw',q⟩
 exact subscriptTail_builtinR (x:=w) pl.typeIs slot_tuple_getitem.lookup
  (getItem_tuple (j:=j) (Q:=fun r s'=>r=w/\EP X pins σ Q r s') pl (by omega) (by omega) (by rw[Yal,<- hl];exact h1) (by simpa using ew) ⟨rfl,fin⟩) hs
theorem Zg2 (its:List Value) (n j:Nat) (u:Value):YbT (·.setIfInBounds j u) { cls:=.type "list",data:=.seq its.toArray n }={ cls:=.type "list",data:=.seq (its.set j u).toArray n }:=by
 simp[YbT]
theorem Inv.lst {pins:List (Addr × Obj)}{σ:St}{H:Hp}{s:Shared}{p:Addr}{xs:List V} (I:Inv X pins σ H s) (h:H p=some (.lst xs)) :
  ∃ (its:List Value) (n:Nat),Vals xs its/\s.heap.get? p=some { cls:=.type "list",data:=.seq its.toArray n }/\xs.length<=sizeLine:=by
 obtain⟨z,its,n,r,e⟩:=I.hok p _ h;exact⟨its,n,r,e,z⟩
theorem Inv.lstUpd {pins:List (Addr × Obj)}{σ:St}{H:Hp}{s:Shared}{p:Addr}{xs ys:List V}{its its':List Value}{n n':Nat}{f:Obj->Obj} (I:Inv X pins σ H s) (h:H p=some (.lst xs))
  (ho:s.heap.get? p=some { cls:=.type "list",data:=.seq its.toArray n }) (hf:f { cls:=.type "list",data:=.seq its.toArray n }={ cls:=.type "list",data:=.seq its'.toArray n' }) (r:Vals ys its') (hz:ys.length<=sizeLine) (t:Nat) :
  Inv X pins σ (upd H p (.lst ys)) { s with heap:=s.heap.update p f,toks:=t }:=by
 have e:(s.heap.update p f).get? p=some { cls:=.type "list",data:=.seq its'.toArray n' }:=by
  rw[Ydh f ho (by rw[hf] <;> rfl),hf]
 refine I.write (x:=p) (e:=p) (by rw[h];trivial) (.inl rfl) (fun b u hb q=>(YeC _ _ (Ybn hb)).trans q) ⟨_,e⟩ ?_;exact⟨hz,its',n',r,e⟩
def ZmR:V->V->V->Hp->(Hp->Prop)->Prop:=fun o i v H Q=>∃ p xs k j,o=.ref p/\i=.int k/\H p=some (.lst xs)/\ixN xs.length k=some j/\Q (upd H p (.lst (xs.set j v)))
theorem Zf8:PSet X ZmR:=by
 intro pins s σ H o i v ov iv u Q I ro ri rv h;obtain⟨p,xs,k,j,rfl,rfl,hp,hj,q⟩:=h;cases ro;obtain⟨t,rfl⟩:=ri;obtain⟨its,n,r,ho,hz⟩:=I.lst hp;obtain⟨h1,h2,h3,h4⟩:=Zis hj;have hl:=r.length;have hn:=ZeZ;have I':Inv X pins σ (upd H p (.lst (xs.set j v))) { s with heap:=s.heap.update p (YbT (·.setIfInBounds j u)) } :=
  I.lstUpd hp ho (Zg2 its n j u) (r.set rv j) (by rw[Yd0];exact hz) s.toks
 by_cases h0:0<=k
 ·have hk:k.toNat=j:=by
   rw[seqIndex_of h0 h4] at h1;exact YaF h1
  exact PySem.W.ki_setAt ho h0 (by omega) (by rw[Yal,<- hl];exact h4) (by rw[hk];exact⟨_,I',q⟩)
 ·have hk:(k+(its.toArray.size:Int)).toNat=j:=by
   rw[seqIndex_neg (by omega) h3] at h1;rw[Yal,<- hl];exact YaF h1
  exact PySem.W.ki_setBack ho (by omega) (by rw[Yal,<- hl];exact h3) (by omega) (by rw[hk];exact⟨_,I',q⟩)
theorem ZeL (lo hi:Option Int) (n:Nat):(sliceBounds lo hi none n).1=((HT.sIx n 0 lo:Nat):Int)/\(sliceBounds lo hi none n).2.1=((HT.sIx n n hi:Nat):Int)/\(sliceBounds lo hi none n).2.2=1:=by
 refine⟨?_,?_,rfl⟩
 ·cases lo with
  | none=>simp[sliceBounds,HT.sIx]
  | some i=>
   simp only[sliceBounds,HT.sIx,Ye6,show (1:Int) > 0 by decide,if_true];by_cases h:i<0
   ·simp only[h,if_true] <;> omega
   ·simp only[h,if_false] <;> omega
 ·cases hi with
  | none=>simp[sliceBounds,HT.sIx]
  | some i=>
   simp only[sliceBounds,HT.sIx,Ye6,show (1:Int) > 0 by decide,if_true];by_cases h:i<0
   ·simp only[h,if_true] <;> omega
   ·simp only[h,if_false] <;> omega
theorem Zea (its:List Value) (lo hi:Option Int):slicePick its.toArray lo hi none=((its.drop (HT.sIx its.length 0 lo)).take (HT.sIx its.length its.length hi - HT.sIx its.length 0 lo)).toArray:=by
 obtain⟨h1,h2,h3⟩:=ZeL lo hi its.toArray.size;unfold slicePick;rw[h1,h2,h3];simp only[sliceRange_one,pick_run,Yal] <;> rfl
def rSlL (K:Yac):V->Option Int->Option Int->Hp->VK->Prop:=fun x lo hi H Q=>∃ a xs,x=.ref a/\SqL K H a xs/\∀ p,H p=none->Q (.ref p) (upd H p (.lst (cutV xs lo hi)))
theorem ZfE:SlR X (rSlL X.K):=by
 intro pins s σ H x v vl vu lo hi sl Q I rx hs pl pu h;obtain⟨a,xs,rfl,hx,q⟩:=h;cases rx;obtain⟨its,r,ht,hz⟩:=I.list hx;have hlen:=r.length;refine⟨"list",_,slot_list_getitem.lookup,ht.isList.typeIs,?_⟩;refine wpAny_getItem_list_slice ht.isList hs pl pu .none (by simp) ?_ (by rw[Yal] <;> omega);rw[Zea,<- hlen];refine⟨.ref s.heap.objs.size,_,I.laid (t':=s.toks) (o:=.lst (cutV xs lo hi)) (fun b ob q=>Yad _ q) (Yag _) ?_,rfl,q _ (I.hok.fresh (Yag _))⟩;exact⟨Ybx (Zdj xs lo hi) hz,_,0,(r.drop (HT.sIx xs.length 0 lo)).take (HT.sIx xs.length xs.length hi - HT.sIx xs.length 0 lo),Yat _ rfl⟩
def Ze8:V->Bool
 | .non=>true
 | .bl _=>true
 | .int _=>true
 | .str _=>true
 | _=>false
def eqV:V->V->Bool
 | .non,.non=>true
 | .bl a,.bl b=>a == b
 | .bl a,.int b=>(if a then 1 else 0) == b
 | .int a,.bl b=>a == (if b then 1 else 0)
 | .int a,.int b=>a == b
 | .str a,.str b=>a == b
 | _,_=>false
theorem Zmx {A:Around}{s:Shared}{y x:V}{u v:Value} (ry:RelV y u) (rx:RelV x v) (fy:Ze8 y=true) (fx:Ze8 x=true):SeqAt.EqAt A s u v (eqV y x):=by
 cases y with
 | non=>
  cases ry
  cases x with
  | non=>cases rx;exact SeqAt.EqAt.same _
  | bl b=>cases rx;exact SeqAt.EqAt.none_bool b
  | int b=>obtain⟨t,rfl⟩:=rx;exact SeqAt.EqAt.none_int b t
  | str b=>obtain⟨t,rfl⟩:=rx;exact SeqAt.EqAt.none_str b t
  | _=>exact absurd (show false=true from fx) YaA
 | bl a=>
  cases ry
  cases x with
  | non=>cases rx;exact SeqAt.EqAt.bool_none a
  | bl b=>cases rx;exact SeqAt.EqAt.bool_bool a b
  | int b=>obtain⟨t,rfl⟩:=rx;exact SeqAt.EqAt.bool_int a b t
  | str b=>obtain⟨t,rfl⟩:=rx;exact SeqAt.EqAt.bool_str a b t
  | _=>exact absurd (show false=true from fx) YaA
 | int a=>
  obtain⟨t',rfl⟩:=ry
  cases x with
  | non=>cases rx;exact SeqAt.EqAt.int_none a t'
  | bl b=>cases rx;exact SeqAt.EqAt.int_bool a t' b
  | int b=>obtain⟨t,rfl⟩:=rx;exact SeqAt.EqAt.int_int a t' b t
  | str b=>obtain⟨t,rfl⟩:=rx;exact Yep a t' b t
  | _=>exact absurd (show false=true from fx) YaA
 | str a=>
  obtain⟨t',rfl⟩:=ry
  cases x with
  | non=>cases rx;exact SeqAt.EqAt.str_none a t'
  | bl b=>cases rx;exact SeqAt.EqAt.str_bool a t' b
  | int b=>obtain⟨t,rfl⟩:=rx;exact Yeo a t' b t
  | str b=>obtain⟨t,rfl⟩:=rx;exact SeqAt.EqAt.str_str a t' b t
  | _=>exact absurd (show false=true from fx) YaA
 | _=>exact absurd (show false=true from fy) YaA
def eqU (x:V) (u:Value):Bool:=match u with
 | .none=>eqV .non x
 | .bool b=>eqV (.bl b) x
 | .int i _=>eqV (.int i) x
 | .str z _=>eqV (.str z) x
 | _=>false
theorem ZkD {x y:V}{u:Value} (r:RelV y u) (f:Ze8 y=true):eqU x u=eqV y x:=by
 cases y with
 | non=>cases r;rfl
 | bl b=>cases r;rfl
 | int i=>obtain⟨t,rfl⟩:=r;rfl
 | str z=>obtain⟨t,rfl⟩:=r;rfl
 | _=>exact absurd (show false=true from f) YaA
theorem ZfV {x:V}:∀ {xs:List V}{us:List Value},Vals xs us->xs.all Ze8=true->us.any (eqU x)=xs.any fun y=>eqV y x
 | _,_,.nil,_=>rfl
 | y::xs,u::us,.cons r t,f=>by
  rw[List.all_cons,Ybr] at f;rw[List.any_cons,List.any_cons,ZkD r f.1,ZfV t f.2]
theorem Zej {A:Around}{s:Shared}{x:V}{v:Value} (rx:RelV x v) (fx:Ze8 x=true):∀ {xs:List V}{us:List Value},Vals xs us->xs.all Ze8=true->∀ u∈us,SeqAt.EqAt A s u v (eqU x u)
 | _,_,.nil,_=>fun u hu=>by cases hu
 | y::xs,u::us,.cons r t,f=>fun u' hu=>by
  rw[List.all_cons,Ybr] at f;rcases Yah.mp hu with rfl | hu
  ·rw[ZkD r f.1];exact Zmx r rx f.1 fx
  ·exact Zej rx fx t f.2 u' hu
def inV (x:V) (xs:List V):Bool:=xs.any fun y=>eqV y x
def rIn (K:Yac) (neg:Bool):R2:=fun x y H Q=>∃ p xs,y=.ref p/\(SqL K H p xs∨SqT K H p xs)/\Ze8 x=true/\xs.all Ze8=true/\Q (.bl (if neg then !inV x xs else inV x xs)) H
theorem ZeT:OpR X (compareOp .NotIn) (rIn X.K true):=by
 intro pins s σ H x y v u Q I rx ry h;obtain⟨p,xs,rfl,hq,fx,fs,q⟩:=h;cases ry;rcases hq with hq | hq
 ·obtain⟨its,r,pl,hz⟩:=I.list hq;refine SeqAt.notIn_listAt (eqU x) pl.isList (fun w hw=>Zej rx fx r fs w (by simpa using hw)) ⟨.bl _,H,I,rfl,?_⟩;rw[show its.toArray.any (eqU x)=its.any (eqU x) by simp,ZfV r fs];exact q
 ·obtain⟨its,r,pl,hz⟩:=I.tuple hq;refine SeqAt.notIn_tupleAt (eqU x) pl (fun w hw=>Zej rx fx r fs w (by simpa using hw)) ⟨.bl _,H,I,rfl,?_⟩;rw[show its.toArray.any (eqU x)=its.any (eqU x) by simp,ZfV r fs];exact q
theorem Zan:ZbO X (.builtin "len") (fun xs H Q=>∃ p ys,xs=[.ref p]/\(SqL X.K H p ys∨SqT X.K H p ys)/\Q (.int ys.length) H):=by
 intro pins s σ H xs us Q I r h;obtain⟨p,ys,rfl,hq,q⟩:=h;obtain⟨u,rfl,rx⟩:=Zcv r;cases rx;have hn:=ZeZ;rcases hq with hq | hq
 ·obtain⟨its,r',pl,hz⟩:=I.list hq;have hlen:=r'.length;exact Calls.call_len_list pl.isList (by simp only[Yal] <;> omega) ⟨.int ys.length,H,I.tok _,⟨s.toks+1,by rw[Yal,hlen]⟩,q⟩
 ·obtain⟨its,r',pl,hz⟩:=I.tuple hq;have hlen:=r'.length;exact len_tuple pl (by simp only[Yal] <;> omega) ⟨.int ys.length,H,I.tok _,⟨s.toks+1,by rw[Yal,hlen]⟩,q⟩
theorem Zfg:ZbO X (.type "list") (fun xs H Q=>∃ p ys,xs=[.ref p]/\(SqL X.K H p ys∨SqT X.K H p ys)/\∀ l,H l=none->Q (.ref l) (upd H l (.lst ys))):=by
 intro pins s σ H xs us Q I r h;obtain⟨p,ys,rfl,hq,q⟩:=h;obtain⟨u,rfl,rx⟩:=Zcv r;cases rx;have fin:∀ (its:List Value),Vals ys its->ys.length<=sizeLine->∀ (h':Heap) (c':Nat),(∀ b o',s.heap.get? b=some o'->h'.get? b=some o') ->
   h'.get? s.heap.objs.size=some { cls:=.type "list",dict:=none,data:=.seq its.toArray c',slots:=#[] }->EP X pins σ Q (.ref s.heap.objs.size) { s with heap:=h' }:=fun its r' hz h' c' kp e=>
  ⟨.ref s.heap.objs.size,_,I.laid (t':=s.toks) kp (Yag _) (show ObjOk X.prog X.w _ h' _ (.lst ys) from⟨hz,its,c',r',e⟩),rfl,q _ (I.hok.fresh (Yag _))⟩
 rcases hq with hq | hq
 ·obtain⟨its,r',pl,hz⟩:=I.list hq;have hlen:=r'.length;obtain⟨o,ho,hc,n,hd⟩:=pl.isList;exact call_list_seq p (.inl rfl) ho hc hd (fun h' c' kp e=>fin its r' hz h' c' kp e) (by simp only[Yal] <;> omega)
 ·obtain⟨its,r',pl,hz⟩:=I.tuple hq;have hlen:=r'.length;obtain⟨o,ho,hc,n,hd⟩:=pl;exact call_list_seq p (.inr rfl) ho hc hd (fun h' c' kp e=>fin its r' hz h' c' kp e) (by simp only[Yal] <;> omega)
theorem ZaP:ZbO X (.type "tuple") (fun xs H Q=>∃ p ys,xs=[.ref p]/\((SqL X.K H p ys/\∀ l,H l=none->Q (.ref l) (upd H l (.tup ys)))∨(SqT X.K H p ys/\Q (.ref p) H))):=by
 intro pins s σ H xs us Q I r h;obtain⟨p,ys,rfl,h⟩:=h;obtain⟨u,rfl,rx⟩:=Zcv r;cases rx;rcases h with ⟨hq,q⟩ | ⟨hq,q⟩
 ·obtain⟨its,r',pl,hz⟩:=I.list hq;have hlen:=r'.length;refine call_tuple_list pl.isList (fun h' kp=>?_) (by simp only[Yal] <;> omega);have I1:Inv X pins σ H { s with heap:=h' }:=I.kept (t':=s.toks) kp;have I2:Inv X pins σ (upd H h'.objs.size (.tup ys)) { s with heap:=h'.push { cls:=.type "tuple",data:=.seq its.toArray } } :=
   I1.laid (t':=s.toks) (fun b o e=>Yad _ e) (Yag _) (show ObjOk X.prog X.w _ _ _ (.tup ys) from⟨hz,its,r',IsTupD.new _ _⟩)
  exact⟨.ref h'.objs.size,_,I2,rfl,q _ (I1.hok.fresh (Yag _))⟩
 ·obtain⟨its,r',pl,hz⟩:=I.tuple hq;exact call_tuple_same pl ⟨.ref p,H,I,rfl,q⟩
def tyV (K:Yac) (T:String) (x:V) (H:Hp):Prop:=match x with
 | .str _=>T="str"
 | .int _=>T="int"
 | .ref p=>(T="list"/\∃ xs,SqL K H p xs)∨(T="tuple"/\∃ o,K.lookup p=some o/\o.cls=.type "tuple"/\o.dict=none) ∨
   (T="dict"/\((∃ kvs,H p=some (.dK kvs))∨∃ kvs,H p=some (.dT kvs)))∨(T="set"/\∃ S n,H p=some (.set S n))
 | _=>False
theorem Zkf {pins:List (Addr × Obj)}{σ:St}{H:Hp}{s:Shared}{T:String}{x:V}{v:Value} (I:Inv X pins σ H s) (r:RelV x v) (ty:tyV X.K T x H) :
  s.TypeIs v T/\∀ a,v=.ref a->∃ ob,s.heap.get? a=some ob/\ob.dict=none:=by
 cases x with
 | str z=>
  obtain⟨t,rfl⟩:=r;cases (show T="str" from ty);exact⟨typeIs_str s z t,fun _ e=>nomatch e⟩
 | int i=>
  obtain⟨t,rfl⟩:=r;cases (show T="int" from ty);exact⟨typeIs_int s i t,fun _ e=>nomatch e⟩
 | ref p=>
  cases r;rcases ty with ⟨rfl,xs,hq⟩ | ⟨rfl,o,hk,hc,hd⟩ | ⟨rfl,hk⟩ | ⟨rfl,S,n,hk⟩
  ·obtain⟨its,_,pl,_⟩:=I.list hq;refine⟨pl.isList.typeIs,fun a e=>?_⟩;cases e;obtain⟨o,n,e,c,hd,_⟩:=pl;exact⟨o,e,hd⟩
  ·refine⟨⟨o,I.kIn p o hk,hc⟩,fun a e=>?_⟩;cases e;exact⟨o,I.kIn _ o hk,hd⟩
  ·have z:∃ o,s.heap.get? p=some o/\o.ExactDict:=by
    rcases hk with ⟨kvs,hk⟩ | ⟨kvs,hk⟩
    ·obtain⟨_,_,_,_,o,_,_,e,ex,_⟩:=I.hok p _ hk;exact⟨o,e,ex⟩
    ·obtain⟨_,_,_,_,o,_,_,e,ex,_⟩:=I.hok p _ hk;exact⟨o,e,ex⟩
   obtain⟨o,e,ex⟩:=z;refine⟨⟨o,e,ex.1⟩,fun a e2=>?_⟩;cases e2;exact⟨o,e,ex.2.1⟩
  ·obtain⟨o,_,_,_,e,ex,_⟩:=I.hok p _ hk;refine⟨⟨o,e,ex.1⟩,fun a e2=>?_⟩;cases e2;exact⟨o,e,ex.2.1⟩
 | _=>exact Ycc ty
def tBM0 (K:Yac) (T:String) (r:V->List V->Hp->VK->Prop) (to:TE):TE:=fun σ H Q=>to σ H fun x H1=>tyV K T x H1/\r x [] H1 Q
def tBM (K:Yac) (T:String) (r:V->List V->Hp->VK->Prop) (to:TE) (t:TA):TE:=fun σ H Q=>to σ H fun x H1=>tyV K T x H1/\t σ H1 fun xs H2=>r x xs H2 Q
variable {o e:Expr}{es:List Expr}{to:TE}{t:TA}{name:Str}{apos cpos:Pos}{T id:String}{r:V->List V->Hp->VK->Prop}
theorem Zma (pa:PlainAttrs T) (slot:Slot T name id) (hty:typeOf (.builtin id)=pure (.type "method_descriptor")) (hm:MtR X id r) (ho:PE X o to)
  (hbase:attributeBase o name X.env (eval o X.env)=eval o X.env:=by rfl) (hline:(apos.endLine == cpos.line)=true:=by rfl):PE X (.Call (.Attribute o name apos) [] [] cpos) (tBM0 X.K T r to):=by
 intro pins s σ H Q I h;refine wpAny_Call_method0_late hbase hline (thn (ho pins s σ H _ I h) fun v s1 ⟨x,H1,I1,r1,ty,q1⟩=>?_);obtain⟨h1,h2⟩:=Zkf I1 r1 ty;exact⟨T,id,pa,slot,hty,h1,h2,YeA rfl (PySem.evalArgs_none (hm pins s1 σ H1 x [] v [] Q I1 r1 .nil q1))⟩
theorem Zdr (pa:PlainAttrs T) (slot:Slot T name id) (hty:typeOf (.builtin id)=pure (.type "method_descriptor")) (hm:MtR X id r) (ho:PE X o to) (ha:PA X (e::es) t)
  (hbase:attributeBase o name X.env (eval o X.env)=eval o X.env:=by rfl)
  (hfew:((backTo cpos (starEach (e::es) X.env)).all (fun x=>!x.1) && (backToKw cpos (keywordEach [] X.env)).all (fun x=>x.1.isSome)
   && decide ((e::es).length+([]:List Keyword).length+(if ([]:List Keyword).isEmpty then 0 else 1)<30))=true:=by rfl)
  (hline:(apos.endLine == cpos.line)=true:=by rfl) (hs:starEach (e::es) X.env=(false,eval e X.env)::starEach es X.env:=by rfl) (hplain:(backTo cpos (starEach es X.env)).any (·.1)=false:=by rfl) :
  PE X (.Call (.Attribute o name apos) (e::es) [] cpos) (tBM X.K T r to t):=by
 intro pins s σ H Q I h;refine wpAny_Call_method_late hbase hfew hline rfl (thn (ho pins s σ H _ I h) fun v s1 ⟨x,H1,I1,r1,ty,q1⟩=>?_);obtain⟨h1,h2⟩:=Zkf I1 r1 ty;refine⟨T,id,pa,slot,hty,h1,h2,?_⟩;have hA:=ha cpos pins s1 σ H1 _ I1 q1;rw[hs] at hA ⊢;refine YeA (by show (false || (backTo cpos (starEach es X.env)).any (·.1))=false;rw[hplain] <;> rfl) (YeK ?_);exact thn hA fun us s2 ⟨vs,H2,I2,r2,q2⟩=>hm pins s2 σ H2 x vs v us Q I2 r1 r2 q2
end
end L2
namespace L2
open PySem PySem.Spec PyProof.Rows
def MtM (X:Cx) (id:String) (r:V->List V->Hp->VK->Prop):Prop :=
 ∀ (pins:List (Addr × Obj)) (s:Shared) (σ:St) (H:Hp) (x:V) (xs:List V) (v:Value) (us:List Value) (Q:VK),Inv X pins σ H s->RelV x v->Vals xs us->r x xs H Q ->
  wpAny (model X.prog X.w) X.A (call (.builtin id) (v::us)) (EP X pins σ Q) X.xe s
theorem Vals.one:∀ {x:V}{us:List Value},Vals [x] us->∃ u,us=[u]/\RelV x u
 | _,_,.cons r .nil=>⟨_,rfl,r⟩
theorem Vals.zero:∀ {us:List Value},Vals [] us->us=[]
 | _,.nil=>rfl
theorem Vals.dropLast {xs:List V}{us:List Value} (h:Vals xs us):Vals xs.dropLast us.dropLast:=by
 induction h with
 | nil=>exact .nil
 | cons r t ih=>
  cases t with
  | nil=>exact .nil
  | cons q t'=>exact .cons r ih
theorem Vals.reverse {xs:List V}{us:List Value} (h:Vals xs us):Vals xs.reverse us.reverse:=by
 induction h with
 | nil=>exact .nil
 | cons r t ih=>rw[YbX,YbX];exact Vals.append ih (.cons r .nil)
theorem Vals.rep {xs:List V}{us:List Value} (h:Vals xs us):∀ k:Nat,Vals (Yan k xs).flatten (Yan k us).flatten
 | 0=>.nil
 | k+1=>by
  rw[YbP,YbP,Ybd,Ybd];exact Vals.append h (Vals.rep h k)
theorem Zg7 {α:Type} (l:List α):l.eraseIdx (l.length - 1)=l.dropLast:=by
 induction l with
 | nil=>rfl
 | cons a r ih=>
  cases r with
  | nil=>rfl
  | cons b r=>
   have e:(a::b::r).length - 1=((b::r).length - 1)+1:=by
    have h1:(a::b::r).length=r.length+2:=rfl;have h2:(b::r).length=r.length+1:=rfl;omega
   rw[e,List.eraseIdx_cons_succ,ih]
   all_goals rfl
theorem Ze7 (its:List Value):∀ (k:Nat) (acc:List Value),
  Yeq (fun x1 x2=>x1++x2) acc.toArray (Yan k its.toArray)=(acc++(Yan k its).flatten).toArray
 | 0,acc=>by simp
 | k+1,acc=>by
  have e:acc.toArray++its.toArray=(acc++its).toArray:=by simp
  have e2:(acc++its)++(Yan k its).flatten=acc++(Yan (k+1) its).flatten:=by
   rw[YbP,Ybd,YaH]
  rw[<- e2,<- Ze7 its k (acc++its),<- e,YbP,Yd2]
section
variable {X:Cx}{pins:List (Addr × Obj)}{σ:St}{H:Hp}{s:Shared}{l b:Addr}{xs ys zs:List V}
theorem Inv.lset {its its':List Value}{n:Nat}{f:Array Value->Array Value}{t':Nat} (I:Inv X pins σ H s) (hH:H l=some (.lst xs))
  (e:s.heap.get? l=some { cls:=.type "list",data:=.seq its.toArray n }) (hf:f its.toArray=its'.toArray) (hv:Vals ys its') (hz:ys.length<=sizeLine) :
  Inv X pins σ (upd H l (.lst ys)) { s with heap:=s.heap.update l (YbT f),toks:=t' }:=by
 have q:=PySem.IsL.update e f;rw[hf] at q;refine I.write (x:=l) (e:=l) (by rw[hH];exact trivial) (.inl rfl) (fun b' u hb hu=>(YeC s.heap (YbT f) (Ybn hb)).trans hu) ⟨_,q⟩ ?_;exact⟨hz,its',_,hv,q⟩
theorem Inv.lnew {its:List Value}{t':Nat} (I:Inv X pins σ H s) (hv:Vals ys its) (hz:ys.length<=sizeLine) :
  Inv X pins σ (upd H s.heap.objs.size (.lst ys)) { s with heap:=s.heap.push { cls:=.type "list",data:=.seq its.toArray },toks:=t' } :=
 I.laid (fun _ _ q=>Yad _ q) (Yag _) ⟨hz,its,0,hv,Yat _ rfl⟩
theorem Inv.fresh (I:Inv X pins σ H s):H s.heap.objs.size=none:=I.hok.fresh (Yag _)
theorem Inv.lstM (I:Inv X pins σ H s) (hH:H l=some (.lst xs)):xs.length<=sizeLine/\∃ (its:List Value) (n:Nat),Vals xs its/\xs.length=its.length/\s.heap.get? l=some { cls:=.type "list",data:=.seq its.toArray n }:=by
 obtain⟨z,its,n,r,e⟩:=I.hok l _ hH;exact⟨z,its,n,r,r.length,e⟩
theorem Zgi {n:Nat} (h:n<=sizeLine):Ycd n=false:=by
 unfold Ycd;exact decide_eq_false (by omega)
end
section
variable {X:Cx}
def Zk7:V->List V->Hp->VK->Prop:=fun x vs H Q=>∃ l xs y,x=.ref l/\vs=[y]/\H l=some (.lst xs)/\xs.length<sizeLine/\Q .non (upd H l (.lst (xs++[y])))
theorem Zba:MtM X "list.append" Zk7:=by
 intro pins s σ H x vs v us Q I rx rv h;obtain⟨l,xs,y,rfl,rfl,hH,hz,q⟩:=h;cases rx;obtain⟨u,rfl,ru⟩:=rv.one;obtain⟨z,its,n,r,hl,e⟩:=I.lstM hH;refine call_meets F.slot_list_append ⟨_,e,rfl⟩ F.entry_list_append (F.args_list_append_2 _ _) (PySem.list_append l its.toArray n u (by rw[Yal];omega)) ⟨e,?_⟩;refine⟨.non,_,I.lset (its':=its++[u]) hH e (by simp) (r.append (.cons ru .nil)) ?_,rfl,q⟩;rw[Yai,List.length_singleton];omega
def Zk6:V->List V->Hp->VK->Prop:=fun x vs H Q=>∃ l b xs zs,x=.ref l/\vs=[.ref b]/\H l=some (.lst xs)/\H b=some (.lst zs)/\xs.length+zs.length<=sizeLine/\Q .non (upd H l (.lst (xs++zs)))
theorem ZeW:MtM X "list.extend" Zk6:=by
 intro pins s σ H x vs v us Q I rx rv h;obtain⟨l,b,xs,zs,rfl,rfl,hH,hB,hz,q⟩:=h;cases rx;obtain⟨u,rfl,ru⟩:=rv.one;cases ru;obtain⟨z,its,n,r,hl,e⟩:=I.lstM hH;obtain⟨z2,its2,n2,r2,hl2,e2⟩:=I.lstM hB;have hsz:its.toArray.size+its2.toArray.size<=sizeLine:=by rw[Yal,Yal];omega
 have hlong:¬ (!its.toArray.isEmpty && Ycd (its.toArray.size+its2.toArray.size))=true:=by
  rw[Zgi hsz,Ydo];exact YaA
 refine call_meets F.slot_list_extend ⟨_,e,rfl⟩ F.entry_list_extend (F.args_list_extend_2 _ _)
  (AutoSeq1.list_extend_list_list_0 l its.toArray n b its2.toArray n2 hlong (by rw[Yal];omega) (by omega)) ⟨e,e2,?_⟩
 refine⟨.non,_,I.lset (its':=its++its2) hH e (by simp) (r.append r2) ?_,rfl,q⟩;rw[Yai];omega
def rPop:V->List V->Hp->VK->Prop:=fun x vs H Q=>∃ l xs y,x=.ref l/\vs=[]/\H l=some (.lst xs)/\xs[xs.length - 1]?=some y/\Q y (upd H l (.lst xs.dropLast))
theorem Zmh:MtM X "list.pop" rPop:=by
 intro pins s σ H x vs v us Q I rx rv h;obtain⟨l,xs,y,rfl,rfl,hH,hy,q⟩:=h;cases rx;have hus:=rv.zero;subst hus;obtain⟨z,its,n,r,hl,e⟩:=I.lstM hH;obtain⟨u,hu,ru⟩:=r.get hy;have hy':its.toArray[its.toArray.size - 1]?=some u:=by
  show its.toArray[its.length - 1]?=some u;rw[<- Yaf,<- hl];exact hu
 refine call_meets F.slot_list_pop ⟨_,e,rfl⟩ F.entry_list_pop (F.args_list_pop_1 _) (MeetsSeq.list_pop_last l its.toArray n u hy' (by rw[Yal];omega)) ⟨e,?_⟩;refine⟨y,_,I.lset (its':=its.dropLast) hH e ?_ r.dropLast ?_,ru,q⟩
 ·show its.toArray.eraseIdxIfInBounds (its.toArray.size - 1)=its.dropLast.toArray;rw[Yal,List.eraseIdxIfInBounds_toArray,Zg7]
 ·rw[List.length_dropLast];omega
def rCat:R2:=fun x y H Q=>∃ l b xs zs,x=.ref l/\y=.ref b/\H l=some (.lst xs)/\H b=some (.lst zs)/\xs.length+zs.length<=sizeLine/\∀ p,H p=none->Q (.ref p) (upd H p (.lst (xs++zs)))
theorem Zb0:OpR X (binaryOp .Add) rCat:=by
 intro pins s σ H x y v u Q I rx ry h;obtain⟨l,b,xs,zs,rfl,rfl,hH,hB,hz,q⟩:=h;cases rx;cases ry;obtain⟨z,its,n,r,hl,e⟩:=I.lstM hH;obtain⟨z2,its2,n2,r2,hl2,e2⟩:=I.lstM hB;refine PySem.P.add_list e e2 ?_ (by rw[Yal,Yal];omega);have ea:its.toArray++its2.toArray=(its++its2).toArray:=by simp
 rw[ea];exact⟨.ref _,_,I.lnew (t':=s.toks) (r.append r2) (by rw[Yai];omega),rfl,q _ I.fresh⟩
def rRep:R2:=fun x y H Q=>∃ l k xs,x=.ref l/\y=.int k/\H l=some (.lst xs)/\-(2 ^ 63)<=k/\k<2 ^ 63/\xs.length*k.toNat<=sizeLine /\
 ∀ p,H p=none->Q (.ref p) (upd H p (.lst (Yan k.toNat xs).flatten))
theorem Zip {α:Type} (xs:List α) (k:Nat):(Yan k xs).flatten.length=k*xs.length:=by
 induction k with
 | zero=>simp
 | succ k ih=>rw[YbP,Ybd,Yai,ih,Nat.succ_mul,Nat.add_comm]
theorem Zgf:OpR X (binaryOp .Mult) rRep:=by
 intro pins s σ H x y v u Q I rx ry h;obtain⟨l,k,xs,rfl,rfl,hH,h1,h2,hz,q⟩:=h;cases rx;obtain⟨t,rfl⟩:=ry;obtain⟨z,its,n,r,hl,e⟩:=I.lstM hH;have hlen:its.toArray.size*k.toNat<=sizeLine:=by rw[Yal,<- hl];exact hz
 have hcap:¬ its.toArray.size*k.toNat > (2 ^ 63 - 1) / 8:=by
  have:(sizeLine:Nat)<=(2 ^ 63 - 1) / 8:=by decide
  omega
 have hfit:¬ (!Builtin.List.listFitsIndex k)=true:=by
  rw[fitsIndex_both h1 h2];exact YaA
 have hlong:¬ Ycd (its.toArray.size*k.toNat)=true:=by
  rw[Zgi hlen];exact YaA
 have hnew:Yeq (fun x1 x2=>x1++x2) #[] (Yan (if its.toArray.isEmpty=true then 0 else k.toNat) its.toArray)=(Yan k.toNat its).flatten.toArray:=by
  have f0:∀ m:Nat,Yeq (fun x1 x2=>x1++x2) #[] (Yan m its.toArray)=(Yan m its).flatten.toArray:=fun m=>by
   have:=Ze7 its m [];rw[YdZ] at this;exact this
  rw[f0]
  cases its with
  | nil=>simp
  | cons a r'=>rw[if_neg (by simp)]
 refine wpAny_binaryOp_repeat_ref (T:="list") (U:="int") (by decide) ⟨_,e,rfl⟩ (fun s'=>typeIs_int s' k t) noFill_list_mul F.fills_int_mul F.slot_int_rmul repeat_list F.slot_int_index.lookup
  (call_meets F.slot_int_rmul (typeIs_int s k t) F.entry_int_rmul (F.args_int_rmul_2 _ _) (int___rmul___int_list k t l its.toArray n)
   ⟨e,rfl,⟨_,e,rfl⟩,call_meets F.slot_list_mul ⟨_,e,rfl⟩ F.entry_list_mul (F.args_list_mul_2 _ _) (AutoListH.list___mul___list_int_3 l its.toArray n k t hfit hcap hlong) ⟨e,?_⟩⟩)
 rw[hnew];exact⟨.ref _,_,I.lnew (t':=s.toks) (r.rep k.toNat) (by rw[Zip,Nat.mul_comm];exact hz),rfl,q _ I.fresh⟩
end
section
variable {prog:Program}{w:World}{A:Around}{E:Value->Shared->Prop}{s:Shared}
set_option maxRecDepth 100000 in
end
section
variable {X:Cx}
end
end L2
namespace Att
open PySem PySem.W PySem.Calls PyProof.Rows
theorem Zdf {P:Params}{h:Heap}:∀ (ns:List Int) (vs:List Value),WellAll P h vs (ns.map WData.int)->IntsAre vs ns:=by
 intro ns
 induction ns with
 | nil=>
  intro vs w;rw[Yde] at w;cases w;exact .nil
 | cons n ns ih=>
  intro vs w;rw[YaV] at w
  cases w with
  | cons a b=>
   cases a;exact .cons _ _ (ih _ b)
theorem Zhz {l:OpenLaw}{n:Nat} (hn:l.most=some n) {P:Params}{h:Heap}{args:List WData}{vals:List Value}
  (hpre:l.row.toRowW.claim.pre args=true) (hwl:WellAll P h vals args) :
  ∃ a vs ns,vals=[YaL a]/\args=[WData.list (ns.map WData.int)]/\h.get? a=some { cls:=.type "list",data:=.seq vs.toArray }/\IntsAre vs ns/\ns.length<=n:=by
 have hsh:WShape.hasAll [] args [.list .int]=true:=(pre_splitW hpre).1
 have hc:l.pre.holds [] { args:=args }=true:=(pre_splitW hpre).2
 obtain⟨d,r,rfl,h1,h2⟩:=hasAllW_cons hsh;obtain rfl:=hasAllW_nil h2;obtain⟨xs,rfl,h3⟩:=hasW_list h1;obtain⟨ns,rfl⟩:=items_int h3;have hlen:ns.length<=n:=by
  unfold OpenLaw.pre at hc;have h4:(WTm.not (.lt (.lit (.int (n:Int))) (.len (.arg 0)))).holds [] { args:=[.list (ns.map .int)] }=true:=by
   have h4:=(holds_andW hc).1
   rw[hn] at h4;exact h4
  have h5:=condW_of h4 (w_not (w_lt w_lit (w_len_list (w_arg rfl))));rw[Yab] at h5;refine Nat.le_of_not_lt fun q=>?_;have q':(n:Int)<((ns.length:Nat):Int):=by omega
  first
   | (rw[decide_eq_true q'] at h5;exact absurd h5 (by decide))
   | (simp at h5;omega)
 cases hwl with
 | cons w1 w2=>
  cases w2
  cases w1 with
  | list ho hall=>exact⟨_,_,ns,rfl,rfl,ho,Zdf ns _ hall,hlen⟩
theorem ZhL (l:OpenLaw) (args:List WData):l.row.toRowW.claim.post args (.bool true) args=true :=
 postW_of (r:=l.row.toRowW) (X:=(true == true))
  (show WShape.has [] (.bool true) .bool=true by first | rfl | decide | simp[WShape.has,WShape.arms,WShape.armsAll])
  (show (WTm.eq .res (.lit (.bool true))).value [] { args:=args,res:=some (.bool true),after:=args }=some (.bool (true == true)) from w_eq_bool (w_res rfl) w_lit) rfl
theorem attach_call {l:OpenLaw}{n:Nat}{q:Program}{loose:List Str}{XP:(Str->Option Value)->Heap->Prop}{YP:World->Heap->Prop}{d:DefRec}
  (hn:l.most=some n) (hdf:d.params.defaults=[])
  (call:∀ (w:World) (s₀ s₁:Shared) (mg mb:Str->Option Value) (fa:Addr) (o:Obj) (pm cd doc:Value) (a:Addr) (vs:List Value) (ns:List Int),
   Ground q loose [] XP w s₀ mg mb s₁.heap->YP w s₁.heap ->
   s₁.heap.get? fa=some o->o.data=.func (docDef d.name d.params d.body d.scope pm cd doc)->s₁.heap.CodeRec cd d.name->mg d.name=some (.ref fa) ->
   s₁.heap.get? a=some { cls:=.type "list",data:=.seq vs.toArray }->IntsAre vs ns->ns.length<=n->s₁.gens=#[] ->
   codeAny (model l.prog w) callerA (.call (.ref fa) ⟨[.ref a],[]⟩) (fun r s'=>r=.ok (.ret (.bool true))/\OldK s₁.heap s'.heap/\s'.os=s₁.os/\AllBare s'.gens) s₁) :
  WalkO q loose XP YP l.row.toRowW d [] (fun f vs=>Ye4 f vs):=by
 intro w s₀ s₁ mg mb G Y fa o pm cd doc dV kV ho hd hcd hD hmg hg args vals as hpre hlay hrd hwl hlo;obtain rfl:dV=.none:=Dflts.none hD hdf;obtain rfl:kV=.none:=Dflts.noKw hD;obtain⟨a,vs,ns,rfl,rfl,hobj,hints,hlen⟩:=Zhz hn hpre hwl;refine enter_call (codeAny_mono (call w s₀ s₁ mg mb fa o pm cd doc a vs ns G Y ho (fd_plain hd) hcd hmg hobj hints hlen hg) fun r s' hq=>?_);obtain⟨rfl,h2,h3,h4⟩:=hq;exact⟨.inl ⟨.bool true,.bool true,[],rfl,fun _=>rfl,.bool true,ZhL l _,fun _=>⟨YbK,fun _ hm=>(nomatch hm)⟩⟩,h2,h3,h4⟩
section
variable {prog:Program}{w:World}{A:Around}{E:Value->Shared->Prop}{s:Shared}{K:Frag}
def Zna (h:Heap) (L d:Addr):List (Addr × Obj):=(YaT h.objs.size).filterMap fun a=>if a=L∨a=d then none else (h.get? a).map fun o=>(a,o)
end
end Att
namespace L2
open PySem PySem.Spec PyProof.Rows
theorem ZeC:∀ {vs:List Value}{ns:List Int},IntsAre vs ns->Vals (ns.map V.int) vs
 | _,_,.nil=>.nil
 | _,_,.cons n t h=>.cons ⟨t,rfl⟩ (ZeC h)
def Only (H:Hp):Prop:=∀ b,H b=none∨∃ o xs,H b=some (.frz o (.lst xs))
theorem ZjS {P:Program}{w:World}{K:Yac}{mg mb:Str->Option Value}{CX:CXT}{k:Nat}{fa a:Addr}{fd:FuncData}{x:Str}{sp:Sp}{s₁:Shared}{vs:List Value}{ns:List Int}
  (KX:K.In s₁.heap) (hns:s₁.heap.Ns mainGlobals mg) (hb:s₁.heap.Ns builtinsNs mb) (hbb:∀ x:Str,x≠"__name__"->mb x=bootBuiltins x) (hlim:s₁.heap.NoLimit) (hg:s₁.gens=#[])
  (ha:s₁.heap.get? a=some { cls:=.type "list",data:=.seq vs.toArray }) (hi:IntsAre vs ns) (hl:ns.length<=sizeLine) (hr:Room k callerA)
  (F:∀ base:Heap,K.In base->base.Ns mainGlobals mg->FnOk P w K mg base CX k fa fd [x] sp) (hbind:∀ (s:Shared) (u:Value),BindsTo s fd ⟨[u],[]⟩ [(x,u)])
  (hsp:∀ H:Hp,Only H->SqL K H a (ns.map V.int)->sp [.ref a] H (fun v _=>v=.bl true) fun _ _ _=>False)
  (hCX:∀ H e s',CX [] H s₁ (fun _ _ _=>False) e s'->False) :
  codeAny (model P w) callerA (.call (.ref fa) ⟨[.ref a],[]⟩) (fun r s'=>r=.ok (.ret (.bool true))/\OldK s₁.heap s'.heap/\s'.os=s₁.os/\AllBare s'.gens) s₁:=by
 have rv:=ZeC hi;have lenV:=hi.length;have core:∀ H:Hp,Only H->SqL K H a (ns.map V.int)->HOk P w H s₁.heap->(∀ b,H b≠none->b=a)->(H a≠none->K.lookup a=none) ->
   codeAny (model P w) callerA (.call (.ref fa) ⟨[.ref a],[]⟩) (fun r s'=>r=.ok (.ret (.bool true))/\OldK s₁.heap s'.heap/\s'.os=s₁.os/\AllBare s'.gens) s₁:=by
  intro H hO hS hok hA hK;have base_of:∀ {b:Addr}{o:Obj},s₁.heap.get? b=some o->H b=none->(hidT s₁.heap H).get? b=some o:=fun e n=>ZjV e n;have noA:∀ {b:Addr}{o:Obj}{es:Array DictEntry}{ep:Nat},s₁.heap.get? b=some o->o.data=.dict es ep->H b=none:=fun {b o es ep} e d=>by
   cases q:H b with
   | none=>rfl
   | some u=>
    have e':b=a:=hA b (by rw[q];simp);subst e';rw[ha] at e;cases e;have d':Data.seq vs.toArray _=Data.dict es ep:=d;cases d'
  have nsK:∀ {b:Addr}{m:Str->Option Value},s₁.heap.Ns b m->(hidT s₁.heap H).Ns b m:=fun {b m} ⟨o,es,ep,e,d,r⟩=>⟨o,es,ep,base_of e (noA e d),d,r⟩
  have hKb:K.In (hidT s₁.heap H):=fun b o e=>base_of (KX b o e) (by
   cases q:H b with
   | none=>rfl
   | some u=>
    have e':b=a:=hA b (by rw[q];simp);subst e';rw[hK (by rw[q];simp)] at e;cases e)
  have hM:Mod K mg (hidT s₁.heap H):=⟨hKb,nsK hns,⟨mb,nsK hb,hbb⟩,let ⟨mc,h1,h2⟩:=hlim;⟨mc,nsK h1,h2⟩⟩
  have e0:Env0 P w K mg (hidT s₁.heap H) callerA [] s₁ H:=⟨rfl,hM,fun b o e=>Zll e,Nat.le_of_eq (ZiC _ _),trivial,fun b hb=>absurd (show b∈([]:List Addr) from hb) (by simp),hok,.of_eq hg⟩
  refine codeAny_mono ((F _ hKb (nsK hns)).run callerA [] s₁ H ⟨[.ref a],[]⟩ [.ref a] [.ref a] _ _ hr e0 (hbind s₁ (.ref a)) (.cons rfl .nil) (hsp H hO hS)) fun r s' h=>?_
  cases r with
  | error e=>exact (hCX H e s' h).elim
  | ok fl=>
   cases fl with
   | next=>exact Ycc h
   | brk=>exact Ycc h
   | cont=>exact Ycc h
   | ret u=>
    obtain⟨v,H',os,bare,un,hok',r',q⟩:=h;have q':v=.bl true:=q;subst q';obtain rfl:u=Ydy true:=r';refine⟨rfl,OldK.of_keep fun b o e=>?_,os,bare⟩
    cases q:H b with
    | none=>exact un.keep b o e q (by intro z;exact absurd (show b∈([]:List Addr) from z) (by simp)) (by simp)
    | some u=>
     rcases hO b with z | ⟨ob,xs,z⟩
     ·rw[q] at z;cases z
     ·have z2:=un.frzs b ob _ z;obtain⟨e1,_⟩:=hok b _ z;obtain⟨e2,_⟩:=hok' b _ z2;rw[e] at e1;cases e1;exact e2
 cases hk:K.lookup a with
 | some o=>
  have e:=KX a o hk;rw[ha] at e;cases e;refine core (fun _=>none) (fun _=>.inl rfl) (.inr ⟨_,vs.toArray,_,hk,rfl,rfl,rfl,by rw[Yal,lenV];exact hl,by simpa using rv⟩) (fun b u z=>by have z':(none:Option HO)=some u:=z;cases z') (fun b z=>absurd rfl z) fun z=>absurd rfl z
 | none=>
  refine core (fun b=>if b=a then some (.frz { cls:=.type "list",data:=.seq vs.toArray } (.lst (ns.map V.int))) else none) (fun b=>?_) (.inl (.inr ⟨{ cls:=.type "list",data:=.seq vs.toArray },if_pos rfl⟩)) (fun b u z=>?_) (fun b z=>?_) fun _=>hk
  ·by_cases hb:b=a
   ·exact .inr ⟨_,_,if_pos hb⟩
   ·exact .inl (if_neg hb)
  ·by_cases hb:b=a
   ·have z':=(if_pos hb).symm.trans z;cases z';subst hb;exact⟨ha,by rw[Yab];exact hl,vs,_,rv,ha⟩
   ·have z':=(if_neg hb).symm.trans z;cases z'
  ·by_cases hb:b=a
   ·exact hb
   ·exact absurd (if_neg hb) z
end L2
namespace L2
open PySem PySem.Spec PyProof.Rows
theorem walk_of {l:YdH}{n k:Nat}{q:Program}{loose:List Str}{XP:(Str->Option Value)->Heap->Prop}{YP:World->Heap->Prop}{d:DefRec}{K:Params->Yac}{CX:World->CXT}{sp:World->Sp}{x:Str}
  (hn:l.most=some n) (hn2:n<=sizeLine) (hdf:d.params.defaults=[]) (hr:Room k callerA)
  (hY:∀ (w:World) (h:Heap),YP w h->(K w.params).In h)
  (F:∀ (w:World) (mg:Str->Option Value) (fa:Addr) (h:Heap),(K w.params).In h->h.Ns mainGlobals mg->mg d.name=some (.ref fa) ->
   ∃ fd:FuncData,(∀ (s:Shared) (u:Value),BindsTo s fd ⟨[u],[]⟩ [(x,u)]) /\
    ∀ base:Heap,(K w.params).In base->base.Ns mainGlobals mg->FnOk l.prog w (K w.params) mg base (CX w) k fa fd [x] (sp w))
  (hsp:∀ (w:World) (H:Hp) (a:Addr) (ns:List Int),ns.length<=n->Only H->SqL (K w.params) H a (ns.map V.int)->sp w [.ref a] H (fun v _=>v=.bl true) fun _ _ _=>False)
  (hCX:∀ (w:World) (H:Hp) (s:Shared) (e:Value) (s':Shared),CX w [] H s (fun _ _ _=>False) e s'->False) :
  Yfm q loose XP YP l.row.toRowW d [] (fun f vs=>Ye4 f vs):=by
 refine Att.attach_call hn hdf fun w s₀ s₁ mg mb fa o pm cd doc a vs ns G Y ho hd hcd hmg hobj hints hlen hg=>?_;have KX:=hY w _ Y;obtain⟨fd,hb,hF⟩:=F w mg fa _ KX G.T.g hmg;exact ZjS KX G.T.g G.T.b G.T.builtins G.T.nolimit hg hobj hints (Ybx hlen hn2) hr hF hb (fun H hO hS=>hsp w H a ns hlen hO hS) fun H e s'=>hCX w H s₁ e s'
end L2
namespace L2
open PySem PySem.Spec PyProof.Rows
def Zam (s:Stmt):Arguments:=match s with
 | .FunctionDef _ a _ _ _ _ _ _ _ _=>a
 | _=>{ posonlyargs:=[],args:=[],vararg:=none,kwonlyargs:=[],kw_defaults:=[],kwarg:=none,defaults:=[] }
def Zaj (s:Stmt):List Stmt:=match s with
 | .FunctionDef _ _ b _ _ _ _ _ _ _=>b
 | _=>[]
def Zad (s:Stmt):Scope:=match s with
 | .FunctionDef _ _ _ _ _ _ sc _ _ _=>sc
 | _=>{ kind:=.function,names:=[],isGenerator:=false,isCoroutine:=false }
abbrev CX0:CXT:=fun _ _ _ _ _ _=>False
abbrev E0:XK:=fun _ _ _=>False
theorem Zle {X:Cx}:ZdW CX0 X E0:=fun _ _ _ _ _ _ _ h=>h.elim
structure Fun (K:Yac) (x qual:Str) (st:Stmt) (f:Addr) (fd:FuncData):Prop where
 ex:∃ (oc:Value) (od:Option Addr) (kV doc pm:Value) (an:Option Addr) (cdv ct:Value) (osl:Array (Option Value)),
  fd=YaE x qual (Zam st) (Zaj st) (Zad st) .none kV doc pm an cdv ct/\K.lookup f=some ⟨oc,od,.func fd,osl⟩/\YaD K cdv qual=true
 kp:Yav K (.ref f)=true
section
variable {P:Program}{w:World}{K:Yac}{mg:Str->Option Value}{base:Heap}
theorem Fun.ok {x qual:Str}{st:Stmt}{f:Addr}{fd:FuncData}{N ps:List Str}{k:Nat}{sp:Sp} (F:Fun K x qual st f fd) (S:FnScope N ps (Zad st)) (len:∀ vs H Q E,sp vs H Q E->vs.length=ps.length)
  (hbody:∀ (cdv:Value) (A:Around) (outer:List Env) (s:Shared) (H:Hp) (vs:List V) (Q:VK) (E:XK),Room k (A.deeper (envOfC qual (Zad st) s.heap.objs.size f cdv))->sp vs H Q E ->
   ∃ t,PSs (cxOf CX0 P w K mg base N qual (Zad st) f cdv A outer s H E).nox (Zaj st) t/\t { nx:=fun _ H'=>Q .non H',rt:=Q } (start N vs) H):FnOk P w K mg base CX0 (k+1) f fd ps sp:=by
 obtain⟨oc,od,kV,doc,pm,an,cdv,ct,osl,rfl,lk,hcd⟩:=F.ex;refine ZjZ lk hcd S len fun A outer s H vs Q E hr hsp=>?_;obtain⟨t,h,q⟩:=hbody cdv A outer s H vs Q E hr hsp;exact⟨t,h.nox,q⟩
theorem Fun.binds {x qual:Str}{st:Stmt}{f:Addr}{fd:FuncData}{ps:List Str} (F:Fun K x qual st f fd)
  (h:∀ (kV doc pm:Value) (an:Option Addr) (cdv ct:Value) (us:List Value),us.length=ps.length->bindArgs (YaE x qual (Zam st) (Zaj st) (Zad st) .none kV doc pm an cdv ct) ⟨us,[]⟩=pure (ps.zip us)):Binds K fd ps []:=by
 obtain⟨oc,od,kV,doc,pm,an,cdv,ct,osl,rfl,lk,hcd⟩:=F.ex;exact .all (h kV doc pm an cdv ct)
theorem ZaD {x qual:Str}{st:Stmt}{f:Addr}{oc:Value}{od an:Option Addr}{osl:Array (Option Value)}{kV doc pm cdv ct:Value} (l:K.lookup f=some ⟨oc,od,.func (YaE x qual (Zam st) (Zaj st) (Zad st) .none kV doc pm an cdv ct),osl⟩)
  (c:YaD K cdv qual=true) (k:Yav K (.ref f)=true):Fun K x qual st f (YaE x qual (Zam st) (Zaj st) (Zad st) .none kV doc pm an cdv ct):=⟨⟨oc,od,kV,doc,pm,an,cdv,ct,osl,rfl,l,c⟩,k⟩
end
theorem ZaL {n:Nat} (h:n<=1000):n<sizeLine:=YcU h (by decide)
section
variable {X:Cx}
theorem pv (i:Nat) {x:Str}{pos:Pos} (hN:X.N[i]?=some x:=by rfl) (hv:Vis X.env.scope x:=by first | exact YaQ rfl | exact Ydc (YaQ rfl) | exact Ydc (Ydc rfl)) (hd:(x == ("__debug__":Str))=false:=by decide)
  (hcd:(x == ("__classdict__":Str))=false:=by decide):PE X (.Name x pos) (tVar i):=Zks hN hv hd hcd
end
theorem iteF {A B:Prop} (h:B):if false=true then A else B:=by
 rw[if_neg YaA];exact h
theorem iteT {A B:Prop} (h:A):if true=true then A else B:=by
 rw[if_pos rfl];exact h
theorem ite2 {c A B:Prop} [Decidable c] (h1:c->A) (h2:¬ c->B):if c then A else B:=by
 by_cases h:c
 ·rw[if_pos h];exact h1 h
 ·rw[if_neg h];exact h2 h
def Same (H H':Hp):Prop:=∀ b o,H b=some o->H' b=some o
theorem Same.refl (H:Hp):Same H H:=fun _ _ h=>h
theorem Same.trans {H H1 H2:Hp} (a:Same H H1) (b:Same H1 H2):Same H H2:=fun c o h=>b c o (a c o h)
theorem Same.free {H H':Hp} (e:Same H H') {l:Addr} (h:H' l=Option.none):H l=Option.none:=by
 cases q:H l with
 | none=>rfl
 | some o=>
  rw[e l o q] at h;cases h
theorem Same.seq {K:Yac}{H H':Hp}{a:Addr}{xs:List V} (e:Same H H') (h:SqL K H a xs):SqL K H' a xs:=by
 rcases h with (h | ⟨o,h⟩) | h
 ·exact .inl (.inl (e _ _ h))
 ·exact .inl (.inr ⟨o,e _ _ h⟩)
 ·exact .inr h
end L2
set_option maxHeartbeats 4000000
namespace L2
open PySem PySem.Spec PyProof.Rows
def ZbM (env:Env):List (Str × NameKind)->List (Str × Addr)->List (Str × Addr)
 | [],cs=>cs
 | (n,k)::r,cs=>ZbM env r (if k == .free then (n,(env.cells.lookup n).getD 0)::cs else cs)
abbrev clOf (scope:Scope) (env:Env):List (Str × Addr):=ZbM env scope.names []
theorem Zct {env:Env}:∀ (names:List (Str × NameKind)) (cs:List (Str × Addr)),(∀ x∈names,x.2=.free->∃ c,env.cells.lookup x.1=some c) ->
  (forIn names cs fun (x:Str × NameKind) r=>do
   if x.2 == .free then
    let c <- cellOf env x.1
    pure (Ya8 ((x.1,c)::r))
   else pure (Ya8 r):Sem (List (Str × Addr)))=pure (ZbM env names cs)
 | [],cs,_=>rfl
 | (n,k)::r,cs,h=>by
  rw[Yd1];have ih:=fun cs'=>Zct (env:=env) r cs' fun x hx=>h x (Yap _ hx);by_cases hk:k=.free
  ·subst hk;obtain⟨c,hc⟩:=h (n,.free) YaC rfl;have hc':env.cells.lookup n=some c:=hc;have ec:cellOf env n=pure c:=by unfold cellOf;rw[hc']
   dsimp only;rw[if_pos (by rfl),ec];show (forIn r ((n,c)::cs) _:Sem _)=_;rw[ih]
   conv=>rhs;unfold ZbM
   rw[if_pos (by rfl),hc'];rfl
  ·have hb:(k == Yb5)=false:=by simpa using hk
   dsimp only;rw[if_neg (by rw[hb];decide)];show (forIn r cs _:Sem _)=_;rw[ih]
   conv=>rhs;unfold ZbM
   rw[if_neg (by rw[hb];decide)]
theorem ZdT {scope:Scope}{env:Env} (h:∀ x∈scope.names,x.2=.free->∃ c,env.cells.lookup x.1=some c):closureFor scope env=pure (clOf scope env):=by
 unfold closureFor;have e:=Zct (env:=env) scope.names [] h;simp only[bind_pure];exact e
theorem Zfe {env:Env}{x:Str}{c:Addr}:∀ (names:List (Str × NameKind)) (cs:List (Str × Addr)),(ZbM env names cs).lookup x=some c->((x,Yb5)∈names/\c=(env.cells.lookup x).getD 0)∨cs.lookup x=some c
 | [],_,h=>.inr h
 | (n,k)::r,cs,h=>by
  unfold ZbM at h;rcases Zfe r _ h with ⟨h1,h2⟩ | h1
  ·exact .inl ⟨Yap _ h1,h2⟩
  ·by_cases hk:k=.free
   ·subst hk;rw[if_pos (by rfl),YbM] at h1
    cases e:x == n with
    | true=>
     rw[e] at h1;have en:x=n:=eq_of_beq e;subst en;exact .inl ⟨YaC,(YaF h1).symm⟩
    | false=>rw[e] at h1;exact .inr h1
   ·have hb:(k == Yb5)=false:=by simpa using hk
    rw[if_neg (by rw[hb];decide)] at h1;exact .inr h1
theorem ZiZ {env:Env}{x:Str}:∀ (names:List (Str × NameKind)) (cs:List (Str × Addr)),(∃ c,cs.lookup x=some c)->∃ c,(ZbM env names cs).lookup x=some c
 | [],_,h=>h
 | (n,k)::r,cs,h=>by
  unfold ZbM;refine ZiZ r _ ?_;split
  ·rw[YbM];split
   ·exact⟨_,rfl⟩
   ·exact h
  ·exact h
theorem Zi0 {env:Env}{x:Str}:∀ (names:List (Str × NameKind)) (cs:List (Str × Addr)),(x,Yb5)∈names->∃ c,(ZbM env names cs).lookup x=some c
 | [],_,h=>by simp at h
 | (n,k)::r,cs,h=>by
  unfold ZbM;rcases Yah.mp h with e | h
  ·cases e;refine ZiZ r _ ?_;rw[if_pos (by rfl),YbM];exact⟨(env.cells.lookup x).getD 0,by simp⟩
  ·exact Zi0 r _ h
theorem ZgP {scope:Scope}{env:Env}{x:Str} (hcell:∀ y∈scope.names,y.2≠.cell) (h:(relabel scope env).names.lookup x=some .cell∨(relabel scope env).names.lookup x=some .free):(x,Yb5)∈scope.names:=by
 have hm:∃ k,(x,k)∈(relabel scope env).names/\(k=.cell∨k=.free):=by
  rcases h with h | h
  ·exact⟨_,YbD h,.inl rfl⟩
  ·exact⟨_,YbD h,.inr rfl⟩
 obtain⟨k,hm,hk⟩:=hm;obtain⟨⟨n,k'⟩,h1,h2⟩:=YaW.mp hm;dsimp only at h2;split at h2
 ·rename_i hc;have:k'=.free:=by
   simp only[Ybr,beq_iff_eq] at hc;exact hc.1.1
  cases h2;subst this;exact h1
 ·cases h2;rcases hk with rfl | rfl
  ·exact absurd rfl (hcell _ h1)
  ·exact h1
theorem ZcI {env:Env}{x:Str}:∀ {names:List (Str × NameKind)},names.lookup x=some .free ->
  (names.map fun (n,k)=>if (k == Yb5 && env.scope.kind == .function && env.kindOf n == some .cell) then (n,Yfg) else (n,k)).lookup x=some .cell ∨
  (names.map fun (n,k)=>if (k == Yb5 && env.scope.kind == .function && env.kindOf n == some .cell) then (n,Yfg) else (n,k)).lookup x=some .free
 | [],h=>by simp at h
 | (n,k)::r,h=>by
  have ih:=@ZcI env x r;rw[YaV];dsimp only
  cases hx:x == n with
  | true=>
   simp only[YbM,hx] at h;cases h;split
   ·left;simp[YbM,hx]
   ·right;simp[YbM,hx]
  | false=>
   simp only[YbM,hx] at h;split
   ·simp only[YbM,hx];exact ih h
   ·simp only[YbM,hx];exact ih h
section
variable {prog:Program}{w:World}{A:Around}{R:Result->Shared->Prop}{s:Shared}
theorem Zcf {elt target iter:Expr}{ifs:List Expr}{scope:Scope}{pos:Pos}{it acc:Value}{env:Env} (I:Nat->Shared->Prop)
  (turn:∀ n s,I n s->wpAny (model prog w) A (pyNext it) (fun r s₁=>match r with
   | none=>R (.ok .next) s₁
   | some v=>wpAny (model prog w) A (letOwnedTupleGo target it v) (fun _ s₁'=>wpAny (model prog w) A (assign target env v) (fun _ s₂=>
     wpAny (model prog w) A (forIn ifs true fun c r=>if r=true then do let ok <- isTrue c env (eval c env);pure (Ya8 ok) else pure (Ya8 r)) (fun ok s₃=>
      if ok=true then wpAny (model prog w) A (eval elt env) (fun x s₄=>
       wpAny (model prog w) A (call (.builtin "list.append") [acc,x]) (fun _ s₅=>∃ m,m<n/\I m s₅) (fun _ _=>False) s₄) (fun _ _=>False) s₃
      else ∃ m,m<n/\I m s₃) (fun _ _=>False) s₂) (fun _ _=>False) s₁') (fun _ _=>False) s₁) (fun _ _=>False) s)
  (n:Nat) (h:I n s) :
  codeAny (model prog w) A (.compLoop (.ListComp elt [⟨target,iter,ifs,0⟩] scope pos) 0 it acc env) R s:=by
 refine codeAny_loop rfl I (fun n s hI=>?_) n h;show wpAny _ A ((compTurn (.ListComp elt [⟨target,iter,ifs,0⟩] scope pos) 0 it acc env).onRaise (fun x=>do noteFrame x env;theTreesLotGoes x)) _ _ s;refine wpAny_noted ?_;rw[compTurn_list];refine wpAny_bind (wpAny_standAt (wpAny_bind (wpAny_mono (turn n s hI) (fun r s₁ h₁=>?_) fun _ _ h'=>h'.elim)))
 cases r with
 | none=>exact wpAny_pure h₁
 | some v=>
  refine wpAny_bind (wpAny_mono h₁ (fun _ s₁' h₁=>?_) fun _ _ h'=>h'.elim);refine wpAny_bind (wpAny_mono h₁ (fun _ s₂ h₂=>wpAny_bind (wpAny_mono h₂ (fun ok s₃ h₃=>?_) fun _ _ h'=>h'.elim)) fun _ _ h'=>h'.elim)
  cases ok with
  | false=>exact wpAny_pure ⟨rfl,h₃⟩
  | true=>
   exact wpAny_bind (wpAny_bind (wpAny_mono h₃ (fun x s₄ h₄=>wpAny_bind (wpAny_mono h₄ (fun _ s₅ h₅=>wpAny_pure (wpAny_pure ⟨rfl,h₅⟩)) fun _ _ h'=>h'.elim)) fun _ _ h'=>h'.elim))
end
def PTs (X:Cx) (ifs:List Expr) (t:TT):Prop :=
 ∀ (pins:List (Addr × Obj)) (s:Shared) (σ:St) (H:Hp) (Q:Bool->Hp->Prop),Inv X pins σ H s->t σ H Q ->
  wpAny (model X.prog X.w) X.A (forIn ifs true fun c r=>if r=true then do let ok <- isTrue c X.env (eval c X.env);pure (Ya8 ok) else pure (Ya8 r)) (TP X pins σ Q) X.xe s
def ZcZ:TT:=fun _ H Q=>Q true H
theorem ZaW {X:Cx}:PTs X [] ZcZ:=fun _ _ _ H _ I h=>wpAny_tests_nil ⟨H,I,h⟩
def Cx.blk (X:Cx) (scope:Scope) (own:List Str) (js:List Nat) (s₂:Shared) (H₂:Hp) (C:Addr) (fp:List Addr) (pins:List (Addr × Obj)):Cx where
 prog:=X.prog
 w:=X.w
 K:=X.K
 mg:=X.mg
 base:=X.base
 A:=X.A
 N:=own++js.map fun j=>X.N.getD j Ydj
 s₀:=s₂
 H₀:=H₂
 env:=compEnvC scope (clOf scope X.env) C X.env
 outer:=X.stack
 stack:=X.stack
 ex:=fp
 fn:=fun _=>false
 calm:=X.calm
 pn:=X.pn++pins
 xe:=fun _ _=>False
def blkσ (own:List Str) (js:List Nat) (σ:St):St:=own.map (fun _=>none)++js.map fun j=>(σ[j]?).join
section
variable {X:Cx}{pins:List (Addr × Obj)}{σ:St}{H H':Hp}{s s':Shared}{scope:Scope}{own:List Str}{js:List Nat}{C:Addr}{fp:List Addr}
structure CompOk (X:Cx) (scope:Scope) (own:List Str) (js:List Nat):Prop where
 kind:scope.kind=.function
 cell:∀ y∈scope.names,y.2≠.cell
 free:∀ y∈scope.names,y.2=.free->X.env.kindOf y.1=some .cell∨X.env.kindOf y.1=some .free
 names:∀ y∈scope.names,y.2=.local -> scope.names.lookup y.1=some .local
 out:∀ j∈js,∃ x,X.N[j]?=some x/\scope.names.lookup x=some .free
theorem CompOk.cl (c:CompOk X scope own js) (I:Inv X pins σ H s):∀ x∈scope.names,x.2=.free->∃ c,X.env.cells.lookup x.1=some c:=fun x hx hf=>I.ok.has x.1 (c.free x hx hf)
theorem CompOk.look (c:CompOk X scope own js) (I:Inv X pins σ H s) {x:Str}{a:Addr} (h:(clOf scope X.env).lookup x=some a):X.env.cells.lookup x=some a:=by
 rcases Zfe _ _ h with ⟨h1,h2⟩ | h1
 ·obtain⟨c',e⟩:=c.cl I (x,.free) h1 rfl;have e':X.env.cells.lookup x=some c':=e;rw[e'] at h2 ⊢;subst h2;rfl
 ·simp at h1
theorem Zmz (c:CompOk X scope own js) (I:Inv X pins σ H s) (hC:s.heap.objs.size<=C) (hf:∀ b∈fp,FpOk X pins H b) (ho:∀ b∈fp,∃ o,s.heap.get? b=some o):(X.blk scope own js s H C fp pins).Ok where
 mod:=I.ok.mod
 kind:=c.kind
 glob:=I.ok.glob
 blt:=I.ok.blt
 above:=hC
 inj:=fun x y a h1 h2=>I.ok.inj x y a (c.look I h1) (c.look I h2)
 has:=fun x hx=>Zi0 _ _ (ZgP c.cell hx)
 cab:=fun x a h=>by cases h
 hd:=I.ok.hd
 frames:=I.ok.frames
 stk:=.inl rfl
 exf:=fun b hb=>by
  obtain⟨o,e⟩:=ho b hb;exact⟨YaB (Yas (Yaj e) hC),fun x a h=>(hf b hb).2.2.2.2.1 x a (c.look I h)⟩
 bs:=I.bs
 bsz:=Ybx I.ok.bsz I.sz
 noex:=fun b o e hb=>by
  rcases (hf b hb).2.2.2.1 with z | z
  ·exact I.ok.noex b o e z
  ·exact absurd (Yas (Yaj e) (Ybx I.ok.bsz z)) (Ybt _)
 exfs:=fun b hb hm=>by
  rcases Yah.mp (I.stkSub b hm) with z | z
  ·exact (hf b hb).2.1 z
  ·exact (hf b hb).2.2.1 z
 funs:=I.stack
 frf:=I.stkFree
theorem ZfU (own:List Str) (js:List Nat) (σ:St) (X:Cx):(blkσ own js σ).length=(own++js.map fun j=>X.N.getD j Ydj).length:=by
 unfold blkσ;simp
theorem Zfj {acc:Addr}{m:Str->Option Value}{tk:Nat}{h':Heap} (c:CompOk X scope own js) (I:Inv X pins σ H s) (hC:s.heap.objs.size<=C) (hf:∀ b∈fp,FpOk X pins H b) (ho:∀ b∈fp,∃ o,s.heap.get? b=some o)
  (hn:h'.Ns C m) (k:∀ b u,s.heap.get? b=some u->h'.get? b=some u) (hacc:s.heap.objs.size<=acc) (haC:acc≠C) (hl:h'.get? acc=some { cls:=.type "list",data:=.seq ([]:List Value).toArray 0 }) :
  Inv (X.blk scope own js s H C fp pins) [] (blkσ own js σ) (upd H acc (.lst [])) { s with heap:=h',toks:=tk }:=by
 have ok:=Zmz c I hC hf ho;have fresh:∀ {a:Addr},s.heap.objs.size<=a->H a=none:=fun h=>I.hok.fresh h;have neA:∀ b o,s.heap.get? b=some o->b≠acc:=fun b o e=>YaB (Yas (Yaj e) hacc);refine⟨ok,rfl,I.bare,Un.laid k hacc (fresh hacc),⟨m,hn,fun i x v e1 e2 e3=>?_⟩,fun x a e=>?_,?_,fun x a e=>?_,fun p hp=>?_,I.hok.laid k hacc ⟨YaR _,[],0,.nil,hl⟩,ZfU own js σ X⟩
 ·
  have hi:own.length<=i:=by
   refine Nat.le_of_not_lt fun hi=>?_;unfold blkσ at e2;rw[Ya4 (by simpa using hi),Yam] at e2
   cases q:own[i]? with
   | none=>rw[q] at e2;cases e2
   | some z=>rw[q] at e2;cases e2
  have e1':(js.map fun j=>X.N.getD j Ydj)[i - own.length]?=some x:=by
   have e1:(own++js.map fun j=>X.N.getD j Ydj)[i]?=some x:=e1
   rwa [Ya9 hi] at e1
  have e2':(js.map fun j=>(σ[j]?).join)[i - own.length]?=some (some v):=by
   unfold blkσ at e2;rw[Ya9 (by simpa using hi)] at e2;simpa using e2
  rw[Yam] at e1' e2'
  cases q:js[i - own.length]? with
  | none=>rw[q] at e1';cases e1'
  | some j=>
   rw[q] at e1' e2';obtain⟨x',hx',hfree⟩:=c.out j (Yaw q);have ex:x'=x:=by
    have:X.N.getD j Ydj=x:=YaF e1';rw[Yau,hx'] at this;exact this
   subst ex;have eσ:σ[j]?=some (some v):=by
    have e2'':(σ[j]?).join=some v:=YaF e2'
    cases r:σ[j]? with
    | none=>rw[r] at e2'';cases e2''
    | some z=>rw[r] at e2'';cases z with
     | none=>cases e2''
     | some y=>cases e2'';rfl
   have hmem:(x',Yb5)∈scope.names:=YbD hfree;have hkX:=c.free _ hmem rfl;have vis:Vis X.env.scope x':=by
    rcases hkX with z | z
    ·exact .inr (.inl z)
    ·exact .inr (.inr z)
   obtain⟨m0,hn0,hl0⟩:=I.loc;obtain⟨u,r,l⟩:=hl0 j x' v hx' eσ vis;refine⟨u,r,.inr ⟨ZcI hfree,?_⟩⟩;obtain⟨a,ha⟩:=Zi0 (env:=X.env) scope.names [] hmem;refine⟨a,ha,?_⟩;have haX:=c.look I ha;rcases l with ⟨z,_⟩ | ⟨_,a',ha',⟨o,ho',hd⟩⟩
   ·have z:X.env.kindOf x'=some .local:=z;rcases hkX with y | y
    ·have y:X.env.kindOf x'=some .cell:=y;rw[z] at y;cases y
    ·have y:X.env.kindOf x'=some .free:=y;rw[z] at y;cases y
   ·rw[haX] at ha';cases ha';exact⟨o,k _ o ho',hd⟩
 ·obtain⟨v,o,ho',hd⟩:=I.cell x a (c.look I e);exact⟨v,o,k _ o ho',hd⟩
 ·show upd H acc (.lst []) C=none;rw[Zah (Ybn haC)];exact fresh hC
 ·have e':=c.look I e;obtain⟨v,o,ho',hd⟩:=I.cell x a e';rw[Zah (neA a o ho')];exact I.freeC x a e'
 ·have hp:p∈X.pn++pins:=by simpa[Cx.blk] using hp
  obtain⟨e,n,ne,nf,d⟩:=I.pin p hp;refine⟨k _ _ e,by rw[Zah (neA _ _ e)];exact n,YaB (Yas (Yaj e) hC),fun z=>?_,d⟩;rcases Yah.mp (I.stkSub _ z) with q | q
  ·exact ne q
  ·exact nf q
theorem Zi4 {τ:St}{pl:List (Addr × Obj)} (I:Inv X pins σ H s) (hf:∀ b∈fp,FpOk X pins H b) (J:Inv (X.blk scope own js s H C fp pins) pl τ H' s'):Inv X pins σ H' s' :=
 I.call' J.os J.base J.hok J.bare fun b hb=>⟨(hf b hb).2.2.2.1,(hf b hb).2.1,(hf b hb).2.2.2.2.1,(hf b hb).2.2.2.2.2⟩
theorem Inv.other {h':Heap} (I:Inv X pins σ H s) (hs:Ycs C s.heap h') (hn:H C=none) (hL:C≠X.env.locals) (h1:X.s₀.heap.objs.size<=C) (h2:∀ x c,X.env.cells.lookup x=some c->c≠C) (h3:∀ p∈X.pn++pins,p.1≠C) :
  Inv X pins σ H { s with heap:=h' } :=
 I.turned (t':=s.toks) (fun b o hb e=>(hs.2 b hb).trans e) hn hL (.inr h1) h2 h3
end
def Zja (own:List Str) (g:TG):Prop:=∀ (js:List Nat) (σ:St) (x:V) (H:Hp) (Q:St->Hp->Prop),g x (blkσ own js σ) H Q ->
 g x (blkσ own js σ) H fun τ H'=>(∀ (j:Nat) v,(blkσ own js σ)[j]?=some (some v)->τ[j]?=some (some v))/\Q τ H'
theorem Za6 {own:List Str}{js:List Nat}{σ:St}{i:Nat}{v:V} (hi:i<own.length):(blkσ own js σ)[i]?≠some (some v):=by
 unfold blkσ;rw[Ya4 (by simpa using hi),Yam]
 cases own[i]? with
 | none=>intro h;cases h
 | some z=>intro h;cases h
theorem ZaO {own:List Str}{i:Nat} (hi:i<own.length:=by decide):Zja own (ZbK i):=fun js σ x H Q h=>⟨fun j v e=>by
 have hj:j≠i:=by rintro rfl;exact Za6 hi e
 rw[YaO (Ybn hj)];exact e,h⟩
theorem Ze5 {K:Yac}{own:List Str}{i k:Nat} (hi:i<own.length:=by decide) (hk:k<own.length:=by decide):Zja own (gTup K 2 (Zdh (ZbK i) (Zdh (ZbK k) gNil))):=fun js σ x H Q h=>by
 obtain⟨a,xs,rfl,hq,hl,v,r,rfl,w,r',rfl,e,h⟩:=h;refine⟨a,_,rfl,hq,hl,v,_,rfl,w,r',rfl,e,fun j z e=>?_,h⟩;have hj:j≠i:=by rintro rfl;exact Za6 hi e
 have hj':j≠k:=by rintro rfl;exact Za6 hk e
 rw[YaO (Ybn hj'),YaO (Ybn hj)];exact e
def Zbl (own:List Str) (js:List Nat) (g:TG) (tt:TT) (te:TE) (σ:St) (J:It) (H1:Hp) (Q:VK):Prop :=
 ∀ acc,H1 acc=none->∃ (W:Nat->Hp->Prop) (n:Nat),W 0 (upd H1 acc (.lst []))/\∀ i H2,W i H2 ->
  (J.stop i H2/\Q (.ref acc) H2)∨(i<n/\J.go i H2/\∀ x H3,J.yld i H2 x H3->g x (blkσ own js σ) H3 fun τ H4=>tt τ H4 fun c H5=>
   if c=true then te τ H5 fun y H6=>∃ ys,H6 acc=some (.lst ys)/\ys.length<sizeLine/\W (i+1) (upd H6 acc (.lst (ys++[y]))) else W (i+1) H5)
def ZmL (own:List Str) (js:List Nat) (wi:TI) (g:TG) (tt:TT) (te:TE):TE:=fun σ H Q=>wi σ H fun J H1=>Zbl own js g tt te σ J H1 Q
section
variable {X:Cx}{scope:Scope}{own:List Str}{js:List Nat}{elt iter target:Expr}{ifs:List Expr}{wi:TI}{g:TG}{tt:TT}{te:TE}{pos:Pos}
theorem ZlF {pins:List (Addr × Obj)}{σ:St}{H2:Hp}{s₂:Shared}{it:Addr}{fp:List Addr}{tn:Nat->Heap->Prop}{J:It}{Q:VK}{E:Value->Shared->Prop}{RR:Value->Addr->Result->Shared->Prop}
  (c:CompOk X scope own js) (hc:X.calm=true) (hgk:Zja own g)
  (hg:∀ s H C fp pins,PG (X.blk scope own js s H C fp pins) target g) (ht:∀ s H C fp pins,PTs (X.blk scope own js s H C fp pins) ifs tt) (he:∀ s H C fp pins,PE (X.blk scope own js s H C fp pins) elt te)
  (I:Inv X pins σ H2 s₂) (T:Turn X.prog X.w X.K target J fp it tn) (st:tn 0 s₂.heap) (hf:∀ b∈fp,FpOk X pins H2 b) (h:Zbl own js g tt te σ J H2 Q)
  (hRR:∀ acc C H' s' m,s₂.heap.objs.size<=C->H' C=none->Inv X pins σ H' s'->s'.heap.Ns C m->Q (.ref acc) H'->RR (.ref acc) C (.ok .next) s') :
  wpAny (model X.prog X.w) X.A (newList []) (fun acc s₃=>wpAny (model X.prog X.w) X.A (newFunctionEnv scope X.env.globals (clOf scope X.env) [] X.env.qual none .none (some X.env)) (fun cenv s₄=>
   codeAny (model X.prog X.w) X.A (.compStart (.ListComp elt [⟨target,iter,ifs,0⟩] scope pos) 0 (.ref it) acc { cenv with scope:=relabel scope X.env }) (RR acc cenv.locals) s₄) E s₃) E s₂:=by
 refine wpAny_newObj_type (wpAny_newFunctionEnv c.cell (by intro y hy;simp at hy) (fun h₁ hns₁ hsb₁=>?_) c.kind);dsimp only at hns₁ hsb₁ ⊢;generalize hH2:s₂.heap.push { cls:=.type "list",dict:=none,data:=.seq ([]:List Value).toArray }=G2 at hns₁ hsb₁ ⊢;have hC:G2.objs.size=s₂.heap.objs.size+1:=by rw[<- hH2,YaZ]
 have hDC:s₂.heap.objs.size≠G2.objs.size:=by rw[hC];exact YaB (Ybu _)
 have hCle:s₂.heap.objs.size<=G2.objs.size:=by rw[hC];exact Yc3 _
 have old:∀ b o,s₂.heap.get? b=some o->h₁.get? b=some o:=fun b o e=>hsb₁.extBut b o (YaB (Yas (Yaj e) hCle)) (Yad _ (hH2 ▸ Yad _ e));have hacc:h₁.get? s₂.heap.objs.size=some { cls:=.type "list",data:=.seq ([]:List Value).toArray 0 }:=hsb₁.extBut _ _ hDC (Yad _ (hH2 ▸ Yat _ rfl));have ho2:∀ b∈fp,∃ o,s₂.heap.get? b=some o:=fun b hb=>let ⟨o,e,_⟩:=T.obj 0 _ st b hb;⟨o,e⟩
 have I0:∀ tk,Inv (X.blk scope own js s₂ H2 G2.objs.size fp pins) [] (blkσ own js σ) (upd H2 s₂.heap.objs.size (.lst [])) { s₂ with heap:=h₁,toks:=tk }:=fun tk=>
  Zfj c I hCle hf ho2 hns₁ old (Yag _) hDC hacc
 obtain⟨W,nn,w0,turn⟩:=h s₂.heap.objs.size (I.hok.fresh (Yag _));generalize hacc':s₂.heap.objs.size=acc at *;generalize hGC:G2.objs.size=C at *;have st1:tn 0 h₁:=T.keep 0 _ _ st fun b _ o e=>old b o e;have fOk:∀ {H':Hp},(∀ b∈fp,H' b=none)->∀ b∈fp,FpOk (X.blk scope own js s₂ H2 C fp pins) [] H' b:=fun hn b hb=>by
  obtain⟨f0,f1,f2,f3,f4,f5⟩:=hf b hb;obtain⟨o,e⟩:=ho2 b hb;refine⟨hn b hb,YaB (Yas (Yaj e) (by rw[<- hacc'] at hCle;exact hCle)),fun z=>?_,.inl hb,fun x a h=>f4 x a (c.look I h),fun p hp=>f5 p (by simpa[Cx.blk] using hp)⟩;rcases Yah.mp (I.stkSub b z) with q | q
  ·exact f1 q
  ·exact f2 q
 have loop:∀ s₃:Shared,s₃={ s₂ with heap:=h₁,toks:=s₂.toks+([]:List (Str × Value)).length } ->
   codeAny (model X.prog X.w) X.A (.compLoop (.ListComp elt [⟨target,iter,ifs,0⟩] scope pos) 0 (.ref it) (.ref acc) (compEnvC scope (clOf scope X.env) C X.env)) (RR (.ref acc) C) s₃:=by
  rintro s₃ rfl;refine Zcf (fun n s'=>∃ i H',n=nn - i/\Inv (X.blk scope own js s₂ H2 C fp pins) [] (blkσ own js σ) H' s'/\tn i s'.heap/\(∀ b∈fp,H' b=none)/\W i H') ?_ nn ⟨0,_,rfl,I0 _,st1,fun b hb=>?_,w0⟩
  ·rintro n s3 ⟨i,H3,en,I3,st3,fr3,w3⟩;rcases turn i H3 w3 with ⟨stop,qn⟩ | ⟨hin,go,step⟩
   ·refine thn (T.done (X.blk scope own js s₂ H2 C fp pins) rfl rfl rfl hc i [] s3 _ H3 (fun _ _=>False) I3 (fOk fr3) st3 stop) fun r s4 ⟨hr,I4⟩=>?_;subst hr;obtain⟨m,hn,_⟩:=I4.loc;exact hRR acc C H3 s4 m hCle I4.free (Zi4 I hf I4) hn qn
   ·refine thn (T.item (X.blk scope own js s₂ H2 C fp pins) rfl rfl rfl hc i [] s3 _ H3 (fun _ _=>False) I3 (fOk fr3) st3 go) fun r s4 ⟨u,hr,h4⟩=>?_;subst hr;refine thn h4 fun _ s5 ⟨x,H5,I5,r5,y5,st5,fr5⟩=>?_;have I5':=I5.pinned (fOk fr5) (T.obj _ _ st5);have again:∀ {σ7:St}{H7:Hp}{s7:Shared},Inv (X.blk scope own js s₂ H2 C fp pins) ([]++Zda fp s5.heap) σ7 H7 s7->(∀ (j:Nat) v,(blkσ own js σ)[j]?=some (some v)->σ7[j]?=some (some v))->W (i+1) H7 ->
      ∃ m,m<n/\∃ i H',m=nn - i/\Inv (X.blk scope own js s₂ H2 C fp pins) [] (blkσ own js σ) H' s7/\tn i s7.heap/\(∀ b∈fp,H' b=none)/\W i H':=fun {σ7 H7 s7} I7 hw w7=>by
     refine⟨nn - (i+1),by omega,i+1,H7,rfl,(I7.unpinned).weak ((ZfU own js σ X).trans I7.len.symm) hw,T.keep _ _ _ st5 fun b hb o e=>(I7.pin (b,o) (Yay _ (Yay _ (Za1 hb e)))).1,fun b hb=>?_,w7⟩;obtain⟨o,e,d⟩:=T.obj _ _ st5 b hb;exact (I7.pin (b,o) (Yay _ (Yay _ (Za1 hb e)))).2.1
    refine thn (hg s₂ H2 C fp pins _ s5 _ H5 x u _ I5' r5 (hgk _ _ _ _ _ (step x H5 y5))) fun _ s6 ⟨σ6,H6,I6,kp,q6⟩=>?_;refine thn (ht s₂ H2 C fp pins _ s6 σ6 H6 _ I6 q6) fun ok s7 ⟨H7,I7,q7⟩=>?_
    cases ok with
    | false=>
     exact again I7 kp q7
    | true=>
     refine thn (he s₂ H2 C fp pins _ s7 σ6 H7 _ I7 q7) fun y s8 ⟨v,H8,I8,r8,ys,hl,hz,w8⟩=>?_;refine thn (Zba (X:=X.blk scope own js s₂ H2 C fp pins) _ s8 σ6 H8 (.ref acc) [v] (.ref acc) [y] (fun _ H9=>W (i+1) H9) I8 rfl (.cons r8 .nil) ⟨acc,ys,v,rfl,rfl,hl,hz,w8⟩) fun _ s9 ⟨_,H9,I9,_,w9⟩=>?_;exact again I9 kp w9
  ·rw[Zah ?_]
   ·exact (hf b hb).1
   ·obtain⟨o,e⟩:=ho2 b hb;rw[<- hacc'];exact YaB (Yaj e)
 exact codeAny_compStart_list (loop _ rfl) (T.self _ 0 _ _ _ st1 (loop _ rfl))
theorem Za8 (c:CompOk X scope own js) (hc:X.calm=true) (hi:PI X target iter wi) (hgk:Zja own g)
  (hg:∀ s H C fp pins,PG (X.blk scope own js s H C fp pins) target g) (ht:∀ s H C fp pins,PTs (X.blk scope own js s H C fp pins) ifs tt) (he:∀ s H C fp pins,PE (X.blk scope own js s H C fp pins) elt te)
  (hs:∀ x,foldedSetIterable iter X.env x=pure x:=by intro _;rfl):PE X (.ListComp elt [⟨target,iter,ifs,0⟩] scope pos) (ZmL own js wi g tt te):=by
 intro pins s σ H Q I h;rw[eval_ListComp];refine wpAny_comprehension_free (use:=none) rfl hs (ZdT (c.cl I)) c.kind c.names (thn (hi pins s σ H _ I h) fun v s1 h1=>thn h1 fun itv s2 h2=>?_);obtain⟨it,fp,tn,J,H2,e,I2,T,st2,f2,hw⟩:=h2;subst e;refine ZlF (RR:=fun acc C=>compPost (model X.prog X.w) X.A X.xe none (EP X pins σ Q) acc C) c hc hgk hg ht he I2 T st2 f2 hw ?_;intro acc C H' s' m hCs hCn I' hn q;refine⟨m,hn,fun h' hs'=>⟨.ref acc,H',I'.other hs' hCn ?_ ?_ ?_ ?_,rfl,q⟩⟩
 ·exact YbO (Yas I2.lt hCs)
 ·exact Ybx I2.sz hCs
 ·intro x a e z;obtain⟨v,q⟩:=I2.cell x a e;exact absurd (Yas q.lt (by rw[z];exact hCs)) (Ybt _)
 ·intro p hp z;exact absurd (Yas (Yaj (I2.pin p hp).1) (by rw[z];exact hCs)) (Ybt _)
end
section
variable {K:Yac}{own:List Str}{js:List Nat}{g:TG}{tt:TT}{te:TE}{σ:St}{H1:Hp}{Q:VK}
theorem ZcE {lo:Int}{n:Nat} (Pv:Addr->Nat->Hp->Prop) (h0:∀ acc,H1 acc=none->Pv acc 0 (upd H1 acc (.lst [])))
  (hs:∀ acc i H,H1 acc=none->i<n->Pv acc i H->g (.int (lo+i)) (blkσ own js σ) H fun τ H4=>tt τ H4 fun c H5=>
   if c=true then te τ H5 fun y H6=>∃ ys,H6 acc=some (.lst ys)/\ys.length<sizeLine/\(i+1<=n/\Pv acc (i+1) (upd H6 acc (.lst (ys++[y])))) else (i+1<=n/\Pv acc (i+1) H5))
  (hd:∀ acc H,H1 acc=none->Pv acc n H->Q (.ref acc) H):Zbl own js g tt te σ (Itr lo n) H1 Q:=by
 intro acc hacc;refine⟨fun i H=>i<=n/\Pv acc i H,n,⟨YaR _,h0 acc hacc⟩,?_⟩;rintro i H ⟨hi,p⟩;by_cases hlt:i<n
 ·refine .inr ⟨hlt,hlt,fun x H' y=>?_⟩;obtain⟨e,y⟩:=y;subst e y;exact hs acc i _ hacc hlt p
 ·have e:i=n:=by omega
  subst e;exact .inl ⟨Yag _,hd acc H hacc p⟩
end
def ZiW (scope sc:Scope) (js:List Nat) (N:List Str):Bool :=
 (scope.kind == .function) && (scope.names.all fun y=>(y.2 != .cell) && ((y.2 != .free) || (sc.names.lookup y.1 == some .cell) || (sc.names.lookup y.1 == some .free)) && ((y.2 != .local) || (scope.names.lookup y.1 == some .local))) &&
 (js.all fun j=>match N[j]? with | some x=>scope.names.lookup x == some .free | none=>false)
theorem CompOk.by {X:Cx}{scope sc:Scope}{own N:List Str}{js:List Nat} (hX:X.env.scope=sc) (hN:X.N=N) (h:ZiW scope sc js N=true):CompOk X scope own js:=by
 unfold ZiW at h;simp only[Ybr,beq_iff_eq,Ycj,Yd5,bne_iff_ne,ne_eq] at h;obtain⟨⟨h1,h2⟩,h3⟩:=h;refine⟨h1,fun y hy=>(h2 y hy).1.1,fun y hy hf=>?_,fun y hy hl=>?_,fun j hj=>?_⟩
 ·show X.env.scope.names.lookup y.1=_∨X.env.scope.names.lookup y.1=_;rw[hX];rcases (h2 y hy).1.2 with (z | z) | z
  ·exact absurd hf z
  ·exact .inl z
  ·exact .inr z
 ·rcases (h2 y hy).2 with z | z
  ·exact absurd hl z
  ·exact z
 ·have:=h3 j hj;rw[hN]
  cases e:N[j]? with
  | none=>rw[e] at this;cases this
  | some x=>rw[e] at this;exact⟨x,rfl,by simpa using this⟩
end L2
namespace L2
open PySem PySem.Spec PyProof.Rows PySem.SeqAt
section
variable {X:Cx}
theorem Vals.bl_get {bs:List Bool}{us:List Value} (r:Vals (bs.map V.bl) us) {i:Nat}{v:Value} (e:us[i]?=some v):∃ b,bs[i]?=some b/\v=.bool b:=by
 cases q:(bs.map V.bl)[i]? with
 | none=>
  have:=r.none_of q;rw[e] at this;cases this
 | some x=>
  obtain⟨u,h1,h2⟩:=r.get q;rw[e] at h1;cases h1;rw[Yam] at q
  cases z:bs[i]? with
  | none=>rw[z] at q;cases q
  | some b=>rw[z] at q;cases q;exact⟨b,rfl,h2⟩
theorem ZhH {bs:List Bool}:(YaT bs.length).all (fun i=>bs.getD i true)=bs.all id:=by
 rw[YcM,Ycj,Ycj];constructor
 ·intro h b hb;obtain⟨i,hi,e⟩:=Ybl hb;have:=h i (Ybh.mpr hi);simpa[Yau,hi,e] using this
 ·intro h i hi;have hi':=Ybh.mp hi;have:=h bs[i] (Ybp hi');simpa[Yau,hi'] using this
theorem Zj7 (hc:X.calm=true):ZbO X (.builtin "all") (fun xs H Q=>∃ (a:Addr) (bs:List Bool),xs=[.ref a]/\SqL X.K H a (bs.map V.bl)/\Q (.bl (bs.all id)) H):=by
 intro pins s σ H xs us Q I r h;obtain⟨a,bs,rfl,hq,q⟩:=h;obtain⟨u,rfl,r1⟩:=Zcv r;cases r1;obtain⟨its,rv,p,hz⟩:=I.list hq;refine call_all_walk (wpAny_pyIter_list p.isList ?_);have hlt:=(let ⟨o,n,e,_⟩:=p;Yaj e:a<s.heap.objs.size)
 have hne:a≠s.heap.objs.size:=YaB hlt;have hlen:its.toArray.size=bs.length:=by rw[Yal,<- rv.length,Yab]
 refine⟨s.heap.objs.size,_,_,_,_,_,fun i=>bs.getD i true,rfl,Ye2 (A:=X.A.in1) (I.ok.hd hc) _ a hne its.toArray,⟨⟨_,Yat _ rfl,rfl,rfl⟩,?_⟩,?_,?_⟩
 ·obtain⟨o,n,e,c,_,d⟩:=p;exact⟨o,Yad _ e,c,n,d⟩
 ·intro i v s' Q' E' hP hQ;have hP':its[i]?=some v:=by simpa using hP
  obtain⟨b,hb,rfl⟩:=rv.bl_get hP';refine wpAny_truthy_bool ?_;dsimp only at hQ;rw[Yau,hb] at hQ;exact hQ
 ·intro h' tk k;rw[hlen,ZhH];refine⟨.bl (bs.all id),H,I.kept (h':=h') (t':=tk) fun b o e=>k b o ?_ (Yad _ e),rfl,q⟩;intro hm;have:b=s.heap.objs.size:=by simpa using hm
  rw[this] at e;exact absurd (Yaj e) (Ybt _)
theorem Vals.int_at {ns:List Int}{us:List Value} (r:Vals (ns.map V.int) us) {i:Nat} (h:i<ns.length):∃ t,us[i]?=some (.int ns[i] t):=by
 have q:(ns.map V.int)[i]?=some (V.int ns[i]):=by rw[Yam,Yaa h];rfl
 obtain⟨u,h1,t,rfl⟩:=r.get q;exact⟨t,h1⟩
theorem ZiA {ns:List Int}{its:List Value} (r:Vals (ns.map V.int) its) {j:Nat} (h:j<its.toArray.size):∃ t,its.toArray[j]=.int (ns.getD j 0) t:=by
 have hj:j<ns.length:=by rw[Yal,<- r.length,Yab] at h;exact h
 obtain⟨t,q⟩:=r.int_at hj;obtain⟨_,q'⟩:=Yae.mp q;exact⟨t,by simpa[Yau,hj] using q'⟩
end
end L2
namespace L2
open PySem PySem.Spec PyProof.Rows PySem.SeqAt
section
variable {prog:Program}{w:World}{A:Around}{R:Result->Shared->Prop}{I:Addr}{fp wr:List Addr}{n:Nat}{P:Nat->Value->Prop}{St:Nat->Heap->Prop}
end
section
variable {X:Cx}
end
end L2
namespace L2
open PySem PySem.Spec PyProof.Rows PySem.SeqAt
def Ite (K:Yac) (a:Addr):It :=
 ⟨fun i H=>∃ xs x,SqL K H a xs/\xs[i]?=some x,fun i H y H'=>∃ p x,H p=none/\y=.ref p/\H'=upd H p (.tup [.int i,x])/\∀ xs,SqL K H a xs->xs[i]?=some x,fun i H=>∃ xs,SqL K H a xs/\xs.length<=i⟩
theorem Zhj {P:Program}{w:World}{K:Yac}{es:List Expr}{x1}{pos:Pos} (a it e:Addr) (hne:e≠it):Turn P w K (.Tuple es x1 pos) (Ite K a) [e,it] e (fun i h=>(∃ old,IsEnum h e it (i:Nat) old)/\h.IsListIter it a i) where
 mem:=by simp
 obj:=fun i h st b hb=>by
  obtain⟨⟨old,s1⟩,s2⟩:=st;rcases Yah.mp hb with z | z
  ·subst z;exact⟨_,s1,fun v z=>nomatch z⟩
  ·have z:b=it:=by simpa using z
   subst z;obtain⟨o,e,c,d⟩:=s2;exact⟨o,e,fun v z=>by rw[d] at z;cases z⟩
 keep:=fun i h h' st k=>by
  obtain⟨⟨old,s1⟩,s2⟩:=st;exact⟨⟨old,k e (by simp) _ s1⟩,s2.at fun o q=>k it (by simp) o q⟩
 item:=by
  intro X hP hw hK hc i pins s σ H E I hf st hg;subst hP hw hK;obtain⟨xs,x,hq,hx⟩:=hg;obtain⟨its,rv,p,hz⟩:=I.list hq;obtain⟨u,hu,ru⟩:=rv.get hx;obtain⟨⟨old,s1⟩,s2⟩:=st;refine wpAny_pyNext_enum_item s1 s2 p.isList (x:=u) (by simpa using hu) hne fun h' ho hit ht hsz hk=>?_;refine⟨_,rfl,?_⟩;refine wpAny_letOwnedTupleGo_enum ho fun h'' he hs=>?_;have fresh:H s.heap.objs.size=none:=I.hok.fresh (Yag _);have k:∀ b o,b ∉ [e,it]->s.heap.get? b=some o->h''.get? b=some o:=fun b o hb q=>by
   have hb':b≠e/\b≠it:=by simpa using hb
   exact (hs.2 b hb'.1).trans (hk b o hb'.1 hb'.2 q)
  have nE:∀ b∈[e,it],H b=none:=fun b hb=>(hf b hb).1
  have nit:∀ b u,H b=some u->b ∉ [e,it]:=fun b u q z=>by rw[nE b z] at q;cases q
  have hpe:s.heap.objs.size≠e:=YbO (Yaj s1);have htup:h''.get? s.heap.objs.size=some { cls:=.type "tuple",data:=.seq #[.int i s.toks,u] }:=(hs.2 _ hpe).trans ht;have newOk:ObjOk X.prog X.w (upd H s.heap.objs.size (.tup [.int i,x])) h'' s.heap.objs.size (.tup [.int i,x]):=by
   refine⟨?_,[.int i s.toks,u],.cons ⟨_,rfl⟩ (.cons ru .nil),⟨_,htup,rfl,rfl,0,rfl⟩⟩;show 2<=sizeLine
   decide
  have I1:Inv X pins σ (upd H s.heap.objs.size (.tup [.int i,x])) { s with heap:=h'',toks:=s.toks+1 }:=by
   refine I.step (g':=s.gens) (d':=s.drawn) (ch:=[e,it]) (fun b hb=>?_) (fun b o _ _ hc q _=>k b o hc q) (fun b o _ _ hc q _=>⟨o.slots,k b o hc q⟩) (fun b o _ q n=>?_) (fun b o hc q=>⟨o,k b o hc q⟩)
    (fun b xs q=>by rw[Zah (Zag q fresh)];exact q) (fun b o xs q=>by rw[Zah (Zag q fresh)];exact q) (fun b ps q=>⟨#[],by rw[Zah (Zag q fresh),q];simp⟩) (fun m hm=>?_) (fun b ob q=>?_) I.bare
   ·obtain⟨f0,f1,f2,f3,f4,f5⟩:=hf b hb;exact⟨f3,f1,f4,f5⟩
   ·rw[Zah (YaB (Yaj q))];exact n
   ·obtain⟨o,es,ep,ho,r⟩:=hm;refine⟨o,es,ep,k _ o (fun z=>?_) ho,r⟩;exact (hf _ z).2.1 rfl
   ·by_cases hb:b=s.heap.objs.size
    ·subst hb;rw[Zab] at q;cases q;exact newOk
    ·rw[Zah hb] at q;refine (I.hok b ob q).stay (fun c v hc r=>k c v ?_ r) (fun c r=>by rw[Zah (Zag r fresh)];exact r) fun c xs r=>by rw[Zah (Zag r fresh)];exact r
     rcases hc with z | z
     ·rw[z];exact nit b ob q
     ·exact nit c _ z
  refine⟨.ref s.heap.objs.size,_,I1,rfl,⟨s.heap.objs.size,x,fresh,rfl,rfl,fun ys hy=>by rw[I.list_inj hy hq];exact hx⟩,⟨⟨u,?_⟩,?_⟩,fun b hb=>?_⟩
  ·have he:IsEnum h'' e it ((i:Int)+1) u:=he;show IsEnum h'' e it ((i+1:Nat):Int) u;rw[show ((i+1:Nat):Int)=(i:Int)+1 by omega];exact he
  ·exact hit.extBut hs.extBut (Ybn hne)
  ·have lt:b<s.heap.objs.size:=by
    rcases Yah.mp hb with z | z
    ·rw[z];exact Yaj s1
    ·have z:b=it:=by simpa using z
     rw[z];obtain⟨o,q,_⟩:=s2;exact Yaj q
   rw[Zah (YaB lt)];exact nE b hb
 done:=by
  intro X hP hw hK hc i pins s σ H E I hf st hg;subst hP hw hK;obtain⟨xs,hq,hx⟩:=hg;obtain⟨its,rv,p,hz⟩:=I.list hq;obtain⟨⟨old,s1⟩,s2⟩:=st;obtain⟨f0,f1,f2,f3,f4,f5⟩:=hf it (by simp);have hl:=rv.length;exact wpAny_pyNext_enum_end (I.ok.hd hc) s1 s2 p.isList (by simp;omega) fun h' eb=>⟨rfl,I.turned (t':=s.toks) (fun b o hb q=>eb b o hb q) f0 f1 f3 f4 f5⟩
 self:=fun _ _ _ _ _ st h=>by
  obtain⟨⟨old,s1⟩,_⟩:=st;exact wpAny_pyIter_enum s1 h
section
variable {X:Cx}
theorem ZaZ:ZbO X (.builtin "isinstance") (fun xs H Q=>∃ x T t b,xs=[x,.ty T]/\TyOf X.K H x t/\Yby X.K t (.type T)=some b/\Q (.bl b) H):=by
 intro pins s σ H xs us Q I r h;obtain⟨x,T,t,b,rfl,ty,e,q⟩:=h;obtain⟨u,u2,rfl,r1,r2⟩:=ZkP r;cases r2;exact Zix I r1 ty e fun tk=>⟨.bl b,H,I.tok _,rfl,q⟩
end
end L2
namespace L2
open PySem PySem.Spec PyProof.Rows
section
variable {κ:Type} [DecidableEq κ]
end
section
variable {P:Program}{w:World}{H:Hp}{h:Heap}{a:Addr}
end
section
variable {X:Cx}{pins:List (Addr × Obj)}{σ:St}{H:Hp}{s:Shared}{a:Addr}{y v:V}{u r:Value}{o:Option V}{A:Around}{E:Value->Shared->Prop}
theorem Inv.big (I:Inv X pins σ H s):sysModules<s.heap.objs.size:=by
 have h:mainGlobals<s.heap.objs.size:=(I.mod.glob.keeps I.bk).lt;exact YeQ (by decide) h
end
section
variable {X:Cx}{pins:List (Addr × Obj)}{σ:St}{H:Hp}{s:Shared}{a:Addr}{kvs:List (Key × V)}{k:Key}{u:Value}{A:Around}{E:Value->Shared->Prop}
end
section
variable {X:Cx}{o i e value:Expr}{pos pos' tpos:Pos}{td ty tv:TE}
end
theorem Zj3 {P:Program}{w:World}{H:Hp} (h:Heap) (hb:sysModules<h.objs.size):ObjOk P w H (h.push { cls:=.type "dict",data:=.dict #[] }) h.objs.size (.dK []) :=
 ⟨YaR _,beq_eq_false_iff_ne.mpr (Ybn (YaB hb)),[],.nil,Heap.DictOf.new h⟩
def ZlT:TE:=fun _ H Q=>∀ p,H p=none->Q (.ref p) (upd H p (.dK []))
section
variable {X:Cx}{pos:Pos}
theorem Zjx:PE X (.Dict [] [] pos) ZlT:=fun pins s σ H Q I h=>
 wpAny_Dict_empty ⟨.ref s.heap.objs.size,_,I.laid (a:=s.heap.objs.size) (o:=.dK []) (t':=s.toks) (fun _ _ q=>Yad _ q) (Yag _) (Zj3 s.heap I.big),rfl,h _ (I.hok.fresh (Yag _))⟩
end
structure M1 (X:Cx) (o:Expr) (m:Str) (apos:Pos) (e:Expr) (cpos:Pos):Prop where
 base:attributeBase o m X.env (eval o X.env)=eval o X.env
 few:((backTo cpos (starEach [e] X.env)).all (fun x=>!x.1) && (backToKw cpos (keywordEach [] X.env)).all (fun x=>x.1.isSome)
  && decide (([e]:List Expr).length+([]:List Keyword).length+(if ([]:List Keyword).isEmpty then 0 else 1)<30))=true
 line:(apos.endLine == cpos.line)=true
 trees:backTo cpos (starEach [e] X.env)=[(false,eval e X.env)]
structure M2 (X:Cx) (o:Expr) (m:Str) (apos:Pos) (e f:Expr) (cpos:Pos):Prop where
 base:attributeBase o m X.env (eval o X.env)=eval o X.env
 few:((backTo cpos (starEach [e,f] X.env)).all (fun x=>!x.1) && (backToKw cpos (keywordEach [] X.env)).all (fun x=>x.1.isSome)
  && decide (([e,f]:List Expr).length+([]:List Keyword).length+(if ([]:List Keyword).isEmpty then 0 else 1)<30))=true
 line:(apos.endLine == cpos.line)=true
 trees:backTo cpos (starEach [e,f] X.env)=[(false,eval e X.env),(false,eval f X.env)]
section
variable {X:Cx}{pins:List (Addr × Obj)}{σ:St}{H:Hp}{s:Shared}{a:Addr}{y d:V}{u r:Value}{o:Option V}{A:Around}{E:Value->Shared->Prop}
end
section
variable {X:Cx}{o e f:Expr}{apos cpos:Pos}{td ty tx:TE}
end
section
variable {X:Cx}{pins:List (Addr × Obj)}{σ:St}{H:Hp}{s:Shared}{a:Addr}{kvs:List (Key × V)}{A:Around}{E:Value->Shared->Prop}
end
section
variable {X:Cx}{pins:List (Addr × Obj)}{σ:St}{H:Hp}{s:Shared}{a:Addr}{y:V}{u:Value}{A:Around}{E:Value->Shared->Prop}
end
end L2
namespace L2
open PySem PySem.Spec PyProof.Rows
section
variable {κ:Type} [DecidableEq κ]
end
end L2
namespace L2
open PySem PySem.Spec PyProof.Rows PySem.SeqAt
section
variable {prog:Program}{w:World}{A:Around}{E:Value->Shared->Prop}{s:Shared}
theorem ZdL {it t:Addr}{i:Nat}{items:Array Value}{x:Value}{Q:Value->Shared->Prop} (hit:s.heap.IsTupleIter it t i) (ht:s.heap.IsTuple t items) (hx:items[i]?=some x)
  (hQ:∀ h',h'.IsTupleIter it t (i+1)->Ycs it s.heap h'->Q x { s with heap:=h' }):wpAny (model prog w) A (YaY (.ref it)) Q E s:=by
 obtain⟨o,ho,hc,hd⟩:=id hit;obtain⟨ol,hol,_,nl,hdl⟩:=ht;unfold YaY;refine wpAny_bind (wpAny_callSpecial?_slot (name:=YbZ "__next__") hit.typeIs F.slot_tuple_iterator_next (wpAny_call_entry F.slot_tuple_iterator_next hit.typeIs F.entry_tuple_iterator_next ?_ (F.args_tuple_iterator_next_1 _)));show wpAny _ _ (field (.ref it) 0 >>= _) _ _ s;refine wpAny_bind (wpAny_field ho hd (x:=.ref t) rfl ?_);show wpAny _ _ (if (YaL t == YbR)=true then _ else _) _ _ s;rw[if_neg (show ¬ ((YaL t == YbR)=true) from YaA)];show wpAny _ _ (field (.ref it) 1 >>= _) _ _ s;refine wpAny_bind (wpAny_field ho hd (x:=.int i 0) rfl ?_);show wpAny _ _ (seqItems? (.ref t) >>= _) _ _ s;refine wpAny_bind (wpAny_seqItems hol hdl ?_);simp only[YaM,hx];refine wpAny_bind (wpAny_setField ho hd (by simp) (wpAny_pure ⟨x,rfl,wpAny_pure (hQ _ ?_ (YcC ..))⟩));exact⟨_,Ydh _ ho (Obj.isFreed_of_fields (Yfe hd _)),(Obj.cls_mapFields ..).trans hc,by rw[Yfe hd];simp[rawInt]⟩
theorem Zbj {it t:Addr}{i:Nat}{items:Array Value}{Q:Value->Shared->Prop} (hh:A.handled=none) (hit:s.heap.IsTupleIter it t i) (ht:s.heap.IsTuple t items) (hx:items[i]?=none)
  (hE:∀ h' e,Ydr it s.heap h'->(∃ o,h'.get? e=some o/\o.cls=.type "StopIteration")->E (.ref e) { s with heap:=h' }):wpAny (model prog w) A (YaY (.ref it)) Q E s:=by
 obtain⟨o,ho,hc,hd⟩:=id hit;obtain⟨ol,hol,_,nl,hdl⟩:=ht;unfold YaY;refine wpAny_bind (wpAny_callSpecial?_slot (name:=YbZ "__next__") hit.typeIs F.slot_tuple_iterator_next (wpAny_call_entry F.slot_tuple_iterator_next hit.typeIs F.entry_tuple_iterator_next ?_ (F.args_tuple_iterator_next_1 _)));show wpAny _ _ (field (.ref it) 0 >>= _) _ _ s;refine wpAny_bind (wpAny_field ho hd (x:=.ref t) rfl ?_);show wpAny _ _ (if (YaL t == YbR)=true then _ else _) _ _ s;rw[if_neg (show ¬ ((YaL t == YbR)=true) from YaA)];show wpAny _ _ (field (.ref it) 1 >>= _) _ _ s;refine wpAny_bind (wpAny_field ho hd (x:=.int i 0) rfl ?_);show wpAny _ _ (seqItems? (.ref t) >>= _) _ _ s;refine wpAny_bind (wpAny_seqItems hol hdl ?_);simp only[YaM,hx];refine wpAny_bind (wpAny_rule (wpAny_bind (wpAny_setField ho hd (by simp) ?_)));show wpAny _ _ (newExc (.type "StopIteration") [] >>= _) _ _ _;refine wpAny_bind ?_;simp only[newExc,newTuple];refine wpAny_bind (wpAny_newObj_type ?_ (by size_fits));refine wpAny_bind (m:=firstArgMember _ _) (wpAny_of_eq (a:=YbR) (by first | rfl | (simp only[firstArgMember];rfl)) ?_);refine wpAny_newObj_type ?_ (by size_fits);simp only[raiseNew];refine wpAny_bind (wpAny_handled ?_)
 first | rw[show A.in1.handled=none from hh] | rw[hh]
 refine wpAny_bind (wpAny_pure (wpAny_throw ?_));exact hE _ _ (((YcC ..).extBut.push _).push _) ⟨_,Yat _ rfl,rfl⟩
theorem ZiJ (hh:A.handled=none) (it l:Addr) (hne:l≠it) (items:Array Value):Draws prog w A it [it,l] items.size (fun i v=>items[i]?=some v) (fun i h=>h.IsTupleIter it l i/\h.IsTuple l items) where
 live:=fun _ _ st=>let ⟨o,ho,_⟩:=st.1;⟨o,ho⟩
 frame:=fun _ _ _ st hk=>⟨st.1.at fun o e=>hk it (by simp) o e,let ⟨o,e,c⟩:=st.2;⟨o,hk l (by simp) o e,c⟩⟩
 item:=fun i s Q E hi st hQ=>by
  refine ZdL st.1 st.2 (x:=items[i]) (by simp[hi]) fun h' hit' hs'=>?_;exact hQ _ h' s.toks (by simp[hi]) ⟨hit',let ⟨o,e,c⟩:=st.2;⟨o,(hs'.2 l hne).trans e,c⟩⟩ hs'
 done:=fun s Q E st hE=>Zbj hh st.1 st.2 (by simp) hE
end
theorem Zfa (l:Addr) (items:Array Value) (n:Nat) (dct:Option Addr) (sl:Array (Option Value)) :
  Meets (Builtin.«enumerate.__new__» ⟨[.type "enumerate",.ref l],[]⟩) (fun _ R s=>s.heap.get? l=some { cls:=.type "tuple",dict:=dct,data:=.seq items n,slots:=sl } /\
   R (.ok (.ret (.ref (s.heap.push { cls:=.type "tuple_iterator",data:=.fields #[.ref l,.int 0 0] }).objs.size)))
    { s with heap:=(s.heap.push { cls:=.type "tuple_iterator",data:=.fields #[.ref l,.int 0 0] }).push { cls:=.type "enumerate",data:=.fields #[.none,.bool false,.ref s.heap.objs.size,rawInt 0,.none,.none] } }) :=
 .of_wp fun prog w A R s h=>by
  obtain⟨hp,g,d,tk,os⟩:=s;obtain⟨hl,h⟩:=h;have hsub:=sub_enumerate;have hL:Ydi (Ycg ⟨hp,g,d,tk,os⟩) l items:=⟨_,hl,rfl,n,rfl⟩
  wp_walk using Ycf hl
  refine wpAny_stack_any fun st=>wpAny_pure ?_;split
  ·rename_i c _ _ _ _ _;cases (c == Yck "enumerate")
   ·wp_walk using Ycf hl,wpAny_pyIter_tuple hL
    exact⟨_,rfl,h⟩
   ·wp_walk using Ycf hl,wpAny_pyIter_tuple hL
    exact⟨_,rfl,h⟩
  ·wp_walk using Ycf hl,wpAny_pyIter_tuple hL
   exact⟨_,rfl,h⟩
section
variable {prog:Program}{w:World}{A:Around}{E:Value->Shared->Prop}{s:Shared}
theorem Ze9 {e it l:Addr}{i:Nat}{items:Array Value}{old:Value}{Q:Option Value->Shared->Prop} (hh:A.handled=none) (he:IsEnum s.heap e it i old) (hit:s.heap.IsTupleIter it l i) (hl:s.heap.IsTuple l items) (hx:items[i]?=none)
  (hQ:∀ h',Ydr it s.heap h'->Q none { s with heap:=h' }):wpAny (model prog w) A (pyNext (.ref e)) Q E s:=by
 have hT:s.TypeIs (.ref e) "enumerate":=⟨_,he,rfl⟩
 unfold pyNext;refine wpAny_bind (wpAny_attempt (wpAny_callSpecial?_slot (name:=YbZ "__next__") hT F.slot_enumerate_next (wpAny_call_entry F.slot_enumerate_next hT F.entry_enumerate_next ?_ (F.args_enumerate_next_1 _))));show wpAny _ _ (field (.ref e) 2 >>= _) _ _ _;refine wpAny_bind (wpAny_field he rfl (x:=.ref it) rfl ?_);refine wpAny_bind (Zbj hh hit hl hx fun h' x he' hx'=>?_);obtain⟨o,ho,hc⟩:=hx';refine wpAny_bind (wpAny_isInstance (T:="StopIteration") (b:=true) ⟨o,ho,hc⟩ isSubtype_stop ?_);exact wpAny_pure (hQ _ he')
theorem Zev {l:Addr}{items:Array Value}{Q:Value->Shared->Prop} (hL:s.heap.IsTuple l items)
  (h:∀ h',IsEnum h' (s.heap.objs.size+1) s.heap.objs.size 0 .none->h'.IsTupleIter s.heap.objs.size l 0->(∀ b o,s.heap.get? b=some o->h'.get? b=some o)->Q (.ref (s.heap.objs.size+1)) { s with heap:=h' }) :
  wpAny (model prog w) A (call (.type "enumerate") [.ref l]) Q E s:=by
 obtain⟨⟨c,dct,dt,sl⟩,hl,hc,n,hd⟩:=hL
 replace hc:c=.type "tuple":=hc
 replace hd:dt=.seq items n:=hd
 subst hc hd;refine callType_new F.called_enumerate (by decide) (F.typeCall_enumerate_1 _) (F.newCall_enumerate_1 _) (fun obj=>F.args_object_init_2 obj _) F.entry_enumerate_new (Zfa l items n dct sl) ⟨hl,?_⟩;have hz:(s.heap.push { cls:=.type "tuple_iterator",data:=.fields #[.ref l,.int 0 0] }).objs.size=s.heap.objs.size+1:=YaZ ..;show _/\_;rw[hz];have he:IsEnum ((s.heap.push { cls:=.type "tuple_iterator",data:=.fields #[.ref l,.int 0 0] }).push { cls:=.type "enumerate",data:=.fields #[.none,.bool false,.ref s.heap.objs.size,rawInt 0,.none,.none] }) (s.heap.objs.size+1) s.heap.objs.size 0 .none:=by
  have:=Yat (s.heap.push { cls:=.type "tuple_iterator",data:=.fields #[.ref l,.int 0 0] }) (o:={ cls:=.type "enumerate",data:=.fields #[.none,.bool false,.ref s.heap.objs.size,rawInt 0,.none,.none] }) rfl;rw[hz] at this;exact this
 exact⟨⟨_,he,rfl⟩,h _ he ⟨_,Yad _ (Yat _ rfl),rfl,rfl⟩ fun b o x=>Yad _ (Yad _ x)⟩
end
def IteT (K:Yac) (a:Addr):It :=
 ⟨fun i H=>∃ xs x,SqT K H a xs/\xs[i]?=some x,fun i H y H'=>∃ p x,H p=none/\y=.ref p/\H'=upd H p (.tup [.int i,x])/\∀ xs,SqT K H a xs->xs[i]?=some x,fun i H=>∃ xs,SqT K H a xs/\xs.length<=i⟩
theorem ZgD {P:Program}{w:World}{K:Yac}{es:List Expr}{x1}{pos:Pos} (a it e:Addr) (hne:e≠it):Turn P w K (.Tuple es x1 pos) (IteT K a) [e,it] e (fun i h=>(∃ old,IsEnum h e it (i:Nat) old)/\h.IsTupleIter it a i) where
 mem:=by simp
 obj:=fun i h st b hb=>by
  obtain⟨⟨old,s1⟩,s2⟩:=st;rcases Yah.mp hb with z | z
  ·subst z;exact⟨_,s1,fun v z=>nomatch z⟩
  ·have z:b=it:=by simpa using z
   subst z;obtain⟨o,e,c,d⟩:=s2;exact⟨o,e,fun v z=>by rw[d] at z;cases z⟩
 keep:=fun i h h' st k=>by
  obtain⟨⟨old,s1⟩,s2⟩:=st;exact⟨⟨old,k e (by simp) _ s1⟩,s2.at fun o q=>k it (by simp) o q⟩
 item:=by
  intro X hP hw hK hc i pins s σ H E I hf st hg;subst hP hw hK;obtain⟨xs,x,hq,hx⟩:=hg;obtain⟨its,rv,p,hz⟩:=I.tuple hq;obtain⟨u,hu,ru⟩:=rv.get hx;obtain⟨⟨old,s1⟩,s2⟩:=st;have hlt:(i:Nat)<its.toArray.size:=by
   have:=(Yae.mp hu).1
   simpa using this
  have nea:a≠it:=by
   rintro rfl;obtain⟨o1,q1,c1,_⟩:=p;obtain⟨o2,q2,c2,_⟩:=id s2;rw[q1] at q2;cases q2;rw[c1] at c2;injection c2 with z;exact absurd z (by decide)
  have nee:a≠e:=by
   rintro rfl;obtain⟨o1,q1,c1,_⟩:=p;have s1':s.heap.get? a=some _:=s1;rw[q1] at s1';cases s1';injection c1 with z;exact absurd z (by decide)
  have it2:s.heap.IsTuple a its.toArray:=p;refine wpAny_pyNext_enum_itemD (ZiJ (A:=X.A.in1) (I.ok.hd hc) it a nea its.toArray) s1 ⟨s2,it2⟩ hlt hne (by simp[hne,Ybn nee]) fun u' h' tk' hu' ho hst ht hsz hk=>?_;have eu:u'=u:=by
   have:its.toArray[i]?=some u:=by simpa using hu
   rw[this] at hu';exact (YaF hu').symm
  subst eu;have hit:=hst.1;refine⟨_,rfl,?_⟩;refine wpAny_letOwnedTupleGo_enum ho fun h'' he hs=>?_;have fresh:H s.heap.objs.size=none:=I.hok.fresh (Yag _);have k:∀ b o,b ∉ [e,it]->s.heap.get? b=some o->h''.get? b=some o:=fun b o hb q=>by
   have hb':b≠e/\b≠it:=by simpa using hb
   exact (hs.2 b hb'.1).trans (hk b o hb'.1 hb'.2 q)
  have nE:∀ b∈[e,it],H b=none:=fun b hb=>(hf b hb).1
  have nit:∀ b u,H b=some u->b ∉ [e,it]:=fun b u q z=>by rw[nE b z] at q;cases q
  have hpe:s.heap.objs.size≠e:=YbO (Yaj s1);have htup:h''.get? s.heap.objs.size=some { cls:=.type "tuple",data:=.seq #[.int i tk',u'] }:=(hs.2 _ hpe).trans ht;have newOk:ObjOk X.prog X.w (upd H s.heap.objs.size (.tup [.int i,x])) h'' s.heap.objs.size (.tup [.int i,x]):=by
   refine⟨?_,[.int i tk',u'],.cons ⟨_,rfl⟩ (.cons ru .nil),⟨_,htup,rfl,rfl,0,rfl⟩⟩;show 2<=sizeLine
   decide
  have I1:Inv X pins σ (upd H s.heap.objs.size (.tup [.int i,x])) { s with heap:=h'',toks:=tk'+1 }:=by
   refine I.step (g':=s.gens) (d':=s.drawn) (ch:=[e,it]) (fun b hb=>?_) (fun b o _ _ hc q _=>k b o hc q) (fun b o _ _ hc q _=>⟨o.slots,k b o hc q⟩) (fun b o _ q n=>?_) (fun b o hc q=>⟨o,k b o hc q⟩)
    (fun b xs q=>by rw[Zah (Zag q fresh)];exact q) (fun b o xs q=>by rw[Zah (Zag q fresh)];exact q) (fun b ps q=>⟨#[],by rw[Zah (Zag q fresh),q];simp⟩) (fun m hm=>?_) (fun b ob q=>?_) I.bare
   ·obtain⟨f0,f1,f2,f3,f4,f5⟩:=hf b hb;exact⟨f3,f1,f4,f5⟩
   ·rw[Zah (YaB (Yaj q))];exact n
   ·obtain⟨o,es,ep,ho,r⟩:=hm;refine⟨o,es,ep,k _ o (fun z=>?_) ho,r⟩;exact (hf _ z).2.1 rfl
   ·by_cases hb:b=s.heap.objs.size
    ·subst hb;rw[Zab] at q;cases q;exact newOk
    ·rw[Zah hb] at q;refine (I.hok b ob q).stay (fun c v hc r=>k c v ?_ r) (fun c r=>by rw[Zah (Zag r fresh)];exact r) fun c xs r=>by rw[Zah (Zag r fresh)];exact r
     rcases hc with z | z
     ·rw[z];exact nit b ob q
     ·exact nit c _ z
  refine⟨.ref s.heap.objs.size,_,I1,rfl,⟨s.heap.objs.size,x,fresh,rfl,rfl,fun ys hy=>by rw[I.tuple_inj hy hq];exact hx⟩,⟨⟨u',?_⟩,?_⟩,fun b hb=>?_⟩
  ·have he:IsEnum h'' e it ((i:Int)+1) u':=he;show IsEnum h'' e it ((i+1:Nat):Int) u';rw[show ((i+1:Nat):Int)=(i:Int)+1 by omega];exact he
  ·exact hit.extBut hs.extBut (Ybn hne)
  ·have lt:b<s.heap.objs.size:=by
    rcases Yah.mp hb with z | z
    ·rw[z];exact Yaj s1
    ·have z:b=it:=by simpa using z
     rw[z];obtain⟨o,q,_⟩:=s2;exact Yaj q
   rw[Zah (YaB lt)];exact nE b hb
 done:=by
  intro X hP hw hK hc i pins s σ H E I hf st hg;subst hP hw hK;obtain⟨xs,hq,hx⟩:=hg;obtain⟨its,rv,p,hz⟩:=I.tuple hq;obtain⟨⟨old,s1⟩,s2⟩:=st;obtain⟨f0,f1,f2,f3,f4,f5⟩:=hf it (by simp);have hl:=rv.length;exact Ze9 (I.ok.hd hc) s1 s2 (show s.heap.IsTuple a its.toArray from p) (by simp;omega) fun h' eb=>⟨rfl,I.turned (t':=s.toks) (fun b o hb q=>eb b o hb q) f0 f1 f3 f4 f5⟩
 self:=fun _ _ _ _ _ st h=>by
  obtain⟨⟨old,s1⟩,_⟩:=st;exact wpAny_pyIter_enum s1 h
def SqB (b:Bool) (K:Yac) (H:Hp) (a:Addr) (xs:List V):Prop:=match b with | true=>SqL K H a xs | false=>SqT K H a xs
def IteB (b:Bool) (K:Yac) (a:Addr):It:=match b with | true=>Ite K a | false=>IteT K a
def ZkB (K:Yac) (ta:TA):TI:=fun σ H R=>ta σ H fun vs H1=>∃ a b,vs=[.ref a]/\(∃ xs,SqB b K H1 a xs)/\R (IteB b K a) H1
theorem ZcU {X:Cx}{es:List Expr}{x1}{tpos:Pos}{e:Expr}{ta:TA}{p pos:Pos} (hg:Gl X "enumerate") (hm:X.mg "enumerate"=none) (ha:PA X [e] ta) (hs:starEach [e] X.env=[(false,eval e X.env)]:=by rfl) :
  PI X (.Tuple es x1 tpos) (.Call (.Name "enumerate" p) [e] [] pos) (ZkB X.K ta):=by
 intro pins s σ H R I h;refine Call_ (ZdN I hg hm (show bootBuiltins "enumerate"=some (.type "enumerate") by decide +kernel) (Yb0 (thn (ha pos pins s σ H _ I h) fun us s1 ⟨vs,H1,I1,r1,q1⟩=>?_) hs rfl));obtain⟨a,b,e1,⟨xs,hq⟩,q⟩:=q1;subst e1;obtain⟨u,rfl,r⟩:=Zcv r1;cases r;have fp:∀ b∈[s1.heap.objs.size+1,s1.heap.objs.size],FpOk X pins H1 b:=fun b hb=>by
  have ge:s1.heap.objs.size<=b:=by
   rcases Yah.mp hb with z | z
   ·rw[z];exact Yc3 _
   ·have z:b=s1.heap.objs.size:=by simpa using z
    rw[z];exact Yag _
  exact I1.fpOk ge (I1.hok.fresh ge)
 cases b with
 | true=>
  obtain⟨its,rv,pl,hz⟩:=I1.list hq;refine call_enumerate_list pl.isList fun h' he hi hsz k=>wpAny_pyIter_enum he ?_;exact⟨s1.heap.objs.size+1,[s1.heap.objs.size+1,s1.heap.objs.size],_,_,H1,rfl,I1.kept (t':=s1.toks) k,Zhj a s1.heap.objs.size _ (YbO (Ybu _)),⟨⟨.none,he⟩,hi⟩,fp,q⟩
 | false=>
  obtain⟨its,rv,pl,hz⟩:=I1.tuple hq;refine Zev (show s1.heap.IsTuple a its.toArray from pl) fun h' he hi k=>wpAny_pyIter_enum he ?_;exact⟨s1.heap.objs.size+1,[s1.heap.objs.size+1,s1.heap.objs.size],_,_,H1,rfl,I1.kept (t':=s1.toks) k,ZgD a s1.heap.objs.size _ (YbO (Ybu _)),⟨⟨.none,he⟩,hi⟩,fp,q⟩
theorem ZiF {b:Bool}{K:Yac}{a:Addr}{xs:List V}{g:TG}{tb:TS}{D:Ends}{σ:St}{H:Hp} (Pv:Nat->St->Hp->Prop) (h0:Pv 0 σ H) (hl:∀ i σ H,i<=xs.length->Pv i σ H->SqB b K H a xs)
  (hs:∀ i x p σ H,xs[i]?=some x->Pv i σ H->H p=none->g (.ref p) σ (upd H p (.tup [.int i,x])) fun σ2 H2=>tb { D with nx:=Pv (i+1),ct:=Pv (i+1),bk:=D.nx } σ2 H2) (hd:∀ σ H,Pv xs.length σ H->D.nx σ H) :
  ∃ W:Nat->Nat->St->Hp->Prop,(∃ m,W 0 m σ H)/\∀ i m σ H,W i m σ H ->
   ((IteB b K a).stop i H/\D.nx σ H)∨((IteB b K a).go i H/\∃ N:St->Hp->Prop,(∀ σ' H',N σ' H'->∃ m',m'<m/\W (i+1) m' σ' H')/\∀ x H',(IteB b K a).yld i H x H'->g x σ H' fun σ2 H2=>tb { D with nx:=N,ct:=N,bk:=D.nx } σ2 H2):=by
 refine⟨fun i m σ H=>m=xs.length - i/\i<=xs.length/\Pv i σ H,⟨xs.length,by simp,YaR _,h0⟩,?_⟩;rintro i m σ H ⟨rfl,hi,p⟩;have q:=hl i σ H hi p;by_cases hlt:i<xs.length
 ·have gx:xs[i]?=some xs[i]:=by simp[hlt]
  refine .inr ⟨by cases b <;> exact⟨xs,xs[i],q,gx⟩,Pv (i+1),fun σ' H' p'=>⟨xs.length - (i+1),by omega,rfl,hlt,p'⟩,fun x H' y=>?_⟩;have y:∃ pa z,H pa=none/\x=.ref pa/\H'=upd H pa (.tup [.int i,z])/\xs[i]?=some z:=by
   cases b with
   | true=>obtain⟨pa,z,hp,e1,e2,y⟩:=y;exact⟨pa,z,hp,e1,e2,y xs q⟩
   | false=>obtain⟨pa,z,hp,e1,e2,y⟩:=y;exact⟨pa,z,hp,e1,e2,y xs q⟩
  obtain⟨pa,z,hp,e1,e2,y'⟩:=y;subst e1 e2;exact hs i z pa σ H y' p hp
 ·have e:i=xs.length:=by omega
  subst e;exact .inl ⟨by cases b <;> exact⟨xs,q,Yag _⟩,hd σ H p⟩
end L2
namespace L2
open PySem PySem.Spec PyProof.Rows PySem.SeqAt
section
variable {X:Cx}
theorem Zca (ns:List Int):∀ k,k<=ns.length->preSum (fun i=>ns.getD i 0) k=(ns.take k).sum
 | 0,_=>by simp[preSum]
 | k+1,h=>by
  have hk:k<ns.length:=by omega
  rw[Ycx hk,YdX,<- Zca ns k (by omega)];simp[preSum,Yau,hk]
theorem Zbo (hc:X.calm=true):ZbO X (.builtin "sum") (fun xs H Q=>∃ (a:Addr) (ns:List Int),xs=[.ref a]/\SqL X.K H a (ns.map V.int)/\Q (.int ns.sum) H):=by
 intro pins s σ H xs us Q I r h;obtain⟨a,ns,rfl,hq,q⟩:=h;obtain⟨u,rfl,r1⟩:=Zcv r;cases r1;obtain⟨its,rv,p,hz⟩:=I.list hq;refine call_sum_walkG (wpAny_pyIter_list p.isList ?_);have hlt:=(let ⟨o,n,e,_⟩:=p;Yaj e:a<s.heap.objs.size)
 have hne:a≠s.heap.objs.size:=YaB hlt;have hlen:its.toArray.size=ns.length:=by rw[Yal,<- rv.length,Yab]
 refine⟨s.heap.objs.size,_,_,_,_,_,fun i=>ns.getD i 0,rfl,Ye2 (A:=X.A.in1) (I.ok.hd hc) _ a hne its.toArray,⟨⟨_,Yat _ rfl,rfl,rfl⟩,?_⟩,?_,?_,?_⟩
 ·obtain⟨o,n,e,c,_,d⟩:=p;exact⟨o,Yad _ e,c,n,d⟩
 ·intro b hb;rcases Yah.mp hb with z | z
  ·rw[z,YaZ];exact Ybu _
  ·have z:b=a:=by simpa using z
   rw[z,YaZ];exact YbE hlt
 ·intro i v e;have hi:i<its.toArray.size:=(YaP.mp e).1
  obtain⟨t,q⟩:=ZiA rv hi;rw[YaK hi] at e;have e':=YaF e;rw[q] at e';exact⟨t,e'.symm⟩
 ·intro h' tk t' k;refine⟨.int ns.sum,H,I.kept (h':=h') (t':=tk) fun b o e=>k b o ?_ (Yad _ e),⟨t',?_⟩,q⟩
  ·intro hm;have:b=s.heap.objs.size:=by simpa using hm
   rw[this] at e;exact absurd (Yaj e) (Ybt _)
  ·rw[hlen,Zca ns _ (Yag _),YaS]
end
end L2
namespace L2
open PySem PySem.Spec PyProof.Rows PySem.SeqAt
section
variable {X:Cx}
theorem ZeB {ns:List Int}:∀ {us:List Value},IntsAre us ns->Vals (ns.map V.int) us:=by
 intro us h
 induction h with
 | nil=>exact .nil
 | cons=>rename_i ih;exact .cons ⟨_,rfl⟩ ih
end
end L2
namespace L2
open PySem PySem.Spec PyProof.Rows PySem.SeqAt
theorem Inv.pairOut {X:Cx}{pins:List (Addr × Obj)}{σ:St}{H:Hp}{s:Shared}{h':Heap}{fp:List Addr}{x y:V}{u v:Value}{tk:Nat} (I:Inv X pins σ H s) (hf:∀ b∈fp,FpOk X pins H b)
  (k:∀ b o,b ∉ fp->s.heap.get? b=some o->h'.get? b=some o) (ht:IsPair h' s.heap.objs.size u v) (hlf:∀ b∈fp,b<s.heap.objs.size) (hth:∀ b∈fp,∃ o,h'.get? b=some o) (rx:RelV x u) (ry:RelV y v) :
  Inv X pins σ (upd H s.heap.objs.size (.tup [x,y])) { s with heap:=h',toks:=tk }:=by
 have fresh:H s.heap.objs.size=none:=I.hok.fresh (Yag _);have nit:∀ b o,H b=some o->b ∉ fp:=fun b o q z=>by rw[(hf b z).1] at q;cases q
 have newOk:ObjOk X.prog X.w (upd H s.heap.objs.size (.tup [x,y])) h' s.heap.objs.size (.tup [x,y]):=by
  refine⟨?_,[u,v],.cons rx (.cons ry .nil),⟨_,ht,rfl,rfl,0,rfl⟩⟩;show 2<=sizeLine
  decide
 refine I.step (g':=s.gens) (d':=s.drawn) (ch:=fp) (fun b hb=>?_) (fun b o _ _ hc q _=>k b o hc q) (fun b o _ _ hc q _=>⟨o.slots,k b o hc q⟩) (fun b o _ q n=>?_) (fun b o hc q=>⟨o,k b o hc q⟩)
  (fun b xs q=>by rw[Zah (Zag q fresh)];exact q) (fun b o xs q=>by rw[Zah (Zag q fresh)];exact q) (fun b ps q=>⟨#[],by rw[Zah (Zag q fresh),q];simp⟩) (fun m hm=>?_) (fun b ob q=>?_) I.bare
 ·obtain⟨f0,f1,f2,f3,f4,f5⟩:=hf b hb;exact⟨f3,f1,f4,f5⟩
 ·rw[Zah (YaB (Yaj q))];exact n
 ·obtain⟨o,es,ep,ho,r⟩:=hm;exact⟨o,es,ep,k _ o (fun z=>(hf _ z).2.1 rfl) ho,r⟩
 ·by_cases hb:b=s.heap.objs.size
  ·subst hb;rw[Zab] at q;cases q;exact newOk
  ·rw[Zah hb] at q;refine (I.hok b ob q).stay (fun c v hc r=>k c v ?_ r) (fun c r=>by rw[Zah (Zag r fresh)];exact r) fun c xs r=>by rw[Zah (Zag r fresh)];exact r
   rcases hc with z | z
   ·rw[z];exact nit b ob q
   ·exact nit c _ z
theorem Inv.turnedAll {X:Cx}{pins:List (Addr × Obj)}{σ:St}{H:Hp}{s:Shared}{h':Heap}{fp:List Addr}{tk:Nat} (I:Inv X pins σ H s) (hf:∀ b∈fp,FpOk X pins H b) (k:∀ b o,b ∉ fp->s.heap.get? b=some o->h'.get? b=some o) :
  Inv X pins σ H { s with heap:=h',toks:=tk }:=by
 have nit:∀ b o,H b=some o->b ∉ fp:=fun b o q z=>by rw[(hf b z).1] at q;cases q
 refine I.step (g':=s.gens) (d':=s.drawn) (ch:=fp) (fun b hb=>?_) (fun b o _ _ hc q _=>k b o hc q) (fun b o _ _ hc q _=>⟨o.slots,k b o hc q⟩) (fun b o _ q n=>n) (fun b o hc q=>⟨o,k b o hc q⟩) (fun _ _ q=>q) (fun _ _ _ q=>q) (fun b ps q=>⟨#[],by rw[q];simp⟩) (fun m hm=>?_) (fun b ob q=>?_) I.bare
 ·obtain⟨f0,f1,f2,f3,f4,f5⟩:=hf b hb;exact⟨f3,f1,f4,f5⟩
 ·obtain⟨o,es,ep,ho,r⟩:=hm;exact⟨o,es,ep,k _ o (fun z=>(hf _ z).2.1 rfl) ho,r⟩
 ·refine (I.hok b ob q).stay (fun c v hc r=>k c v ?_ r) (fun _ q=>q) fun _ _ q=>q;rcases hc with z | z
  ·rw[z];exact nit b ob q
  ·exact nit c _ z
end L2
namespace L2
open PySem PySem.Spec PyProof.Rows PySem.SeqAt
section
variable {X:Cx}
theorem ZhW:OpR X (binaryOp .Mult) (rI (fun i j=>∃ m n,Ya3 i<=m/\Ya3 j<=n/\m+n<=134217728) fun i j=>.int (i*j)) :=
 opI fun _ _ _ _ _ _ _ hc q=>mul_int q (by obtain⟨m,n,h1,h2,h3⟩:=hc;exact IntMulOk.of_le h1 h2 h3)
theorem Zjz:OpR X (binaryOp .FloorDiv) (rI (fun _ j=>0<j/\Ya3 j<=8000) fun i j=>.int (i / j)):=opI fun i j _ _ _ _ _ hc q=>by
 have h1:(0:Int)<j:=hc.1;have h2:j.natAbs<2 ^ 8000:=intBits_le_iff.mp hc.2;refine floordiv_int (by omega) (by rw[Yek i (by omega)];exact q) (.inl (PyProof.noPylong_of_log2 ?_));have h3:j.natAbs.log2<8000:=(Nat.log2_lt (by omega)).mpr h2;omega
theorem Zff (hc:X.calm=true):ZbO X (.builtin "sum") (fun xs H Q=>∃ (a:Addr) (ns:List Int),xs=[.ref a]/\SqT X.K H a (ns.map V.int)/\Q (.int ns.sum) H):=by
 intro pins s σ H xs us Q I r h;obtain⟨a,ns,rfl,hq,q⟩:=h;obtain⟨u,rfl,r1⟩:=Zcv r;cases r1;obtain⟨its,rv,p0,hz⟩:=I.tuple hq;have p:s.heap.IsTuple a its.toArray:=p0;refine call_sum_walkG (wpAny_pyIter_tuple p ?_);have hlt:a<s.heap.objs.size:=by obtain⟨o,e,_⟩:=p;exact Yaj e
 have hne:a≠s.heap.objs.size:=YaB hlt;have hlen:its.toArray.size=ns.length:=by rw[Yal,<- rv.length,Yab]
 refine⟨s.heap.objs.size,_,_,_,_,_,fun i=>ns.getD i 0,rfl,Walks.tuple (A:=X.A.in1) (I.ok.hd hc) _ a hne its.toArray,⟨⟨_,Yat _ rfl,rfl,rfl⟩,?_⟩,?_,?_,?_⟩
 ·obtain⟨o,e,c,d⟩:=p;exact⟨o,Yad _ e,c,d⟩
 ·intro b hb;rcases Yah.mp hb with z | z
  ·rw[z,YaZ];exact Ybu _
  ·have z:b=a:=by simpa using z
   rw[z,YaZ];exact YbE hlt
 ·intro i v e;have hi:i<its.toArray.size:=(YaP.mp e).1
  obtain⟨t,q⟩:=ZiA rv hi;rw[YaK hi] at e;have e':=YaF e;rw[q] at e';exact⟨t,e'.symm⟩
 ·intro h' tk t' k;refine⟨.int ns.sum,H,I.kept (h':=h') (t':=tk) fun b o e=>k b o ?_ (Yad _ e),⟨t',?_⟩,q⟩
  ·intro hm;have:b=s.heap.objs.size:=by simpa using hm
   rw[this] at e;exact absurd (Yaj e) (Ybt _)
  ·rw[hlen,Zca ns _ (Yag _),YaS]
end
section
variable {prog:Program}{w:World}{A:Around}{E:Value->Shared->Prop}{s:Shared}
end
section
variable {X:Cx}
end
theorem Zes {K:Yac}{own:List Str}{js:List Nat}{g:TG}{tt:TT}{te:TE}{σ:St}{H1:Hp}{Q:VK}{a:Addr}{xs:List V} (Pv:Addr->Nat->Hp->Prop) (h0:∀ acc,H1 acc=none->Pv acc 0 (upd H1 acc (.lst []))) (hl:∀ acc i H,H1 acc=none->i<=xs.length->Pv acc i H->SqT K H a xs)
  (hs:∀ acc i x H,H1 acc=none->xs[i]?=some x->Pv acc i H->g x (blkσ own js σ) H fun τ H4=>tt τ H4 fun c H5=>
   if c=true then te τ H5 fun y H6=>∃ ys,H6 acc=some (.lst ys)/\ys.length<sizeLine/\(i+1<=xs.length/\Pv acc (i+1) (upd H6 acc (.lst (ys++[y])))) else (i+1<=xs.length/\Pv acc (i+1) H5))
  (hd:∀ acc H,H1 acc=none->Pv acc xs.length H->Q (.ref acc) H):Zbl own js g tt te σ (Itt K a) H1 Q:=by
 intro acc hacc;refine⟨fun i H=>i<=xs.length/\Pv acc i H,xs.length,⟨YaR _,h0 acc hacc⟩,?_⟩;rintro i H ⟨hi,p⟩;have q:=hl acc i H hacc hi p;by_cases hlt:i<xs.length
 ·refine .inr ⟨hlt,⟨xs,xs[i],q,by simp[hlt]⟩,fun x H' y=>?_⟩;obtain⟨e,y⟩:=y;subst e;exact hs acc i x _ hacc (y xs q) p
 ·have e:i=xs.length:=by omega
  subst e;exact .inl ⟨⟨xs,q,Yag _⟩,hd acc H hacc p⟩
end L2
namespace Lv
open PySem L2
theorem ZeS {X:Cx}{x:Str}{T:String}{pos:Pos} (hg:Gl X x) (hm:X.mg x=none) (hv:bootBuiltins x=some (.type T)) (hn:x≠"__name__":=by decide) (hd:(x == ("__debug__":Str))=false:=by decide):PE X (.Name x pos) (tC (.ty T)) :=
 Zlc hg hm hv rfl hn hd
theorem Zbu {X:Cx}{x:Str}{i:Int}{t:Tok}{pos:Pos} (hg:Gl X x) (hm:X.mg x=some (.int i t)) (hd:(x == ("__debug__":Str))=false:=by decide):PE X (.Name x pos) (tC (.int i)) :=
 ZfI hg hm ⟨t,rfl⟩ hd
structure Txt (mg:Str->Option Value):Prop where
 isinstance:mg "isinstance"=none
 int:mg "int"=none
 bool:mg "bool"=none
 list:mg "list"=none
 tuple:mg "tuple"=none
 min:mg "min"=none
 max:mg "max"=none
 len:mg "len"=none
 range:mg "range"=none
 all:mg "all"=none
 sum:mg "sum"=none
 sorted:mg "sorted"=none
 zip:mg "zip"=none
theorem Zau:bootBuiltins "isinstance"=some (.builtin "isinstance"):=by decide +kernel
theorem Zka:bootBuiltins "int"=some (.type "int"):=by decide +kernel
theorem ZkH:bootBuiltins "bool"=some (.type "bool"):=by decide +kernel
theorem ZkG:bootBuiltins "list"=some (.type "list"):=by decide +kernel
theorem ZbN:bootBuiltins "tuple"=some (.type "tuple"):=by decide +kernel
theorem Zm8:bootBuiltins "all"=some (.builtin "all"):=by decide +kernel
theorem Zfp:bootBuiltins "sum"=some (.builtin "sum"):=by decide +kernel
theorem ZcW:bootBuiltins "sorted"=some (.builtin "sorted"):=by decide +kernel
theorem ZfN {K:Yac}:Yby K (.type "int") (.type "int")=some true:=by rfl
theorem Ze0 {K:Yac}:Yby K (.type "int") (.type "bool")=some false:=by with_unfolding_all rfl
theorem ZbJ {K:Yac}:Yby K (.type "tuple") (.type "tuple")=some true:=by rfl
theorem Zel {K:Yac}:Yby K (.type "list") (.type "list")=some true:=by rfl
structure Cal (P:Program) (w:World) (K:Yac) (mg:Str->Option Value) (base:Heap) (k:Nat) (x:Str) (ps:List Str) (sp:Sp) (f:Addr) (fd:FuncData):Prop where
 ok:FnOk P w K mg base CX0 k f fd ps sp
 mg:mg x=some (.ref f)
 kp:Yav K (.ref f)=true
 bd:Binds K fd ps []
theorem Zar {X:Cx}{k:Nat}{x:Str}{ps:List Str}{sp:Sp}{f:Addr}{fd:FuncData}{e:Expr}{es:List Expr}{t:TA}{p pos:Pos} (C:Cal X.prog X.w X.K X.mg X.base k x ps sp f fd) (hr:Room k X.A) (hg:Gl X x) (ha:PA X (e::es) t)
  (hdb:(x == ("__debug__":Str))=false:=by decide) (he:starEach (e::es) X.env=(false,eval e X.env)::starEach es X.env:=by rfl) (hpl:(backTo pos (starEach es X.env)).any (·.1)=false:=by rfl) :
  PE X (.Call (.Name x p) (e::es) [] pos) (Zhp sp [] E0 t):=ZfK C.ok hr hg C.mg C.kp C.bd .nil Zle ha hdb he hpl
theorem Zcr (K:Yac) {X:Cx} (hK:X.K=K:=by rfl):IxR X (rIxL K):=by subst hK;exact ZaA
theorem Zbf {xs:List Int}{i:Nat}{x:V} (h:(xs.map V.int)[i]?=some x):∃ p,xs[i]?=some p/\x=.int p:=by
 rw[Yam] at h
 cases e:xs[i]? with
 | none=>rw[e] at h;cases h
 | some p=>rw[e] at h;exact⟨p,rfl,(YaF h).symm⟩
theorem _root_.L2.Same.new {q:Addr}{H:Hp}{o:HO} (h:H q=none):Same H (upd H q o):=fun b u e=>by rw[Zah (Zag e h)];exact e
theorem _root_.L2.Same.put {q:Addr}{H H':Hp}{o:HO} (s:Same H H') (h:H q=none):Same H (upd H' q o):=fun b u e=>by rw[Zah (Zag e h)];exact s b u e
theorem _root_.L2.Same.tup {K:Yac}{H H':Hp}{a:Addr}{xs:List V} (e:Same H H') (h:SqT K H a xs):SqT K H' a xs:=by
 rcases h with (h | ⟨o,h⟩) | h
 ·exact .inl (.inl (e _ _ h))
 ·exact .inl (.inr ⟨o,e _ _ h⟩)
 ·exact .inr h
theorem Zit {n:Nat}{x:Int} (h0:0<=x) (h1:x<n):ixN n x=some x.toNat:=by
 unfold ixN;rw[if_pos h0,if_pos h1]
theorem Zex {fs:List Int}{x:Int} (h0:0<=x) (h1:x<fs.length):atI (fs.map V.int) x=some (.int (fs.getD x.toNat 0)):=by
 unfold atI;have hx:x.toNat<fs.length:=by omega
 rw[Yab,Zit h0 h1];show (fs.map V.int)[x.toNat]?=_;rw[Yam,Yaa hx,Yau,Yaa hx];rfl
theorem Zkc {c0:Int}{cr:List Int}:atI ((c0::cr).map V.int) 0=some (.int c0):=Zbg (j:=0) rfl
theorem cut2 {a b R:TS}{D:Ends}{σ:St}{H:Hp} (M:St->Hp->Prop) (h1:∀ R':TS,(∀ σ' H',M σ' H'->R' D σ' H')->tSeq a (tSeq b R') D σ H) (h2:∀ σ' H',M σ' H'->R D σ' H'):tSeq a (tSeq b R) D σ H:=h1 R h2
theorem cut1 {a R:TS}{D:Ends}{σ:St}{H:Hp} (M:St->Hp->Prop) (h1:∀ R':TS,(∀ σ' H',M σ' H'->R' D σ' H')->tSeq a R' D σ H) (h2:∀ σ' H',M σ' H'->R D σ' H'):tSeq a R D σ H:=h1 R h2
theorem cutG {i:Nat}{x:V}{a R:TS}{D:Ends}{σ:St}{H:Hp} (M:St->Hp->Prop) (h1:∀ R':TS,(∀ σ' H',M σ' H'->R' D σ' H')->ZbK i x σ H (tSeq a R' D)) (h2:∀ σ' H',M σ' H'->R D σ' H'):ZbK i x σ H (tSeq a R D):=h1 R h2
def Zb4:Sp:=fun vs H Q _=>∃ i,vs=[.int i]/\Q (.bl true) H
theorem Zbp {m:Int} (h0:0<=m) (h1:m<2 ^ 64):Ya3 m<=8000:=Ybx (intBits_le_64 (by omega) h1) (by decide)
def Zbw (c:List Int):List Int:=(c.tail.map (c.getD 0 0+·))++[c.getD 0 0]
def Zcs (p:Nat):List Int:=1::Yan (p - 1) 0
def cnt (p:Nat):Nat->List Int
 | 0=>Zcs p
 | n+1=>Zbw (cnt p n)
theorem Zib {c:List Int} (h:c≠[]):(Zbw c).length=c.length:=by
 cases c with
 | nil=>exact absurd rfl h
 | cons x r=>simp[Zbw]
theorem Zdk {p:Nat} (hp:1<=p):∀ n,(cnt p n).length=p
 | 0=>by simp[cnt,Zcs];omega
 | n+1=>by
  have:=Zdk hp n;show (Zbw (cnt p n)).length=p;rw[Zib (by intro z;rw[z] at this;simp at this;omega),this]
def Down (c:List Int):Prop:=c.Pairwise (· ≥ ·)/\∀ x∈c,0<=x
theorem ZiK {c:List Int} (h:Down c):Down (Zbw c):=by
 cases c with
 | nil=>exact⟨by simp[Zbw],by intro x hx;simp[Zbw] at hx;omega⟩
 | cons a r=>
  obtain⟨h1,h2⟩:=h;have h3:=Ybe.mp h1;have h0:0<=a:=h2 a (by simp);refine⟨?_,?_⟩
  ·show ((r.map (a+·))++[a]).Pairwise (· ≥ ·);rw[YaN];refine⟨?_,by simp,?_⟩
   ·rw[Ya5];exact h3.2.imp fun h=>by omega
   ·intro x hx y hy;obtain⟨z,hz,rfl⟩:=YaW.mp hx;have:=h2 z (by simp[hz]);have:y=a:=by simpa using hy
    omega
  ·show ∀ x∈(r.map (a+·))++[a],0<=x;intro x hx;rcases Yak.mp hx with hx | hx
   ·obtain⟨z,hz,rfl⟩:=YaW.mp hx;have:=h2 z (by simp[hz]);omega
   ·have:x=a:=by simpa using hx
    omega
theorem ZcV (p:Nat):∀ n,Down (cnt p n)
 | 0=>by
  refine⟨?_,?_⟩
  ·show (1::Yan (p - 1) (0:Int)).Pairwise (· ≥ ·);rw[Ybe];refine⟨fun y hy=>?_,?_⟩
   ·have:=(YcR.mp hy).2
    omega
   ·rw[List.pairwise_replicate];exact .inr (Ycr _)
  ·intro x hx;rcases Yah.mp hx with rfl | hx
   ·decide
   ·have:=(YcR.mp hx).2
    omega
 | n+1=>ZiK (ZcV p n)
def Zhr:Sp:=fun vs H Q _=>∃ i,vs=[.int i]/\2<=i/\i<=7/\Q .non H
def ZfC:Sp:=fun vs H Q _=>∃ p:Nat,vs=[.int p]/\2<=p/\p<=7/\∀ l H',H l=none->H' l=some (.tup ((Zcs p).map V.int))->Same H H'->Q (.ref l) H'
def Zhu (K:Yac):Sp:=fun vs H Q _=>∃ (a:Addr) (c:List Int),vs=[.ref a]/\SqT K H a (c.map V.int)/\2<=c.length/\c.length<=7/\∀ l H',H l=none->H' l=some (.tup ((Zbw c).map V.int))->Same H H'->Q (.ref l) H'
def Zd6:Sp:=fun vs H Q _=>∃ p n:Nat,vs=[.int p,.int n]/\2<=p/\p<=7/\n<=300/\∀ l H',H l=none->H' l=some (.tup ((cnt p n).map V.int))->Same H H'->Q (.ref l) H'
def Zb5:Sp:=fun vs H Q _=>∃ p n:Nat,vs=[.int p,.int n]/\2<=p/\p<=7/\n<=300/\∀ H',Same H H'->Q (.int (cnt p n).sum) H'
def Zjh (K:Yac):Sp:=fun vs H Q _=>∃ (a:Addr) (ns:List Int),vs=[.ref a]/\SqL K H a (ns.map V.int)/\ns.length<=63/\∀ H',Q (.bl true) H'
end Lv
namespace Lv
open PySem L2
def hd (p n:Nat):Int:=(cnt p n).getD 0 0
def tot (p n:Nat):Int:=(cnt p n).sum
theorem Zgx {p:Nat} (hp:2<=p) (n:Nat):∃ a b r,cnt p n=a::b::r/\r.length=p - 2:=by
 have h:=Zdk (p:=p) (by omega) n
 match hc:cnt p n with
 | []=>rw[hc] at h;simp at h;omega
 | [x]=>rw[hc] at h;simp at h;omega
 | a::b::r=>rw[hc] at h;exact⟨a,b,r,rfl,by simp at h;omega⟩
theorem Zgr {p:Nat} (hp:2<=p):∀ n,1<=hd p n
 | 0=>by simp[hd,cnt,Zcs]
 | n+1=>by
  obtain⟨a,b,r,e,_⟩:=Zgx hp n;have ih:=Zgr hp n;have nn:=(ZcV p n).2 b (by rw[e];simp);unfold hd at ih ⊢;show 1<=(Zbw (cnt p n)).getD 0 0;rw[e] at ih ⊢;simp[Zbw] at ih ⊢;omega
theorem Zhq (c:Int):∀ r:List Int,(r.map (c+·)).sum=r.length*c+r.sum
 | []=>by simp
 | x::r=>by
  rw[YaV,Ybk,Zhq c r,Ybk,Ybc,Int.natCast_succ,Int.add_mul];omega
theorem Zjf (a:Int) (r:List Int):(Zbw (a::r)).sum=(a::r).sum+r.length*a:=by
 show ((r.map (a+·))++[a]).sum=_;rw[YdX,Zhq,Ybk,Ybk,List.sum_nil];omega
theorem Zf3 {p:Nat} (hp:2<=p) (n:Nat):tot p (n+1)=tot p n+(p - 1:Nat)*hd p n:=by
 obtain⟨a,b,r,e,hr⟩:=Zgx hp n;unfold tot hd;show (Zbw (cnt p n)).sum=_;rw[e,Zjf];have:(b::r).length=p - 1:=by simp;omega
 rw[this];rfl
theorem Zkg {p:Nat} (hp:2<=p) (n:Nat):tot p n+1<=tot p (n+1):=by
 rw[Zf3 hp];have h1:=Zgr hp n;have h2:((1:Nat):Int)*1<=((p - 1:Nat):Int)*hd p n:=Int.mul_le_mul (by omega) h1 (by decide) (by omega);omega
theorem Zcj {p:Nat} (hp:2<=p) {m n:Nat} (h:m<=n):tot p m<=tot p n:=by
  induction n with
  | zero => have : m = 0 := by omega
            subst this;exact Ycr _
  | succ n ih=>
    by_cases e:m=n+1
    · subst e;exact Ycr _
    · have:=ih (by omega);have:=Zkg hp n;omega
theorem ZlX {c:List Int} (h:∀ x∈c,0<=x):c.getD 0 0<=c.sum:=by
 cases c with
 | nil=>simp
 | cons a r=>
  have:∀ l:List Int,(∀ x∈l,0<=x)->0<=l.sum:=by
   intro l
   induction l with
   | nil=>intro _;simp
   | cons x y ih=>
    intro h;rw[Ybk];have:=h x (by simp);have:=ih fun z hz=>h z (by simp[hz]);omega
  have:=this r fun x hx=>h x (by simp[hx]);rw[Ybk];simp;omega
end Lv
namespace L2
open PySem PySem.Spec PyProof.Rows PySem.SeqAt
def HIt (b:Bool) (h:Heap) (it l:Addr) (i:Nat):Prop:=match b with | true=>h.IsListIter it l i | false=>h.IsTupleIter it l i
def HSq (b:Bool) (h:Heap) (l:Addr) (xs:Array Value):Prop:=match b with | true=>h.IsList l xs | false=>h.IsTuple l xs
theorem HIt.at {b:Bool}{h h':Heap}{it l:Addr}{i:Nat} (x:HIt b h it l i) (e:∀ o,h.get? it=some o->h'.get? it=some o):HIt b h' it l i:=by
 cases b
 ·exact Heap.IsTupleIter.at x e
 ·exact Heap.IsListIter.at x e
theorem HIt.ext {b:Bool}{h h':Heap}{it l c:Addr}{i:Nat} (x:HIt b h it l i) (hs:Ydr c h h') (n:it≠c):HIt b h' it l i:=x.at fun o e=>hs _ _ n e
theorem HIt.obj {b:Bool}{h:Heap}{it l:Addr}{i:Nat} (x:HIt b h it l i):∃ o,h.get? it=some o/\∀ v:Option Value,o.data≠.cell v:=by
 cases b
 ·obtain⟨o,e,_,d⟩:=x;exact⟨o,e,fun v q=>by rw[d] at q;cases q⟩
 ·obtain⟨o,e,_,d⟩:=x;exact⟨o,e,fun v q=>by rw[d] at q;cases q⟩
theorem HSq.ext {b:Bool}{h h':Heap}{l c:Addr}{xs:Array Value} (x:HSq b h l xs) (hs:Ydr c h h') (n:l≠c):HSq b h' l xs:=by
 cases b
 ·exact Heap.IsTuple.extBut x hs n
 ·exact Heap.IsList.extBut x hs n
section
variable {prog:Program}{w:World}{A:Around}{E:Value->Shared->Prop}{s:Shared}
theorem Zlm {b:Bool}{it l:Addr}{i:Nat}{items:Array Value}{x:Value}{Q:Value->Shared->Prop} (hit:HIt b s.heap it l i) (hl:HSq b s.heap l items) (hx:items[i]?=some x) (hQ:∀ h',HIt b h' it l (i+1)->Ycs it s.heap h'->Q x { s with heap:=h' }) :
  wpAny (model prog w) A (YaY (.ref it)) Q E s:=by
 cases b
 ·exact ZdL hit hl hx hQ
 ·exact wpAny_nextOf_list_item hit hl hx hQ
theorem ZeV {b:Bool}{it l:Addr}{i:Nat}{items:Array Value}{Q:Value->Shared->Prop} (hh:A.handled=none) (hit:HIt b s.heap it l i) (hl:HSq b s.heap l items) (hx:items[i]?=none)
  (hE:∀ h' e,Ydr it s.heap h'->(∃ o,h'.get? e=some o/\o.cls=.type "StopIteration")->E (.ref e) { s with heap:=h' }):wpAny (model prog w) A (YaY (.ref it)) Q E s:=by
 cases b
 ·exact Zbj hh hit hl hx hE
 ·exact wpAny_nextOf_list_end hh hit hl hx hE
theorem Zhf {b1 b2:Bool}{z TI TO i1 i2 l1 l2:Addr}{k1 k2:Nat}{xs ys:Array Value}{x y a b:Value}{Q:Value->Shared->Prop} (D:ZipApart z TI TO i1 i2 l1 l2) (hz:IsZip s.heap z TI TO .none) (hTI:IsPair s.heap TI (.ref i1) (.ref i2)) (hTO:IsPair s.heap TO a b)
  (h1:HIt b1 s.heap i1 l1 k1) (h2:HIt b2 s.heap i2 l2 k2) (hl1:HSq b1 s.heap l1 xs) (hl2:HSq b2 s.heap l2 ys) (hx:xs[k1]?=some x) (hy:ys[k2]?=some y)
  (hQ:∀ h',IsZip h' z TI TO (rawInt s.heap.objs.size)->IsPair h' TO x y->HIt b1 h' i1 l1 (k1+1)->HIt b2 h' i2 l2 (k2+1)->IsPair h' s.heap.objs.size x y->h'.objs.size=s.heap.objs.size+1 ->
   (∀ c o,c≠z->c≠TO->c≠i1->c≠i2->s.heap.get? c=some o->h'.get? c=some o)->Q (.ref s.heap.objs.size) { s with heap:=h' }) :
  wpAny (model prog w) A (Builtin.«zip.__next__» ⟨[.ref z],[]⟩) (fun fin s'=>∃ v,fin=.done (.ret v)/\Q v s') E s:=by
 refine wpAny_bind (m:=field (.ref z) 2) (wpAny_field hz rfl (x:=.bool false) rfl ?_);refine wpAny_bind (m:=field (.ref z) 3) (wpAny_field hz rfl (x:=.ref TI) rfl (wpAny_bind (wpAny_seqItems hTI rfl ?_)));refine wpAny_bind (m:=YbF (.ref z)) ?_;unfold YbF;refine wpAny_bind (wpAny_field hz rfl (x:=.none) rfl (wpAny_pure ?_));simp only[if_true];refine wpAny_bind (wpAny_rule (wpAny_bind (wpAny_field hz rfl (x:=.ref TO) rfl ?_)));refine wpAny_bind (wpAny_setField_rec hz (by simp) fun h₁ hz₁ hs₁=>?_)
 replace hz₁:IsZip h₁ z TI TO .ellipsis:=hz₁
 refine wpAny_bind ?_;simp only[YdJ,List.zipIdx_nil,Yd1,List.forIn_nil];refine wpAny_bind (wpAny_bind (wpAny_onRaise (wpAny_bind (m:=YaY (.ref i1)) ?_)));refine Zlm (h1.ext hs₁.extBut D.i1z) (hl1.ext hs₁.extBut D.l1z) hx fun h₂ h1₂ hs₂=>wpAny_pure ?_;have t2:IsPair h₂ TO a b:=hs₂.extBut _ _ D.TOi1 (hs₁.extBut _ _ D.TOz hTO);refine wpAny_bind (wpAny_seqItems t2 rfl (wpAny_bind (wpAny_updateSeq_pair t2 fun h₃ hTO₃ hs₃=>?_)))
 replace hTO₃:IsPair h₃ TO x b:=hTO₃
 refine wpAny_bind (wpAny_letGo (wpAny_pure (wpAny_bind (wpAny_bind (wpAny_onRaise (wpAny_bind (m:=YaY (.ref i2)) ?_))))));refine Zlm (((h2.ext hs₁.extBut D.i2z).ext hs₂.extBut D.i12.symm).ext hs₃.extBut D.TOi2.symm) (((hl2.ext hs₁.extBut D.l2z).ext hs₂.extBut D.l2i1).ext hs₃.extBut D.l2TO) hy fun h₄ h2₄ hs₄=>wpAny_pure ?_;have t4:IsPair h₄ TO x b:=hs₄.extBut _ _ D.TOi2 hTO₃;refine wpAny_bind (wpAny_seqItems t4 rfl (wpAny_bind (wpAny_updateSeq_pair t4 fun h₅ hTO₅ hs₅=>?_)))
 replace hTO₅:IsPair h₅ TO x y:=hTO₅
 refine wpAny_bind (wpAny_letGo (wpAny_pure (wpAny_pure (wpAny_bind (wpAny_seqItems hTO₅ rfl (wpAny_bind (wpAny_newTuple ?_)))))));have hsz:h₅.objs.size=s.heap.objs.size:=by rw[hs₅.1,hs₄.1,hs₃.1,hs₂.1,hs₁.1]
 have hz₅:IsZip h₅ z TI TO .ellipsis:=hs₅.extBut _ _ D.TOz.symm (hs₄.extBut _ _ D.i2z.symm (hs₃.extBut _ _ D.TOz.symm (hs₂.extBut _ _ D.i1z.symm hz₁)));have k5:∀ c o,c≠z->c≠TO->c≠i1->c≠i2->s.heap.get? c=some o->h₅.get? c=some o:=fun c o c1 c2 c3 c4 e=>hs₅.extBut _ _ c2 (hs₄.extBut _ _ c4 (hs₃.extBut _ _ c2 (hs₂.extBut _ _ c3 (hs₁.extBut _ _ c1 e))));have j1:HIt b1 h₅ i1 l1 (k1+1):=((h1₂.ext hs₃.extBut D.TOi1.symm).ext hs₄.extBut D.i12).ext hs₅.extBut D.TOi1.symm;have j2:HIt b2 h₅ i2 l2 (k2+1):=h2₄.ext hs₅.extBut D.TOi2.symm;have zlt:z<h₅.objs.size:=Yaj hz₅;refine wpAny_bind (m:=YcP (.ref z) (.ref h₅.objs.size)) ?_;unfold YcP;have hz₆:IsZip (h₅.push { cls:=.type "tuple",data:=.seq #[x,y] }) z TI TO .ellipsis:=Yad _ hz₅;refine wpAny_bind (wpAny_setField_rec hz₆ (by simp) fun h₇ hz₇ hs₇=>?_)
 replace hz₇:IsZip h₇ z TI TO (rawInt h₅.objs.size):=hz₇
 refine wpAny_setField_rec hz₇ (by simp) fun h₈ hz₈ hs₈=>?_
 replace hz₈:IsZip h₈ z TI TO (rawInt h₅.objs.size):=hz₈
 have up:∀ c o,c≠z->h₅.get? c=some o->h₈.get? c=some o:=fun c o c1 e=>hs₈.extBut _ _ c1 (hs₇.extBut _ _ c1 (Yad _ e));have t8:IsPair h₈ h₅.objs.size x y:=hs₈.extBut _ _ (YbO zlt) (hs₇.extBut _ _ (YbO zlt) (Yat _ rfl));have z8:h₈.objs.size=h₅.objs.size+1:=by rw[hs₈.1,hs₇.1,YaZ]
 rw[hsz] at hz₈ t8 z8;refine wpAny_pure ⟨_,rfl,?_⟩;show Q (.ref h₅.objs.size) _;rw[hsz];exact hQ h₈ hz₈ (up _ _ D.TOz hTO₅) (j1.at fun o e=>up _ o D.i1z e) (j2.at fun o e=>up _ o D.i2z e) t8 z8 fun c o c1 c2 c3 c4 e=>up c o c1 (k5 c o c1 c2 c3 c4 e)
theorem Zjd {b1 b2:Bool}{z TI TO i1 i2 l1 l2:Addr}{k1 k2:Nat}{xs ys:Array Value}{a b:Value}{Q:Fin->Shared->Prop} (hh:A.handled=none) (D:ZipApart z TI TO i1 i2 l1 l2) (hz:IsZip s.heap z TI TO .none) (hTI:IsPair s.heap TI (.ref i1) (.ref i2)) (hTO:IsPair s.heap TO a b)
  (h1:HIt b1 s.heap i1 l1 k1) (h2:HIt b2 s.heap i2 l2 k2) (hl1:HSq b1 s.heap l1 xs) (hl2:HSq b2 s.heap l2 ys) (hend:xs[k1]?=none∨ys[k2]?=none)
  (hE:∀ h' e,(∀ c o,c≠z->c≠TO->c≠i1->c≠i2->s.heap.get? c=some o->h'.get? c=some o)->(∃ o,h'.get? e=some o/\o.cls=.type "StopIteration")->E (.ref e) { s with heap:=h' }):wpAny (model prog w) A (Builtin.«zip.__next__» ⟨[.ref z],[]⟩) Q E s:=by
 refine wpAny_bind (m:=field (.ref z) 2) (wpAny_field hz rfl (x:=.bool false) rfl ?_);refine wpAny_bind (m:=field (.ref z) 3) (wpAny_field hz rfl (x:=.ref TI) rfl (wpAny_bind (wpAny_seqItems hTI rfl ?_)));refine wpAny_bind (m:=YbF (.ref z)) ?_;unfold YbF;refine wpAny_bind (wpAny_field hz rfl (x:=.none) rfl (wpAny_pure ?_));simp only[if_true];refine wpAny_bind (wpAny_rule (wpAny_bind (wpAny_field hz rfl (x:=.ref TO) rfl ?_)));refine wpAny_bind (wpAny_setField_rec hz (by simp) fun h₁ hz₁ hs₁=>?_)
 replace hz₁:IsZip h₁ z TI TO .ellipsis:=hz₁
 refine wpAny_bind ?_;simp only[YdJ,List.zipIdx_nil,Yd1,List.forIn_nil];refine wpAny_bind (wpAny_bind (wpAny_onRaise (wpAny_bind (m:=YaY (.ref i1)) ?_)))
 cases hx:xs[k1]? with
 | none=>
  refine ZeV hh (h1.ext hs₁.extBut D.i1z) (hl1.ext hs₁.extBut D.l1z) hx fun h₂ e hs₂ ⟨oe,hoe,hce⟩=>?_;have hz₂:IsZip h₂ z TI TO .ellipsis:=hs₂ _ _ D.i1z.symm hz₁;have ez:e≠z:=fun x=>by subst x;rw[hz₂] at hoe;cases hoe;simp at hce
  exact wpAny_setField_rec hz₂ (by simp) fun h₃ _ hs₃=>hE h₃ e (fun c o c1 _ c3 _ x=>hs₃.extBut _ _ c1 (hs₂ _ _ c3 (hs₁.extBut _ _ c1 x))) ⟨oe,hs₃.extBut _ _ ez hoe,hce⟩
 | some x=>
  have hy:ys[k2]?=none:=hend.resolve_left (by rw[hx];simp);refine Zlm (h1.ext hs₁.extBut D.i1z) (hl1.ext hs₁.extBut D.l1z) hx fun h₂ h1₂ hs₂=>wpAny_pure ?_;have t2:IsPair h₂ TO a b:=hs₂.extBut _ _ D.TOi1 (hs₁.extBut _ _ D.TOz hTO);refine wpAny_bind (wpAny_seqItems t2 rfl (wpAny_bind (wpAny_updateSeq_pair t2 fun h₃ hTO₃ hs₃=>?_)));refine wpAny_bind (wpAny_letGo (wpAny_pure (wpAny_bind (wpAny_bind (wpAny_onRaise (wpAny_bind (m:=YaY (.ref i2)) ?_))))));refine ZeV hh (((h2.ext hs₁.extBut D.i2z).ext hs₂.extBut D.i12.symm).ext hs₃.extBut D.TOi2.symm) (((hl2.ext hs₁.extBut D.l2z).ext hs₂.extBut D.l2i1).ext hs₃.extBut D.l2TO) hy fun h₄ e hs₄ ⟨oe,hoe,hce⟩=>?_;have hz₄:IsZip h₄ z TI TO .ellipsis:=hs₄ _ _ D.i2z.symm (hs₃.extBut _ _ D.TOz.symm (hs₂.extBut _ _ D.i1z.symm hz₁));have ez:e≠z:=fun x=>by subst x;rw[hz₄] at hoe;cases hoe;simp at hce
  exact wpAny_setField_rec hz₄ (by simp) fun h₅ _ hs₅=>hE h₅ e (fun c o c1 c2 c3 c4 x=>hs₅.extBut _ _ c1 (hs₄ _ _ c4 (hs₃.extBut _ _ c2 (hs₂.extBut _ _ c3 (hs₁.extBut _ _ c1 x))))) ⟨oe,hs₅.extBut _ _ ez hoe,hce⟩
theorem ZeQ {b1 b2:Bool}{z TI TO i1 i2 l1 l2:Addr}{k1 k2:Nat}{xs ys:Array Value}{x y a b:Value}{Q:Option Value->Shared->Prop} (D:ZipApart z TI TO i1 i2 l1 l2) (hz:IsZip s.heap z TI TO .none) (hTI:IsPair s.heap TI (.ref i1) (.ref i2)) (hTO:IsPair s.heap TO a b)
  (h1:HIt b1 s.heap i1 l1 k1) (h2:HIt b2 s.heap i2 l2 k2) (hl1:HSq b1 s.heap l1 xs) (hl2:HSq b2 s.heap l2 ys) (hx:xs[k1]?=some x) (hy:ys[k2]?=some y)
  (hQ:∀ h',IsZip h' z TI TO (rawInt s.heap.objs.size)->IsPair h' TO x y->HIt b1 h' i1 l1 (k1+1)->HIt b2 h' i2 l2 (k2+1)->IsPair h' s.heap.objs.size x y->h'.objs.size=s.heap.objs.size+1 ->
   (∀ c o,c≠z->c≠TO->c≠i1->c≠i2->s.heap.get? c=some o->h'.get? c=some o)->Q (some (.ref s.heap.objs.size)) { s with heap:=h' }):wpAny (model prog w) A (pyNext (.ref z)) Q E s:=by
 have hT:s.TypeIs (.ref z) "zip":=⟨_,hz,rfl⟩
 unfold pyNext;exact wpAny_bind (wpAny_attempt (wpAny_callSpecial?_slot (name:=YbZ "__next__") hT F.slot_zip_next (wpAny_call_entry F.slot_zip_next hT F.entry_zip_next (Zhf D hz hTI hTO h1 h2 hl1 hl2 hx hy fun h' a1 a2 a3 a4 a5 a6 a7=>wpAny_pure (hQ h' a1 a2 a3 a4 a5 a6 a7)) (F.args_zip_next_1 _))))
theorem ZfG {b1 b2:Bool}{z TI TO i1 i2 l1 l2:Addr}{k1 k2:Nat}{xs ys:Array Value}{a b:Value}{Q:Option Value->Shared->Prop} (hh:A.handled=none) (D:ZipApart z TI TO i1 i2 l1 l2) (hz:IsZip s.heap z TI TO .none) (hTI:IsPair s.heap TI (.ref i1) (.ref i2)) (hTO:IsPair s.heap TO a b)
  (h1:HIt b1 s.heap i1 l1 k1) (h2:HIt b2 s.heap i2 l2 k2) (hl1:HSq b1 s.heap l1 xs) (hl2:HSq b2 s.heap l2 ys) (hend:xs[k1]?=none∨ys[k2]?=none)
  (hQ:∀ h',(∀ c o,c≠z->c≠TO->c≠i1->c≠i2->s.heap.get? c=some o->h'.get? c=some o)->Q none { s with heap:=h' }):wpAny (model prog w) A (pyNext (.ref z)) Q E s:=by
 have hT:s.TypeIs (.ref z) "zip":=⟨_,hz,rfl⟩
 unfold pyNext;refine wpAny_bind (wpAny_attempt (wpAny_callSpecial?_slot (name:=YbZ "__next__") hT F.slot_zip_next (wpAny_call_entry F.slot_zip_next hT F.entry_zip_next (Zjd hh D hz hTI hTO h1 h2 hl1 hl2 hend fun h' e hk ⟨o,ho,hc⟩=>?_) (F.args_zip_next_1 _))));exact wpAny_bind (wpAny_isInstance (T:="StopIteration") (b:=true) ⟨o,ho,hc⟩ isSubtype_stop (wpAny_pure (hQ _ hk)))
def Zlt (b:Bool):String:=match b with | true=>"list_iterator" | false=>"tuple_iterator"
def zB1 (b1:Bool) (h:Heap) (l1:Addr):Heap:=h.push { cls:=.type (Zlt b1),data:=.fields #[.ref l1,.int 0 0] }
def zB2 (b1 b2:Bool) (h:Heap) (l1 l2:Addr):Heap:=(zB1 b1 h l1).push { cls:=.type (Zlt b2),data:=.fields #[.ref l2,.int 0 0] }
def zB3 (b1 b2:Bool) (h:Heap) (l1 l2:Addr):Heap:=(zB2 b1 b2 h l1 l2).push { cls:=.type "tuple",data:=.seq #[.ref h.objs.size,.ref (zB1 b1 h l1).objs.size] }
def zB4 (b1 b2:Bool) (h:Heap) (l1 l2:Addr):Heap:=(zB3 b1 b2 h l1 l2).push { cls:=.type "tuple",data:=.seq #[.none,.none] }
def zB5 (b1 b2:Bool) (h:Heap) (l1 l2:Addr):Heap:=(zB4 b1 b2 h l1 l2).push { cls:=.type "zip",data:=.fields #[.none,.bool false,.bool false,.ref (zB2 b1 b2 h l1 l2).objs.size,.ref (zB3 b1 b2 h l1 l2).objs.size] }
theorem Zjc (b1 b2:Bool) (l1 l2:Addr) (xs ys:Array Value) :
  Meets (Builtin.«zip.__new__» ⟨[.type "zip",.ref l1,.ref l2],[]⟩) (fun _ R s=>HSq b1 s.heap l1 xs/\HSq b2 s.heap l2 ys/\R (.ok (.ret (.ref (zB4 b1 b2 s.heap l1 l2).objs.size))) { s with heap:=zB5 b1 b2 s.heap l1 l2 }) :=
 .of_wp fun prog w A R s h=>by
  obtain⟨hp,g,d,tk,os⟩:=s;obtain⟨hl1,hl2,h⟩:=h;have hsub:=sub_zip;cases b1 <;> cases b2
  ·have p1:Ydi (Ycg ⟨hp,g,d,tk,os⟩) l1 xs:=hl1;have p2:Ydi (Ycg ⟨hp.push { cls:=.type "tuple_iterator",data:=.fields #[.ref l1,.int 0 0] },g,d,tk,os⟩) l2 ys:=Yel hl2 _
   wp_walk using wpAny_pyIter_tuple p1,wpAny_pyIter_tuple p2
   exact⟨_,rfl,h⟩
  ·have p1:Ydi (Ycg ⟨hp,g,d,tk,os⟩) l1 xs:=hl1;have p2:Yd3 (Ycg ⟨hp.push { cls:=.type "tuple_iterator",data:=.fields #[.ref l1,.int 0 0] },g,d,tk,os⟩) l2 ys:=Yez hl2 _
   wp_walk using wpAny_pyIter_tuple p1,wpAny_pyIter_list p2
   exact⟨_,rfl,h⟩
  ·have p1:Yd3 (Ycg ⟨hp,g,d,tk,os⟩) l1 xs:=hl1;have p2:Ydi (Ycg ⟨hp.push { cls:=.type "list_iterator",data:=.fields #[.ref l1,.int 0 0] },g,d,tk,os⟩) l2 ys:=Yel hl2 _
   wp_walk using wpAny_pyIter_list p1,wpAny_pyIter_tuple p2
   exact⟨_,rfl,h⟩
  ·have p1:Yd3 (Ycg ⟨hp,g,d,tk,os⟩) l1 xs:=hl1;have p2:Yd3 (Ycg ⟨hp.push { cls:=.type "list_iterator",data:=.fields #[.ref l1,.int 0 0] },g,d,tk,os⟩) l2 ys:=Yez hl2 _
   wp_walk using wpAny_pyIter_list p1,wpAny_pyIter_list p2
   exact⟨_,rfl,h⟩
theorem HIt.made {b:Bool}{h:Heap}{it l:Addr} (e:h.get? it=some { cls:=.type (Zlt b),data:=.fields #[.ref l,.int 0 0] }):HIt b h it l 0:=by
 cases b
 ·exact⟨_,e,rfl,rfl⟩
 ·exact⟨_,e,rfl,rfl⟩
theorem Zi1 {b1 b2:Bool}{l1 l2:Addr}{xs ys:Array Value}{Q:Value->Shared->Prop} (hl1:HSq b1 s.heap l1 xs) (hl2:HSq b2 s.heap l2 ys)
  (h:∀ h',IsZip h' (s.heap.objs.size+4) (s.heap.objs.size+2) (s.heap.objs.size+3) .none->IsPair h' (s.heap.objs.size+2) (.ref s.heap.objs.size) (.ref (s.heap.objs.size+1))->IsPair h' (s.heap.objs.size+3) .none .none ->
   HIt b1 h' s.heap.objs.size l1 0->HIt b2 h' (s.heap.objs.size+1) l2 0->(∀ c o,s.heap.get? c=some o->h'.get? c=some o)->Q (.ref (s.heap.objs.size+4)) { s with heap:=h' }):wpAny (model prog w) A (call (.type "zip") [.ref l1,.ref l2]) Q E s:=by
 refine callType_new F.called_zip (by decide) (F.typeCall_zip_2 _ _) (F.newCall_zip_2 _ _) (fun obj=>F.args_object_init_3 obj _ _) F.entry_zip_new (Zjc b1 b2 l1 l2 xs ys) ⟨hl1,hl2,?_⟩;have z1:(zB1 b1 s.heap l1).objs.size=s.heap.objs.size+1:=YaZ ..;have z2:(zB2 b1 b2 s.heap l1 l2).objs.size=s.heap.objs.size+2:=by unfold zB2;rw[YaZ,z1]
 have z3:(zB3 b1 b2 s.heap l1 l2).objs.size=s.heap.objs.size+3:=by unfold zB3;rw[YaZ,z2]
 have z4:(zB4 b1 b2 s.heap l1 l2).objs.size=s.heap.objs.size+4:=by unfold zB4;rw[YaZ,z3]
 have g5:(zB5 b1 b2 s.heap l1 l2).get? (zB4 b1 b2 s.heap l1 l2).objs.size=some _:=Yat _ rfl;have g4:(zB5 b1 b2 s.heap l1 l2).get? (zB3 b1 b2 s.heap l1 l2).objs.size=some _:=Yad _ (Yat _ rfl);have g3:(zB5 b1 b2 s.heap l1 l2).get? (zB2 b1 b2 s.heap l1 l2).objs.size=some _:=Yad _ (Yad _ (Yat _ rfl));have g2:(zB5 b1 b2 s.heap l1 l2).get? (zB1 b1 s.heap l1).objs.size=some _:=Yad _ (Yad _ (Yad _ (Yat _ rfl)));have g1:(zB5 b1 b2 s.heap l1 l2).get? s.heap.objs.size=some _:=Yad _ (Yad _ (Yad _ (Yad _ (Yat _ rfl))));show _/\_;rw[z2,z3,z4] at g5;rw[z1,z2] at g3;rw[z3] at g4;rw[z1] at g2;rw[z4];exact⟨⟨_,g5,rfl⟩,h _ g5 g3 g4 (HIt.made g1) (HIt.made g2) fun c o x=>Yad _ (Yad _ (Yad _ (Yad _ (Yad _ x))))⟩
end
theorem SqB.heap {X:Cx}{b:Bool}{pins:List (Addr × Obj)}{σ:St}{H:Hp}{s:Shared}{a:Addr}{xs:List V} (I:Inv X pins σ H s) (h:SqB b X.K H a xs):∃ its:List Value,Vals xs its/\HSq b s.heap a its.toArray:=by
 cases b
 ·obtain⟨its,r,p,_⟩:=I.tuple h;exact⟨its,r,p⟩
 ·obtain⟨its,r,p,_⟩:=I.list h;exact⟨its,r,p.isList⟩
theorem HSq.lt {b:Bool}{h:Heap}{l:Addr}{xs:Array Value} (x:HSq b h l xs):l<h.objs.size:=by
 cases b
 ·obtain⟨o,e,_⟩:=x;exact Yaj e
 ·obtain⟨o,e,_⟩:=x;exact Yaj e
theorem SqB.inj {X:Cx}{b:Bool}{pins:List (Addr × Obj)}{σ:St}{H:Hp}{s:Shared}{a:Addr}{xs ys:List V} (I:Inv X pins σ H s) (h:SqB b X.K H a xs) (g:SqB b X.K H a ys):xs=ys:=by
 cases b
 ·exact I.tuple_inj h g
 ·exact I.list_inj h g
def ItzB (b1 b2:Bool) (K:Yac) (a b:Addr):It :=
  ⟨fun i H=>∃ xs ys x y,SqB b1 K H a xs/\SqB b2 K H b ys/\xs[i]?=some x/\ys[i]?=some y,
   fun i H z H'=>∃ p x y,H p=none/\z=.ref p/\H'=upd H p (.tup [x,y])/\(∀ xs,SqB b1 K H a xs->xs[i]?=some x)/\∀ ys,SqB b2 K H b ys->ys[i]?=some y,
   fun i H=>∃ xs ys,SqB b1 K H a xs/\SqB b2 K H b ys/\(xs.length<=i∨ys.length<=i)⟩
end L2
namespace L2
open PySem PySem.Spec PyProof.Rows PySem.SeqAt
def Zkd (b1 b2:Bool) (z TI TO i1 i2 l1 l2:Addr) (i:Nat) (h:Heap):Prop:=IsZip h z TI TO .none/\IsPair h TI (.ref i1) (.ref i2)/\(∃ a b,IsPair h TO a b)/\HIt b1 h i1 l1 i/\HIt b2 h i2 l2 i
theorem Zhg {P:Program}{w:World}{K:Yac}{es:List Expr}{x1}{pos:Pos}{b1 b2:Bool}{z TI TO i1 i2 l1 l2:Addr} (D:ZipApart z TI TO i1 i2 l1 l2):Turn P w K (.Tuple es x1 pos) (ItzB b1 b2 K l1 l2) [z,TI,TO,i1,i2] z (Zkd b1 b2 z TI TO i1 i2 l1 l2) where
 mem:=by simp
 obj:=fun i h st b hb=>by
  obtain⟨h1,h2,⟨a,c,h3⟩,h4,h5⟩:=st;simp only[Yah,Ybb,or_false] at hb;rcases hb with rfl | rfl | rfl | rfl | rfl
  ·exact⟨_,h1,fun v q=>nomatch q⟩
  ·exact⟨_,h2,fun v q=>nomatch q⟩
  ·exact⟨_,h3,fun v q=>nomatch q⟩
  ·exact h4.obj
  ·exact h5.obj
 keep:=fun i h h' st k=>by
  obtain⟨h1,h2,⟨a,c,h3⟩,h4,h5⟩:=st;exact⟨k z (by simp) _ h1,k TI (by simp) _ h2,⟨a,c,k TO (by simp) _ h3⟩,h4.at fun o q=>k i1 (by simp) o q,h5.at fun o q=>k i2 (by simp) o q⟩
 item:=by
  intro X hP hw hK hc i pins s σ H E I hf st hg;subst hP hw hK;obtain⟨xs,ys,x,y,hq1,hq2,hx,hy⟩:=hg;obtain⟨its,rv,p⟩:=hq1.heap I;obtain⟨its2,rv2,p2⟩:=hq2.heap I;obtain⟨u,hu,ru⟩:=rv.get hx;obtain⟨u2,hu2,ru2⟩:=rv2.get hy;obtain⟨s1,s2,⟨a,c,s3⟩,s4,s5⟩:=id st;refine ZeQ D s1 s2 s3 s4 s5 p p2 (x:=u) (y:=u2) (by simpa using hu) (by simpa using hu2) fun h' g1 g2 g3 g4 g5 g6 hk=>?_;refine⟨_,rfl,?_⟩;refine wpAny_letOwnedTupleGo_zip g1 fun h'' he hs=>?_;have live:∀ b∈[z,TI,TO,i1,i2],b<s.heap.objs.size:=fun b hb=>by
   obtain⟨h1,h2,⟨a,c,h3⟩,h4,h5⟩:=st;obtain⟨o4,e4,_⟩:=h4.obj;obtain⟨o5,e5,_⟩:=h5.obj;simp only[Yah,Ybb,or_false] at hb;rcases hb with rfl | rfl | rfl | rfl | rfl
   ·exact Yaj h1
   ·exact Yaj h2
   ·exact Yaj h3
   ·exact Yaj e4
   ·exact Yaj e5
  have hsz:s.heap.objs.size≠z:=YbO (live z (by simp));have k:∀ b o,b ∉ [z,TI,TO,i1,i2]->s.heap.get? b=some o->h''.get? b=some o:=fun b o hb q=>by
   simp only[Yah,Ybb,or_false,not_or] at hb;exact (hs.2 b hb.1).trans (hk b o hb.1 hb.2.2.1 hb.2.2.2.1 hb.2.2.2.2 q)
  have st':Zkd b1 b2 z TI TO i1 i2 l1 l2 (i+1) h'':=by
   refine⟨he,(hs.2 TI D.TIz).trans (hk TI _ D.TIz D.TITO D.TIi1 D.TIi2 s2),⟨u,u2,(hs.2 TO D.TOz).trans g2⟩,?_,?_⟩
   ·exact g3.ext hs.extBut D.i1z
   ·exact g4.ext hs.extBut D.i2z
  have th:∀ b∈[z,TI,TO,i1,i2],∃ o,h''.get? b=some o:=fun b hb=>by
   obtain⟨h1,h2,⟨a,c,h3⟩,h4,h5⟩:=st';obtain⟨o4,e4,_⟩:=h4.obj;obtain⟨o5,e5,_⟩:=h5.obj;simp only[Yah,Ybb,or_false] at hb;rcases hb with rfl | rfl | rfl | rfl | rfl
   ·exact⟨_,h1⟩
   ·exact⟨_,h2⟩
   ·exact⟨_,h3⟩
   ·exact⟨_,e4⟩
   ·exact⟨_,e5⟩
  have fresh:H s.heap.objs.size=none:=I.hok.fresh (Yag _);refine⟨.ref s.heap.objs.size,_,I.pairOut (fp:=[z,TI,TO,i1,i2]) (tk:=s.toks) hf k ((hs.2 _ hsz).trans g5) live th ru ru2,rfl,⟨s.heap.objs.size,x,y,fresh,rfl,rfl,fun ys hy=>by rw[hy.inj I hq1];exact hx,fun zs hz=>by rw[hz.inj I hq2];exact hy⟩,st',fun b hb=>?_⟩;rw[Zah (YaB (live b hb))];exact (hf b hb).1
 done:=by
  intro X hP hw hK hc i pins s σ H E I hf st hg;subst hP hw hK;obtain⟨xs,ys,hq1,hq2,hx⟩:=hg;obtain⟨its,rv,p⟩:=hq1.heap I;obtain⟨its2,rv2,p2⟩:=hq2.heap I;obtain⟨s1,s2,⟨a,c,s3⟩,s4,s5⟩:=st;have e1:=rv.length;have e2:=rv2.length;refine ZfG (I.ok.hd hc) D s1 s2 s3 s4 s5 p p2 (by rcases hx with q | q;exact .inl (by simp;omega);exact .inr (by simp;omega)) fun h' hk=>⟨rfl,I.turnedAll (fp:=[z,TI,TO,i1,i2]) (tk:=s.toks) hf fun b o hb q=>?_⟩
  simp only[Yah,Ybb,or_false,not_or] at hb;exact hk b o hb.1 hb.2.2.1 hb.2.2.2.1 hb.2.2.2.2 q
 self:=fun _ _ _ _ _ st h=>wpAny_pyIter_zip st.1 h
def Zm2 (K:Yac) (ta:TA):TI:=fun σ H R=>ta σ H fun vs H1=>∃ b1 b2 a b,vs=[.ref a,.ref b]/\(∃ xs,SqB b1 K H1 a xs)/\(∃ ys,SqB b2 K H1 b ys)/\R (ItzB b1 b2 K a b) H1
theorem Zed {X:Cx}{es:List Expr}{x1}{tpos:Pos}{e f:Expr}{ta:TA}{p pos:Pos} (hg:Gl X "zip") (hm:X.mg "zip"=none) (ha:PA X [e,f] ta) (hs:starEach [e,f] X.env=[(false,eval e X.env),(false,eval f X.env)]:=by rfl) (hs2:starEach [f] X.env=[(false,eval f X.env)]:=by rfl) :
  PI X (.Tuple es x1 tpos) (.Call (.Name "zip" p) [e,f] [] pos) (Zm2 X.K ta):=by
 intro pins s σ H R I h;refine Call_ (ZdN I hg hm (show bootBuiltins "zip"=some (.type "zip") by decide +kernel) (Yb0 (thn (ha pos pins s σ H _ I h) fun us s1 ⟨vs,H1,I1,r1,q1⟩=>?_) (by rw[hs,hs2]) (by rw[hs2];rfl)));obtain⟨b1,b2,a,b,e1,⟨xs,hq⟩,⟨ys,hq2⟩,q⟩:=q1;subst e1;obtain⟨u,u2,rfl,r,r2⟩:=ZkP r1;cases r;cases r2;obtain⟨its,rv,pl⟩:=hq.heap I1;obtain⟨its2,rv2,pl2⟩:=hq2.heap I1;have la:=pl.lt;have lb:=pl2.lt;have ne:∀ {i j:Nat},i≠j->s1.heap.objs.size+i≠s1.heap.objs.size+j:=fun h z=>h (Nat.add_left_cancel z);have nl:∀ {c:Addr} (i:Nat),c<s1.heap.objs.size->c≠s1.heap.objs.size+i:=fun i h=>YaB (Yas h (Yc7 _ _));refine Zi1 pl pl2 fun h' g1 g2 g3 g4 g5 k=>wpAny_pyIter_zip g1 ?_;have D:ZipApart (s1.heap.objs.size+4) (s1.heap.objs.size+2) (s1.heap.objs.size+3) (s1.heap.objs.size+0) (s1.heap.objs.size+1) a b :=
  ⟨ne (by decide),ne (by decide),ne (by decide),ne (by decide),ne (by decide),ne (by decide),ne (by decide),ne (by decide),ne (by decide),ne (by decide),nl 4 la,nl 3 la,nl 0 la,nl 1 la,nl 4 lb,nl 3 lb,nl 0 lb,nl 1 lb⟩
 refine⟨s1.heap.objs.size+4,[s1.heap.objs.size+4,s1.heap.objs.size+2,s1.heap.objs.size+3,s1.heap.objs.size+0,s1.heap.objs.size+1],_,_,H1,rfl,I1.kept (t':=s1.toks) k,Zhg D,⟨g1,g2,⟨_,_,g3⟩,g4,g5⟩,fun c hc=>?_,q⟩;have ge:s1.heap.objs.size<=c:=by
  simp only[Yah,Ybb,or_false] at hc;rcases hc with rfl | rfl | rfl | rfl | rfl <;> exact Yc7 _ _
 exact I1.fpOk ge (I1.hok.fresh ge)
theorem Zgw {b1 b2:Bool}{K:Yac}{own:List Str}{js:List Nat}{g:TG}{tt:TT}{te:TE}{σ:St}{H1:Hp}{Q:VK}{a b:Addr}{xs ys:List V} (hlen:xs.length<=ys.length) (Pv:Addr->Nat->Hp->Prop) (h0:∀ acc,H1 acc=none->Pv acc 0 (upd H1 acc (.lst [])))
  (hl:∀ acc i H,H1 acc=none->i<=xs.length->Pv acc i H->SqB b1 K H a xs/\SqB b2 K H b ys)
  (hs:∀ acc i x y p H,H1 acc=none->xs[i]?=some x->ys[i]?=some y->Pv acc i H->H p=none->g (.ref p) (blkσ own js σ) (upd H p (.tup [x,y])) fun τ H4=>tt τ H4 fun c H5=>
   if c=true then te τ H5 fun y H6=>∃ ys,H6 acc=some (.lst ys)/\ys.length<sizeLine/\(i+1<=xs.length/\Pv acc (i+1) (upd H6 acc (.lst (ys++[y])))) else (i+1<=xs.length/\Pv acc (i+1) H5))
  (hd:∀ acc H,H1 acc=none->Pv acc xs.length H->Q (.ref acc) H):Zbl own js g tt te σ (ItzB b1 b2 K a b) H1 Q:=by
 intro acc hacc;refine⟨fun i H=>i<=xs.length/\Pv acc i H,xs.length,⟨YaR _,h0 acc hacc⟩,?_⟩;rintro i H ⟨hi,p⟩;obtain⟨q1,q2⟩:=hl acc i H hacc hi p;by_cases hlt:i<xs.length
 ·have hl2:i<ys.length:=by omega
  refine .inr ⟨hlt,⟨xs,ys,xs[i],ys[i],q1,q2,by simp[hlt],by simp[hl2]⟩,fun x H' y=>?_⟩;obtain⟨pa,z1,z2,hp,e1,e2,y1,y2⟩:=y;subst e1 e2;exact hs acc i z1 z2 pa H hacc (y1 xs q1) (y2 ys q2) p hp
 ·have e:i=xs.length:=by omega
  subst e;exact .inl ⟨⟨xs,ys,q1,q2,.inl (Yag _)⟩,hd acc H hacc p⟩
end L2
namespace Lv
open PySem L2
theorem ZbI (K:Yac) {X:Cx}{es:List Expr}{k:Nat}{t:TGs}{n:Nat}{pos:Pos} (hc:X.calm=true) (h:PGs X es t) (hK:X.K=K:=by rfl) (hn:(assignEach es X.env).length=n:=by rfl) (hst:(assignEach es X.env).findIdx? (·.1)=none:=by rfl):PG X (.Tuple es k pos) (gTup K n t):=by
 subst hK;exact ZeR hc h hn hst
end Lv
namespace L2
open PySem PySem.Spec PyProof.Rows PySem.SeqAt
theorem ZjB (K:Yac) {X:Cx} (hK:X.K=K:=by rfl):OpR X (binaryOp .Add) (Zl5 K):=by subst hK;exact Zlg
theorem CompOk.bare {X:Cx}{scope:Scope}{own:List Str} (h:((scope.kind == .function) && scope.names.all fun y=>(y.2 != .cell) && (y.2 != .free) && ((y.2 != .local) || (scope.names.lookup y.1 == some .local)))=true):CompOk X scope own []:=by
 simp only[Ybr,beq_iff_eq,Ycj,Yd5,bne_iff_ne,ne_eq] at h;obtain⟨h1,h2⟩:=h;refine⟨h1,fun y hy=>(h2 y hy).1.1,fun y hy hf=>absurd hf (h2 y hy).1.2,fun y hy hl=>?_,fun j hj=>by cases hj⟩;rcases (h2 y hy).2 with z | z
 ·exact absurd hl z
 ·exact z
section
variable {X:Cx}
def LLs (H:Hp) (rs:List Addr) (N:List (List Int)):Prop:=rs.length=N.length/\∀ (j:Nat) r xs,rs[j]?=some r->N[j]?=some xs->H r=some (.lst (xs.map V.int))
def TTs (H:Hp) (rs:List Addr) (N:List (List Int)):Prop:=rs.length=N.length/\∀ (j:Nat) r xs,rs[j]?=some r->N[j]?=some xs->H r=some (.tup (xs.map V.int))
theorem LLs.same {H H':Hp}{rs:List Addr}{N:List (List Int)} (h:LLs H rs N) (s:Same H H'):LLs H' rs N:=⟨h.1,fun j r xs a b=>s _ _ (h.2 j r xs a b)⟩
theorem TTs.same {H H':Hp}{rs:List Addr}{N:List (List Int)} (h:TTs H rs N) (s:Same H H'):TTs H' rs N:=⟨h.1,fun j r xs a b=>s _ _ (h.2 j r xs a b)⟩
theorem TTs.lst {H:Hp}{rs:List Addr}{N:List (List Int)}{acc:Addr}{ys zs:List V} (h:TTs H rs N) (e:H acc=some (.lst zs)):TTs (upd H acc (.lst ys)) rs N:=⟨h.1,fun j r xs a b=>by
 have:=h.2 j r xs a b;rw[Zah (by intro z;subst z;rw[e] at this;cases this)];exact this⟩
theorem Zd9 {α:Type}{xs:List α}{x y:α}{j:Nat} (h:(xs++[x])[j]?=some y):xs[j]?=some y∨(j=xs.length/\y=x):=by
 by_cases hj:j<xs.length
 ·rw[Ya4 hj] at h;exact .inl h
 ·rw[Ya9 (by omega)] at h;have:j - xs.length=0:=by
   cases e:j - xs.length with
   | zero=>rfl
   | succ m=>rw[e] at h;simp at h
  rw[this] at h;exact .inr ⟨by omega,by simpa using h.symm⟩
theorem TTs.snoc {H:Hp}{rs:List Addr}{N:List (List Int)}{r:Addr}{x:List Int} (h:TTs H rs N) (e:H r=some (.tup (x.map V.int))):TTs H (rs++[r]) (N++[x]):=⟨by simp[h.1],fun j r' xs a b=>by
 rcases Zd9 a with a | ⟨a,rfl⟩
 ·rcases Zd9 b with b | ⟨b,_⟩
  ·exact h.2 j r' xs a b
  ·have:=(Yae.mp a).1;have:=h.1;omega
 ·rcases Zd9 b with b | ⟨_,rfl⟩
  ·have:=(Yae.mp b).1;have:=h.1;omega
  ·exact e⟩
theorem Zcu (n:Nat):((YaT n).all fun _=>true)=true:=by simp
end
end L2
namespace Lv
open PySem L2
def fstN (N:List (List Int)):List Int:=(N.headD []).map (·+1)
def ZfM (N:List (List Int)):List (List Int):=(N.tail.map (fstN N++·))++[fstN N]
def num0 (p:Nat):List (List Int):=[0]::Yan (p - 1) []
def num (p:Nat):Nat->List (List Int)
 | 0=>num0 p
 | n+1=>ZfM (num p n)
def lens (N:List (List Int)):List Int:=N.map fun l=>(l.length:Int)
theorem Zio (N:List (List Int)):lens (ZfM N)=Zbw (lens N):=by
 cases N with
 | nil=>simp[lens,ZfM,Zbw,fstN]
 | cons a r=>
  simp[lens,ZfM,Zbw,fstN,Function.comp_def]
theorem Zcp (p:Nat):∀ n,lens (num p n)=cnt p n
 | 0=>by simp[lens,num,num0,cnt,Zcs]
 | n+1=>by
  show lens (ZfM (num p n))=Zbw (cnt p n);rw[Zio,Zcp p n]
theorem Zcb {p:Nat} (hp:1<=p) (n:Nat):(num p n).length=p:=by
 have:=congrArg Ycp (Zcp p n);rw[Zdk hp] at this;simpa[lens] using this
theorem Zmo {c:List Int} (h:∀ x∈c,0<=x) {x:Int} (hx:x∈c):x<=c.sum:=by
 induction c with
 | nil=>cases hx
 | cons a r ih=>
  have nn:∀ l:List Int,(∀ x∈l,0<=x)->0<=l.sum:=by
   intro l
   induction l with
   | nil=>intro _;simp
   | cons x y ih=>
    intro h;rw[Ybk];have:=h x (by simp);have:=ih fun z hz=>h z (by simp[hz]);omega
  rw[Ybk];have ha:=h a (by simp);have hr:∀ x∈r,0<=x:=fun x hx=>h x (by simp[hx]);rcases Yah.mp hx with rfl | hx
  ·have:=nn r hr;omega
  ·have:=ih hr hx;omega
theorem Zia {p n:Nat}{xs:List Int} (h:xs∈num p n):(xs.length:Int)<=tot p n:=by
 refine Zmo (ZcV p n).2 ?_;rw[<- Zcp p n];exact YaW.mpr ⟨xs,h,rfl⟩
theorem ZjN {p:Nat} (hp:2<=p) (n:Nat):∃ a r,num p n=a::r/\a≠[]/\r.length=p - 1:=by
 have h:=Zcb (p:=p) (by omega) n
 cases e:num p n with
 | nil=>rw[e] at h;simp at h;omega
 | cons a r=>
  rw[e] at h;refine⟨a,r,rfl,?_,by simp at h;omega⟩;rintro rfl;have h1:=Zgr hp n;unfold hd at h1;rw[<- Zcp p n,e] at h1;simp[lens] at h1
theorem ZbF {n:Nat} (h:n<=8000):n<sizeLine:=YcU h (by decide)
theorem ZmE {p:Nat} (hp:2<=p) (h7:p<=7):4000<tot p 20:=by
 have:p=2∨p=3∨p=4∨p=5∨p=6∨p=7:=by omega
 rcases this with rfl | rfl | rfl | rfl | rfl | rfl <;> decide +kernel
theorem Zlq {p n:Nat} (hp:2<=p) (h7:p<=7) (h:tot p n<=4000):n<=19:=by
 refine Classical.byContradiction fun z=>?_;have:=Zcj hp (show 20<=n by omega);have:=ZmE hp h7;omega
def ZdY:Sp:=fun vs H Q _=>∃ p n:Nat,vs=[.int p,.int n]/\2<=p/\p<=7/\n<=300/\tot p n<=4000/\∀ H',Same H H'->Q .non H'
def ZdZ:Sp:=fun vs H Q _=>∃ (a:Addr) (rs:List Addr) (N:List (List Int)),vs=[.ref a]/\H a=some (.tup (rs.map V.ref))/\TTs H rs N/\2<=N.length/\N.length<=7/\N.headD []≠[]/\(∀ xs∈N,xs.length<=4000) /\
 ∀ l qs H',H l=none->H' l=some (.tup (qs.map V.ref))->TTs H' qs (ZfM N)->Same H H'->Q (.ref l) H'
def Zfz:Sp:=fun vs H Q _=>∃ p n:Nat,vs=[.int p,.int n]/\2<=p/\p<=7/\n<=300/\tot p n<=4000/\∀ l qs H',H l=none->H' l=some (.tup (qs.map V.ref))->TTs H' qs (num p n)->Same H H'->Q (.ref l) H'
theorem ZhF {α:Type}{n j:Nat}{x y:α} (h:(Yan n x)[j]?=some y):y=x:=by
 rw[Yb1] at h;split at h
 ·exact (YaF h).symm
 ·cases h
theorem Zbx {rs:List Addr}{i:Nat}{x:V} (h:(rs.map V.ref)[i]?=some x):∃ r,rs[i]?=some r/\x=.ref r:=by
 rw[Yam] at h
 cases e:rs[i]? with
 | none=>rw[e] at h;cases h
 | some p=>rw[e] at h;exact⟨p,rfl,(YaF h).symm⟩
def ZkT:Sp:=fun vs H Q _=>∃ i,vs=[.int i]/\i<=4000/\Q .non H
def Zd4:Sp:=fun vs H Q _=>∃ p:Nat,vs=[.int p]/\2<=p/\p<=7/\∀ l qs H',H l=none->H' l=some (.tup (qs.map V.ref))->TTs H' qs (num0 p)->Same H H'->Q (.ref l) H'
def ZfD (fn:Addr):Sp:=fun vs H Q _=>∃ p n:Nat,vs=[.int p,.int n,.ref fn]/\2<=p/\p<=7/\n<=300/\tot p n<=4000/\∀ l qs H',H l=none->H' l=some (.tup (qs.map V.ref))->TTs H' qs (num p n)->Same H H'->Q (.ref l) H'
end Lv
namespace Lv
open PySem L2 PySem.Spec PyProof.Rows
structure FunD (K:Yac) (x qual:Str) (st:Stmt) (f da:Addr) (fd:FuncData):Prop where
 ex:∃ (oc:Value) (od:Option Addr) (kV doc pm:Value) (an:Option Addr) (cdv ct:Value) (osl:Array (Option Value)),
  fd=YaE x qual (Zam st) (Zaj st) (Zad st) (.ref da) kV doc pm an cdv ct/\K.lookup f=some ⟨oc,od,.func fd,osl⟩/\YaD K cdv qual=true
 kp:Yav K (.ref f)=true
section
variable {P:Program}{w:World}{K:Yac}{mg:Str->Option Value}{base:Heap}
theorem FunD.ok {x qual:Str}{st:Stmt}{f da:Addr}{fd:FuncData}{N ps:List Str}{k:Nat}{sp:Sp} (F:FunD K x qual st f da fd) (S:FnScope N ps (Zad st)) (len:∀ vs H Q E,sp vs H Q E->vs.length=ps.length)
  (hbody:∀ (cdv:Value) (A:Around) (outer:List Env) (s:Shared) (H:Hp) (vs:List V) (Q:VK) (E:XK),Room k (A.deeper (envOfC qual (Zad st) s.heap.objs.size f cdv))->sp vs H Q E ->
   ∃ t,PSs (cxOf CX0 P w K mg base N qual (Zad st) f cdv A outer s H E).nox (Zaj st) t/\t { nx:=fun _ H'=>Q .non H',rt:=Q } (start N vs) H):FnOk P w K mg base CX0 (k+1) f fd ps sp:=by
 obtain⟨oc,od,kV,doc,pm,an,cdv,ct,osl,rfl,lk,hcd⟩:=F.ex;refine ZjZ lk hcd S len fun A outer s H vs Q E hr hsp=>?_;obtain⟨t,h,q⟩:=hbody cdv A outer s H vs Q E hr hsp;exact⟨t,h.nox,q⟩
theorem FunD.binds {x qual:Str}{st:Stmt}{f da:Addr}{fd:FuncData}{ps:List Str}{o:Obj}{items:Array Value}{n:Nat} (F:FunD K x qual st f da fd) (ho:K.lookup da=some o) (hs:o.data=.seq items n) (ds:List Value) (qs:List Str) (hq:qs.length+ds.length=ps.length)
  (h:∀ (kV doc pm:Value) (an:Option Addr) (cdv ct:Value) (us:List Value),us.length=qs.length ->
   ∃ k:Option (Array Value)->Sem (List (Str × Value)),bindArgs (YaE x qual (Zam st) (Zaj st) (Zad st) (.ref da) kV doc pm an cdv ct) ⟨us,[]⟩=seqItems? (.ref da) >>= k/\k (some items)=pure (ps.zip (us++ds))):Binds K fd ps ds:=by
 obtain⟨oc,od,kV,doc,pm,an,cdv,ct,osl,rfl,lk,hcd⟩:=F.ex;intro s us X hl;obtain⟨k,h1,h2⟩:=h kV doc pm an cdv ct us (by rw[Yai] at hl;omega);exact PySem.W.binds_K X rfl ho hs h1 h2
theorem Zly {x qual:Str}{st:Stmt}{f da:Addr}{oc:Value}{od an:Option Addr}{osl:Array (Option Value)}{kV doc pm cdv ct:Value} (l:K.lookup f=some ⟨oc,od,.func (YaE x qual (Zam st) (Zaj st) (Zad st) (.ref da) kV doc pm an cdv ct),osl⟩)
  (c:YaD K cdv qual=true) (k:Yav K (.ref f)=true):FunD K x qual st f da (YaE x qual (Zam st) (Zaj st) (Zad st) (.ref da) kV doc pm an cdv ct):=⟨⟨oc,od,kV,doc,pm,an,cdv,ct,osl,rfl,l,c⟩,k⟩
end
structure CalD (P:Program) (w:World) (K:Yac) (mg:Str->Option Value) (base:Heap) (k:Nat) (x:Str) (ps:List Str) (dvs:List V) (sp:Sp) (f:Addr) (fd:FuncData):Prop where
 ok:FnOk P w K mg base CX0 k f fd ps sp
 mg:mg x=some (.ref f)
 kp:Yav K (.ref f)=true
 bd:∃ ds,Binds K fd ps ds/\Vals dvs ds
theorem Zlb {X:Cx}{k:Nat}{x:Str}{ps:List Str}{dvs:List V}{sp:Sp}{f:Addr}{fd:FuncData}{e:Expr}{es:List Expr}{t:TA}{p pos:Pos} (C:CalD X.prog X.w X.K X.mg X.base k x ps dvs sp f fd) (hr:Room k X.A) (hg:Gl X x) (ha:PA X (e::es) t)
  (hdb:(x == ("__debug__":Str))=false:=by decide) (he:starEach (e::es) X.env=(false,eval e X.env)::starEach es X.env:=by rfl) (hpl:(backTo pos (starEach es X.env)).any (·.1)=false:=by rfl) :
  PE X (.Call (.Name x p) (e::es) [] pos) (Zhp sp dvs E0 t):=by
 obtain⟨ds,h1,h2⟩:=C.bd;exact ZfK C.ok hr hg C.mg C.kp h1 h2 Zle ha hdb he hpl
def ZlW (j:Nat) (f:Addr) (t:TE):TE:=fun σ H Q=>σ[j]?=some (some (.ref f))/\t σ H Q
theorem Zla {X:Cx}{k:Nat}{x y:Str}{ps:List Str}{sp:Sp}{f:Addr}{fd:FuncData}{e:Expr}{es:List Expr}{t:TA}{p pos:Pos} (j:Nat) (C:Cal X.prog X.w X.K X.mg X.base k y ps sp f fd) (hr:Room k X.A) (ha:PA X (e::es) t) (hN:X.N[j]?=some x:=by rfl) (hv:Vis X.env.scope x:=by first | exact YaQ rfl | exact Ydc (YaQ rfl) | exact Ydc (Ydc rfl))
  (hdb:(x == ("__debug__":Str))=false:=by decide) (hcd:(x == ("__classdict__":Str))=false:=by decide) (he:starEach (e::es) X.env=(false,eval e X.env)::starEach es X.env:=by rfl) (hpl:(backTo pos (starEach es X.env)).any (·.1)=false:=by rfl) :
  PE X (.Call (.Name x p) (e::es) [] pos) (ZlW j f (Zhp sp [] E0 t)):=by
 intro pins s σ H Q I h;obtain⟨h0,h⟩:=h;refine wpAny_Call_Name_kw ?_;refine thn (Zks hN hv hdb hcd pins s σ H (fun v H1=>v=.ref f/\t σ H1 fun vs H2=>sp (vs++[]) H2 Q E0) I ⟨_,h0,rfl,h⟩) fun u s1 ⟨v,H1,I1,r,ev,q⟩=>?_;subst ev;obtain rfl:u=YaL f:=r;refine YeE (h₀:=X.base) I.ok.mod.kin C.kp (thn (ha pos pins s1 σ H1 _ I1 q) fun us s2 ⟨vs,H2,I2,r2,q2⟩=>⟨I2.kIn,?_⟩) he hpl;exact Zkm C.ok hr C.bd .nil Zle I2 r2 q2
theorem Zl9 {X:Cx}{k:Nat}{x:Str}{ps:List Str}{sp:Sp}{f:Addr}{fd:FuncData}{pos:Pos} (C:Cal X.prog X.w X.K X.mg X.base k x ps sp f fd) (hg:Gl X x) (hd:(x == ("__debug__":Str))=false:=by decide):PE X (.Name x pos) (tC (.ref f)) :=
 ZfI hg C.mg rfl hd
def Zd0:Sp:=fun vs H Q _=>∃ i m,vs=[.int i,.int m]/\0<=i/\i<=m/\Q .non H
end Lv
namespace L2
open PySem PySem.Spec PyProof.Rows
def DK (h h':Heap):Prop:=∀ (b:Nat) (o:Obj),h.objs[b]?=some o->∃ o':Obj,h'.objs[b]?=some o'/\o'.dict=o.dict
theorem DK.refl (h:Heap):DK h h:=fun _ o e=>⟨o,e,rfl⟩
theorem DK.trans {a b c:Heap} (x:DK a b) (y:DK b c):DK a c:=fun i o e=>by
 obtain⟨o1,e1,d1⟩:=x i o e;obtain⟨o2,e2,d2⟩:=y i o1 e1;exact⟨o2,e2,d2.trans d1⟩
theorem Zko {h:Heap}{a:Addr}{o:Obj} (e:h.get? a=some o):h.objs[a]?=some o:=(Heap.get?_some_iff.mp e).1
theorem DK.at {h h':Heap}{a:Addr}{o o':Obj} (x:DK h h') (e:h.get? a=some o) (e':h'.get? a=some o'):o'.dict=o.dict:=by
 obtain⟨o2,q1,q2⟩:=x a o (Zko e);rw[Zko e'] at q1;cases q1;exact q2
theorem DK.push (h:Heap) (o:Obj):DK h (h.push o):=fun b ob e=>⟨ob,by
 have hb:b<h.objs.size:=(YaP.mp e).1
 unfold Heap.push;show (h.objs.push o)[b]?=some ob;rw[Array.getElem?_push_lt hb];exact (YaP.mp e).2 ▸ rfl,rfl⟩
theorem DK.update (h:Heap) (a:Addr) (f:Obj->Obj) (hf:∀ o,(f o).dict=o.dict):DK h (h.update a f):=fun b ob e=>by
 by_cases z:a=b
 ·subst z;exact⟨f ob,by unfold Heap.update;simp[Ydd,e],hf ob⟩
 ·exact⟨ob,by unfold Heap.update;simp[Ydd,z,e],rfl⟩
def DC {α:Type}:Sem α->Prop
 | .pure _=>True
 | .raise _=>True
 | .unsupported _=>True
 | .rule _ k=>DC (k ())
 | .at _ k=>DC (k ())
 | .load _ _ k=>∀ o,DC (k o)
 | .update _ _ f k=>(∀ o,(f o).dict=o.dict)/\DC (k ())
 | .alloc _ k=>∀ a,DC (k a)
 | .loadIfAlive _ k=>∀ o,DC (k o)
 | .point _ k=>DC (k ())
 | .fresh k=>∀ t,DC (k t)
 | .ask k=>∀ x,DC (k x)
 | .handled _ k=>∀ v,DC (k v)
 | .stack k=>∀ l,DC (k l)
 | _=>False
theorem Zbk {α β:Type}{m:Sem α}{f:α->Sem β} (hm:DC m) (hf:∀ a,DC (f a)):DC (m >>= f):=by
 show DC (m.bind f)
 induction m with
 | pure a=>exact hf a
 | raise e=>trivial
 | unsupported w=>trivial
 | rule t k ih=>exact ih () hm
 | «at» p k ih=>exact ih () hm
 | load a p k ih=>exact fun o=>ih o (hm o)
 | update a p g k ih=>exact⟨hm.1,ih () hm.2⟩
 | alloc o k ih=>exact fun a=>ih a (hm a)
 | loadIfAlive a k ih=>exact fun o=>ih o (hm o)
 | point l k ih=>exact ih () hm
 | fresh k ih=>exact fun a=>ih a (hm a)
 | ask k ih=>exact fun a=>ih a (hm a)
 | handled w k ih=>exact fun a=>ih a (hm a)
 | stack k ih=>exact fun a=>ih a (hm a)
 | finish _=>exact hm.elim
 | register _ _ _=>exact hm.elim
 | choose _ _ _ _=>exact hm.elim
 | os _ _ _ _=>exact hm.elim
 | call _ _ _ _ _ _=>exact hm.elim
 | newGen _ _ _=>exact hm.elim
 | genState _ _ _=>exact hm.elim
 | resume _ _ _ _ _=>exact hm.elim
 | yield _ _ _ _ _=>exact hm.elim
 | fork _ _ _=>exact hm.elim
 | thread _ _=>exact hm.elim
 | await _ _ _ _ _ _=>exact hm.elim
theorem ZmD {α:Type} (M:Model) (Γ:PySem.Ctx) {t:Sem α} (d:DC t):∀ (Q:α->Pos->Shared->Prop) (E:Value->Pos->Shared->Prop) (p:Pos) (s:Shared),Sem.wp M Γ t Q E p s ->
  Sem.wp M Γ t (fun a p' s'=>Q a p' s'/\DK s.heap s'.heap) (fun e p' s'=>E e p' s'/\DK s.heap s'.heap) p s:=by
 have up:∀ {α:Type}{t:Sem α}{Q:α->Pos->Shared->Prop}{E:Value->Pos->Shared->Prop}{p:Pos}{s:Shared}{h0 h1:Heap},DK h0 h1 ->
   Sem.wp M Γ t (fun a p' s'=>Q a p' s'/\DK h1 s'.heap) (fun e p' s'=>E e p' s'/\DK h1 s'.heap) p s->Sem.wp M Γ t (fun a p' s'=>Q a p' s'/\DK h0 s'.heap) (fun e p' s'=>E e p' s'/\DK h0 s'.heap) p s:=fun k h=>
  Sem.wp_mono M Γ _ (fun _ _ _ z=>⟨z.1,k.trans z.2⟩) (fun _ _ _ z=>⟨z.1,k.trans z.2⟩) _ _ h
 induction t with
 | pure a=>exact fun _ _ _ _ h=>⟨h,.refl _⟩
 | raise e=>exact fun _ _ _ _ h=>⟨h,.refl _⟩
 | unsupported w=>exact fun _ _ _ _ h=>h
 | rule t k ih=>exact fun _ _ _ _ h=>ih () d _ _ _ _ h
 | «at» p k ih=>exact fun _ _ _ _ h=>ih () d _ _ _ _ h
 | load a p k ih=>exact fun _ _ _ _ ⟨o,ho,h⟩=>⟨o,ho,ih o (d o) _ _ _ _ h⟩
 | update a p g k ih=>exact fun _ _ _ _ ⟨ho,h⟩=>⟨ho,up (.update _ _ _ d.1) (ih () d.2 _ _ _ _ h)⟩
 | alloc o k ih=>exact fun _ _ _ _ h=>up (.push _ _) (ih _ (d _) _ _ _ _ h)
 | loadIfAlive a k ih=>exact fun _ _ _ _ h=>ih _ (d _) _ _ _ _ h
 | point l k ih=>exact fun _ _ _ _ h=>ih () d _ _ _ _ h
 | fresh k ih=>exact fun _ _ _ _ h=>ih _ (d _) _ _ _ _ h
 | ask k ih=>exact fun _ _ _ _ h=>ih _ (d _) _ _ _ _ h
 | handled w k ih=>exact fun _ _ _ _ h=>ih _ (d _) _ _ _ _ h
 | stack k ih=>exact fun _ _ _ _ h=>ih _ (d _) _ _ _ _ h
 | finish _=>exact d.elim
 | register _ _ _=>exact d.elim
 | choose _ _ _ _=>exact d.elim
 | os _ _ _ _=>exact d.elim
 | call _ _ _ _ _ _=>exact d.elim
 | newGen _ _ _=>exact d.elim
 | genState _ _ _=>exact d.elim
 | resume _ _ _ _ _=>exact d.elim
 | yield _ _ _ _ _=>exact d.elim
 | fork _ _ _=>exact d.elim
 | thread _ _=>exact d.elim
 | await _ _ _ _ _ _=>exact d.elim
theorem Zch {α:Type}{M:Model}{A:Around}{t:Sem α}{Q:α->Shared->Prop}{E:Value->Shared->Prop}{s:Shared} (d:DC t) (h:wpAny M A t (fun a s'=>DK s.heap s'.heap->Q a s') (fun e s'=>DK s.heap s'.heap->E e s') s):wpAny M A t Q E s :=
 fun Γ p hΓ=>Sem.wp_mono M Γ t (fun _ _ _ z=>z.1 z.2) (fun _ _ _ z=>z.1 z.2) p s (ZmD M Γ d _ _ _ _ (h Γ p hΓ))
theorem ZfS {a:Addr}:DC (load a):=fun _=>trivial
theorem Zeq:DC stack:=fun _=>trivial
theorem ZlE {o:Obj}{f:Array Value->Array Value}:(Obj.mapFields f o).dict=o.dict:=by
 unfold Obj.mapFields;split <;> rfl
theorem Zer {v:Value}{i:Nat}:DC (field v i):=by
 unfold field fieldsOf
 repeat (first | trivial | exact ZfS | (refine Zbk ?_ fun _=>?_) | split)
theorem Zdi {v:Value}{i:Nat}{x:Value}:DC (setField v i x):=by
 unfold setField updateField
 repeat (first | trivial | exact ZfS | exact⟨fun _=>ZlE,trivial⟩ | (refine Zbk ?_ fun _=>?_) | split)
theorem ZbL {v:Value}{f:Option Addr}:DC (setFlight v f):=by
 unfold setFlight
 repeat (first | trivial | exact Zer | exact Zdi | (refine Zbk ?_ fun _=>?_) | split)
theorem Zgv:∀ l:List Env,DC (readyFrames l)
 | []=>trivial
 | env::outer=>by
  unfold readyFrames behindIsImport keptBack underTheClaimsCaller
  repeat (first | trivial | exact ZfS | exact Zeq | exact Zer | exact Zgv outer | exact⟨fun _=>rfl,trivial⟩ | (refine Zbk ?_ fun _=>?_) | split)
theorem Zg8 {env:Env}:DC (PySem.frameOf env):=by
 unfold PySem.frameOf frameEnvs;refine Zbk (Zbk Zeq fun _=>trivial) fun l=>Zbk ?_ fun o=>?_
 ·generalize (List.dropWhile (fun x=>x.frame != env.frame) l)=m
  cases m with
  | nil=>trivial
  | cons e r=>exact Zbk (Zgv _) fun _=>trivial
 ·split <;> trivial
theorem ZcK {e:Value}{env:Env}:DC (noteFrame e env):=by
 unfold noteFrame EntryCells.newEntry newFields newObj newObjAsIs entryPlaceOf
 repeat (first | trivial | exact Zer | exact Zdi | exact Zg8 | exact Zeq | exact fun _=>trivial | (refine Zbk ?_ fun _=>?_) | split)
theorem ZdS {e:Value}{env:Env}:DC (leaving env e):=Zbk ZcK fun _=>ZbL
end L2
namespace L2
open PySem PySem.Spec PyProof.Rows
theorem ObjOk.there {P:Program}{w:World}{H:Hp}{h:Heap}{a:Addr}{o:HO} (x:ObjOk P w H h a o):∃ ob,h.get? a=some ob:=by
 cases o with
 | lst xs=>obtain⟨_,_,_,_,e⟩:=x;exact⟨_,e⟩
 | tup xs=>obtain⟨_,_,_,o,e,_⟩:=x;exact⟨_,e⟩
 | dK kvs=>obtain⟨_,_,_,_,o,_,_,e,_⟩:=x;exact⟨_,e⟩
 | dT kvs=>obtain⟨_,_,_,_,o,_,_,e,_⟩:=x;exact⟨_,e⟩
 | set S n=>obtain⟨o,_,_,_,e,_⟩:=x;exact⟨_,e⟩
 | ins C dx fs=>obtain⟨_,_,_,e,_⟩:=x;exact⟨_,e⟩
 | own y=>exact x
 | xd fs=>obtain⟨_,⟨_,_,_,e,_⟩,_⟩:=x;exact⟨_,e⟩
 | rng lo hi=>obtain⟨_,_,_,e⟩:=x;exact⟨_,e⟩
 | frz ob u=>obtain⟨e,_⟩:=x;exact⟨_,e⟩
 | tbl ps=>exact⟨_,(show h.get? a=some _ from x)⟩
 | met f y=>exact⟨_,(show h.get? a=some _ from x)⟩
 | ext φ=>obtain⟨_,e,_⟩:=x;exact e
theorem HOk.none_of {P:Program}{w:World}{H:Hp}{h:Heap}{a:Addr} (x:HOk P w H h) (e:h.get? a=none):H a=none:=by
 cases q:H a with
 | none=>rfl
 | some o=>obtain⟨ob,z⟩:=(x a o q).there;rw[e] at z;cases z
def Zce (h:Heap):List Addr->Heap
 | []=>h
 | a::r=>(Zce h r).hide a
theorem ZaV {h:Heap}:∀ {l:List Addr}{a:Addr},a∈l->(Zce h l).get? a=none
 | b::r,a,m=>by
  by_cases e:a=b
  ·subst e;exact Heap.hide_self _ _
  ·rw[Zce,Heap.hide_ne _ e];exact ZaV ((Yah.mp m).resolve_left e)
theorem ZbT {h:Heap}:∀ {l:List Addr}{a:Addr},a ∉ l->(Zce h l).get? a=h.get? a
 | [],_,_=>rfl
 | b::r,a,n=>by
  rw[Zce,Heap.hide_ne _ (fun e=>n (by rw[e];exact YaC))];exact ZbT fun z=>n (Yap _ z)
theorem Zcd {h:Heap}{l:List Addr}:(Zce h l).StaysIn h:=fun b o e=>by
 by_cases m:b∈l
 ·rw[ZaV m] at e;cases e
 ·rwa [ZbT m] at e
theorem Zbz {h base B:Heap}:∀ {l:List Env},h.FunFrames base l->(∀ b∈frs l,B.get? b=none)->h.FunFrames B l
 | [],_,_=>trivial
 | env::rest,⟨hk,⟨L,o,hf,hn,ho,hd⟩,hr⟩,n=>⟨hk,⟨L,o,hf,n L (by unfold frs;rw[Ybo,hf];exact YaC),ho,hd⟩,Zbz hr fun b hb=>n b (by
   unfold frs;rw[Ybo,hf];exact Yap _ hb)⟩
theorem Un.hide {fs Z:List Addr}{H H':Hp}{h h1 h2:Heap} (u:Un fs [] H H' h h1) (hz:∀ z∈Z,z∈fs∨h.get? z=none) (k:∀ b o,h1.get? b=some o->b ∉ Z->h2.get? b=some o)
  (ks:∀ b∈fs,∀ o,h1.get? b=some o->∃ sl,h2.get? b=some { o with slots:=sl }):Un fs [] H H' h h2 where
 keep:=fun b o e n hb hx=>k b o (u.keep b o e n hb hx) fun z=>by
  rcases hz b z with y | y
  ·exact hb y
  ·rw[e] at y;cases y
 slot:=fun b o e n hb hx=>by
  obtain⟨sl,e1⟩:=u.slot b o e n hb hx;obtain⟨sl',e2⟩:=ks b hb _ e1;exact⟨sl',e2⟩
 free:=u.free
 there:=fun b o e hx=>by
  obtain⟨o',e1⟩:=u.there b o e hx;by_cases m:b∈Z
  ·rcases hz b m with y | y
   ·obtain⟨sl,e2⟩:=ks b y _ e1;exact⟨_,e2⟩
   ·rw[e] at y;cases y
  ·exact⟨_,k b _ e1 m⟩
 tups:=u.tups
 frzs:=u.frzs
 tbls:=u.tbls
theorem HOk.hide {P:Program}{w:World}{H:Hp}{h1 h2:Heap}{Z:List Addr} (x:HOk P w H h1) (hz:∀ z∈Z,H z=none) (k:∀ b o,h1.get? b=some o->b ∉ Z->h2.get? b=some o):HOk P w H h2:=fun a o e=>
 (x a o e).stay (fun b u hb hu=>k b u hu fun z=>by
  have:=hz b z;rcases hb with rfl | hb
  ·rw[e] at this;cases this
  ·rw[hb] at this;cases this) (fun _ z=>z) fun _ _ z=>z
def Fly (H:Hp) (h0 h:Heap) (ea:Addr) (cls:Value) (od:Option Addr) (fl:Value):Prop :=
 ∃ (a0:Value) (T:Addr) (oe oT:Obj) (vs ts:Array Value),(H ea=none/\H T=none/\h0.get? ea=none/\h0.get? T=none) /\
  h.get? ea=some oe/\((oe.cls=cls/\vs[0]?=some a0)/\oe.dict=od)/\oe.data=.fields vs/\vs[1]?=some (.ref T)/\T≠ea/\h.get? T=some oT/\oT.data=.fields ts/\ts[3]?=some fl
def CX1 (P:Program) (w:World):CXT:=fun outer H s E e s'=>∃ (ea:Addr) (cls:Value) (od:Option Addr) (H':Hp),e=.ref ea/\s'.os=s.os/\AllBare s'.gens/\Un (frs outer) [] H H' s.heap s'.heap/\HOk P w H' s'.heap/\Fly H' s.heap s'.heap ea cls od .none/\E cls od H'
theorem ZkC {P:Program}{w:World}{l:List Env}{H:Hp}{h0 h1 h2 base:Heap}{ea:Addr}{cls a0 fl:Value}{od:Option Addr}{Z:List Addr} (hok:HOk P w H h1) (hZ:∀ z∈Z,z ∉ frs l->z≠ea->H z=none/\h0.get? z=none) (hea:H ea=none) (he0:h0.get? ea=none)
  (hl:h1.FunFrames base l) (hs:h1.UpToSlots h2) (h01:∀ b o,h0.get? b=some o->∃ o',h1.get? b=some o') (t:h2.TracedAtW (Zce h1 Z) ea cls a0 fl) (hod:∀ o,h2.get? ea=some o->o.dict=od):Fly H h0 h2 ea cls od fl:=by
 obtain⟨oe,vs,T,oT,ts,he,hc,hd,hv1,hnT,hTe,hT,hdT,h3⟩:=t;refine⟨a0,T,oe,oT,vs,ts,?_,he,⟨hc,hod oe he⟩,hd,hv1,hTe,hT,hdT,h3⟩;have hTf:T ∉ frs l:=fun m=>by
  obtain⟨_,o,ho,hnf⟩:=hl.mem m;obtain⟨sl,hs'⟩:=hs T o ho hnf;rw[hT] at hs';cases hs';exact hnf ts hdT
 by_cases m:T∈Z
 ·obtain⟨q1,q2⟩:=hZ T m hTf hTe;exact⟨hea,q1,he0,q2⟩
 ·rw[ZbT m] at hnT;refine⟨hea,hok.none_of hnT,he0,?_⟩
  cases q:h0.get? T with
  | none=>rfl
  | some o=>obtain⟨o',z⟩:=h01 T o q;rw[hnT] at z;cases z
def ZmA (X:Cx) (E:XK):Prop:=∀ (pins:List (Addr × Obj)) (σ:St) (H:Hp) (s:Shared) (ea:Addr) (oe:Obj) (vs:Array Value) (a0:Value),Inv X pins σ H s->H ea=none->X.s₀.heap.get? ea=none->s.heap.get? ea=some oe->oe.data=.fields vs->vs[1]?=some .none->vs[0]?=some a0->E oe.cls oe.dict H->X.xe (.ref ea) s
section
variable {P:Program}{w:World}{K:Yac}{mg:Str->Option Value}{base:Heap}{N:List Str}{qual:Str}{scope:Scope}{f:Addr}{cd:Value}{A:Around}{outer:List Env}{s:Shared}{H:Hp}{E:XK}
theorem Zkw (X:Cx) (hs:X.stack=X.env::X.outer) (hf:X.env.frame=some X.env.locals):frs X.stack=X.env.locals::X.fs:=by
 unfold Cx.fs frs;rw[hs,Ybo,hf]
theorem Zf4:ZmA (cxOf (CX1 P w) P w K mg base N qual scope f cd A outer s H E) E:=by
 intro pins σ H1 s1 ea oe vs a0 I hea hen he hd h1 h0 hE
 let X:=cxOf (CX1 P w) P w K mg base N qual scope f cd A outer s H E
 have hst:frs X.stack=X.env.locals::X.fs:=Zkw X rfl rfl;have hfr:X.A.frames=some (X.env::outer):=I.ok.frames;have hff:s1.heap.FunFrames X.base X.stack:=I.stack;have hB:∀ b∈frs X.stack,(Zce s1.heap (ea::frs X.stack)).get? b=none:=fun b hb=>ZaV (Yap _ hb);refine Zch ZdS (wpAny_leaving_firstW (base:=Zce s1.heap (ea::frs X.stack)) hfr (Zbz hff hB) rfl he Zcd (ZaV YaC) hd h1 h0 fun h' hL dk=>?_);obtain⟨k1,k2,k3,k4⟩:=hL;have hkeep:∀ b o,s1.heap.get? b=some o->b ∉ (ea::frs X.stack)->h'.get? b=some o:=fun b o e n=>k1 b o (by rw[ZbT n];exact e);have hloc:X.s₀.heap.get? X.env.locals=none:=Ydn I.ok.above;have hzl:∀ z∈ea::frs X.stack,z∈frs outer∨X.s₀.heap.get? z=none:=fun z hz=>by
  rcases Yah.mp hz with rfl | hz
  ·exact .inr hen
  ·rw[hst] at hz;rcases Yah.mp hz with rfl | hz
   ·exact .inr hloc
   ·exact .inl hz
 refine⟨ea,oe.cls,oe.dict,H1,rfl,I.os,I.bare,Un.hide (Z:=ea::frs X.stack) I.base hzl hkeep ?_,I.hok.hide (Z:=ea::frs X.stack) ?_ hkeep,?_,hE⟩
 ·intro b hb o e;have hm:b∈frs X.stack:=by rw[hst];exact Yap _ hb
  obtain⟨_,o',ho',hnf⟩:=hff.mem hm;rw[e] at ho';cases ho';exact k4 b o e hnf
 ·intro z hz;rcases Yah.mp hz with rfl | hz
  ·exact hea
  ·exact I.stkFree z hz
 ·refine ZkC (l:=X.stack) (Z:=ea::frs X.stack) I.hok (fun z hz hf hne=>?_) hea hen hff k4 (fun b o e=>I.base.there b o e (by intro z;cases z)) k3 (fun o q=>dk.at he q);rcases Yah.mp hz with z | z
  ·exact absurd z hne
  ·exact absurd z hf
theorem Zbv:ZdW (CX1 P w) (cxOf (CX1 P w) P w K mg base N qual scope f cd A outer s H E) E:=by
 intro pins σ H1 s1 e s' I hcx;obtain⟨ea,cls,od,H',rfl,os',bare',un',hok',hfly,hE⟩:=hcx
 let X:=cxOf (CX1 P w) P w K mg base N qual scope f cd A outer s H E
 have J:Inv X pins σ H' s':=I.call' (ch:=[]) os' un' hok' bare' fun b z=>absurd z (by simp);obtain⟨a0,T,oe,oT,vs,ts,⟨f1,f2,f3,f4⟩,he,⟨hc,hod⟩,hd,hv1,hTe,hT,hdT,h3⟩:=hfly;have hst:frs X.stack=X.env.locals::X.fs:=Zkw X rfl rfl;have hfr:X.A.frames=some (X.env::outer):=J.ok.frames;have hff:s'.heap.FunFrames X.base X.stack:=J.stack;have h01:∀ b o,X.s₀.heap.get? b=some o->∃ o',s1.heap.get? b=some o':=fun b o e=>I.base.there b o e (by intro z;cases z);have n0:∀ z,s1.heap.get? z=none->X.s₀.heap.get? z=none:=fun z e=>by
  cases q:X.s₀.heap.get? z with
  | none=>rfl
  | some o=>obtain⟨o',y⟩:=h01 z o q;rw[e] at y;cases y
 let Z:=ea::T::frs X.stack
 have hB:∀ b∈frs X.stack,(Zce s'.heap Z).get? b=none:=fun b hb=>ZaV (Yap _ (Yap _ hb));refine Zch ZdS (wpAny_leaves_onW (base:=Zce s'.heap Z) hfr rfl ⟨Zcd,ZaV YaC,Zbz hff hB,⟨oe,vs,T,oT,ts,he,hc,hd,hv1,ZaV (Yap _ YaC),hTe,hT,hdT,h3⟩⟩ fun h' hL k4 dk=>?_);obtain⟨k1,k2,k2',k3⟩:=hL;have hkeep:∀ b o,s'.heap.get? b=some o->b ∉ Z->h'.get? b=some o:=fun b o e n=>k1 b o (by rw[ZbT n];exact e);have hloc:X.s₀.heap.get? X.env.locals=none:=Ydn J.ok.above;have hzl:∀ z∈Z,z∈frs outer∨X.s₀.heap.get? z=none:=fun z hz=>by
  rcases Yah.mp hz with rfl | hz
  ·exact .inr (n0 _ f3)
  ·rcases Yah.mp hz with rfl | hz
   ·exact .inr (n0 _ f4)
   ·rw[hst] at hz;rcases Yah.mp hz with rfl | hz
    ·exact .inr hloc
    ·exact .inl hz
 refine⟨ea,cls,od,H',rfl,J.os,J.bare,Un.hide (Z:=Z) J.base hzl hkeep ?_,J.hok.hide (Z:=Z) ?_ hkeep,?_,hE⟩
 ·intro b hb o e;have hm:b∈frs X.stack:=by rw[hst];exact Yap _ hb
  obtain⟨_,o',ho',hnf⟩:=hff.mem hm;rw[e] at ho';cases ho';exact k4 b o e hnf
 ·intro z hz;rcases Yah.mp hz with rfl | hz
  ·exact f1
  ·rcases Yah.mp hz with rfl | hz
   ·exact f2
   ·exact J.stkFree z hz
 ·refine ZkC (l:=X.stack) (Z:=Z) J.hok (fun z hz hf hne=>?_) f1 (n0 _ f3) hff k4 (fun b o e=>J.base.there b o e (by intro z;cases z)) k3 (fun o q=>(dk.at he q).trans hod);rcases Yah.mp hz with z | z
  ·exact absurd z hne
  ·rcases Yah.mp z with rfl | z
   ·exact⟨f2,n0 _ f4⟩
   ·exact absurd z hf
end
end L2
namespace L2
open PySem PySem.Spec PyProof.Rows PySem.W
section
variable {prog:Program}{w:World}{A:Around}{E:Value->Shared->Prop}{s:Shared}{K:Frag}{x C D:Addr}{ox:Obj}
theorem Zj1 {M:Model}{h:Heap}{n:Str}{a g:Value} (X:K.In h) (ha:findIn K (.ref D) n=some (some a)) (hg:specialIn K a "__get__"=some (some g)) (ht:takesIn K a=some true):Looks M h (YcF (.ref x) (.ref D) n) (.bind g a):=by
 have L1:=looks_findIn (M:=M) X ha;have L2:Looks M h (Yfh (some a)) (some g):=looks_specialIn X hg;have L3:Looks M h (Yfi (some a) (some g)) (some (g,a)):=(looks_takesIn X ht).andThen .now;exact L1.andThen (L2.andThen (L3.andThen (Looks.tag .now)))
theorem ZlB {tp:Value}{R:Result->Shared->Prop} (X:K.In s.heap) (LT:Looks (model prog w) s.heap (typeOf (.ref x)) (.ref C)) (hm:mroIn K C (.type "object")=some true)
  (h:R (.ok (.ret (.ref C))) s):codeAny (model prog w) A (.call (.builtin "getset_descriptor.__get__") ⟨[.builtin "object.__class__",.ref x,tp],[]⟩) R s:=by
 have L1:=looks_mroIn (M:=model prog w) X hm;obtain⟨hh,g,dr,t,os⟩:=s;refine codeAny_call_builtin KF.slot_gs.plain KF.entry_gs (KF.slot_gs.check _ _ _ _ _ _ _ _ KF.type_class (KF.args_gs _ _ _) (?_));unfold Builtin.«getset_descriptor.__get__»;unfold Yet;rw[dga_obj];refine wpAny_bind (wpAny_pure ?_);unfold Yes;unfold Yeu;unfold Yer isInstance;simp only[KF.owner_class]
 repeat lk
 refine⟨Ydx _ (by decide +kernel),(codeAny_builtin KF.entry_class ?_)⟩;unfold Builtin.«object.__class__»;unfold shownTypeOf
 repeat lk
 exact h
theorem ZiH {tk:Tok}{Q:Fin->Shared->Prop} (X:K.In s.heap) (L0:Looks (model prog w) s.heap (typeOf (.ref x)) (.ref D)) (L1:Looks (model prog w) s.heap (YcF (.ref x) (.ref D) "__class__") (.bind (.builtin "getset_descriptor.__get__") (.builtin "object.__class__"))) (hm:mroIn K D (.type "object")=some true)
  (hq:Q (.done (.ret (.ref D))) s):wpAny (model prog w) A (Builtin.«object.__getattribute__» ⟨[.ref x,.str "__class__" tk],[]⟩) Q E s:=by
 obtain⟨hh,gg,d,t,os⟩:=s;unfold Builtin.«object.__getattribute__»;refine wpAny_bind (wpAny_pure (wpAny_bind (wpAny_pure (wpAny_bind (L0.at (wpAny_bind (L1.at ?_)))))));dsimp only;unfold Yfj;dsimp only;refine wpAny_bind (wpAny_holding (wpAny_call (ZlB X L0 hm ?_)));exact wpAny_pure hq
theorem ZiI {Q:Option Value->Shared->Prop} (X:K.In s.heap) (L0:Looks (model prog w) s.heap (typeOf (.ref x)) (.ref D)) (hga:findIn K (.ref D) "__getattribute__"=some (some (.builtin "BaseException.__getattribute__"))) (hk:findIn K (.ref D) "__getattr__"=some none) (hbx:mroIn K D (.type "BaseException")=some true)
   (hf:Looks (model prog w) s.heap (YcF (.ref x) (.ref D) "__class__") (.bind (.builtin "getset_descriptor.__get__") (.builtin "object.__class__"))) (hm:mroIn K D (.type "object")=some true)
   (h:Q (some (.ref D)) { s with toks:=s.toks+1 }):wpAny (model prog w) A (getAttr? (.ref x) "__class__") Q E s:=by
  obtain⟨hh,g,d,t,os⟩:=s;have L1:=looks_findIn (M:=model prog w) X hga;have L2:=looks_findIn (M:=model prog w) X hk;have L3:=looks_mroIn (M:=model prog w) X hbx;unfold getAttr? getAttrBy? getAttrBy;refine wpAny_bind (wpAny_mkText (wpAny_bind (wpAny_attempt (wpAny_holding (wpAny_bind (L0.at (wpAny_bind (L1.at (?_)))))))));have hx2:(Value.builtin "BaseException.__getattribute__" == Value.builtin "object.__getattribute__")=false:=by decide +kernel
  dsimp only;rw[hx2,Ydo,if_neg YaA];unfold getAttrByItsOwn hookBefore onTheHeap;dsimp only;rw[if_pos rfl];refine wpAny_bind (L2.at (wpAny_bind (wpAny_attempt (wpAny_holding ?_))));unfold callGetattribute boundAndCalled onTheHeap;dsimp only;rw[Ydo,if_neg YaA];have f3:=F.attr_ValueError.ga.bind (.ref x);refine wpAny_bind (wpAny_of_eq f3 ?_);refine wpAny_call (codeAny_call_builtin F.attr_ValueError.ga.plain F.entry_bexc_ga ?_);have hk1:builtinKind "BaseException.__getattribute__"=some .slot:=by decide +kernel
  have hs1:splitId "BaseException.__getattribute__"=some ("BaseException","__getattribute__"):=by decide +kernel
  have ha:=F.args_bexc_ga (.ref x) (.str "__class__" t);simp only[checkBuiltinCall,hk1,hs1];refine wpAny_bind ?_;unfold isInstance;refine wpAny_bind (L0.at ?_);refine L3.at ?_;rw[if_neg (by decide)]
  repeat (first | assumption | refine ZiH X L0 hf hm ?_ | wp_step)
def ZcD (K:Frag) (C:Addr):Bool:=findIn K (.ref C) "__getattribute__" == some (some (.builtin "BaseException.__getattribute__")) && (findIn K (.ref C) "__getattr__" == some none &&
 (findIn K (.ref C) "__class__" == some (some (.builtin "object.__class__")) && (mroIn K C (.type "object") == some true && (mroIn K C (.type "BaseException") == some true && ((clsIn K C).isSome &&
 (specialIn K (.builtin "object.__class__") "__get__" == some (some (.builtin "getset_descriptor.__get__")) && takesIn K (.builtin "object.__class__") == some true))))))
def excAll (K:Frag) (C:Addr):Bool:=excIn K C [.type "ValueError",.type "Exception",.type "BaseException",.type "object"] "ValueError.__new__" && ZcD K C
theorem excAll.rest {K:Frag}{C:Addr} (z:excAll K C=true):ZcD K C=true:=by
 simp only[excAll,Ybr] at z;exact z.2
def Zhd (ea C:Addr) (od:Option Addr) (h:Heap):Prop:=∃ oe,h.get? ea=some oe/\oe.cls=.ref C/\oe.dict=od/\∃ vs,oe.data=.fields vs
theorem ZjT {ea C:Addr}{od:Option Addr} (z:ZcD K C=true):KitX K (.ref ea) (.ref C) (Zhd ea C od):=by
 simp only[ZcD,Ybr,beq_iff_eq] at z;obtain⟨z2,z3,z4,z5,z6,z7,z8,z9⟩:=z;have inst:∀ {M:Model}{h:Heap},Zhd ea C od h->Looks M h (typeOf (.ref ea)) (.ref C):=fun {M h} p=>by
  obtain⟨oe,e1,e2,_⟩:=p;rw[<- e2];exact (Looks.ld e1).andThen .now
 obtain⟨cd,hcd⟩:=Yeb.mp z7;have lk:∃ o,K.lookup C=some o/\∃ cd,o.data=.cls cd:=by
  unfold clsIn at hcd;split at hcd
  ·rename_i c' d' cd' sl' ho;exact⟨_,ho,cd',rfl⟩
  ·cases hcd
 obtain⟨oC,hlk,cdd,hdat⟩:=lk;refine⟨fun M h X p=>inst p,fun M h X p=>?_,fun h tp dd its n sl X htp=>?_,fun X p k=>ZiI X (inst p) z2 z3 z6 (Zj1 X z4 z8 z9) z5 k⟩
 ·intro A' Q' E' s' k q;unfold isType loadHead;refine wpAny_bind (wpAny_loadPart (k _ _ (X _ _ hlk)) ?_);obtain⟨_,_,dt,_⟩:=oC;dsimp only at hdat;subst hdat;exact wpAny_pure q
 ·refine Yfk.mpr fun q=>?_;have e:C=tp:=Value.ref.inj (beq_iff_eq.mp q);subst e;rw[X _ _ hlk] at htp;cases htp;cases hdat
end
section
variable {X:Cx}
def ZcP (ea C:Addr) (od:Option Addr:=none):HO:=.ext (Zhd ea C od)
theorem Zj2 {H:Hp}{P:Program}{w:World}{h:Heap}{ea C:Addr}{od:Option Addr} (x:HOk P w H h) (e:H ea=some (ZcP ea C od)):Zhd ea C od h:=(show ObjOk P w H h ea (ZcP ea C od) from x _ _ e).1
theorem Zeu:ZbO X (.builtin "isinstance") (fun xs H Q=>∃ (ea C:Addr) (y:V) (c:Value) (b:Bool),xs=[.ref ea,y]/\(∃ od,H ea=some (ZcP ea C od))/\ZcD X.K C=true/\(y=.ty "ValueError"/\c=.type "ValueError"∨∃ D,y=.ref D/\c=.ref D)/\kitOne X.K (.ref C) c=some b/\Q (.bl b) H):=by
 intro pins s σ H xs us Q I r h;obtain⟨ea,C,y,c,b,rfl,⟨od,he⟩,hz,hy,hk,q⟩:=h;obtain⟨u,u2,rfl,r1,r2⟩:=ZkP r;cases r1;have hc:u2=c:=by
  rcases hy with ⟨rfl,rfl⟩ | ⟨D,rfl,rfl⟩
  ·exact r2
  ·exact r2
 subst hc;exact kia_one (ZjT hz) I.kIn (Zj2 I.hok he) hk (fun z=>nomatch z) fun tk=>⟨.bl b,H,I.tok _,rfl,q⟩
theorem Zfh:ZbO X (.builtin "isinstance") (fun xs H Q=>∃ (ea C:Addr) (y:V) (c:Value) (b:Bool),xs=[.ref ea,y]/\H ea=some (ZcP ea C)/\excAll X.K C=true/\(y=.ty "ValueError"/\c=.type "ValueError"∨∃ D,y=.ref D/\c=.ref D)/\kitOne X.K (.ref C) c=some b/\Q (.bl b) H) :=
 fun pins s σ H xs us Q I r ⟨ea,C,y,c,b,ex,he,hz,q⟩=>Zeu pins s σ H xs us Q I r ⟨ea,C,y,c,b,ex,⟨none,he⟩,(excAll.rest hz),q⟩
end
end L2
namespace L2
open PySem PySem.Spec PyProof.Rows PySem.W
section
variable {P:Program}{w:World}{K:Yac}{mg:Str->Option Value}{base:Heap}
theorem Fun.okE {x qual:Str}{st:Stmt}{f:Addr}{fd:FuncData}{N ps:List Str}{k:Nat}{sp:Sp} (F:Fun K x qual st f fd) (S:FnScope N ps (Zad st)) (len:∀ vs H Q E,sp vs H Q E->vs.length=ps.length)
  (hbody:∀ (cdv:Value) (A:Around) (outer:List Env) (s:Shared) (H:Hp) (vs:List V) (Q:VK) (E:XK),Room k (A.deeper (envOfC qual (Zad st) s.heap.objs.size f cdv))->sp vs H Q E ->
   ∃ t,PSs (cxOf (CX1 P w) P w K mg base N qual (Zad st) f cdv A outer s H E) (Zaj st) t/\t { nx:=fun _ H'=>Q .non H',rt:=Q } (start N vs) H):FnOk P w K mg base (CX1 P w) (k+1) f fd ps sp:=by
 obtain⟨oc,od,kV,doc,pm,an,cdv,ct,osl,rfl,lk,hcd⟩:=F.ex;exact ZjZ lk hcd S len fun A outer s H vs Q E hr hsp=>hbody cdv A outer s H vs Q E hr hsp
theorem _root_.Lv.FunD.okE {x qual:Str}{st:Stmt}{f da:Addr}{fd:FuncData}{N ps:List Str}{k:Nat}{sp:Sp} (F:Lv.FunD K x qual st f da fd) (S:FnScope N ps (Zad st)) (len:∀ vs H Q E,sp vs H Q E->vs.length=ps.length)
  (hbody:∀ (cdv:Value) (A:Around) (outer:List Env) (s:Shared) (H:Hp) (vs:List V) (Q:VK) (E:XK),Room k (A.deeper (envOfC qual (Zad st) s.heap.objs.size f cdv))->sp vs H Q E ->
   ∃ t,PSs (cxOf (CX1 P w) P w K mg base N qual (Zad st) f cdv A outer s H E) (Zaj st) t/\t { nx:=fun _ H'=>Q .non H',rt:=Q } (start N vs) H):FnOk P w K mg base (CX1 P w) (k+1) f fd ps sp:=by
 obtain⟨oc,od,kV,doc,pm,an,cdv,ct,osl,rfl,lk,hcd⟩:=F.ex;exact ZjZ lk hcd S len fun A outer s H vs Q E hr hsp=>hbody cdv A outer s H vs Q E hr hsp
theorem FnOk.toE {k:Nat}{f:Addr}{fd:FuncData}{ps:List Str}{sp:Sp} (F:FnOk P w K mg base CX0 k f fd ps sp):FnOk P w K mg base (CX1 P w) k f fd ps sp :=
 ⟨F.len,fun A outer s H args us vs Q E hr he hb hv hs=>codeAny_mono (F.run A outer s H args us vs Q E hr he hb hv hs) fun r s' q=>by
  cases r with
  | error e=>exact q.elim
  | ok fl=>cases fl <;> exact q⟩
end
structure CalE (P:Program) (w:World) (K:Yac) (mg:Str->Option Value) (base:Heap) (k:Nat) (x:Str) (ps:List Str) (dvs:List V) (sp:Sp) (f:Addr) (fd:FuncData):Prop where
 ok:FnOk P w K mg base (CX1 P w) k f fd ps sp
 mg:mg x=some (.ref f)
 kp:Yav K (.ref f)=true
 bd:∃ ds,Binds K fd ps ds/\Vals dvs ds
section
variable {X:Cx}
theorem Zbi {k:Nat}{x:Str}{ps:List Str}{dvs:List V}{sp:Sp}{f:Addr}{fd:FuncData}{e:Expr}{es:List Expr}{t:TA}{p pos:Pos}{E:XK} (C:CalE X.prog X.w X.K X.mg X.base k x ps dvs sp f fd) (hr:Room k X.A) (hx:ZdW (CX1 X.prog X.w) X E) (hg:Gl X x) (ha:PA X (e::es) t)
  (hdb:(x == ("__debug__":Str))=false:=by decide) (he:starEach (e::es) X.env=(false,eval e X.env)::starEach es X.env:=by rfl) (hpl:(backTo pos (starEach es X.env)).any (·.1)=false:=by rfl) :
  PE X (.Call (.Name x p) (e::es) [] pos) (Zhp sp dvs E t):=by
 obtain⟨ds,h1,h2⟩:=C.bd;exact ZfK C.ok hr hg C.mg C.kp h1 h2 hx ha hdb he hpl
inductive FParts (X:Cx):List Expr->List TE->Prop
 | nil:FParts X [] []
 | con {x:Str}{j pos}{es:List Expr}{ts:List TE} (h:x.length<=1000) (r:FParts X es ts):FParts X (.Constant (.str x) j pos::es) ts
 | val {v:Expr}{t:TE}{pos:Pos}{es:List Expr}{ts:List TE} (h:PE X v t) (r:FParts X es ts):FParts X (.FormattedValue v (-1) none pos::es) (t::ts)
def tFs:List TE->TE
 | []=>fun _ H Q=>∀ x:Str,Q (.str x) H
 | t::r=>fun σ H Q=>t σ H fun v H1=>∃ i:Int,v=.int i/\i.natAbs.log2<1920/\(YbZ (toString i)).length<=1000/\tFs r σ H1 Q
theorem Zem {pins:List (Addr × Obj)}{σ:St}:∀ {es:List Expr}{ts:List TE},FParts X es ts->∀ (acc:Str) (s:Shared) (H:Hp) (Q:VK) (R:Str->Shared->Prop),es.length<=50->acc.length+es.length*1000<=100000->Inv X pins σ H s->tFs ts σ H Q->(∀ x s' H',x.length<=100000->Inv X pins σ H' s'->(∀ y:Str,Q (.str y) H')->R x s')->Joins (model X.prog X.w) X.A X.xe (evalEach es X.env) acc R s
 | _,_,.nil,acc,s,H,Q,R,h50,hl,I,h,k=>k acc s H (by simpa using hl) I h
 | _,_,.con (x:=x) (es:=es) hx r,acc,s,H,Q,R,h50,hl,I,h,k=>by
  have hz:100000<sizeLine:=by decide
  have hl:acc.length+(es.length+1)*1000<=100000:=hl;have ha:(acc++x).length=acc.length+x.length:=strLen_append ..;refine Ye0 ⟨x,_,rfl,by omega,?_⟩;exact Zem r _ _ H Q R (by simpa using Yfn h50) (by omega) (I.tok _) h k
 | _,_,.val (v:=v) (t:=t) (es:=es) (ts:=ts) hv r,acc,s,H,Q,R,h50,hl,I,h,k=>by
  have hz:100000<sizeLine:=by decide
  have hl:acc.length+(es.length+1)*1000<=100000:=hl;refine wpAny_FormattedValue_plain (thn (hv pins s σ H _ I h) fun u s1 ⟨y,H1,I1,r1,q1⟩=>?_);obtain⟨i,rfl,hd,hlen,q⟩:=q1;obtain⟨tk,rfl⟩:=r1;refine wpAny_formatField_int hd ?_;have ha:(acc++YbZ (toString i)).length=acc.length+(YbZ (toString i)).length:=strLen_append ..;refine⟨_,_,rfl,by omega,?_⟩;exact Zem r _ _ H1 Q R (by simpa using Yfn h50) (by omega) ((I1.tok _).tok _) q k
theorem ZfJ {v1 v2:Expr}{rest:List Expr}{ts:List TE}{pos:Pos} (h:FParts X (v1::v2::rest) ts) (hl:(v1::v2::rest).length<=50:=by decide):PE X (.JoinedStr (v1::v2::rest) pos) (tFs ts):=by
 intro pins s σ H Q I hq;have hz:100000<sizeLine:=by decide
 have e0:Ydj.length=0:=rfl;refine wpAny_JoinedStr (Zem h _ _ H Q _ hl (by rw[e0];omega) I hq fun x s' H' hx I' k=>?_);exact⟨by omega,.str x,H',I'.tok _,⟨_,rfl⟩,k x⟩
theorem ZlA {K:Frag}{h:Heap}{C:Addr}{bmB:List Value}{newId:String} (X:K.In h) (q:excIn K C bmB newId=true):∃ bm N nm qn bs hd sn sub ab col dd k0 k1 k2 k3 k5 mN,
  h.get? C=some (excClassObj nm qn C N bs bm hd sn sub ab col dd k0 k1 k2 k3 k5 newId)/\h.Ns N mN/\mN "__init__"=none/\OwnTail h bmB bm:=by
 unfold excIn at q;split at q
 ·rename_i dd cd sl lk;split at q
  ·rename_i C1 bm k0 k1 k2 k3 n1 k5 e1 e2;simp only[Ybr,beq_iff_eq,Bool.not_eq_true'] at q;obtain⟨⟨⟨⟨⟨c1,c2⟩,c3⟩,c4⟩,c5⟩,c6⟩:=q;obtain⟨nm,bs,mro,ns,qn,hd,sn,sub,ab,col,del⟩:=cd;obtain⟨ls⟩:=sl;dsimp only at e1 e2 c3 c5 c6;subst c1 c2 c3 e1 e2;refine⟨bm,ns,nm,qn,bs,hd,sn,sub,ab,col,dd,k0,k1,k2,k3,k5,_,X _ _ lk,.of_isNs (isNs_of_in X c5),nsMap_none_of_in X c5 c6,tail_of_in X c4⟩
  ·cases q
 ·cases q
def ZlQ (C:Addr) (E:XK) (t:TA):TS:=fun _ σ H=>t σ H fun vs H1=>vs.length<=1000/\E (.ref C) none H1
theorem ZcT {E:XK}{x:Str}{C:Addr}{e0:Expr}{rest:List Expr}{t:TA}{np cpos pos:Pos} (hT:ZmA X E) (hg:Gl X x) (hm:X.mg x=some (.ref C)) (hz:excAll X.K C=true) (ha:PA X (e0::rest) t) (hc:X.calm=true:=by rfl) (hex:X.ex=[]:=by rfl)
  (he:starEach (e0::rest) X.env=(false,eval e0 X.env)::starEach rest X.env:=by rfl) (hpl:(backTo cpos (starEach rest X.env)).any (·.1)=false:=by rfl) (hd:(x == ("__debug__":Str))=false:=by decide) :
  PS X (.Raise (some (.Call (.Name x np) (e0::rest) [] cpos)) none pos) (ZlQ C E t):=by
 intro pins s σ H D I h;have hin:excIn X.K C [.type "ValueError",.type "Exception",.type "BaseException",.type "object"] "ValueError.__new__"=true:=by
  simp only[excAll,Ybr] at hz;exact hz.1
 obtain⟨bm,N,nm,qn,bs,hd',sn,sub,ab,col,dd,k0,k1,k2,k3,k5,mN,hC,hN,hni,hT2⟩:=ZlA I.ok.mod.kin hin;refine wpAny_Raise_call_subT (C:=C) (nm:=nm) (q:=qn) (N:=N) (bs:=bs) (bm:=bm) (hdct:=hd') (sn:=sn) (sub:=sub) (ab:=ab) (col:=col) (dd:=dd) (k0:=k0) (k1:=k1) (k2:=k2) (k3:=k3) (k5:=k5) (newId:="ValueError.__new__")
  YdI (mN:=mN) (hT2.hasType YdI.hasBase) (I.ok.hd hc) (by rw[he];show (false || (backTo cpos (starEach rest X.env)).any (·.1))=false;rw[hpl];rfl) hni (Zek I hg hm ⟨rfl,?_⟩ hd)
 have hA:=ha cpos pins s σ H _ I h;rw[he] at hA ⊢;refine YeK (wpAny_mono hA (fun us s2 h2=>?_) fun _ _ y=>y);obtain⟨vs,H1,I1,rv,hlen,hE⟩:=h2;have hz2:100000<sizeLine:=by decide
 have hus:=rv.length;refine⟨rfl,by show us.length<=sizeLine;omega,I1.bk _ _ hC,hN.keeps I1.bk,hT2.keeps I1.bk,fun h' e hm=>?_⟩;obtain⟨tt,ht,_,_⟩:=hm.there;refine hT pins σ H1 { s2 with heap:=h' } e _ _ _ (I1.kept (t':=s2.toks) hm.keeps) ?_ ?_ ht rfl rfl rfl hE
 ·exact I1.hok.none_of hm.new
 ·cases q:X.s₀.heap.get? e with
  | none=>rfl
  | some o=>
   obtain⟨o',z⟩:=I1.base.there e o q (by rw[hex];intro y;cases y);rw[hm.new] at z;cases z
end
abbrev Cx.inTry (X:Cx) (pn':List (Addr × Obj)) (xe':Value->Shared->Prop):Cx:={ X with pn:=pn',xe:=xe' }
abbrev Cx.inSuite (X:Cx) (ea:Addr):Cx:={ X with A:=X.A.mark (some (.ref ea)),calm:=false,xe:=fun _ _=>False }
section
variable {X:Cx}{pins:List (Addr × Obj)}{σ:St}{H:Hp}{s:Shared}
theorem Cx.Ok.inTry (ok:X.Ok) (pn':List (Addr × Obj)) (xe':Value->Shared->Prop):(X.inTry pn' xe').Ok :=
 ⟨ok.mod,ok.kind,ok.glob,ok.blt,ok.above,ok.inj,ok.has,ok.cab,ok.hd,ok.frames,ok.stk,ok.exf,ok.bs,ok.bsz,ok.noex,ok.exfs,ok.funs,ok.frf⟩
theorem Cx.Ok.outTry {pn':List (Addr × Obj)}{xe':Value->Shared->Prop} (ok:(X.inTry pn' xe').Ok):X.Ok :=
 ⟨ok.mod,ok.kind,ok.glob,ok.blt,ok.above,ok.inj,ok.has,ok.cab,ok.hd,ok.frames,ok.stk,ok.exf,ok.bs,ok.bsz,ok.noex,ok.exfs,ok.funs,ok.frf⟩
theorem Cx.Ok.inSuite (ok:X.Ok) (ea:Addr):(X.inSuite ea).Ok :=
 ⟨ok.mod,ok.kind,ok.glob,ok.blt,ok.above,ok.inj,ok.has,ok.cab,fun z=>Bool.noConfusion z,ok.frames,ok.stk,ok.exf,ok.bs,ok.bsz,ok.noex,ok.exfs,ok.funs,ok.frf⟩
theorem Inv.inTry (I:Inv X pins σ H s) (xe':Value->Shared->Prop):Inv (X.inTry (X.pn++pins) xe') [] σ H s :=
 ⟨I.ok.inTry _ _,I.os,I.bare,I.base,I.loc,I.cell,I.free,I.freeC,fun p hp=>I.pin p (by simpa using hp),I.hok,I.len⟩
theorem Inv.outTry {xe':Value->Shared->Prop}{q:List (Addr × Obj)} (I:Inv (X.inTry (X.pn++pins) xe') q σ H s):Inv X pins σ H s :=
 ⟨I.ok.outTry,I.os,I.bare,I.base,I.loc,I.cell,I.free,I.freeC,fun p hp=>I.pin p (YaU _ hp),I.hok,I.len⟩
theorem Inv.inSuite (I:Inv X pins σ H s) (ea:Addr):Inv (X.inSuite ea) pins σ H s :=
 ⟨I.ok.inSuite _,I.os,I.bare,I.base,I.loc,I.cell,I.free,I.freeC,I.pin,I.hok,I.len⟩
theorem Inv.outSuite {ea:Addr} (ok:X.Ok) (I:Inv (X.inSuite ea) pins σ H s):Inv X pins σ H s :=
 ⟨ok,I.os,I.bare,I.base,I.loc,I.cell,I.free,I.freeC,I.pin,I.hok,I.len⟩
theorem Un.ext {fs ex:List Addr}{H H':Hp}{h h':Heap}{ea:Addr}{o:HO} (u:Un fs ex H H' h h') (h1:H' ea=none) (h2:h.get? ea=none):Un fs ex H (upd H' ea o) h h' where
 keep:=u.keep
 slot:=u.slot
 free:=fun b ob e n hx=>by rw[Zah (fun z=>by rw[z,h2] at e;cases e)];exact u.free b ob e n hx
 there:=u.there
 tups:=fun b xs e=>by rw[Zah (Zag (u.tups b xs e) h1)];exact u.tups b xs e
 frzs:=fun b ob xs e=>by rw[Zah (Zag (u.frzs b ob xs e) h1)];exact u.frzs b ob xs e
 tbls:=fun b ps e=>by
  obtain⟨more,q⟩:=u.tbls b ps e;exact⟨more,by rw[Zah (Zag q h1)];exact q⟩
theorem HOk.ext {P:Program}{w:World}{H:Hp}{h:Heap}{ea C:Addr}{od:Option Addr} (x:HOk P w H h) (h1:H ea=none) (h2:Zhd ea C od h):HOk P w (upd H ea (ZcP ea C od)) h:=fun a o e=>by
 by_cases ha:a=ea
 ·subst ha;rw[Zab] at e;cases e;obtain⟨oe,e1,e2⟩:=h2;exact⟨⟨oe,e1,e2⟩,⟨oe,e1⟩,fun g1 g2 ⟨o1,z1,z2⟩ k=>⟨o1,k _ z1,z2⟩⟩
 ·rw[Zah ha] at e;exact (x a o e).stay (fun _ _ _ z=>z) (fun b z=>by rw[Zah (Zag z h1)];exact z) fun b xs z=>by rw[Zah (Zag z h1)];exact z
theorem Zci {M:Model}{A:Around}{E:Value->Shared->Prop}{i:Nat}{x:Str}{pos:Pos}{Q:Unit->Shared->Prop} (I:Inv X pins σ H s) (hN:X.N.Nodup) (hi:X.N[i]?=some x) (hx:X.env.scope.names.lookup x=some .local)
  (h:∀ s',Inv X pins (σ.set i none) H s'->Q () s'):wpAny M A (do bindName X.env x .none;unbindBehindTheSuite X.env x pos) Q E s:=by
 obtain⟨m,hn,hl⟩:=id I.loc;have hcls:(X.env.scope.kind == .class || (X.env.scope.kind == .module && X.env.locals != X.env.globals))=false:=by rw[I.ok.kind];rfl
 have cne:=I.cne;obtain⟨oL,_,_,hoL,_⟩:=id hn;refine wpAny_nameGoes_keeps hx hn hcls fun h' v hn' hs=>?_;have far:∀ {b:Addr}{o:Obj},X.s₀.heap.get? b=some o->b≠X.env.locals:=fun e=>YaB (Yas (Yaj e) I.ok.above);refine h _ ⟨I.ok,I.os,I.bare,⟨fun b o e n hb hx=>(hs.2 b (far e)).trans (I.base.keep b o e n hb hx),fun b o e n hb hx=>?_,I.base.free,fun b o e hx=>?_,I.base.tups,I.base.frzs,I.base.tbls⟩,⟨_,hn',fun j y v' e1 e2 e3=>?_⟩,fun y c e=>?_,I.free,I.freeC,fun p hp=>?_,fun b ob e=>?_,by simpa using I.len⟩
 ·obtain⟨sl,q⟩:=I.base.slot b o e n hb hx;exact⟨sl,(hs.2 b (far e)).trans q⟩
 ·obtain⟨o',q⟩:=I.base.there b o e hx;exact⟨o',(hs.2 b (far e)).trans q⟩
 ·have hj:j≠i:=fun z=>by
   subst z;rw[List.getElem?_set] at e2;split at e2
   ·split at e2 <;> cases e2
   ·exact absurd rfl ‹¬ j=j›
  rw[YaO (Ybn hj)] at e2;obtain⟨u',r',q⟩:=hl j y v' e1 e2 e3;refine⟨u',r',?_⟩;rcases q with ⟨k,q⟩ | ⟨k,c,q,z⟩
  ·have hy:y≠x:=fun z=>hj (Zei hN e1 (z ▸ hi));exact .inl ⟨k,by simp[hy,q]⟩
  ·exact .inr ⟨k,c,q,z.sameBut hs (cne y c q)⟩
 ·obtain⟨w',z⟩:=I.cell y c e;exact⟨w',z.sameBut hs (cne y c e)⟩
 ·obtain⟨e,n,ne,nf,d⟩:=I.pin p hp;exact⟨(hs.2 p.1 ne).trans e,n,ne,nf,d⟩
 ·refine (I.hok b ob e).stay (fun c w' hc q=>(hs.2 c ?_).trans q) (fun _ q=>q) fun _ _ q=>q;rintro rfl;rcases hc with rfl | hc
  ·rw[I.free] at e;cases e
  ·rw[I.free] at hc;cases hc
end
def Ends.without (D:Ends) (i:Nat):Ends:={ nx:=fun σ H=>D.nx (σ.set i none) H,rt:=D.rt,bk:=fun σ H=>D.bk (σ.set i none) H,ct:=fun σ H=>D.ct (σ.set i none) H }
def Zm6 (K:Frag) (n i:Nat) (c:Value) (ts:TS) (D:Ends):XK:=fun cls od H'=>∃ C:Addr,cls=.ref C/\exmOne K cls c=some true/\∀ ea,H' ea=none->ts (D.without i) ((Yan n none).set i (some (.ref ea))) (upd H' ea (ZcP ea C od))
def tTry (K:Frag) (n i:Nat) (c:Value) (tb:XK->TS) (ts:TS):TS:=fun D σ H=>tb (Zm6 K n i c ts D) D σ H
section
variable {X:Cx}
theorem Zl7 {body:List Stmt}{b0:Stmt}{suite:List Stmt}{cx n:Str}{c:Addr}{np hpos pos:Pos}{i:Nat}{tb:XK->TS}{ts:TS} (hN:X.N.Nodup) (hi:X.N[i]?=some n) (hx:X.env.scope.names.lookup n=some .local) (hg:Gl X cx) (hm:X.mg cx=some (.ref c))
  (hb:∀ (Ex:XK) (pn':List (Addr × Obj)) (xe':Value->Shared->Prop),ZdW (CX1 X.prog X.w) (X.inTry pn' xe') Ex->PSs (X.inTry pn' xe') body (tb Ex)) (hs:∀ ea:Addr,PSs (X.inSuite ea) (b0::suite) ts)
  (hst:X.stack=X.env::X.outer:=by rfl) (hf:X.env.frame=some X.env.locals:=by rfl) (hd:(cx == ("__debug__":Str))=false:=by decide) :
  PS X (.Try body [.ExceptHandler (some (.Name cx np)) (some n) (b0::suite) hpos] [] [] pos) (tTry X.K X.N.length i (.ref c) tb ts):=by
 intro pins s σ H D I h;refine wpAny_Try_except (wpAny_mono (hb _ (X.pn++pins) _ ?_ [] s σ H D (I.inTry _) h) (fun f s1 q=>?_) fun _ _ z=>z)
 ·intro pins2 σ2 H2 s2 e s2' J hcx;obtain⟨ea,cls,od,H',rfl,os',bare',un',hok',⟨a0,T,oe,oT,vs,ts',⟨f1,f2,f3,f4⟩,he,⟨hc,hod⟩,hdd,hv1,hTe,hT,hdT,h3⟩,C,rfl,hex,hrd⟩:=hcx;have J1:Inv (X.inTry (X.pn++pins) _) pins2 σ2 H' s2':=J.call' (ch:=[]) os' un' hok' bare' fun b z=>absurd z (by simp);have hfr:X.A.frames=some (X.env::X.outer):=J.ok.frames.trans (by rw[<- hst]);have hff:s2'.heap.FunFrames X.base X.stack:=J1.stack
  let Z:=ea::T::frs X.stack
  have hB:∀ b∈frs X.stack,(Zce s2'.heap Z).get? b=none:=fun b hb=>ZaV (Yap _ (Yap _ hb));have hff2:s2'.heap.FunFrames (Zce s2'.heap Z) (X.env::X.outer):=by rw[<- hst];exact Zbz hff hB
  have at_:∀ h':Heap,Heap.FlyingW (Zce s2'.heap Z) (X.env::X.outer) ea (.ref C) a0 h'->s2'.heap.UpToSlots h'->DK s2'.heap h'->Inv (X.inSuite ea) pins (Yan X.N.length none) (upd H' ea (ZcP ea C od)) { s2' with heap:=h' }:=fun h' hfl up dk=>by
   have hkeep:∀ b o,s2'.heap.get? b=some o->b ∉ Z->h'.get? b=some o:=fun b o e n=>hfl.1 b o (by rw[ZbT n];exact e);have hzl:∀ z∈Z,z∈frs X.stack∨s2.heap.get? z=none:=fun z hz=>by
    rcases Yah.mp hz with rfl | hz
    ·exact .inr f3
    ·rcases Yah.mp hz with rfl | hz
     ·exact .inr f4
     ·exact .inl hz
   have hzn:∀ z∈Z,H' z=none:=fun z hz=>by
    rcases Yah.mp hz with rfl | hz
    ·exact f1
    ·rcases Yah.mp hz with rfl | hz
     ·exact f2
     ·exact J1.stkFree z hz
   have u2:Un (frs X.stack) [] H2 H' s2.heap h':=un'.hide hzl hkeep fun b hb o e=>by
    obtain⟨_,o',ho',hnf⟩:=hff.mem hb;rw[e] at ho';cases ho';exact up b o e hnf
   have hx2:Zhd ea C od h':=by
    obtain⟨ob,ws,q1,q2,q3,_⟩:=hfl.first
    exact⟨ob,q1,q2,(dk.at he q1).trans hod,ws,q3⟩
   have J2:Inv (X.inTry (X.pn++pins) _) pins2 σ2 (upd H' ea (ZcP ea C od)) { s2' with heap:=h' }:=J.call' (ch:=[]) os' (u2.ext f1 f3) ((hok'.hide hzn hkeep).ext f1 hx2) bare' fun b z=>absurd z (by simp);have J3:Inv X pins σ2 (upd H' ea (ZcP ea C od)) { s2' with heap:=h' }:=J2.outTry;exact (J3.weak (σ':=Yan X.N.length none) (by rw[YbJ];exact J3.len.symm) fun j v z=>by
    rw[Yb1] at z;split at z <;> cases z).inSuite ea
  have hX:X.Ok:=I.ok;refine Zch ZcK (wpAny_looks_onW (base:=Zce s2'.heap Z) hfr hf ⟨Zcd,ZaV YaC,hff2,⟨oe,vs,T,oT,ts',he,hc,hdd,hv1,ZaV (Yap _ YaC),hTe,hT,hdT,h3⟩⟩ fun h1 held up1 dk1=>?_);refine Zch ZbL (wpAny_landsW held fun h2 fly2 up2 dk2=>?_);have JS:=at_ h2 fly2 (up1.trans up2) (dk1.trans dk2);refine wpAny_handleBy_cons (codeAny_handlers_test ?_) (by intro q;cases q);refine Zek JS hg hm ?_ hd;have LT:Looks (model X.prog X.w) h2 (typeOf (.ref ea)) (.ref C):=by
   obtain⟨ob,e1,e2⟩:=fly2.there;rw[<- e2];exact (Looks.ld e1).andThen .now
  refine (exm_one JS.kIn LT hex).here ?_;refine codeAny_handlers_suite_as (Zch ZbL (lands_againW fly2 fun h3' fly3 up3 dk3=>?_));have JS3:=at_ h3' fly3 ((up1.trans up2).trans up3) ((dk1.trans dk2).trans dk3);refine ZdX (X:=X.inSuite ea) JS3 hN hi (.inl hx) (v:=.ref ea) rfl (fun s4 J4=>?_) (.inr hx);refine wpAny_mono (hs ea pins s4 _ _ _ J4 (hrd ea f1)) (fun f s5 q=>?_) fun _ _ z=>Ycc z
  cases f with
  | next=>
   obtain⟨σ',H'',I',r⟩:=q;exact Zci (I'.outSuite hX) hN hi hx fun s6 I6=>⟨_,_,I6,r⟩
  | brk=>
   obtain⟨σ',H'',I',r⟩:=q;exact Zci (I'.outSuite hX) hN hi hx fun s6 I6=>⟨_,_,I6,r⟩
  | cont=>
   obtain⟨σ',H'',I',r⟩:=q;exact Zci (I'.outSuite hX) hN hi hx fun s6 I6=>⟨_,_,I6,r⟩
  | ret u=>
   obtain⟨v,σ',H'',I',rv,r⟩:=q;exact Zci (I'.outSuite hX) hN hi hx fun s6 I6=>⟨v,_,_,I6,rv,r⟩
 ·cases f with
  | next=>
   obtain⟨σ',H',I',r⟩:=q;exact wpAny_execs_nil ⟨σ',H',I'.outTry,r⟩
  | brk=>obtain⟨σ',H',I',r⟩:=q;exact⟨σ',H',I'.outTry,r⟩
  | cont=>obtain⟨σ',H',I',r⟩:=q;exact⟨σ',H',I'.outTry,r⟩
  | ret u=>obtain⟨v,σ',H',I',rv,r⟩:=q;exact⟨v,σ',H',I'.outTry,rv,r⟩
end
end L2
namespace L2
open PySem PySem.Spec PyProof.Rows
def Zgh:Expr->Bool
 | .Starred ..=>false
 | _=>true
theorem ZgG {e:Expr}{es:List Expr}{env:Env} (h:Zgh e=true):starEach (e::es) env=(false,eval e env)::starEach es env:=by
 cases e <;> first | rfl | (cases h)
structure WA (X:Cx) (es:List Expr) (t:TA):Prop where
 out:PA X es t
structure WS (X:Cx) (st:Stmt) (t:TS):Prop where
 out:PS X st t
structure WSs (X:Cx) (sts:List Stmt) (t:TS):Prop where
 out:PSs X sts t
section
variable {X:Cx}{st:Stmt}{rest a b:List Stmt}{t u:TS}{c e:Expr}{tc:TT}{pos:Pos}{es:List Expr}{te:TE}{ta:TA}
theorem Zaf (h1:WS X st t) (h2:WSs X rest u):WSs X (st::rest) (tSeq t u):=⟨Zas h1.out h2.out⟩
theorem Zaw (h:WS X st t):WSs X [st] t:=⟨Zao h.out⟩
theorem ZaQ:WSs X [] ZlR:=⟨Zbt⟩
theorem wss {sts:List Stmt} (h:PSs X sts t):WSs X sts t:=⟨h⟩
theorem ZbW (hc:PT X c tc) (ha:WSs X a t) (hb:WSs X b u):WS X (.If c a b pos) (tIfS tc t u):=⟨Zdq hc ha.out hb.out⟩
theorem ws (h:PS X st t):WS X st t:=⟨h⟩
theorem ZfZ:WA X [] tNil:=⟨Zac⟩
theorem ZaC (hn:Zgh e=true) (ha:PE X e te) (hr:WA X es ta):WA X (e::es) (ZlU te ta):=⟨Zaa ha hr.out (ZgG hn)⟩
end
section
variable {P:Program}{w:World}{K:Yac}{mg:Str->Option Value}{base:Heap}
theorem okW {x qual:Str}{st:Stmt}{f:Addr}{fd:FuncData}{N ps:List Str}{k:Nat}{sp:Sp} (F:Fun K x qual st f fd) (S:FnScope N ps (Zad st)) (len:∀ vs H Q E,sp vs H Q E->vs.length=ps.length)
  (hbody:∀ (cdv:Value) (A:Around) (outer:List Env) (s:Shared) (H:Hp) (vs:List V) (Q:VK) (E:XK),Room k (A.deeper (envOfC qual (Zad st) s.heap.objs.size f cdv))->sp vs H Q E ->
   ∃ t,WSs (cxOf CX0 P w K mg base N qual (Zad st) f cdv A outer s H E).nox (Zaj st) t/\t { nx:=fun _ H'=>Q .non H',rt:=Q } (start N vs) H):FnOk P w K mg base CX0 (k+1) f fd ps sp :=
 F.ok S len fun cdv A outer s H vs Q E hr hsp=>by
  obtain⟨t,h,q⟩:=hbody cdv A outer s H vs Q E hr hsp;exact⟨t,h.out,q⟩
end
end L2
namespace L2
open PySem PySem.Spec PyProof.Rows PySem.SeqAt
section
variable {X:Cx}{pins:List (Addr × Obj)}{σ:St}{H:Hp}{s:Shared}{a:Addr}{u v:HO}{kvs:List (Key × V)}
end
section
variable {X:Cx}
end
section
variable {X:Cx}
end
section
variable {prog:Program}{w:World}{A:Around}{R:Result->Shared->Prop}{s:Shared}
end
section
variable {X:Cx}{pins:List (Addr × Obj)}{σ:St}{H H':Hp}{s s':Shared}{scope:Scope}{own:List Str}{js:List Nat}{C:Addr}{fp:List Addr}
end
section
variable {X:Cx}{scope:Scope}{own:List Str}{js:List Nat}{kx vx iter target:Expr}{ifs:List Expr}{wi:TI}{g:TG}{tt:TT}{tk tv:TE}{pos:Pos}
end
end L2
namespace L2
open PySem PyProof.Rows
structure KO extends KeyOrd where
 ky:Keyed->α
namespace KO
variable {O:KO}{x y z:Keyed}
def le (O:KO) (x y:Keyed):Prop:=O.blt (O.ky y) (O.ky x)=false
theorem le_refl:O.le x x:=O.irrefl _
theorem le_trans (h1:O.le x y) (h2:O.le y z):O.le x z:=YcE (O:=O.toKeyOrd) h1 h2
theorem le_of_lt (h:O.blt (O.ky x) (O.ky y)=true):O.le x y:=KeyOrd.klt_asymm (O:=O.toKeyOrd) h
abbrev Srt (O:KO) (l:List Keyed):Prop:=l.Pairwise O.le
end KO
def ZfP:Bool->Keyed->Array Keyed->Nat->Nat->Nat->StateT SortSt Sem (Option Nat):=sortPriv% PySem.Builtin.gallop
def ZjQ:Array Keyed->Array Keyed->StateT SortSt Sem (Array Keyed):=sortPriv% PySem.Builtin.mergeLo
def ZjR:Array Keyed->Array Keyed->StateT SortSt Sem (Array Keyed):=sortPriv% PySem.Builtin.mergeHi
def ZgM:Nat->StateT SortSt Sem Unit:=sortPriv% PySem.Builtin.setMinGallop
section
variable {prog:Program}{w:World}{A:Around}{E:Value->Shared->Prop}{s:Shared}{O:KO}{knd:SortKind}{ok:Keyed->Prop}{st:SortSt}
def Asks (prog:Program) (w:World) (A:Around) (s:Shared) (O:KO) (knd:SortKind) (ok:Keyed->Prop):Prop :=
 ∀ x y,ok x->ok y->∀ (E:Value->Shared->Prop) (Q:Bool->Shared->Prop),Q (O.blt (O.ky x) (O.ky y)) s->wpAny (model prog w) A (keyLt' knd x.1 y.1) Q E s
theorem Zez {x y:Keyed}{Q:Option Bool->SortSt->Prop} (hA:Asks prog w A s O knd ok) (hk:kindOf st=knd) (hx:ok x) (hy:ok y) (h:Q (some (O.blt (O.ky x) (O.ky y))) st):wpS (model prog w) A E s (lt' x y) Q st:=by
 rw[lt'_eq];refine wpS_bind (wpS_get ?_);rw[hk];refine wpS_bind (wpS_lift (wpAny_attempt (hA x y hx hy _ _ ⟨rfl,?_⟩)));exact wpS_pure h
theorem Zal {arr:Array Keyed}{i:Nat}{x:Keyed}{Q:Keyed->SortSt->Prop} (e:arr[i]?=some x) (h:Q x st):wpS (model prog w) A E s (elem' arr i) Q st:=by
 rw[elem'_eq,e];exact wpS_pure h
def Zi5 (left:Bool) (key:Keyed) (arr:Array Keyed) (base i:Nat):StateT SortSt Sem (Option Bool) :=
 elem' arr (base+i) >>= fun x=>if left=true then lt' x key else lt' key x >>= fun r=>pure (r.map (! ·))
theorem Zdx {left:Bool}{key:Keyed}{arr:Array Keyed}{base n hint:Nat}{Q:Option Nat->SortSt->Prop} (hA:Asks prog w A s O knd ok) (hk:kindOf st=knd) (hkey:ok key) (B:Nat->Bool)
    (hB:∀ i,i<n->∃ x,arr[base+i]?=some x/\ok x/\B i=if left=true then O.blt (O.ky x) (O.ky key) else !(O.blt (O.ky key) (O.ky x)))
    (mono:∀ i j,i<=j->j<n->B j=true->B i=true) (hh:hint<n)
    (h:∀ k,k<=n->(∀ i,i<k->B i=true)->(∀ i,k<=i->i<n->B i=false)->Q (some k) st):wpS (model prog w) A E s (ZfP left key arr base n hint) Q st:=by
  have bey:∀ i,i<n->∀ {Q':Option Bool->SortSt->Prop},Q' (some (B i)) st->wpS (model prog w) A E s (Zi5 left key arr base i) Q' st:=by
    intro i hi Q' hq;obtain⟨x,e,hx,eb⟩:=hB i hi;refine wpS_bind (Zal e ?_);rw[eb] at hq
    cases left with
    | true=>simp only[if_true] at hq ⊢;exact Zez hA hk hx hkey hq
    | false=>
      simp only[Yar,if_false] at hq ⊢;exact wpS_bind (Zez hA hk hkey hx (wpS_pure hq))
  have monoF:∀ i j,i<=j->j<n->B i=false->B j=false:=by
    intro i j hij hj hf
    cases e:B j with
    | false=>rfl
    | true=>rw[mono i j hij hj e] at hf;cases hf
  have jp:∀ lo hi,lo<=hi->hi<=n->(∀ i,i<lo->B i=true)->(∀ i,hi<=i->i<n->B i=false) ->
      wpS (model prog w) A E s (forIn [:n] ((none : Option (Option Nat)), lo, hi) fun _ c => if c.2.1 ≥ c.2.2 then pure (Ycb (none, c.2.1, c.2.2)) else Zi5 left key arr base (c.2.1 + (c.2.2 - c.2.1) / 2) >>= fun x => match x with
          | some more=>if more=true then pure (Ya8 (none,c.2.1+(c.2.2 - c.2.1) / 2+1,c.2.2)) else pure (Ya8 (none,c.2.1,c.2.1+(c.2.2 - c.2.1) / 2))
          | _=>pure (Ycb (some none,c.2.1,c.2.2)))
        (fun c st'=>st'=st/\∃ l k,c=(none,l,k)/\Q (some k) st) st:=by
    intro lo hi hle hin hlo hhi;refine wpS_forRange (I:=fun x c st'=>st'=st/\∃ l k,c=(none,l,k)/\l<=k/\k<=n/\k - l<=n - x/\(∀ i,i<l->B i=true)/\(∀ i,k<=i->i<n->B i=false)) ?step ?fin ⟨rfl,lo,hi,rfl,hle,hin,by omega,hlo,hhi⟩
    case fin=>
      rintro c st' ⟨rfl,l,k,rfl,h1,h2,h3,h4,h5⟩;have e:l=k:=by omega
      subst e;exact⟨rfl,l,l,rfl,h l h2 h4 h5⟩
    case step=>
      rintro x c st' _ hx ⟨rfl,l,k,rfl,h1,h2,h3,h4,h5⟩;dsimp only;by_cases hge:l ≥ k
      · rw[if_pos hge];have e:l=k:=by omega
        subst e;exact wpS_pure ⟨rfl,l,l,rfl,h l h2 h4 h5⟩
      · rw[if_neg hge];have hm:l+(k - l) / 2<k:=by omega
        refine wpS_bind (bey _ (by omega) ?_)
        cases e:B (l+(k - l) / 2) with
        | true=>
          simp only[if_true];exact wpS_pure ⟨rfl,_,_,rfl,by omega,h2,by omega,fun i hi=>mono i _ (by omega) (by omega) e,h5⟩
        | false=>
          simp only[Yar,if_false];exact wpS_pure ⟨rfl,_,_,rfl,by omega,by omega,by omega,h4,fun i h6 h7=>monoF _ i h6 h7 e⟩
  refine wpS_bind (bey hint hh ?_);dsimp only
  cases e0:B hint with
  | true=>
    simp only[if_true];refine wpS_bind (wpS_mono (wpS_forRange (I:=fun x c st'=>st'=st/\∃ l k,c=((none:Option (Option Nat)),l,k)/\l<k/\x+1<=k/\hint+l<n/\B (hint+l)=true)
      (Q:=fun c st'=>st'=st/\∃ l k,c=((none:Option (Option Nat)),l,k)/\l<k/\hint+l<n/\B (hint+l)=true/\(n - hint<=k∨(hint+k<n/\B (hint+k)=false))) ?step ?fin ⟨rfl,0,1,rfl,by omega,by omega,hh,e0⟩) ?post)
    case fin=>
      rintro c st' ⟨rfl,l,k,rfl,h1,h2,h3,h4⟩;exact⟨rfl,l,k,rfl,h1,h3,h4,.inl (by omega)⟩
    case step=>
      rintro x c st' _ hx ⟨rfl,l,k,rfl,h1,h2,h3,h4⟩;dsimp only;by_cases hge:k ≥ n - hint
      · rw[if_pos hge];exact wpS_pure ⟨rfl,l,k,rfl,h1,h3,h4,.inl hge⟩
      · rw[if_neg hge];refine wpS_bind (bey (hint+k) (by omega) ?_)
        cases e:B (hint+k) with
        | true=>
          simp only[YbW,Yar,if_false];exact wpS_pure ⟨rfl,_,_,rfl,by omega,by omega,by omega,e⟩
        | false=>
          simp only[Yem,if_true];exact wpS_pure ⟨rfl,l,k,rfl,h1,h3,h4,.inr ⟨by omega,e⟩⟩
    case post=>
      rintro c st' ⟨rfl,l,k,rfl,h1,h3,h4,h5⟩;dsimp only;refine wpS_bind (wpS_mono (jp (hint+l+1) (hint+min k (n - hint)) (by omega) (by omega) (fun i hi=>mono i (hint+l) (by omega) h3 h4) (fun i h6 h7=>?_)) ?_)
      · rcases h5 with h5 | ⟨h5,h8⟩
        · omega
        · exact monoF (hint+k) i (by omega) h7 h8
      · rintro c st' ⟨rfl,l,k,rfl,q⟩;exact wpS_pure q
  | false=>
    simp only[Yar,if_false];refine wpS_bind (wpS_mono (wpS_forRange (I:=fun x c st'=>st'=st/\∃ l k,c=((none:Option (Option Nat)),l,k)/\l<k/\x+1<=k/\l<=hint/\B (hint - l)=false)
      (Q:=fun c st'=>st'=st/\∃ l k,c=((none:Option (Option Nat)),l,k)/\l<k/\l<=hint/\B (hint - l)=false/\(hint+1<=k∨(k<=hint/\B (hint - k)=true))) ?step ?fin ⟨rfl,0,1,rfl,by omega,by omega,by omega,e0⟩) ?post)
    case fin=>
      rintro c st' ⟨rfl,l,k,rfl,h1,h2,h3,h4⟩;exact⟨rfl,l,k,rfl,h1,h3,h4,.inl (by omega)⟩
    case step=>
      rintro x c st' _ hx ⟨rfl,l,k,rfl,h1,h2,h3,h4⟩;dsimp only;by_cases hge:k ≥ hint+1
      · rw[if_pos hge];exact wpS_pure ⟨rfl,l,k,rfl,h1,h3,h4,.inl hge⟩
      · rw[if_neg hge];refine wpS_bind (bey (hint - k) (by omega) ?_)
        cases e:B (hint - k) with
        | true=>
          simp only[if_true];exact wpS_pure ⟨rfl,l,k,rfl,h1,h3,h4,.inr ⟨by omega,e⟩⟩
        | false=>
          simp only[Yar,if_false];exact wpS_pure ⟨rfl,_,_,rfl,by omega,by omega,by omega,e⟩
    case post=>
      rintro c st' ⟨rfl,l,k,rfl,h1,h3,h4,h5⟩;dsimp only;refine wpS_bind (wpS_mono (jp (hint+1 - min k (hint+1)) (hint - l) (by omega) (by omega) (fun i hi=>?_) (fun i h6 h7=>monoF _ i h6 h7 h4)) ?_)
      · rcases h5 with h5 | ⟨h5,h8⟩
        · omega
        · exact mono i (hint - k) (by omega) (by omega) h8
      · rintro c st' ⟨rfl,l,k,rfl,q⟩;exact wpS_pure q
end
section
variable {O:KO}{a b out:List Keyed}{ia ib:Nat}{x:Keyed}
theorem ZfR {l:List Keyed}{i:Nat}{x:Keyed} (e:l[i]?=some x):l.drop i=x::l.drop (i+1):=by
 obtain⟨h,rfl⟩:=Yae.mp e;exact Yej h
theorem Zgt (a:Array Keyed) (i:Nat):(a.extract i a.size).toList=a.toList.drop i:=by
 rw[YcI];simp only[YeH];exact Ya6 (by simp)
theorem ZfQ (a:Array Keyed) (i k:Nat):(a.extract i (i+k)).toList=(a.toList.drop i).take k:=by
 rw[YcI];simp[YeH]
structure MI (O:KO) (a b out:List Keyed) (ia ib:Nat):Prop where
 perm:(out++(a.drop ia++b.drop ib)).Perm (a++b)
 srt:O.Srt out
 le:∀ x∈out,∀ y∈a.drop ia++b.drop ib,O.le x y
theorem Zf5 (h:O.Srt out) (hx:∀ y∈out,O.le y x):O.Srt (out++[x]) :=
 YaN.mpr ⟨h,Yey _ _,fun y hy z hz=>by rw[YaG.mp hz];exact hx y hy⟩
theorem MI.takeA (h:MI O a b out ia ib) (sa:O.Srt a) (e:a[ia]?=some x) (hb:∀ y∈b.drop ib,O.le x y):MI O a b (out++[x]) (ia+1) ib:=by
 have ed:=ZfR e;have sd:O.Srt (x::a.drop (ia+1)):=ed ▸ sa.drop;refine⟨?_,Zf5 h.srt fun y hy=>h.le y hy x (by rw[ed];simp),fun y hy z hz=>?_⟩
 ·have p:=h.perm;rw[ed] at p;simpa using p
 ·rcases Yak.mp hy with hy | hy
  ·refine h.le y hy z ?_;rw[ed];rcases Yak.mp hz with hz | hz
   ·exact YaU _ (Yap _ hz)
   ·exact Yay _ hz
  ·rw[YaG.mp hy];rcases Yak.mp hz with hz | hz
   ·exact (Ybe.mp sd).1 z hz
   ·exact hb z hz
theorem MI.takeB (h:MI O a b out ia ib) (sb:O.Srt b) (e:b[ib]?=some x) (ha:∀ y∈a.drop ia,O.le x y):MI O a b (out++[x]) ia (ib+1):=by
 have ed:=ZfR e;have sd:O.Srt (x::b.drop (ib+1)):=ed ▸ sb.drop;refine⟨?_,Zf5 h.srt fun y hy=>h.le y hy x (by rw[ed];simp),fun y hy z hz=>?_⟩
 ·have p:=h.perm;rw[ed] at p;refine YdA ?_ p;rw[YaH];exact Yb3 _ (show List.Perm (x::(a.drop ia++b.drop (ib+1))) _ from Yfo.symm)
 ·rcases Yak.mp hy with hy | hy
  ·refine h.le y hy z ?_;rw[ed];rcases Yak.mp hz with hz | hz
   ·exact YaU _ hz
   ·exact Yay _ (Yap _ hz)
  ·rw[YaG.mp hy];rcases Yak.mp hz with hz | hz
   ·exact ha z hz
   ·exact (Ybe.mp sd).1 z hz
theorem ZeH {l:List Keyed}{i k:Nat}{x:Keyed} (e:l[i+k]?=some x):(l.drop i).take (k+1)=(l.drop i).take k++[x]:=by
 rw[List.take_succ,YcS,e];rfl
theorem MI.takeAs (h:MI O a b out ia ib) (sa:O.Srt a):∀ k,ia+k<=a.length->(∀ i z,i<k->a[ia+i]?=some z->∀ y∈b.drop ib,O.le z y)->MI O a b (out++(a.drop ia).take k) (ia+k) ib
 | 0,_,_=>by simpa using h
 | k+1,hl,hz=>by
  have q:=MI.takeAs h sa k (by omega) fun i z hi e=>hz i z (by omega) e;have e:a[ia+k]?=some a[ia+k]:=Yaa (by omega);have r:=q.takeA sa e (hz k _ (by omega) e);rw[YaH,<- ZeH e] at r;exact r
theorem MI.takeBs (h:MI O a b out ia ib) (sb:O.Srt b):∀ k,ib+k<=b.length->(∀ i z,i<k->b[ib+i]?=some z->∀ y∈a.drop ia,O.le z y)->MI O a b (out++(b.drop ib).take k) ia (ib+k)
 | 0,_,_=>by simpa using h
 | k+1,hl,hz=>by
  have q:=MI.takeBs h sb k (by omega) fun i z hi e=>hz i z (by omega) e;have e:b[ib+k]?=some b[ib+k]:=Yaa (by omega);have r:=q.takeB sb e (hz k _ (by omega) e);rw[YaH,<- ZeH e] at r;exact r
def Mg (O:KO) (a b r:List Keyed):Prop:=r.Perm (a++b)/\O.Srt r
theorem MI.doneA (h:MI O a b out ia ib) (sa:O.Srt a) (e:b.length<=ib):Mg O a b (out++a.drop ia++b.drop ib):=by
 have eb:b.drop ib=[]:=List.drop_eq_nil_of_le e;refine⟨by rw[YaH];exact h.perm,?_⟩;rw[eb,YbA];exact YaN.mpr ⟨h.srt,sa.drop,fun x hx y hy=>h.le x hx y (YaU _ hy)⟩
theorem MI.doneB (h:MI O a b out ia ib) (sa:O.Srt a) (sb:O.Srt b) (hl:∀ x∈b.drop ib,∀ y∈a.drop ia,O.le x y):Mg O a b (out++b.drop ib++a.drop ia):=by
 refine⟨by rw[YaH];exact (Yb3 _ YeG).trans h.perm,?_⟩;rw[YaH];refine YaN.mpr ⟨h.srt,YaN.mpr ⟨sb.drop,sa.drop,hl⟩,fun x hx y hy=>h.le x hx y ?_⟩;rcases Yak.mp hy with hy | hy
 ·exact Yay _ hy
 ·exact YaU _ hy
end
section
variable {prog:Program}{w:World}{A:Around}{E:Value->Shared->Prop}{s:Shared}{O:KO}{knd:SortKind}{ok:Keyed->Prop}{st:SortSt}
theorem ZaG {α:Type}{c:Prop} [Decidable c] {p q:StateT SortSt Sem α}{Q:α->SortSt->Prop} (h1:c->wpS (model prog w) A E s p Q st) (h2:¬ c->wpS (model prog w) A E s q Q st):wpS (model prog w) A E s (if c then p else q) Q st:=by
 by_cases h:c
 ·rw[if_pos h];exact h1 h
 ·rw[if_neg h];exact h2 h
def Gal (st st':SortSt):Prop:=kindOf st'=kindOf st/\arrOf st'=arrOf st/\pendingOf st'=pendingOf st/\failedOf st'=failedOf st
theorem Gal.refl:Gal st st:=⟨rfl,rfl,rfl,rfl⟩
theorem Zbc {g:Nat}{st1:SortSt}{Q:Unit->SortSt->Prop} (hG:Gal st st1) (h:∀ st',Gal st st'->Q () st'):wpS (model prog w) A E s (ZgM g) Q st1 :=
 wpS_modify (h _ ⟨hG.1,hG.2.1,hG.2.2.1,hG.2.2.2⟩)
theorem Zcl {l:List Keyed} (sl:O.Srt l) {i j:Nat}{x y:Keyed} (hij:i<=j) (hx:l[i]?=some x) (hy:l[j]?=some y):O.le x y:=by
 obtain⟨h1,rfl⟩:=Yae.mp hx;obtain⟨h2,rfl⟩:=Yae.mp hy;rcases Yff hij with h | h
 ·exact YcV.mp sl i j h1 h2 h
 ·subst h;exact KO.le_refl
theorem ZaY {l:List Keyed}{i:Nat}{y:Keyed} (h:y∈l.drop i):∃ j,i<=j/\l[j]?=some y:=by
 obtain⟨j,hj,e⟩:=YeR.mp h;exact⟨i+j,by omega,by rw[<- YcS,Yaa hj,e]⟩
theorem ZcB {l:List Keyed} (sl:O.Srt l) {i:Nat}{x:Keyed} (hx:l[i]?=some x):∀ y∈l.drop i,O.le x y:=fun y hy=>
 let ⟨_,hj,e⟩:=ZaY hy
 Zcl sl hj hx e
theorem ZaI {a:Array Keyed}{i:Nat} (h:i<a.size):∃ x,a[i]?=some x/\a.toList[i]?=some x/\x∈a.toList :=
 ⟨a[i],YaK h,by rw[Yaf];exact YaK h,by simp⟩
theorem ZdV {a:Array Keyed}{i:Nat}{x:Keyed} (h:a[i]?=some x):a.toList[i]?=some x:=by rw[Yaf];exact h
theorem Zb3 {key:Keyed}{a:Array Keyed}{i n hint:Nat}{Q:Option Nat->SortSt->Prop} (hA:Asks prog w A s O knd ok) (hk:kindOf st=knd) (hkey:ok key) (oka:∀ x∈a.toList,ok x) (hi:i+n<=a.size)
  (sa:∀ p q x y,i<=p->p<=q->q<i+n->a[p]?=some x->a[q]?=some y->O.le x y) (hh:hint<n)
  (h:∀ k,k<=n->(∀ j z,j<k->a[i+j]?=some z->O.le z key)->(∀ j z,k<=j->j<n->a[i+j]?=some z->O.blt (O.ky key) (O.ky z)=true)->Q (some k) st):wpS (model prog w) A E s (ZfP false key a i n hint) Q st:=by
 refine Zdx hA hk hkey (fun j=>!(O.blt (O.ky key) (O.ky (a.getD (i+j) key)))) ?_ ?_ hh ?_
 ·intro j hj;obtain⟨x,e1,_,e3⟩:=ZaI (a:=a) (i:=i+j) (by omega);refine⟨x,e1,oka x e3,?_⟩;have e4:a.getD (i+j) key=x:=by rw[YaX,e1];rfl
  simp[e4]
 ·intro p q hpq hq hb;obtain⟨x,e1,_,_⟩:=ZaI (a:=a) (i:=i+p) (by omega);obtain⟨y,f1,_,_⟩:=ZaI (a:=a) (i:=i+q) (by omega);have e4:a.getD (i+p) key=x:=by rw[YaX,e1];rfl
  have f4:a.getD (i+q) key=y:=by rw[YaX,f1];rfl
  rw[f4] at hb;rw[e4];have z:O.le x key:=KO.le_trans (sa _ _ x y (by omega) (by omega) (by omega) e1 f1) (show O.blt _ _=false by simpa using hb);have z:O.blt (O.ky key) (O.ky x)=false:=z;simpa using z
 ·intro k hk1 h1 h2;refine h k hk1 (fun j z hj e=>?_) (fun j z hj hj2 e=>?_)
  ·have e4:a.getD (i+j) key=z:=by rw[YaX,e];rfl
   have:=h1 j hj;rw[e4] at this;exact (show O.blt _ _=false by simpa using this)
  ·have e4:a.getD (i+j) key=z:=by rw[YaX,e];rfl
   have:=h2 j hj hj2;rw[e4] at this;simpa using this
theorem Zbe {key:Keyed}{a:Array Keyed}{i n hint:Nat}{Q:Option Nat->SortSt->Prop} (hA:Asks prog w A s O knd ok) (hk:kindOf st=knd) (hkey:ok key) (oka:∀ x∈a.toList,ok x) (hi:i+n<=a.size)
  (sa:∀ p q x y,i<=p->p<=q->q<i+n->a[p]?=some x->a[q]?=some y->O.le x y) (hh:hint<n)
  (h:∀ k,k<=n->(∀ j z,j<k->a[i+j]?=some z->O.blt (O.ky z) (O.ky key)=true)->(∀ j z,k<=j->j<n->a[i+j]?=some z->O.le key z)->Q (some k) st):wpS (model prog w) A E s (ZfP true key a i n hint) Q st:=by
 refine Zdx hA hk hkey (fun j=>O.blt (O.ky (a.getD (i+j) key)) (O.ky key)) ?_ ?_ hh ?_
 ·intro j hj;obtain⟨x,e1,_,e3⟩:=ZaI (a:=a) (i:=i+j) (by omega);refine⟨x,e1,oka x e3,?_⟩;have e4:a.getD (i+j) key=x:=by rw[YaX,e1];rfl
  simp[e4]
 ·intro p q hpq hq hb;obtain⟨x,e1,_,_⟩:=ZaI (a:=a) (i:=i+p) (by omega);obtain⟨y,f1,_,_⟩:=ZaI (a:=a) (i:=i+q) (by omega);have e4:a.getD (i+p) key=x:=by rw[YaX,e1];rfl
  have f4:a.getD (i+q) key=y:=by rw[YaX,f1];rfl
  rw[f4] at hb;rw[e4];exact KeyOrd.klt_of_kle_of_klt (O:=O.toKeyOrd) (sa _ _ x y (by omega) (by omega) (by omega) e1 f1) hb
 ·intro k hk1 h1 h2;refine h k hk1 (fun j z hj e=>?_) (fun j z hj hj2 e=>?_)
  ·have e4:a.getD (i+j) key=z:=by rw[YaX,e];rfl
   have:=h1 j hj;rw[e4] at this;exact this
  ·have e4:a.getD (i+j) key=z:=by rw[YaX,e];rfl
   have:=h2 j hj hj2;rw[e4] at this;exact this
theorem srtA {a:Array Keyed} (sa:O.Srt a.toList) (i n:Nat):∀ p q x y,i<=p->p<=q->q<i+n->a[p]?=some x->a[q]?=some y->O.le x y:=fun p q x y _ h _ e1 e2=>Zcl sa h (ZdV e1) (ZdV e2)
theorem Zft {a b:Array Keyed}{Q:Array Keyed->SortSt->Prop} (hA:Asks prog w A s O knd ok) (hk:kindOf st=knd) (oka:∀ x∈a.toList,ok x) (okb:∀ x∈b.toList,ok x) (sa:O.Srt a.toList) (sb:O.Srt b.toList) (ha:1<=a.size) (hb:1<=b.size)
  (hfirst:∀ y,b[0]?=some y->∀ x∈a.toList,O.le y x) (hlast:∀ z,a[a.size - 1]?=some z->∀ y∈b.toList,O.blt (O.ky y) (O.ky z)=true)
  (h:∀ r st',Gal st st'->Mg O a.toList b.toList r.toList->Q r st'):wpS (model prog w) A E s (ZjQ a b) Q st:=by
 obtain⟨b0,eb0,eb0',_⟩:=ZaI (a:=b) (i:=0) (by omega);have done:∀ {out:Array Keyed}{ia ib:Nat},MI O a.toList b.toList out.toList ia ib->b.size<=ib->Mg O a.toList b.toList (out++a.extract ia a.size++b.extract ib b.size).toList:=by
  intro out ia ib m hl;rw[Ya0,Ya0,Zgt,Zgt];exact m.doneA sa hl
 have last:∀ {out:Array Keyed}{ia ib:Nat},MI O a.toList b.toList out.toList ia ib->ia+1=a.size->Mg O a.toList b.toList (out++b.extract ib b.size++a.extract ia a.size).toList:=by
  intro out ia ib m hl;rw[Ya0,Ya0,Zgt,Zgt];refine m.doneB sa sb fun x hx y hy=>?_;obtain⟨j,hj,e⟩:=ZaY hy;have hj2:j<a.size:=(Yae.mp e).1
  have e2:j=a.size - 1:=by omega
  rw[e2] at e;rw[Yaf] at e;exact KO.le_of_lt (hlast y e x (YbN hx))
 have pB:∀ {out:Array Keyed}{ia ib:Nat}{y:Keyed},MI O a.toList b.toList out.toList ia ib->b[ib]?=some y->(∀ z∈a.toList.drop ia,O.le y z)->MI O a.toList b.toList (out.push y).toList ia (ib+1):=by
  intro out ia ib y m e hz;rw[Ycz];exact m.takeB sb (ZdV e) hz
 have pA:∀ {out:Array Keyed}{ia ib:Nat}{y:Keyed},MI O a.toList b.toList out.toList ia ib->a[ia]?=some y->(∀ z∈b.toList.drop ib,O.le y z)->MI O a.toList b.toList (out.push y).toList (ia+1) ib:=by
  intro out ia ib y m e hz;rw[Ycz];exact m.takeA sa (ZdV e) hz
 refine wpS_bind (wpS_lift (wpAny_rule ⟨rfl,?_⟩));refine wpS_bind (Zal eb0 ?_);have m0:MI O a.toList b.toList #[b0].toList 0 1 :=
  MI.takeB (out:=[]) (ib:=0) ⟨by simp,YbK,fun x hx=>by cases hx⟩ sb eb0' (by simpa using hfirst b0 eb0)
 dsimp only;by_cases c1:1=b.size
 ·rw[if_pos (by simpa using c1)];exact wpS_pure (h _ _ Gal.refl (done m0 (by omega)))
 rw[if_neg (by simpa using c1)];by_cases c2:0+1=a.size
 ·rw[if_pos (by simpa using c2)];exact wpS_pure (h _ _ Gal.refl (last m0 (by omega)))
 rw[if_neg (by simpa using c2)];refine wpS_bind (wpS_get ?_);refine wpS_bind (wpS_mono (wpS_forRange
  (I:=fun x c st'=>Gal st st'/\∃ (out:Array Keyed) (ia ib g:Nat),c=((none:Option (Array Keyed)),out,ia,ib,g)/\MI O a.toList b.toList out.toList ia ib/\ia+1<a.size/\ib<b.size/\x<=ia+ib)
  (Q:=fun c st'=>Gal st st'/\∃ (r out:Array Keyed) (ia ib g:Nat),c=(some r,out,ia,ib,g)/\Mg O a.toList b.toList r.toList) ?step ?fin ⟨Gal.refl,#[b0],0,1,gallopOf st,rfl,m0,by omega,by omega,by omega⟩) ?post)
 case fin=>
  rintro c st' ⟨_,out,ia,ib,g,rfl,_,h1,h2,h3⟩;omega
 case post=>
  rintro c st' ⟨hG,r,out,ia,ib,g,rfl,hm⟩;exact wpS_pure (h r st' hG hm)
 case step=>
  rintro x c st1 _ hx ⟨hG1,out,ia,ib,g,rfl,hm,h1,h2,h3⟩;dsimp only;have hk1:kindOf st1=knd:=hG1.1.trans hk;refine wpS_bind (wpS_mono (wpS_forRange
   (I:=fun y c st'=>st'=st1/\∃ (out:Array Keyed) (ia ib p q:Nat),c=((none:Option (Array Keyed)),out,ia,ib,p,q)/\MI O a.toList b.toList out.toList ia ib/\ia+1<a.size/\ib<b.size/\x+y<=ia+ib)
   (Q:=fun c st'=>st'=st1/\((∃ (r out:Array Keyed) (ia ib p q:Nat),c=(some r,out,ia,ib,p,q)/\Mg O a.toList b.toList r.toList) ∨
    (∃ (out:Array Keyed) (ia ib p q:Nat),c=(none,out,ia,ib,p,q)/\MI O a.toList b.toList out.toList ia ib/\ia+1<a.size/\ib<b.size/\x+1<=ia+ib))) ?step1 ?fin1 ⟨rfl,out,ia,ib,0,0,rfl,hm,h1,h2,by omega⟩) ?post1)
  case fin1=>
   rintro c st' ⟨rfl,out,ia,ib,p,q,rfl,hm,h1,h2,h3⟩;exact⟨rfl,.inr ⟨out,ia,ib,p,q,rfl,hm,h1,h2,by omega⟩⟩
  case step1=>
   rintro y c st' _ hy ⟨rfl,out,ia,ib,p,q,rfl,hm,h1,h2,h3⟩;dsimp only;obtain⟨u,eu,eu',mu⟩:=ZaI (a:=b) h2;obtain⟨v,ev,ev',mv⟩:=ZaI (a:=a) (i:=ia) (by omega);refine wpS_bind (Zal eu (wpS_bind (Zal ev ?_)));refine wpS_bind (Zez hA hk1 (okb u mu) (oka v mv) ?_)
   cases e:O.blt (O.ky u) (O.ky v) with
   | true=>
    simp only[if_true];refine wpS_bind (Zal eu ?_);have m2:=pB hm eu fun z hz=>KO.le_trans (KO.le_of_lt e) (ZcB sa ev' z hz);by_cases c3:ib+1=b.size
    ·rw[if_pos (by simpa using c3)];exact wpS_pure ⟨rfl,.inl ⟨_,_,_,_,_,_,rfl,done m2 (by omega)⟩⟩
    rw[if_neg (by simpa using c3)];refine ZaG (fun _=>?_) (fun _=>?_)
    ·exact wpS_pure ⟨rfl,.inr ⟨_,_,_,_,_,rfl,m2,by omega,by omega,by omega⟩⟩
    ·exact wpS_pure ⟨rfl,_,_,_,_,_,rfl,m2,by omega,by omega,by omega⟩
   | false=>
    simp only[Yar,if_false];refine wpS_bind (Zal ev ?_);have m2:=pA hm ev fun z hz=>KO.le_trans (show O.le v u from e) (ZcB sb eu' z hz);by_cases c3:ia+1+1=a.size
    ·rw[if_pos (by simpa using c3)];exact wpS_pure ⟨rfl,.inl ⟨_,_,_,_,_,_,rfl,last m2 c3⟩⟩
    rw[if_neg (by simpa using c3)];refine ZaG (fun _=>?_) (fun _=>?_)
    ·exact wpS_pure ⟨rfl,.inr ⟨_,_,_,_,_,rfl,m2,by omega,by omega,by omega⟩⟩
    ·exact wpS_pure ⟨rfl,_,_,_,_,_,rfl,m2,by omega,by omega,by omega⟩
  case post1=>
   rintro c st' ⟨rfl,⟨r,out,ia,ib,p,q,rfl,hr⟩ | ⟨out,ia,ib,p,q,rfl,hm,h1,h2,h3⟩⟩
   ·exact wpS_pure ⟨hG1,_,_,_,_,_,rfl,hr⟩
   dsimp only;refine wpS_bind (wpS_lift (wpAny_rule ⟨rfl,?_⟩));refine wpS_bind (wpS_mono (wpS_forRange
    (I:=fun y c st'=>Gal st st'/\∃ (out:Array Keyed) (ia ib g p q:Nat),c=((none:Option (Array Keyed)),out,ia,ib,g,p,q)/\MI O a.toList b.toList out.toList ia ib/\ia+1<a.size/\ib<b.size/\x+1<=ia+ib)
    (Q:=fun c st'=>Gal st st'/\((∃ (r out:Array Keyed) (ia ib g p q:Nat),c=(some r,out,ia,ib,g,p,q)/\Mg O a.toList b.toList r.toList) ∨
     (∃ (out:Array Keyed) (ia ib g p q:Nat),c=(none,out,ia,ib,g,p,q)/\MI O a.toList b.toList out.toList ia ib/\ia+1<a.size/\ib<b.size/\x+1<=ia+ib))) ?step2 ?fin2 ⟨hG1,out,ia,ib,g+1,p,q,rfl,hm,h1,h2,h3⟩) ?post2)
   case fin2=>
    rintro c st' ⟨hG,out,ia,ib,g,p,q,rfl,hm,h1,h2,h3⟩;exact⟨hG,.inr ⟨out,ia,ib,g,p,q,rfl,hm,h1,h2,h3⟩⟩
   case post2=>
    rintro c st' ⟨hG,⟨r,out,ia,ib,g,p,q,rfl,hr⟩ | ⟨out,ia,ib,g,p,q,rfl,hm,h1,h2,h3⟩⟩
    ·exact wpS_pure ⟨hG,_,_,_,_,_,rfl,hr⟩
    exact wpS_bind (Zbc hG fun st2 hG2=>wpS_pure ⟨hG2,_,_,_,_,rfl,hm,h1,h2,h3⟩)
   case step2=>
    rintro y c st' _ hy ⟨hG,out,ia,ib,g,p,q,rfl,hm,h1,h2,h3⟩;dsimp only;obtain⟨u,eu,eu',mu⟩:=ZaI (a:=b) h2;refine ZaG (fun cg=>?_) (fun cg=>?_)
    all_goals
     refine wpS_bind (Zbc hG fun st2 hG2=>wpS_bind (Zal eu ?_));refine wpS_bind (Zb3 hA (hG2.1.trans hk) (okb u mu) oka (by omega) (srtA sa _ _) (by omega) fun k hk1 b1 b2=>?_);have m3:=hm.takeAs sa k (by simp;omega) fun i z hi e y hy=>KO.le_trans (b1 i z hi (by rw[<- Yaf];exact e)) (ZcB sb eu' y hy);have hu:∀ z∈a.toList.drop (ia+k),O.le u z:=by
      intro z hz;obtain⟨j,hj,e⟩:=ZaY hz;have hj2:j<a.size:=(Yae.mp e).1
      refine KO.le_of_lt (b2 (j - ia) z (by omega) (by omega) ?_);rw[show ia+(j - ia)=j by omega,<- Yaf];exact e
     have hka:ia+k<a.size:=by
      rcases Yff hk1 with z | z
      ·omega
      ·obtain⟨zl,el,_,_⟩:=ZaI (a:=a) (i:=a.size - 1) (by omega);have q1:=hlast zl el u mu;have q2:=b1 (a.size - 1 - ia) zl (by omega) (by rw[show ia+(a.size - 1 - ia)=a.size - 1 by omega];exact el);rw[show O.blt (O.ky u) (O.ky zl)=false from q2] at q1;cases q1
     dsimp only;by_cases ck:k > 0
     ·rw[if_pos ck];rw[<- ZfQ,<- Ya0] at m3;by_cases c3:ia+k+1=a.size
      ·rw[if_pos (by simpa using c3)];exact wpS_pure ⟨hG2,.inl ⟨_,_,_,_,_,_,_,rfl,last m3 c3⟩⟩
      rw[if_neg (by simpa using c3),if_neg (by simp;omega)];refine wpS_bind (Zal eu ?_);have m4:=pB m3 eu hu;by_cases c4:ib+1=b.size
      ·rw[if_pos (by simpa using c4)];exact wpS_pure ⟨hG2,.inl ⟨_,_,_,_,_,_,_,rfl,done m4 (by omega)⟩⟩
      rw[if_neg (by simpa using c4)];obtain⟨v,ev,ev',mv⟩:=ZaI (a:=a) (i:=ia+k) (by omega);refine wpS_bind (Zal ev ?_);refine wpS_bind (Zbe hA (hG2.1.trans hk) (oka v mv) okb (by omega) (srtA sb _ _) (by omega) fun k2 hk2 d1 d2=>?_);have m5:=m4.takeBs sb k2 (by simp;omega) fun i z hi e y hy=>KO.le_trans (KO.le_of_lt (d1 i z hi (by rw[<- Yaf];exact e))) (ZcB sa ev' y hy);have hv:∀ z∈b.toList.drop (ib+1+k2),O.le v z:=by
       intro z hz;obtain⟨j,hj,e⟩:=ZaY hz;have hj2:j<b.size:=(Yae.mp e).1
       refine d2 (j - (ib+1)) z (by omega) (by omega) ?_;rw[show ib+1+(j - (ib+1))=j by omega,<- Yaf];exact e
      dsimp only;by_cases ck2:k2 > 0
      ·rw[if_pos ck2];rw[<- ZfQ,<- Ya0] at m5;by_cases c6:ib+1+k2=b.size
       ·rw[if_pos (by simpa using c6)];exact wpS_pure ⟨hG2,.inl ⟨_,_,_,_,_,_,_,rfl,done m5 (by omega)⟩⟩
       rw[if_neg (by simpa using c6)];refine wpS_bind (Zal ev ?_);have m7:=pA m5 ev hv;by_cases c7:ia+k+1+1=a.size
       ·rw[if_pos (by simpa using c7)];exact wpS_pure ⟨hG2,.inl ⟨_,_,_,_,_,_,_,rfl,last m7 c7⟩⟩
       rw[if_neg (by simpa using c7)];refine ZaG (fun _=>?_) (fun _=>?_)
       ·exact wpS_pure ⟨hG2,.inr ⟨_,_,_,_,_,_,rfl,m7,by omega,by omega,by omega⟩⟩
       ·exact wpS_pure ⟨hG2,_,_,_,_,_,_,rfl,m7,by omega,by omega,by omega⟩
      ·rw[if_neg ck2];have k0:k2=0:=by omega
       subst k0;rw[Ych,YbA] at m5;refine wpS_bind (Zal ev ?_);have m7:=pA m5 ev hv;by_cases c7:ia+k+1+1=a.size
       ·rw[if_pos (by simpa using c7)];exact wpS_pure ⟨hG2,.inl ⟨_,_,_,_,_,_,_,rfl,last m7 c7⟩⟩
       rw[if_neg (by simpa using c7)];refine ZaG (fun _=>?_) (fun _=>?_)
       ·exact wpS_pure ⟨hG2,.inr ⟨_,_,_,_,_,_,rfl,m7,by omega,by omega,by omega⟩⟩
       ·exact wpS_pure ⟨hG2,_,_,_,_,_,_,rfl,m7,by omega,by omega,by omega⟩
     ·rw[if_neg ck];have k0:k=0:=by omega
      subst k0;rw[Ych,YbA] at m3;refine wpS_bind (Zal eu ?_);have m4:=pB m3 eu hu;by_cases c4:ib+1=b.size
      ·rw[if_pos (by simpa using c4)];exact wpS_pure ⟨hG2,.inl ⟨_,_,_,_,_,_,_,rfl,done m4 (by omega)⟩⟩
      rw[if_neg (by simpa using c4)];obtain⟨v,ev,ev',mv⟩:=ZaI (a:=a) (i:=ia+0) (by omega);refine wpS_bind (Zal ev ?_);refine wpS_bind (Zbe hA (hG2.1.trans hk) (oka v mv) okb (by omega) (srtA sb _ _) (by omega) fun k2 hk2 d1 d2=>?_);have m5:=m4.takeBs sb k2 (by simp;omega) fun i z hi e y hy=>KO.le_trans (KO.le_of_lt (d1 i z hi (by rw[<- Yaf];exact e))) (ZcB sa ev' y hy);have hv:∀ z∈b.toList.drop (ib+1+k2),O.le v z:=by
       intro z hz;obtain⟨j,hj,e⟩:=ZaY hz;have hj2:j<b.size:=(Yae.mp e).1
       refine d2 (j - (ib+1)) z (by omega) (by omega) ?_;rw[show ib+1+(j - (ib+1))=j by omega,<- Yaf];exact e
      dsimp only;by_cases ck2:k2 > 0
      ·rw[if_pos ck2];rw[<- ZfQ,<- Ya0] at m5;by_cases c6:ib+1+k2=b.size
       ·rw[if_pos (by simpa using c6)];exact wpS_pure ⟨hG2,.inl ⟨_,_,_,_,_,_,_,rfl,done m5 (by omega)⟩⟩
       rw[if_neg (by simpa using c6)];refine wpS_bind (Zal ev ?_);have m7:=pA m5 ev hv;by_cases c7:ia+0+1+1=a.size
       ·rw[if_pos (by simpa using c7)];exact wpS_pure ⟨hG2,.inl ⟨_,_,_,_,_,_,_,rfl,last m7 c7⟩⟩
       rw[if_neg (by simpa using c7)];refine ZaG (fun _=>?_) (fun _=>?_)
       ·exact wpS_pure ⟨hG2,.inr ⟨_,_,_,_,_,_,rfl,m7,by omega,by omega,by omega⟩⟩
       ·exact wpS_pure ⟨hG2,_,_,_,_,_,_,rfl,m7,by omega,by omega,by omega⟩
      ·rw[if_neg ck2];have k0:k2=0:=by omega
       subst k0;rw[Ych,YbA] at m5;refine wpS_bind (Zal ev ?_);have m7:=pA m5 ev hv;by_cases c7:ia+0+1+1=a.size
       ·rw[if_pos (by simpa using c7)];exact wpS_pure ⟨hG2,.inl ⟨_,_,_,_,_,_,_,rfl,last m7 c7⟩⟩
       rw[if_neg (by simpa using c7)];refine ZaG (fun _=>?_) (fun _=>?_)
       ·exact wpS_pure ⟨hG2,.inr ⟨_,_,_,_,_,_,rfl,m7,by omega,by omega,by omega⟩⟩
       ·exact wpS_pure ⟨hG2,_,_,_,_,_,_,rfl,m7,by omega,by omega,by omega⟩
end
section
variable {O:KO}{a b out:List Keyed}{na nb:Nat}{x:Keyed}
structure MH (O:KO) (a b out:List Keyed) (na nb:Nat):Prop where
 perm:(a.take na++b.take nb++out.reverse).Perm (a++b)
 srt:O.Srt out.reverse
 le:∀ x∈a.take na++b.take nb,∀ y∈out,O.le x y
theorem Zho {l:List Keyed}{i:Nat}{x:Keyed} (e:l[i]?=some x):l.take (i+1)=l.take i++[x]:=by
 rw[List.take_succ,e];rfl
theorem MH.takeA (h:MH O a b out (na+1) nb) (sa:O.Srt a) (e:a[na]?=some x) (hb:∀ y∈b.take nb,O.le y x):MH O a b (out++[x]) na nb:=by
 have ed:=Zho e;have sd:O.Srt (a.take na++[x]):=ed ▸ sa.take;have hx:x∈a.take (na+1)++b.take nb:=by rw[ed];simp
 refine⟨?_,?_,fun y hy z hz=>?_⟩
 ·have p:=h.perm;rw[ed] at p;refine YdA ?_ p;rw[YcL];simp only[YbX,Yc5,YdZ,YaH,List.singleton_append];refine Yb3 _ ?_;exact (Yfo (a:=x) (l₁:=b.take nb) (l₂:=out.reverse))
 ·rw[YcL];exact Ybe.mpr ⟨fun y hy=>h.le x hx y (Yc6.mp hy),h.srt⟩
 ·rcases Yak.mp hz with hz | hz
  ·refine h.le y ?_ z hz;rw[ed];rcases Yak.mp hy with hy | hy
   ·exact YaU _ (YaU _ hy)
   ·exact Yay _ hy
  ·rw[YaG.mp hz];rcases Yak.mp hy with hy | hy
   ·exact (YaN.mp sd).2.2 y hy x (by simp)
   ·exact hb y hy
theorem MH.takeB (h:MH O a b out na (nb+1)) (sb:O.Srt b) (e:b[nb]?=some x) (ha:∀ y∈a.take na,O.le y x):MH O a b (out++[x]) na nb:=by
 have ed:=Zho e;have sd:O.Srt (b.take nb++[x]):=ed ▸ sb.take;have hx:x∈a.take na++b.take (nb+1):=by rw[ed];simp
 refine⟨?_,?_,fun y hy z hz=>?_⟩
 ·have p:=h.perm;rw[ed] at p;rw[YcL];simpa using p
 ·rw[YcL];exact Ybe.mpr ⟨fun y hy=>h.le x hx y (Yc6.mp hy),h.srt⟩
 ·rcases Yak.mp hz with hz | hz
  ·refine h.le y ?_ z hz;rw[ed];rcases Yak.mp hy with hy | hy
   ·exact YaU _ hy
   ·exact Yay _ (YaU _ hy)
  ·rw[YaG.mp hz];rcases Yak.mp hy with hy | hy
   ·exact ha y hy
   ·exact (YaN.mp sd).2.2 y hy x (by simp)
theorem Zf9 {l:List Keyed}{i d:Nat}{x:Keyed} (e:l[i]?=some x):(l.drop i).take (d+1)=x::(l.drop (i+1)).take d:=by
 rw[ZfR e];rfl
theorem MH.takeAs (h:MH O a b out na nb) (sa:O.Srt a) (hn:na<=a.length):∀ d,d<=na->(∀ i z,na - d<=i->i<na->a[i]?=some z->∀ y∈b.take nb,O.le y z)->MH O a b (out++((a.drop (na - d)).take d).reverse) (na - d) nb
 | 0,_,_=>by simpa using h
 | d+1,hl,hz=>by
  have q:=MH.takeAs h sa hn d (by omega) fun i z h1 h2 e=>hz i z (by omega) h2 e;have e:a[na - (d+1)]?=some a[na - (d+1)]:=Yaa (by omega);rw[show na - d=na - (d+1)+1 by omega] at q;have r:=q.takeA sa e (hz _ _ (by omega) (by omega) e);rw[YaH,<- YbX,<- Zf9 e] at r;exact r
theorem MH.takeBs (h:MH O a b out na nb) (sb:O.Srt b) (hn:nb<=b.length):∀ d,d<=nb->(∀ i z,nb - d<=i->i<nb->b[i]?=some z->∀ y∈a.take na,O.le y z)->MH O a b (out++((b.drop (nb - d)).take d).reverse) na (nb - d)
 | 0,_,_=>by simpa using h
 | d+1,hl,hz=>by
  have q:=MH.takeBs h sb hn d (by omega) fun i z h1 h2 e=>hz i z (by omega) h2 e;have e:b[nb - (d+1)]?=some b[nb - (d+1)]:=Yaa (by omega);rw[show nb - d=nb - (d+1)+1 by omega] at q;have r:=q.takeB sb e (hz _ _ (by omega) (by omega) e);rw[YaH,<- YbX,<- Zf9 e] at r;exact r
theorem MH.doneA (h:MH O a b out 0 nb) (sb:O.Srt b):Mg O a b (a.take 0++b.take nb++out.reverse):=by
 refine⟨h.perm,?_⟩;rw[Ych,YdZ];exact YaN.mpr ⟨sb.take,h.srt,fun x hx y hy=>h.le x (Yay _ hx) y (Yc6.mp hy)⟩
theorem MH.doneB (h:MH O a b out na nb) (sa:O.Srt a) (sb:O.Srt b) (hl:∀ x∈b.take nb,∀ y∈a.take na,O.le x y):Mg O a b (b.take nb++a.take na++out.reverse):=by
 refine⟨(YcX _ YeG).trans h.perm,?_⟩;refine YaN.mpr ⟨YaN.mpr ⟨sb.take,sa.take,hl⟩,h.srt,fun x hx y hy=>h.le x ?_ y (Yc6.mp hy)⟩;rcases Yak.mp hx with hx | hx
 ·exact Yay _ hx
 ·exact YaU _ hx
theorem ZaX {l:List Keyed}{i:Nat}{y:Keyed} (h:y∈l.take i):∃ j,j<i/\l[j]?=some y:=by
 obtain⟨j,hj,e⟩:=YeR.mp h;rw[Yax] at hj;refine⟨j,by omega,?_⟩;rw[YcB] at e;rw[Yaa (by omega),e]
theorem Ziq {l:List Keyed} (sl:O.Srt l) {i:Nat}{x:Keyed} (hx:l[i]?=some x):∀ y∈l.take (i+1),O.le y x:=fun y hy=>
 let ⟨_,hj,e⟩:=ZaX hy
 Zcl sl (by omega) e hx
theorem Zep (a:Array Keyed) (i:Nat):(a.extract 0 i).toList=a.toList.take i:=by
 rw[YcI];simp[YeH]
theorem Zeo (a:Array Keyed) (i n:Nat):(a.extract i n).toList=(a.toList.drop i).take (n - i):=by
 rw[YcI]
end
section
variable {prog:Program}{w:World}{A:Around}{E:Value->Shared->Prop}{s:Shared}{O:KO}{knd:SortKind}{ok:Keyed->Prop}{st:SortSt}
theorem Zfu {a b:Array Keyed}{Q:Array Keyed->SortSt->Prop} (hA:Asks prog w A s O knd ok) (hk:kindOf st=knd) (oka:∀ x∈a.toList,ok x) (okb:∀ x∈b.toList,ok x) (sa:O.Srt a.toList) (sb:O.Srt b.toList) (ha:1<=a.size) (hb:1<=b.size)
  (hfirst:∀ y,b[0]?=some y->∀ x∈a.toList,O.blt (O.ky y) (O.ky x)=true) (hlast:∀ z,a[a.size - 1]?=some z->∀ y∈b.toList,O.le y z)
  (h:∀ r st',Gal st st'->Mg O a.toList b.toList r.toList->Q r st'):wpS (model prog w) A E s (ZjR a b) Q st:=by
 obtain⟨a0,ea0,ea0',_⟩:=ZaI (a:=a) (i:=a.size - 1) (by omega);have done:∀ {out:Array Keyed}{nb:Nat},MH O a.toList b.toList out.toList 0 nb->Mg O a.toList b.toList (a.extract 0 0++b.extract 0 nb++out.reverse).toList:=by
  intro out nb m;rw[Ya0,Ya0,Zep,Zep,Yce];exact m.doneA sb
 have first:∀ {out:Array Keyed}{na:Nat},MH O a.toList b.toList out.toList na 1->Mg O a.toList b.toList (b.extract 0 1++a.extract 0 na++out.reverse).toList:=by
  intro out na m;rw[Ya0,Ya0,Zep,Zep,Yce];refine m.doneB sa sb fun x hx y hy=>?_;obtain⟨j,hj,e⟩:=ZaX hx;have e2:j=0:=by omega
  rw[e2,Yaf] at e;exact KO.le_of_lt (hfirst x e y (YbC hy))
 have pB:∀ {out:Array Keyed}{na nb:Nat}{y:Keyed},1<=nb->MH O a.toList b.toList out.toList na nb->b[nb - 1]?=some y->(∀ z∈a.toList.take na,O.le z y)->MH O a.toList b.toList (out.push y).toList na (nb - 1):=by
  intro out na nb y hn m e hz;rw[Ycz];exact MH.takeB (by rw[show nb - 1+1=nb by omega];exact m) sb (ZdV e) hz
 have pA:∀ {out:Array Keyed}{na nb:Nat}{y:Keyed},1<=na->MH O a.toList b.toList out.toList na nb->a[na - 1]?=some y->(∀ z∈b.toList.take nb,O.le z y)->MH O a.toList b.toList (out.push y).toList (na - 1) nb:=by
  intro out na nb y hn m e hz;rw[Ycz];exact MH.takeA (by rw[show na - 1+1=na by omega];exact m) sa (ZdV e) hz
 have leT:∀ {l:List Keyed}{i:Nat}{x:Keyed},O.Srt l->1<=i->l[i - 1]?=some x->∀ y∈l.take i,O.le y x:=by
  intro l i x sl hi e y hy;exact Ziq sl e y (by rw[show i - 1+1=i by omega];exact hy)
 refine wpS_bind (wpS_lift (wpAny_rule ⟨rfl,?_⟩));refine wpS_bind (Zal ea0 ?_);have m0:MH O a.toList b.toList #[a0].toList (a.size - 1) b.size:=by
  refine MH.takeA (out:=[]) (na:=a.size - 1) (nb:=b.size) ⟨?_,YbK,fun x hx y hy=>by cases hy⟩ sa ea0' fun y hy=>hlast a0 ea0 y (YbC hy);rw[show a.size - 1+1=a.size by omega,Ya6 (by simp),Ya6 (by simp)];simp
 dsimp only;by_cases c1:a.size - 1=0
 ·rw[if_pos (by simpa using c1)];rw[c1] at m0 ⊢;exact wpS_pure (h _ _ Gal.refl (done m0))
 rw[if_neg (by simpa using c1)];by_cases c2:b.size=1
 ·rw[if_pos (by simpa using c2)];rw[c2] at m0;rw[c2];exact wpS_pure (h _ _ Gal.refl (first m0))
 rw[if_neg (by simpa using c2)];refine wpS_bind (wpS_get ?_);refine wpS_bind (wpS_mono (wpS_forRange
  (I:=fun x c st'=>Gal st st'/\∃ (out:Array Keyed) (na nb g:Nat),c=((none:Option (Array Keyed)),na,nb,out,g)/\MH O a.toList b.toList out.toList na nb/\1<=na/\na<=a.size/\2<=nb/\nb<=b.size/\x+na+nb<=a.size+b.size)
  (Q:=fun c st'=>Gal st st'/\∃ (r out:Array Keyed) (na nb g:Nat),c=(some r,na,nb,out,g)/\Mg O a.toList b.toList r.toList) ?step ?fin ⟨Gal.refl,#[a0],a.size - 1,b.size,gallopOf st,rfl,m0,by omega,by omega,by omega,by omega,show 0+(a.size - 1)+b.size<=_ by omega⟩) ?post)
 case fin=>
  rintro c st' ⟨_,out,na,nb,g,rfl,_,h1,h1',h2,h2',h3⟩;omega
 case post=>
  rintro c st' ⟨hG,r,out,na,nb,g,rfl,hm⟩;exact wpS_pure (h r st' hG hm)
 case step=>
  rintro x c st1 _ hx ⟨hG1,out,na,nb,g,rfl,hm,h1,h1',h2,h2',h3⟩;dsimp only;have hk1:kindOf st1=knd:=hG1.1.trans hk;refine wpS_bind (wpS_mono (wpS_forRange
   (I:=fun y c st'=>st'=st1/\∃ (out:Array Keyed) (na nb p q:Nat),c=((none:Option (Array Keyed)),na,nb,out,p,q)/\MH O a.toList b.toList out.toList na nb/\1<=na/\na<=a.size/\2<=nb/\nb<=b.size/\x+y+na+nb<=a.size+b.size)
   (Q:=fun c st'=>st'=st1/\((∃ (r out:Array Keyed) (na nb p q:Nat),c=(some r,na,nb,out,p,q)/\Mg O a.toList b.toList r.toList) ∨
    (∃ (out:Array Keyed) (na nb p q:Nat),c=(none,na,nb,out,p,q)/\MH O a.toList b.toList out.toList na nb/\1<=na/\na<=a.size/\2<=nb/\nb<=b.size/\x+1+na+nb<=a.size+b.size))) ?step1 ?fin1 ⟨rfl,out,na,nb,0,0,rfl,hm,h1,h1',h2,h2',by omega⟩) ?post1)
  case fin1=>
   rintro c st' ⟨rfl,out,na,nb,p,q,rfl,hm,h1,h1',h2,h2',h3⟩;exact⟨rfl,.inr ⟨out,na,nb,p,q,rfl,hm,h1,h1',h2,h2',by omega⟩⟩
  case step1=>
   rintro y c st' _ hy ⟨rfl,out,na,nb,p,q,rfl,hm,h1,h1',h2,h2',h3⟩;dsimp only;obtain⟨u,eu,eu',mu⟩:=ZaI (a:=b) (i:=nb - 1) (by omega);obtain⟨v,ev,ev',mv⟩:=ZaI (a:=a) (i:=na - 1) (by omega);refine wpS_bind (Zal eu (wpS_bind (Zal ev ?_)));refine wpS_bind (Zez hA hk1 (okb u mu) (oka v mv) ?_)
   cases e:O.blt (O.ky u) (O.ky v) with
   | true=>
    simp only[if_true];refine wpS_bind (Zal ev ?_);have m2:=pA h1 hm ev fun z hz=>KO.le_trans (leT sb (by omega) eu' z hz) (KO.le_of_lt e);by_cases c3:na - 1=0
    ·rw[if_pos (by simpa using c3)];rw[c3] at m2 ⊢;exact wpS_pure ⟨rfl,.inl ⟨_,_,_,_,_,_,rfl,done m2⟩⟩
    rw[if_neg (by simpa using c3)];refine ZaG (fun _=>?_) (fun _=>?_)
    ·exact wpS_pure ⟨rfl,.inr ⟨_,_,_,_,_,rfl,m2,by omega,by omega,by omega,by omega,by omega⟩⟩
    ·exact wpS_pure ⟨rfl,_,_,_,_,_,rfl,m2,by omega,by omega,by omega,by omega,by omega⟩
   | false=>
    simp only[Yar,if_false];refine wpS_bind (Zal eu ?_);have m2:=pB (by omega) hm eu fun z hz=>KO.le_trans (leT sa (by omega) ev' z hz) (show O.le v u from e);by_cases c3:nb - 1=1
    ·rw[if_pos (by simpa using c3)];rw[c3] at m2 ⊢;exact wpS_pure ⟨rfl,.inl ⟨_,_,_,_,_,_,rfl,first m2⟩⟩
    rw[if_neg (by simpa using c3)];refine ZaG (fun _=>?_) (fun _=>?_)
    ·exact wpS_pure ⟨rfl,.inr ⟨_,_,_,_,_,rfl,m2,by omega,by omega,by omega,by omega,by omega⟩⟩
    ·exact wpS_pure ⟨rfl,_,_,_,_,_,rfl,m2,by omega,by omega,by omega,by omega,by omega⟩
  case post1=>
   rintro c st' ⟨rfl,⟨r,out,na,nb,p,q,rfl,hr⟩ | ⟨out,na,nb,p,q,rfl,hm,h1,h1',h2,h2',h3⟩⟩
   ·exact wpS_pure ⟨hG1,_,_,_,_,_,rfl,hr⟩
   dsimp only;refine wpS_bind (wpS_lift (wpAny_rule ⟨rfl,?_⟩));refine wpS_bind (wpS_mono (wpS_forRange
    (I:=fun y c st'=>Gal st st'/\∃ (out:Array Keyed) (na nb g p q:Nat),c=((none:Option (Array Keyed)),na,nb,out,g,p,q)/\MH O a.toList b.toList out.toList na nb/\1<=na/\na<=a.size/\2<=nb/\nb<=b.size/\x+1+na+nb<=a.size+b.size)
    (Q:=fun c st'=>Gal st st'/\((∃ (r out:Array Keyed) (na nb g p q:Nat),c=(some r,na,nb,out,g,p,q)/\Mg O a.toList b.toList r.toList) ∨
     (∃ (out:Array Keyed) (na nb g p q:Nat),c=(none,na,nb,out,g,p,q)/\MH O a.toList b.toList out.toList na nb/\1<=na/\na<=a.size/\2<=nb/\nb<=b.size/\x+1+na+nb<=a.size+b.size))) ?step2 ?fin2 ⟨hG1,out,na,nb,g+1,p,q,rfl,hm,h1,h1',h2,h2',h3⟩) ?post2)
   case fin2=>
    rintro c st' ⟨hG,out,na,nb,g,p,q,rfl,hm,h1,h1',h2,h2',h3⟩;exact⟨hG,.inr ⟨out,na,nb,g,p,q,rfl,hm,h1,h1',h2,h2',h3⟩⟩
   case post2=>
    rintro c st' ⟨hG,⟨r,out,na,nb,g,p,q,rfl,hr⟩ | ⟨out,na,nb,g,p,q,rfl,hm,h1,h1',h2,h2',h3⟩⟩
    ·exact wpS_pure ⟨hG,_,_,_,_,_,rfl,hr⟩
    exact wpS_bind (Zbc hG fun st2 hG2=>wpS_pure ⟨hG2,_,_,_,_,rfl,hm,h1,h1',h2,h2',h3⟩)
   case step2=>
    rintro y c st' _ hy ⟨hG,out,na,nb,g,p,q,rfl,hm,h1,h1',h2,h2',h3⟩;dsimp only;obtain⟨u,eu,eu',mu⟩:=ZaI (a:=b) (i:=nb - 1) (by omega);refine ZaG (fun cg=>?_) (fun cg=>?_)
    all_goals
     refine wpS_bind (Zbc hG fun st2 hG2=>wpS_bind (Zal eu ?_));refine wpS_bind (Zb3 hA (hG2.1.trans hk) (okb u mu) oka (by omega) (srtA sa _ _) (by omega) fun k hk1 b1 b2=>?_);have m3:=hm.takeAs sa (by simp;omega) (na - k) (by omega) fun i z h6 h7 e y hy=>KO.le_trans (leT sb (by omega) eu' y hy) (KO.le_of_lt (b2 i z (by omega) (by omega) (by rw[Ybw,<- Yaf];exact e)));rw[show na - (na - k)=k by omega] at m3;have hu:∀ z∈a.toList.take k,O.le z u:=by
      intro z hz;obtain⟨j,hj,e⟩:=ZaX hz;refine b1 j z hj ?_;rw[Ybw,<- Yaf];exact e
     dsimp only;by_cases ck:na - k > 0
     ·rw[if_pos ck];rw[<- Zeo,<- Yce,<- Ya0] at m3;by_cases c3:k=0
      ·rw[if_pos (by simpa using c3)];rw[c3] at m3 ⊢;exact wpS_pure ⟨hG2,.inl ⟨_,_,_,_,_,_,_,rfl,done m3⟩⟩
      rw[if_neg (by simpa using c3)];refine wpS_bind (Zal eu ?_);have m4:=pB (by omega) m3 eu hu;by_cases c4:nb - 1=1
      ·rw[if_pos (by simpa using c4)];rw[c4] at m4 ⊢;exact wpS_pure ⟨hG2,.inl ⟨_,_,_,_,_,_,_,rfl,first m4⟩⟩
      rw[if_neg (by simpa using c4)];obtain⟨v,ev,ev',mv⟩:=ZaI (a:=a) (i:=k - 1) (by omega);refine wpS_bind (Zal ev ?_);refine wpS_bind (Zbe hA (hG2.1.trans hk) (oka v mv) okb (by omega) (srtA sb _ _) (by omega) fun k2 hk2 d1 d2=>?_);have hk20:1<=k2:=by
       rcases Ydz k2 with z | z
       ·obtain⟨zl,el,_,_⟩:=ZaI (a:=b) (i:=0) (by omega);have q1:=hfirst zl el v mv;have q2:=d2 0 zl (by omega) (by omega) (by rw[Ybw];exact el);rw[show O.blt (O.ky zl) (O.ky v)=false from q2] at q1;cases q1
       ·exact z
      have m5:=m4.takeBs sb (by simp;omega) (nb - 1 - k2) (by omega) fun i z h6 h7 e y hy=>KO.le_trans (leT sa (by omega) ev' y hy) (d2 i z (by omega) (by omega) (by rw[Ybw,<- Yaf];exact e));rw[show nb - 1 - (nb - 1 - k2)=k2 by omega] at m5;have hv:∀ z∈b.toList.take k2,O.le z v:=by
       intro z hz;obtain⟨j,hj,e⟩:=ZaX hz;refine KO.le_of_lt (d1 j z hj ?_);rw[Ybw,<- Yaf];exact e
      dsimp only;by_cases ck2:nb - 1 - k2 > 0
      ·rw[if_pos ck2];rw[<- Zeo,<- Yce,<- Ya0] at m5;by_cases c6:k2=1
       ·rw[if_pos (by simpa using c6)];rw[c6] at m5 ⊢;exact wpS_pure ⟨hG2,.inl ⟨_,_,_,_,_,_,_,rfl,first m5⟩⟩
       rw[if_neg (by simpa using c6),if_neg (by simp;omega)];obtain⟨v2,ev2,ev2',mv2⟩:=ZaI (a:=a) (i:=k - 1) (by omega);refine wpS_bind (Zal ev2 ?_);have ee:v2=v:=YaF (ev2.symm.trans ev);subst ee;have m7:=pA (by omega) m5 ev2 hv;by_cases c7:k - 1=0
       ·rw[if_pos (by simpa using c7)];rw[c7] at m7 ⊢;exact wpS_pure ⟨hG2,.inl ⟨_,_,_,_,_,_,_,rfl,done m7⟩⟩
       rw[if_neg (by simpa using c7)];refine ZaG (fun _=>?_) (fun _=>?_)
       ·exact wpS_pure ⟨hG2,.inr ⟨_,_,_,_,_,_,rfl,m7,by omega,by omega,by omega,by omega,by omega⟩⟩
       ·exact wpS_pure ⟨hG2,_,_,_,_,_,_,rfl,m7,by omega,by omega,by omega,by omega,by omega⟩
      ·rw[if_neg ck2];have k0:nb - 1=k2:=by omega
       rw[show nb - 1 - k2=0 by omega,Ych,Yc5,YbA] at m5;rw[k0];obtain⟨v2,ev2,ev2',mv2⟩:=ZaI (a:=a) (i:=k - 1) (by omega);refine wpS_bind (Zal ev2 ?_);have ee:v2=v:=YaF (ev2.symm.trans ev);subst ee;have m7:=pA (by omega) m5 ev2 hv;by_cases c7:k - 1=0
       ·rw[if_pos (by simpa using c7)];rw[c7] at m7 ⊢;exact wpS_pure ⟨hG2,.inl ⟨_,_,_,_,_,_,_,rfl,done m7⟩⟩
       rw[if_neg (by simpa using c7)];refine ZaG (fun _=>?_) (fun _=>?_)
       ·exact wpS_pure ⟨hG2,.inr ⟨_,_,_,_,_,_,rfl,m7,by omega,by omega,by omega,by omega,by omega⟩⟩
       ·exact wpS_pure ⟨hG2,_,_,_,_,_,_,rfl,m7,by omega,by omega,by omega,by omega,by omega⟩
     ·rw[if_neg ck];have k0:na=k:=by omega
      rw[show na - k=0 by omega,Ych,Yc5,YbA] at m3;rw[k0];refine wpS_bind (Zal eu ?_);have m4:=pB (by omega) m3 eu hu;by_cases c4:nb - 1=1
      ·rw[if_pos (by simpa using c4)];rw[c4] at m4 ⊢;exact wpS_pure ⟨hG2,.inl ⟨_,_,_,_,_,_,_,rfl,first m4⟩⟩
      rw[if_neg (by simpa using c4)];obtain⟨v,ev,ev',mv⟩:=ZaI (a:=a) (i:=k - 1) (by omega);refine wpS_bind (Zal ev ?_);refine wpS_bind (Zbe hA (hG2.1.trans hk) (oka v mv) okb (by omega) (srtA sb _ _) (by omega) fun k2 hk2 d1 d2=>?_);have hk20:1<=k2:=by
       rcases Ydz k2 with z | z
       ·obtain⟨zl,el,_,_⟩:=ZaI (a:=b) (i:=0) (by omega);have q1:=hfirst zl el v mv;have q2:=d2 0 zl (by omega) (by omega) (by rw[Ybw];exact el);rw[show O.blt (O.ky zl) (O.ky v)=false from q2] at q1;cases q1
       ·exact z
      have m5:=m4.takeBs sb (by simp;omega) (nb - 1 - k2) (by omega) fun i z h6 h7 e y hy=>KO.le_trans (leT sa (by omega) ev' y hy) (d2 i z (by omega) (by omega) (by rw[Ybw,<- Yaf];exact e));rw[show nb - 1 - (nb - 1 - k2)=k2 by omega] at m5;have hv:∀ z∈b.toList.take k2,O.le z v:=by
       intro z hz;obtain⟨j,hj,e⟩:=ZaX hz;refine KO.le_of_lt (d1 j z hj ?_);rw[Ybw,<- Yaf];exact e
      dsimp only;by_cases ck2:nb - 1 - k2 > 0
      ·rw[if_pos ck2];rw[<- Zeo,<- Yce,<- Ya0] at m5;by_cases c6:k2=1
       ·rw[if_pos (by simpa using c6)];rw[c6] at m5 ⊢;exact wpS_pure ⟨hG2,.inl ⟨_,_,_,_,_,_,_,rfl,first m5⟩⟩
       rw[if_neg (by simpa using c6),if_neg (by simp;omega)];obtain⟨v2,ev2,ev2',mv2⟩:=ZaI (a:=a) (i:=k - 1) (by omega);refine wpS_bind (Zal ev2 ?_);have ee:v2=v:=YaF (ev2.symm.trans ev);subst ee;have m7:=pA (by omega) m5 ev2 hv;by_cases c7:k - 1=0
       ·rw[if_pos (by simpa using c7)];rw[c7] at m7 ⊢;exact wpS_pure ⟨hG2,.inl ⟨_,_,_,_,_,_,_,rfl,done m7⟩⟩
       rw[if_neg (by simpa using c7)];refine ZaG (fun _=>?_) (fun _=>?_)
       ·exact wpS_pure ⟨hG2,.inr ⟨_,_,_,_,_,_,rfl,m7,by omega,by omega,by omega,by omega,by omega⟩⟩
       ·exact wpS_pure ⟨hG2,_,_,_,_,_,_,rfl,m7,by omega,by omega,by omega,by omega,by omega⟩
      ·rw[if_neg ck2];have k0:nb - 1=k2:=by omega
       rw[show nb - 1 - k2=0 by omega,Ych,Yc5,YbA] at m5;rw[k0];obtain⟨v2,ev2,ev2',mv2⟩:=ZaI (a:=a) (i:=k - 1) (by omega);refine wpS_bind (Zal ev2 ?_);have ee:v2=v:=YaF (ev2.symm.trans ev);subst ee;have m7:=pA (by omega) m5 ev2 hv;by_cases c7:k - 1=0
       ·rw[if_pos (by simpa using c7)];rw[c7] at m7 ⊢;exact wpS_pure ⟨hG2,.inl ⟨_,_,_,_,_,_,_,rfl,done m7⟩⟩
       rw[if_neg (by simpa using c7)];refine ZaG (fun _=>?_) (fun _=>?_)
       ·exact wpS_pure ⟨hG2,.inr ⟨_,_,_,_,_,_,rfl,m7,by omega,by omega,by omega,by omega,by omega⟩⟩
       ·exact wpS_pure ⟨hG2,_,_,_,_,_,_,rfl,m7,by omega,by omega,by omega,by omega,by omega⟩
def ka (O:KO) (xs:Array Keyed) (i:Nat):O.α:=O.ky ((xs[i]?).getD (.none,.none))
def Up (O:KO) (lo n:Nat) (xs:Array Keyed):Prop:=∀ i j,i<=j->j<n->O.kle (ka O xs (lo+i)) (ka O xs (lo+j))
def Dn (O:KO) (lo n:Nat) (xs:Array Keyed):Prop:=∀ i j,i<=j->j<n->O.kle (ka O xs (lo+j)) (ka O xs (lo+i))
structure FB (knd:SortKind) (b₀:Array Keyed) (p₀:Array (Nat × Nat × Nat)) (lo:Nat) (st:SortSt):Prop where
 perm:(arrOf st).Perm b₀
 keep:∀ i,i<lo->(arrOf st)[i]?=b₀[i]?
 kind:kindOf st=knd
 failed:failedOf st=none
 pend:pendingOf st=p₀
section
variable {b₀:Array Keyed}{p₀:Array (Nat × Nat × Nat)}{lo:Nat}
theorem FB.size (h:FB knd b₀ p₀ lo st):(arrOf st).size=b₀.size:=h.perm.size_eq
theorem FB.put {xs:Array Keyed} (h:FB knd b₀ p₀ lo st) (hp:xs.Perm (arrOf st)) (hx:∀ i,i<lo->xs[i]?=(arrOf st)[i]?):FB knd b₀ p₀ lo (setArr st xs) :=
 ⟨hp.trans h.perm,fun i hi=>(hx i hi).trans (h.keep i hi),h.kind,h.failed,h.pend⟩
theorem FB.mir (h:FB knd b₀ p₀ lo st) {i j:Nat} (hi:lo<=i) (hj:j<=b₀.size):FB knd b₀ p₀ lo (setArr st (mirror (arrOf st) i j ((j - i) / 2))) :=
 h.put (mirror_perm _ _ _ _) fun k hk=>by rw[getElem?_mirror_all (by rw[h.size];exact hj),if_neg (by omega)]
theorem Zcq {xs ys:Array Keyed}{i j:Nat} (h:xs[i]?=ys[j]?):ka O xs i=ka O ys j:=by unfold ka;rw[h]
theorem Zir {xs:Array Keyed}{i j:Nat} (hj:j<=xs.size) (k:Nat):ka O (mirror xs i j ((j - i) / 2)) k=if i<=k/\k<j then ka O xs (i+j - 1 - k) else ka O xs k:=by
 have e:=getElem?_mirror_all (i:=i) hj k;split
 ·rename_i c;rw[if_pos c] at e;exact Zcq e
 ·rename_i c;rw[if_neg c] at e;exact Zcq e
theorem Zcc {xs:Array Keyed}{i j:Nat} (hj:j<=xs.size) (he:∀ k,i<=k->k<j->ka O xs k=ka O xs (j - 1)) (k:Nat):ka O (mirror xs i j ((j - i) / 2)) k=ka O xs k:=by
 rw[Zir hj];split
 ·rw[he _ (by omega) (by omega),he k (by omega) (by omega)]
 ·rfl
theorem Zkx {xs:Array Keyed}{src d:Nat} (hs:src<xs.size) (hd:d<=src) (k:Nat):ka O (bubble xs src d) k=if k=src - d then ka O xs src else if src - d<k/\k<=src then ka O xs (k - 1) else ka O xs k:=by
 have e:=getElem?_bubble hs d hd k;split
 ·rename_i c;rw[if_pos c] at e;exact Zcq e
 ·rename_i c;rw[if_neg c] at e;split
  ·rename_i c2;rw[if_pos c2] at e;exact Zcq e
  ·rename_i c2;rw[if_neg c2] at e;exact Zcq e
theorem ZcX {i j:Nat}{Q:Option Bool->SortSt->Prop} (hA:Asks prog w A s O knd ok) (h0:∀ x∈b₀.toList,ok x) (hF:FB knd b₀ p₀ lo st) (hi:i<b₀.size) (hj:j<b₀.size) (h:Q (some (O.blt (ka O (arrOf st) i) (ka O (arrOf st) j))) st):wpS (model prog w) A E s (ltAt' i j) Q st:=by
 obtain⟨x,ex,_,mx⟩:=ZaI (a:=arrOf st) (i:=i) (by rw[hF.size];exact hi);obtain⟨y,ey,_,my⟩:=ZaI (a:=arrOf st) (i:=j) (by rw[hF.size];exact hj);have pm:=Yd7.mp hF.perm;rw[ltAt'_eq];refine wpS_bind (wpS_get ?_);refine wpS_bind (Zal ex (wpS_bind (Zal ey ?_)));refine Zez hA hF.kind (h0 x (pm.mem_iff.mp mx)) (h0 y (pm.mem_iff.mp my)) ?_;unfold ka at h;rw[ex,ey] at h;exact h
theorem ZbB {i j:Nat}{Q:Unit->SortSt->Prop} (h:Q () (setArr st (mirror (arrOf st) i j ((j - i) / 2)))):wpS (model prog w) A E s (reverseSlice' i j) Q st:=by
 rw[reverseSlice'_eq];exact wpS_modify h
def ascL (lo a nrem:Nat):StateT SortSt Sem (Option (Option Nat) × Nat) :=
 forIn [a:nrem] ((none,a):Option (Option Nat) × Nat) fun _ c=>ltAt' (lo+c.2) (lo+c.2 - 1) >>= fun x=>match x with
  | some sm=>if sm=true then pure (Ycb (none,c.2)) else pure (Ya8 (none,c.2+1))
  | _=>pure (Ycb (some none,c.2))
theorem Zcg {a nrem:Nat}{Q:Option (Option Nat) × Nat->SortSt->Prop} (hA:Asks prog w A s O knd ok) (h0:∀ x∈b₀.toList,ok x) (hF:FB knd b₀ p₀ lo st) (hn:lo+nrem<=b₀.size) (ha:1<=a) (hl:a<=nrem) (hu:Up O lo a (arrOf st))
  (h:∀ n,a<=n->n<=nrem->Up O lo n (arrOf st)->(n=nrem∨O.klt (ka O (arrOf st) (lo+n)) (ka O (arrOf st) (lo+n - 1)))->Q (none,n) st):wpS (model prog w) A E s (ascL lo a nrem) Q st:=by
 unfold ascL;refine wpS_forRange (I:=fun n c τ=>τ=st/\c=((none:Option (Option Nat)),n)/\Up O lo n (arrOf st)) ?go ?out ⟨rfl,rfl,hu⟩
 case out=>
  rintro c τ ⟨rfl,rfl,u⟩;rw[YdQ hl] at u ⊢;exact h nrem hl (Yag _) u (.inl rfl)
 case go=>
  rintro n c τ h1 h2 ⟨rfl,rfl,u⟩;refine wpS_bind (ZcX hA h0 hF (by dsimp only;omega) (by dsimp only;omega) ?_);dsimp only
  cases e:O.blt (ka O (arrOf τ) (lo+n)) (ka O (arrOf τ) (lo+n - 1)) with
  | true=>
   simp only[if_true];exact wpS_pure (h n h1 (by omega) u (.inr e))
  | false=>
   simp only[Yar,if_false];refine wpS_pure ⟨rfl,rfl,fun i j hij hj=>?_⟩;rcases Ybf j n with z | z
   ·exact u i j hij z
   ·obtain rfl:j=n:=by omega
    rcases Ybf i j with y | y
    ·exact YcE (u i (j - 1) (by omega) (by omega)) (by rw[show lo+(j - 1)=lo+j - 1 by omega];exact e)
    ·obtain rfl:i=j:=by omega
     exact Yb6 _
theorem Zf0 {n:Nat}{xs:Array Keyed} (hd:Dn O lo n xs) (hsz:lo+n<=xs.size):Up O lo n (mirror xs lo (lo+n) ((lo+n - lo) / 2)):=by
 intro i j hij hj;rw[Zir hsz,Zir hsz,if_pos (by omega),if_pos (by omega)];have q:=hd (n - 1 - j) (n - 1 - i) (by omega) (by omega);rw[show lo+(n - 1 - j)=lo+(lo+n) - 1 - (lo+j) by omega,show lo+(n - 1 - i)=lo+(lo+n) - 1 - (lo+i) by omega] at q;exact q
def dscL (lo n nrem:Nat):StateT SortSt Sem (Option (Option Nat) × Nat × Nat) :=
 forIn [n:nrem] ((none,n,0):Option (Option Nat) × Nat × Nat) fun _ c=>ltAt' (lo+c.2.1) (lo+c.2.1 - 1) >>= fun x=>match x with
  | some sm=>if sm=true then (if c.2.2 > 0 then reverseSlice' (lo+c.2.1 - (c.2.2+1)) (lo+c.2.1) >>= fun _=>pure (Ya8 (none,c.2.1+1,0)) else pure (Ya8 (none,c.2.1+1,0)))
   else ltAt' (lo+c.2.1 - 1) (lo+c.2.1) >>= fun y=>match y with
    | some lg=>if lg=true then pure (Ycb (none,c.2.1,c.2.2)) else pure (Ya8 (none,c.2.1+1,c.2.2+1))
    | _=>pure (Ycb (some none,c.2.1,c.2.2))
  | _=>pure (Ycb (some none,c.2.1,c.2.2))
theorem ZfX {n nrem:Nat}{Q:Option (Option Nat) × Nat × Nat->SortSt->Prop} (hA:Asks prog w A s O knd ok) (h0:∀ x∈b₀.toList,ok x) (hF:FB knd b₀ p₀ lo st) (hn:lo+nrem<=b₀.size) (h1:1<=n) (hl:n<=nrem) (hd:Dn O lo n (arrOf st))
  (h:∀ m e τ,FB knd b₀ p₀ lo τ->n<=m->m<=nrem->Dn O lo m (arrOf τ)->e+1<=m->(∀ i,m - (e+1)<=i->i<m->ka O (arrOf τ) (lo+i)=ka O (arrOf τ) (lo+m - 1))->Q (none,m,e) τ):wpS (model prog w) A E s (dscL lo n nrem) Q st:=by
 unfold dscL;refine wpS_forRange (I:=fun m c τ=>∃ e,c=((none:Option (Option Nat)),m,e)/\FB knd b₀ p₀ lo τ/\Dn O lo m (arrOf τ)/\e+1<=m/\∀ i,m - (e+1)<=i->i<m->ka O (arrOf τ) (lo+i)=ka O (arrOf τ) (lo+m - 1)) ?go ?out
  ⟨0,rfl,hF,hd,by omega,fun i h2 h3=>by congr 1;omega⟩
 case out=>
  rintro c τ ⟨e,rfl,hT,d,q,he⟩;rw[YdQ hl] at d q he ⊢;exact h nrem e τ hT hl (Yag _) d q he
 case go=>
  rintro m c τ h2 h3 ⟨e,rfl,hT,d,q,he⟩;have hsz:lo+m<=(arrOf τ).size:=by rw[hT.size];omega
  have more:∀ xs:Array Keyed,(∀ k,ka O xs k=ka O (arrOf τ) k)->O.kle (ka O (arrOf τ) (lo+m)) (ka O (arrOf τ) (lo+m - 1))->Dn O lo (m+1) xs:=by
   intro xs hk hle i j hij hj;rw[hk,hk];rcases Ybf j m with z | z
   ·exact d i j hij z
   ·obtain rfl:j=m:=by omega
    rcases Ybf i j with y | y
    ·exact YcE hle (by rw[show lo+j - 1=lo+(j - 1) by omega];exact d i (j - 1) (by omega) (by omega))
    ·obtain rfl:i=j:=by omega
     exact Yb6 _
  have eq1:∀ k,lo+m - (e+1)<=k->k<lo+m->ka O (arrOf τ) k=ka O (arrOf τ) (lo+m - 1):=fun k k1 k2=>by
   have:=he (k - lo) (by omega) (by omega)
   rwa [show lo+(k - lo)=k by omega] at this
  refine wpS_bind (ZcX hA h0 hT (by dsimp only;omega) (by dsimp only;omega) ?_);dsimp only
  cases ew:O.blt (ka O (arrOf τ) (lo+m)) (ka O (arrOf τ) (lo+m - 1)) with
  | true=>
   simp only[if_true];refine ZaG (fun _=>?_) (fun _=>?_)
   ·exact wpS_bind (ZbB (wpS_pure ⟨0,rfl,hT.mir (by omega) (by omega),more _ (Zcc hsz eq1) (Yb9 ew),by omega,fun i h2 h3=>by congr 1;omega⟩))
   ·exact wpS_pure ⟨0,rfl,hT,more _ (fun _=>rfl) (Yb9 ew),by omega,fun i h2 h3=>by congr 1;omega⟩
  | false=>
   simp only[Yar,if_false];refine wpS_bind (ZcX hA h0 hT (by omega) (by omega) ?_);dsimp only
   cases eg:O.blt (ka O (arrOf τ) (lo+m - 1)) (ka O (arrOf τ) (lo+m)) with
   | true=>
    simp only[if_true];exact wpS_pure (h m e τ hT h2 (by omega) d q he)
   | false=>
    simp only[Yar,if_false];have hx:ka O (arrOf τ) (lo+m)=ka O (arrOf τ) (lo+m - 1):=YeI (O:=O.toKeyOrd) eg ew;refine wpS_pure ⟨e+1,rfl,hT,more _ (fun _=>rfl) eg,by omega,fun i i1 i2=>?_⟩;rw[show lo+(m+1) - 1=lo+m by omega];rcases Ybf i m with z | z
    ·rw[hx];exact he i (by omega) z
    ·obtain rfl:i=m:=by omega
     rfl
theorem ZkN {nrem:Nat}{Q:Option Nat->SortSt->Prop} (hA:Asks prog w A s O knd ok) (h0:∀ x∈b₀.toList,ok x) (hF:FB knd b₀ p₀ lo st) (hn:lo+nrem<=b₀.size) (h1:1<=nrem)
  (h:∀ m τ,FB knd b₀ p₀ lo τ->1<=m->m<=nrem->Up O lo m (arrOf τ)->Q (some m) τ):wpS (model prog w) A E s (countRun' lo nrem) Q st:=by
 refine wpS_bind (Zcg (a:=1) hA h0 hF hn (Yag 1) h1 (fun i j hij hj=>?_) fun n n1 n2 u hor=>?_)
 ·obtain rfl:i=j:=by omega
  exact Yb6 _
 dsimp only;by_cases c:n=nrem
 ·rw[if_pos (by simpa using c)];exact wpS_pure (h n st hF n1 n2 u)
 rw[if_neg (by simpa using c)];have hlt:=hor.resolve_left c;have hsz:lo+n<=(arrOf st).size:=by rw[hF.size];omega
 by_cases cg:n > 1
 ·rw[if_pos cg];refine wpS_bind (ZcX hA h0 hF (by omega) (by omega) ?_)
  cases e:O.blt (ka O (arrOf st) lo) (ka O (arrOf st) (lo+n - 1)) with
  | true=>
   simp only[if_true];exact wpS_pure (h n st hF n1 n2 u)
  | false=>
   simp only[Yar,if_false];have all:∀ k,lo<=k->k<lo+n->ka O (arrOf st) k=ka O (arrOf st) (lo+n - 1):=by
    intro k k1 k2;have a1:=u 0 (k - lo) (by omega) (by omega);have a2:=u (k - lo) (n - 1) (by omega) (by omega);rw[show lo+(k - lo)=k by omega] at a1 a2;rw[show lo+(n - 1)=lo+n - 1 by omega] at a2;exact YeI a2 (YcE (O:=O.toKeyOrd) e a1)
   refine wpS_bind (ZbB ?_);have hF7:=FB.mir hF (i:=lo) (j:=lo+n) (Yag _) (by omega);have d7:Dn O lo (n+1) (arrOf (setArr st (mirror (arrOf st) lo (lo+n) ((lo+n - lo) / 2)))):=by
    intro i j hij hj;show O.kle (ka O (mirror (arrOf st) _ _ _) _) (ka O (mirror (arrOf st) _ _ _) _);rw[Zcc hsz all,Zcc hsz all];rcases Ybf j n with z | z
    ·rw[all _ (by omega) (show lo+j<lo+n by omega),all _ (by omega) (show lo+i<lo+n by omega)];exact Yb6 _
    ·obtain rfl:j=n:=by omega
     rcases Ybf i j with y | y
     ·rw[all _ (by omega) (show lo+i<lo+j by omega)];exact Yb9 hlt
     ·obtain rfl:i=j:=by omega
      exact Yb6 _
   refine wpS_bind (wpS_lift (wpAny_rule ⟨rfl,?_⟩));refine wpS_bind (ZfX hA h0 hF7 hn (by omega) (by omega) d7 fun m e τ hT m1 m2 d q he=>?_);dsimp only;have hsz:lo+m<=(arrOf τ).size:=by rw[hT.size];omega
   have eq1:∀ k,lo+m - (e+1)<=k->k<lo+m->ka O (arrOf τ) k=ka O (arrOf τ) (lo+m - 1):=fun k k1 k2=>by
    have:=he (k - lo) (by omega) (by omega)
    rwa [show lo+(k - lo)=k by omega] at this
   refine ZaG (fun _=>?_) (fun _=>?_)
   ·refine wpS_bind (ZbB ?_);have hF8:=FB.mir hT (i:=lo+m - (e+1)) (j:=lo+m) (by omega) (by omega);have d8:Dn O lo m (arrOf (setArr τ (mirror (arrOf τ) (lo+m - (e+1)) (lo+m) ((lo+m - (lo+m - (e+1))) / 2)))):=by
     intro i j hij hj;show O.kle (ka O (mirror (arrOf τ) _ _ _) _) (ka O (mirror (arrOf τ) _ _ _) _);rw[Zcc hsz eq1,Zcc hsz eq1];exact d i j hij hj
    refine wpS_bind (ZbB ?_);have hF9:=FB.mir hF8 (i:=lo) (j:=lo+m) (Yag _) (by omega);refine wpS_bind (Zcg hA h0 hF9 hn (by omega) m2 (Zf0 d8 (by rw[FB.size hF8];omega)) fun m' m1' m2' u' _=>wpS_pure (h m' _ hF9 (by omega) m2' u'))
   ·
    refine wpS_bind (ZbB ?_);have hF9:=FB.mir hT (i:=lo) (j:=lo+m) (Yag _) (by omega);refine wpS_bind (Zcg hA h0 hF9 hn (by omega) m2 (Zf0 d (by rw[FB.size hT];omega)) fun m' m1' m2' u' _=>wpS_pure (h m' _ hF9 (by omega) m2' u'))
 ·rw[if_neg cg];obtain rfl:n=1:=by omega
  have d7:Dn O lo (1+1) (arrOf st):=by
   intro i j hij hj;rcases Ybf i j with y | y
   ·obtain rfl:i=0:=by omega
    obtain rfl:j=1:=by omega
    exact Yb9 hlt
   ·obtain rfl:i=j:=by omega
    exact Yb6 _
  refine wpS_bind (wpS_lift (wpAny_rule ⟨rfl,?_⟩));refine wpS_bind (ZfX hA h0 hF hn (by omega) (by omega) d7 fun m e τ hT m1 m2 d q he=>?_);dsimp only;have hsz:lo+m<=(arrOf τ).size:=by rw[hT.size];omega
  have eq1:∀ k,lo+m - (e+1)<=k->k<lo+m->ka O (arrOf τ) k=ka O (arrOf τ) (lo+m - 1):=fun k k1 k2=>by
   have:=he (k - lo) (by omega) (by omega)
   rwa [show lo+(k - lo)=k by omega] at this
  refine ZaG (fun _=>?_) (fun _=>?_)
  ·refine wpS_bind (ZbB ?_);have hF8:=FB.mir hT (i:=lo+m - (e+1)) (j:=lo+m) (by omega) (by omega);have d8:Dn O lo m (arrOf (setArr τ (mirror (arrOf τ) (lo+m - (e+1)) (lo+m) ((lo+m - (lo+m - (e+1))) / 2)))):=by
    intro i j hij hj;show O.kle (ka O (mirror (arrOf τ) _ _ _) _) (ka O (mirror (arrOf τ) _ _ _) _);rw[Zcc hsz eq1,Zcc hsz eq1];exact d i j hij hj
   refine wpS_bind (ZbB ?_);have hF9:=FB.mir hF8 (i:=lo) (j:=lo+m) (Yag _) (by omega);refine wpS_bind (Zcg hA h0 hF9 hn (by omega) m2 (Zf0 d8 (by rw[FB.size hF8];omega)) fun m' m1' m2' u' _=>wpS_pure (h m' _ hF9 (by omega) m2' u'))
  ·
   refine wpS_bind (ZbB ?_);have hF9:=FB.mir hT (i:=lo) (j:=lo+m) (Yag _) (by omega);refine wpS_bind (Zcg hA h0 hF9 hn (by omega) m2 (Zf0 d (by rw[FB.size hT];omega)) fun m' m1' m2' u' _=>wpS_pure (h m' _ hF9 (by omega) m2' u'))
end
end
end L2
namespace L2
open PySem PyProof.Rows
section
variable {prog:Program}{w:World}{A:Around}{E:Value->Shared->Prop}{s:Shared}{O:KO}{knd:SortKind}{ok:Keyed->Prop}{st:SortSt}{b₀:Array Keyed}{p₀:Array (Nat × Nat × Nat)}{lo:Nat}
theorem Zmi {l r:Nat} (h:l<r):l<=(l+r) / 2/\(l+r) / 2<r:=by omega
theorem ZmY {l r k x N:Nat} (m1:l<=(l+r) / 2) (m2:(l+r) / 2<r) (hx:x<N) (e2:r<=k) (e3:r - l<=k - x):(l+r) / 2 - l<=k - (x+1):=by omega
theorem ZmX {l r k x N:Nat} (m1:l<=(l+r) / 2) (m2:(l+r) / 2<r) (hx:x<N) (e2:r<=k) (e3:r - l<=k - x):r - ((l+r) / 2+1)<=k - (x+1):=by omega
theorem ZkO {n m:Nat}{Q:Bool->SortSt->Prop} (hA:Asks prog w A s O knd ok) (h0:∀ x∈b₀.toList,ok x) (hF:FB knd b₀ p₀ lo st) (hn:lo+n<=b₀.size) (h1:1<=m) (hm:m<=n) (hu:Up O lo m (arrOf st))
  (h:∀ τ,FB knd b₀ p₀ lo τ->Up O lo n (arrOf τ)->Q true τ):wpS (model prog w) A E s (binarySort' lo n m) Q st:=by
 rw[binarySort'_eq,Nat.max_eq_left h1];refine wpS_bind (wpS_mono (wpS_forRange (I:=fun k c τ=>c=(none,())/\FB knd b₀ p₀ lo τ/\Up O lo k (arrOf τ))
  (Q:=fun c τ=>c=(none,())/\FB knd b₀ p₀ lo τ/\Up O lo n (arrOf τ)) ?go ?out ⟨rfl,hF,hu⟩) ?fin)
 case fin=>
  rintro c τ ⟨rfl,hT,u⟩;exact wpS_pure (h τ hT u)
 case out=>
  rintro c τ ⟨hc,hT,u⟩;rw[YdQ hm] at u;exact⟨hc,hT,u⟩
 case go=>
  rintro k c τ k1 k2 ⟨rfl,hT,u⟩;refine wpS_bind (wpS_mono (wpS_forRange (I:=fun x c τ'=>τ'=τ/\∃ l r,c=(none,l,r)/\l<=r/\r<=k/\r - l<=k - x /\
    (∀ i,i<l->O.kle (ka O (arrOf τ) (lo+i)) (ka O (arrOf τ) (lo+k)))/\∀ i,r<=i->i<k->O.klt (ka O (arrOf τ) (lo+k)) (ka O (arrOf τ) (lo+i)))
   (Q:=fun c τ'=>τ'=τ/\∃ l,c=(none,l,l)/\l<=k/\(∀ i,i<l->O.kle (ka O (arrOf τ) (lo+i)) (ka O (arrOf τ) (lo+k)))/\∀ i,l<=i->i<k->O.klt (ka O (arrOf τ) (lo+k)) (ka O (arrOf τ) (lo+i))) ?go2 ?out2
   ⟨rfl,0,k,rfl,YaR _,Yag _,Yag _,fun i hi=>absurd hi (YbB _),fun i i1 i2=>absurd i2 (Nat.not_lt.mpr i1)⟩) ?fin2)
  case out2=>
   rintro c τ' ⟨rfl,l,r,rfl,e1,e2,e3,e4,e5⟩;obtain rfl:l=r:=by omega
   exact⟨rfl,l,rfl,e2,e4,e5⟩
  case go2=>
   rintro x c τ' _ hx ⟨rfl,l,r,rfl,e1,e2,e3,e4,e5⟩;dsimp only;by_cases hge:l ≥ r
   ·rw[if_pos hge];obtain rfl:l=r:=by omega
    exact wpS_pure ⟨rfl,l,rfl,e2,e4,e5⟩
   rw[if_neg hge];obtain⟨m1,m2⟩:=Zmi (Nat.lt_of_not_le hge);have mk:(l+r) / 2<k:=Yas m2 e2;have kn:lo+k<b₀.size:=Yas (Ye7 k2 lo) hn;refine wpS_bind (ZcX hA h0 hT kn (YeQ (Ye7 mk lo) kn) ?_)
   cases e:O.blt (ka O (arrOf τ') (lo+k)) (ka O (arrOf τ') (lo+(l+r) / 2)) with
   | true=>
    simp only[if_true];exact wpS_pure ⟨rfl,l,(l+r) / 2,rfl,m1,Ybj mk,ZmY m1 m2 hx e2 e3,e4,fun i i1 i2=>KeyOrd.klt_of_klt_of_kle e (u _ _ i1 i2)⟩
   | false=>
    simp only[Yar,if_false];exact wpS_pure ⟨rfl,(l+r) / 2+1,r,rfl,m2,e2,ZmX m1 m2 hx e2 e3,fun i i1=>YcE (u i ((l+r) / 2) (Nat.le_of_lt_succ i1) mk) e,e5⟩
  case fin2=>
   rintro c τ' ⟨rfl,l,rfl,e2,e4,e5⟩;dsimp only;rw[moveDown'_eq];have hks:lo+k<(arrOf τ').size:=by rw[hT.size];omega
   refine wpS_bind (wpS_modify (wpS_pure ⟨rfl,hT.put (bubble_perm _ _ _) (fun i hi=>?_),?_⟩))
   ·rw[getElem?_bubble hks _ (by omega),if_neg (by omega),if_neg (by omega)]
   ·intro i j hij hj;show O.kle (ka O (bubble (arrOf τ') (lo+k) (lo+k - (lo+l))) _) (ka O (bubble (arrOf τ') (lo+k) (lo+k - (lo+l))) _);rw[Zkx hks (by omega),Zkx hks (by omega),show lo+k - (lo+k - (lo+l))=lo+l by omega]
    repeat' split
    all_goals first
     | (exfalso;omega)
     | exact Yb6 _
     | exact e4 _ (by omega)
     | (rw[show lo+j - 1=lo+(j - 1) by omega];exact Yb9 (e5 _ (by omega) (by omega)))
     | exact Yb9 (e5 _ (by omega) (by omega))
     | (rw[show lo+i - 1=lo+(i - 1) by omega,show lo+j - 1=lo+(j - 1) by omega];exact u _ _ (by omega) (by omega))
     | (rw[show lo+j - 1=lo+(j - 1) by omega];exact u _ _ (by omega) (by omega))
     | exact u _ _ (by omega) (by omega)
def pos:Nat->List (List Keyed)->List (Nat × Nat)
 | _,[]=>[]
 | o,r::rs=>(o,r.length)::pos (o+r.length) rs
theorem ZbS:∀ (o:Nat) (xs ys:List (List Keyed)),pos o (xs++ys)=pos o xs++pos (o+xs.flatten.length) ys
 | o,[],ys=>by simp[pos]
 | o,r::rs,ys=>by
  simp only[YdK,pos,ZbS,Ybd,Yai];rw[Nat.add_assoc]
theorem Zcz:∀ (o:Nat) (xs:List (List Keyed)),(pos o xs).length=xs.length
 | _,[]=>rfl
 | o,r::rs=>by simp only[pos,Ybc,Zcz]
def pr (p:Nat × Nat × Nat):Nat × Nat:=(p.1,p.2.1)
structure RI (O:KO) (knd:SortKind) (a₀:List Keyed) (runs:List (List Keyed)) (rest:List Keyed) (st:SortSt):Prop where
 arr:(arrOf st).toList=runs.flatten++rest
 perm:(arrOf st).toList.Perm a₀
 srt:∀ r∈runs,O.Srt r
 ne:∀ r∈runs,1<=r.length
 kind:kindOf st=knd
 failed:failedOf st=none
 pend:(pendingOf st).toList.map pr=pos 0 runs
theorem Zdw:∀ (l:List Keyed) (n sa:Nat) (xs:Array Keyed) (P M S:List Keyed),xs.toList=P++M++S->M.length=l.length->P.length=sa+n ->
  ((l.zipIdx n).foldl (fun a (q:Keyed × Nat)=>a.setIfInBounds (sa+q.2) q.1) xs).toList=P++l++S
 | [],n,sa,xs,P,M,S,e,h1,h2=>by
  have:M=[]:=Yc2.mp h1;subst this;simpa using e
 | x::l,n,sa,xs,P,[],S,e,h1,h2=>by cases h1
 | x::l,n,sa,xs,P,y::M,S,e,h1,h2=>by
  rw[YdJ,Yd2];have q:=Zdw l (n+1) sa (xs.setIfInBounds (sa+n) x) (P++[x]) M S ?_ (by simpa using h1) (by simp;omega)
  ·rw[q];simp
  ·rw[Yd6,e,<- h2];simp
theorem Zig {α β:Type}{f:α->β}{l:List α}{X Z:List β}{x y:β} (h:l.map f=X++x::y::Z):∃ P p q S,l=P++p::q::S/\P.map f=X/\f p=x/\f q=y/\S.map f=Z:=by
 obtain⟨P,l2,e1,e2,e3⟩:=List.map_eq_append_iff.mp h;obtain⟨p,l3,e4,e5,e6⟩:=YeS.mp e3;obtain⟨q,S,e7,e8,e9⟩:=YeS.mp e6;exact⟨P,p,q,S,by rw[e1,e4,e7],e2,e5,e8,e9⟩
theorem ZcL {α:Type}{pre m post:List α}{l:List α}{i:Nat} (e:l=pre++m++post) (hi:i<m.length):l[pre.length+i]?=m[i]?:=by
 rw[e,YaH,Ya9 (by omega),Yc4,Ya4 hi]
theorem Zkk {xs:Array Keyed}{pre m post:List Keyed} (e:xs.toList=pre++m++post) (sm:O.Srt m):∀ p q x y,pre.length<=p->p<=q->q<pre.length+m.length->xs[p]?=some x->xs[q]?=some y->O.le x y:=by
 intro p q x y h1 h2 h3 e1 e2;have f1:=ZcL (i:=p - pre.length) e (by omega);have f2:=ZcL (i:=q - pre.length) e (by omega);rw[show pre.length+(p - pre.length)=p by omega,Yaf,e1] at f1;rw[show pre.length+(q - pre.length)=q by omega,Yaf,e2] at f2;exact Zcl sm (by omega) f1.symm f2.symm
theorem ZiG {xs:Array Keyed}{P M S:List Keyed}{i j:Nat} (e:xs.toList=P++M++S) (hi:i=P.length) (hj:j=P.length+M.length):(xs.extract i j).toList=M:=by
 rw[Zeo,e,hi,hj,YaH,List.drop_left,Yc4,Yeg]
theorem srt3 {x y z:List Keyed} (hx:O.Srt x) (hy:O.Srt y) (hz:O.Srt z) (xy:∀ p∈x,∀ q∈y,O.le p q) (yz:∀ p∈y,∀ q∈z,O.le p q) (xz:∀ p∈x,∀ q∈z,O.le p q):O.Srt (x++y++z):=by
 refine YaN.mpr ⟨YaN.mpr ⟨hx,hy,xy⟩,hz,fun p hp q hq=>?_⟩;rcases Yak.mp hp with hp | hp
 ·exact xz p hp q hq
 ·exact yz p hp q hq
theorem ZkM {M:Model}{σ:Type}{x y:σ}{Q:PUnit->σ->Prop} (h:Q ⟨⟩ x):wpS M A E s (set x:StateT σ Sem PUnit) Q y:=by
 unfold wpS;rw[StateT.run_set];exact wpAny_pure ⟨rfl,h⟩
theorem Zb2 {a₀ rest:List Keyed}{R1 R2:List (List Keyed)}{a b:List Keyed}{i:Nat}{Q:Bool->SortSt->Prop} (hA:Asks prog w A s O knd ok) (h0:∀ x∈a₀,ok x) (hR:RI O knd a₀ (R1++a::b::R2) rest st) (hi:R1.length=i)
  (h:∀ m τ,m.Perm (a++b)->RI O knd a₀ (R1++m::R2) rest τ->Q true τ):wpS (model prog w) A E s (mergeAt' i) Q st:=by
 have hp:=hR.pend;rw[ZbS] at hp;obtain⟨P,p,q,S,ep,e1,e2,e3,e4⟩:=Zig hp;obtain⟨p1,p2,w1⟩:=p;obtain⟨q1,q2,w2⟩:=q;simp only[pr,Prod.mk.injEq,Ybw] at e2 e3;obtain⟨rfl,rfl⟩:=e2;obtain⟨rfl,rfl⟩:=e3;have hP:P.length=i:=by rw[<- hi,<- Zcz 0 R1,<- e1,Yab]
 have g1:(pendingOf st)[i]?=some (R1.flatten.length,a.length,w1):=by
  rw[<- Yaf,ep,Ya9 (by omega),hP,Nat.sub_self];rfl
 have g2:(pendingOf st)[i+1]?=some (R1.flatten.length+a.length,b.length,w2):=by
  rw[<- Yaf,ep,Ya9 (by omega),hP,Yc4];rfl
 have ea:(arrOf st).toList=R1.flatten++a++(b++(R2.flatten++rest)):=by
  rw[hR.arr];simp
 have eb:(arrOf st).toList=(R1.flatten++a)++b++(R2.flatten++rest):=by
  rw[hR.arr];simp
 have sa:O.Srt a:=hR.srt a (by simp);have sb:O.Srt b:=hR.srt b (by simp);have la:1<=a.length:=hR.ne a (by simp);have lb:1<=b.length:=hR.ne b (by simp);have oks:∀ x∈(arrOf st).toList,ok x:=fun x hx=>h0 x (hR.perm.mem_iff.mp hx);have oka:∀ x∈a,ok x:=fun x hx=>oks x (by rw[ea];simp[hx]);have okb:∀ x∈b,ok x:=fun x hx=>oks x (by rw[eb];simp[hx]);have fin:∀ (τ:SortSt) (m:List Keyed),m.Perm (a++b)->O.Srt m->(arrOf τ).toList=R1.flatten++m++(R2.flatten++rest)->kindOf τ=knd->failedOf τ=none->(pendingOf τ).toList=P++(R1.flatten.length,a.length+b.length,w1)::S->Q true τ:=by
  intro τ m pm sm em k1 k2 k3;have lm:m.length=a.length+b.length:=by rw[pm.length_eq,Yai]
  refine h m τ pm ⟨by rw[em];simp,?_,?_,?_,k1,k2,?_⟩
  ·refine YdA ?_ hR.perm;rw[em,ea];have:=Yb3 R1.flatten (YcX (R2.flatten++rest) pm);simpa using this
  ·intro r hr;rcases Yak.mp hr with hr | hr
   ·exact hR.srt r (YaU _ hr)
   ·rcases Yah.mp hr with hr | hr
    ·rw[hr];exact sm
    ·exact hR.srt r (by simp[hr])
  ·intro r hr;rcases Yak.mp hr with hr | hr
   ·exact hR.ne r (YaU _ hr)
   ·rcases Yah.mp hr with hr | hr
    ·rw[hr];omega
    ·exact hR.ne r (by simp[hr])
  ·rw[k3,ZbS,Yaz,e1,YaV,e4,Ybw];simp only[pos,pr,lm,Nat.add_assoc]
 have new:(((pendingOf st).setIfInBounds i (R1.flatten.length,a.length+b.length,w1)).eraseIdxIfInBounds (i+1)).toList=P++(R1.flatten.length,a.length+b.length,w1)::S:=by
  rw[Array.toList_eraseIdxIfInBounds,Yd6,ep,<- hP];simp[List.eraseIdx_append_of_length_le]
 refine wpS_bind (wpS_get ?_);rw[show (pendingOf st)[i]?=_ from g1,show (pendingOf st)[i+1]?=_ from g2];dsimp only;refine wpS_bind (ZkM ?_);have eb0:(arrOf st).toList[(R1.flatten++a).length+0]?=b[0]?:=ZcL eb (by omega);have hb0:b[0]?=some b[0]:=Yaa lb;have eb1:(arrOf st)[R1.flatten.length+a.length]?=some b[0]:=by
  rw[<- Yaf,<- hb0,<- eb0,Yai,Ydk]
 have mb0:b[0]∈b:=Ybp _;refine wpS_bind (Zal eb1 ?_);have hlen:(arrOf st).size=R1.flatten.length+a.length+b.length+(R2.flatten++rest).length:=by
  rw[<- Yao,eb];simp only[Yai]
 refine wpS_bind (Zb3 hA hR.kind (okb _ mb0) oks (show R1.flatten.length+a.length<=(arrOf st).size by omega) (Zkk ea sa) (by omega) fun k hk1 u1 u2=>?_);have ka1:∀ z∈a.take k,O.le z b[0]:=by
  intro z hz;obtain⟨j,hj,e⟩:=ZaX hz;refine u1 j z hj ?_;rw[<- Yaf,ZcL ea (by omega)];exact e
 have ka2:∀ z∈a.drop k,O.blt (O.ky b[0]) (O.ky z)=true:=by
  intro z hz;obtain⟨j,hj,e⟩:=ZaY hz;have hj2:j<a.length:=(Yae.mp e).1
  refine u2 j z hj hj2 ?_;rw[<- Yaf,ZcL ea hj2];exact e
 have bb:∀ z∈b,O.le b[0] z:=fun z hz=>ZcB sb hb0 z (by simpa using hz);dsimp only;by_cases ck:a.length - k=0
 ·rw[if_pos (by simpa using ck)];have ek:a.take k=a:=Ya6 (by omega);rw[ek] at ka1;refine wpS_pure (fin _ (a++b) (Ycv _) (YaN.mpr ⟨sa,sb,fun x hx y hy=>KO.le_trans (ka1 x hx) (bb y hy)⟩) ?_ hR.kind hR.failed new);show (arrOf st).toList=_;rw[ea];simp
 rw[if_neg (by simpa using ck)];have hla:a[a.length - 1]?=some a[a.length - 1]:=Yaa (by omega);have mla:a[a.length - 1]∈a:=Ybp _;have mla2:a[a.length - 1]∈a.drop k:=by
  refine YbU.mpr ⟨a.length - 1 - k,?_⟩;rw[YcS,show k+(a.length - 1 - k)=a.length - 1 by omega];exact hla
 have ela:(arrOf st)[R1.flatten.length+k+(a.length - k) - 1]?=some a[a.length - 1]:=by
  rw[<- Yaf,show R1.flatten.length+k+(a.length - k) - 1=R1.flatten.length+(a.length - 1) by omega,ZcL ea (by omega)];exact hla
 refine wpS_bind (Zal ela ?_);refine wpS_bind (Zbe hA hR.kind (oka _ mla) oks (show R1.flatten.length+a.length+b.length<=(arrOf st).size by omega) (by rw[<- Yai];exact Zkk eb sb) (by omega) fun n hn1 v1 v2=>?_);have kb1:∀ z∈b.take n,O.blt (O.ky z) (O.ky a[a.length - 1])=true:=by
  intro z hz;obtain⟨j,hj,e⟩:=ZaX hz;refine v1 j z hj ?_;rw[<- Yaf,<- Yai,ZcL eb (by omega)];exact e
 have kb2:∀ z∈b.drop n,O.le a[a.length - 1] z:=by
  intro z hz;obtain⟨j,hj,e⟩:=ZaY hz;have hj2:j<b.length:=(Yae.mp e).1
  refine v2 j z hj hj2 ?_;rw[<- Yaf,<- Yai,ZcL eb hj2];exact e
 have hn0:1<=n:=by
  rcases Ydz n with z | z
  ·subst z;have q1:=ka2 _ mla2;rw[show O.blt (O.ky b[0]) (O.ky a[a.length - 1])=false from kb2 b[0] (by simpa using mb0)] at q1;cases q1
  ·exact z
 have aa:∀ z∈a,O.le z a[a.length - 1]:=fun z hz=>Ziq sa hla z (by rw[show a.length - 1+1=a.length by omega,YaS];exact hz);dsimp only;rw[if_neg (by simp;omega)];have exx:((arrOf st).extract (R1.flatten.length+k) (R1.flatten.length+a.length)).toList=a.drop k :=
  ZiG (P:=R1.flatten++a.take k) (S:=b++(R2.flatten++rest)) (by rw[ea];simp[<- YaH];simp[YaH,YaI]) (by simp;omega) (by simp;omega)
 have exy:((arrOf st).extract (R1.flatten.length+a.length) (R1.flatten.length+a.length+n)).toList=b.take n :=
  ZiG (P:=R1.flatten++a) (S:=b.drop n++(R2.flatten++rest)) (by rw[eb];simp only[YaH];rw[<- YaH (b.take n),YaI]) (by simp) (by simp;omega)
 have sx:O.Srt (a.drop k):=sa.drop;have sy:O.Srt (b.take n):=sb.take;have after:∀ (r:Array Keyed) (τ:SortSt),Gal (Ydu (kindOf st) (arrOf st) (((pendingOf st).setIfInBounds i (R1.flatten.length,a.length+b.length,w1)).eraseIdxIfInBounds (i+1)) (gallopOf st) (failedOf st)) τ->Mg O (a.drop k) (b.take n) r.toList ->
   Q true (Ydu (kindOf τ) (r.toList.zipIdx.foldl (fun a (q:Keyed × Nat)=>a.setIfInBounds (R1.flatten.length+k+q.2) q.1) (arrOf τ)) (pendingOf τ) (gallopOf τ) (failedOf τ)):=by
  intro r τ hG hM;have mem:∀ z∈r.toList,z∈a.drop k∨z∈b.take n:=fun z hz=>Yak.mp (hM.1.mem_iff.mp hz);refine fin _ (a.take k++r.toList++b.drop n) ?_ (srt3 sa.take hM.2 sb.drop (fun p hp q hq=>?_) (fun p hp q hq=>?_) fun p hp q hq=>?_) ?_ (hG.1.trans hR.kind) (hG.2.2.2.trans hR.failed) (by rw[show pendingOf τ=_ from hG.2.2.1];exact new)
  ·have p1:(a.take k++r.toList++b.drop n).Perm (a.take k++(a.drop k++b.take n)++b.drop n):=YcX _ (Yb3 _ hM.1);refine p1.trans (YdB ?_);rw[<- YaH,YaI,YaH,YaI]
  ·rcases mem q hq with m | m
   ·refine (YaN.mp (show O.Srt (a.take k++a.drop k) from by rw[YaI];exact sa)).2.2 p hp q m
   ·exact KO.le_trans (ka1 p hp) (bb q (YbC m))
  ·rcases mem p hp with m | m
   ·exact KO.le_trans (aa p (YbN m)) (kb2 q hq)
   ·refine (YaN.mp (show O.Srt (b.take n++b.drop n) from by rw[YaI];exact sb)).2.2 p m q hq
  ·exact KO.le_trans (ka1 p hp) (bb q (YbN hq))
  ·show (Yeq _ (arrOf τ) _).toList=_;rw[show arrOf τ=arrOf st from hG.2.1];have:=Zdw r.toList 0 (R1.flatten.length+k) (arrOf st) (R1.flatten++a.take k) (a.drop k++b.take n) (b.drop n++(R2.flatten++rest)) ?_ (by rw[hM.1.length_eq]) (by simp;omega)
   ·rw[this];simp
   ·rw[eb];simp only[YaH];rw[<- YaH (a.take k),YaI,<- YaH (b.take n),YaI]
 have xsz:((arrOf st).extract (R1.flatten.length+k) (R1.flatten.length+a.length)).size=a.length - k:=by
  rw[<- Yao,exx,Ybm]
 have ysz:((arrOf st).extract (R1.flatten.length+a.length) (R1.flatten.length+a.length+n)).size=n:=by
  rw[<- Yao,exy,Yax];omega
 have y0:∀ y,((arrOf st).extract (R1.flatten.length+a.length) (R1.flatten.length+a.length+n))[0]?=some y->y=b[0]:=by
  intro y e;rw[<- Yaf,exy,Ycq (by omega),hb0] at e;exact (YaF e).symm
 have xl:∀ z,((arrOf st).extract (R1.flatten.length+k) (R1.flatten.length+a.length))[((arrOf st).extract (R1.flatten.length+k) (R1.flatten.length+a.length)).size - 1]?=some z->z=a[a.length - 1]:=by
  intro z e;rw[xsz,<- Yaf,exx,YcS,show k+(a.length - k - 1)=a.length - 1 by omega,hla] at e;exact (YaF e).symm
 have hx1:1<=((arrOf st).extract (R1.flatten.length+k) (R1.flatten.length+a.length)).size:=by rw[xsz];omega
 have hy1:1<=((arrOf st).extract (R1.flatten.length+a.length) (R1.flatten.length+a.length+n)).size:=by rw[ysz];omega
 refine ZaG (fun _=>?_) (fun _=>?_)
 ·refine wpS_bind (Zft hA hR.kind (by rw[exx];exact fun x hx=>oka x (YbN hx)) (by rw[exy];exact fun x hx=>okb x (YbC hx)) (by rw[exx];exact sx) (by rw[exy];exact sy) hx1 hy1 ?_ ?_ ?_)
  ·intro y e x hx;rw[y0 y e];rw[exx] at hx;exact KO.le_of_lt (ka2 x hx)
  ·intro z e y hy;rw[xl z e];rw[exy] at hy;exact kb1 y hy
  ·intro r τ hG hM;rw[exx,exy] at hM;refine wpS_bind (wpS_modify (wpS_bind (wpS_get ?_)));have e9:failedOf τ=none:=hG.2.2.2.trans hR.failed;refine wpS_pure ?_;show Q (failedOf τ).isNone _;rw[e9];exact after r τ hG hM
 ·refine wpS_bind (Zfu hA hR.kind (by rw[exx];exact fun x hx=>oka x (YbN hx)) (by rw[exy];exact fun x hx=>okb x (YbC hx)) (by rw[exx];exact sx) (by rw[exy];exact sy) hx1 hy1 ?_ ?_ ?_)
  ·intro y e x hx;rw[y0 y e];rw[exx] at hx;exact ka2 x hx
  ·intro z e y hy;rw[xl z e];rw[exy] at hy;exact KO.le_of_lt (kb1 y hy)
  ·intro r τ hG hM;rw[exx,exy] at hM;refine wpS_bind (wpS_modify (wpS_bind (wpS_get ?_)));have e9:failedOf τ=none:=hG.2.2.2.trans hR.failed;refine wpS_pure ?_;show Q (failedOf τ).isNone _;rw[e9];exact after r τ hG hM
end
end L2
namespace L2
open PySem PyProof.Rows
section
variable {prog:Program}{w:World}{A:Around}{E:Value->Shared->Prop}{s:Shared}{O:KO}{knd:SortKind}{ok:Keyed->Prop}{st τ:SortSt}
theorem Zls {c:Prop} [Decidable c] {a b n:Nat} (h1:a<=n) (h2:b<=n):(if c then a else b)<=n:=by split <;> assumption
theorem Zck {α:Type}:∀ {l:List α}{i:Nat},i+1<l.length->∃ R1 a b R2,l=R1++a::b::R2/\R1.length=i
 | [],_,h=>by simp at h
 | [_],_,h=>by simp at h
 | a::b::l,0,_=>⟨[],a,b,l,rfl,rfl⟩
 | a::b::l,i+1,h=>by
  obtain⟨R1,x,y,R2,e,q⟩:=Zck (l:=b::l) (i:=i) (by simpa using h);exact⟨a::R1,x,y,R2,by rw[e];rfl,by simp[q]⟩
theorem RI.len {a₀ rest:List Keyed}{runs:List (List Keyed)} (h:RI O knd a₀ runs rest st):(pendingOf st).size=runs.length:=by
 rw[<- Yao,<- Zcz 0 runs,<- h.pend,Yab]
theorem RI.size {a₀ rest:List Keyed}{runs:List (List Keyed)} (h:RI O knd a₀ runs rest st):(arrOf st).size=runs.flatten.length+rest.length:=by
 rw[<- Yao,h.arr,Yai]
theorem RI.size0 {a₀ rest:List Keyed}{runs:List (List Keyed)} (h:RI O knd a₀ runs rest st):(arrOf st).size=a₀.length:=by
 rw[<- Yao,h.perm.length_eq]
theorem ZhC:∀ {runs:List (List Keyed)},(∀ r∈runs,1<=r.length)->runs.length<=runs.flatten.length
 | [],_=>by simp
 | r::rs,h=>by
  have q:=ZhC (runs:=rs) fun x hx=>h x (by simp[hx]);have:=h r (by simp);simp only[Ybc,Ybd,Yai];omega
theorem Zmv {a₀ rest:List Keyed}{runs:List (List Keyed)}{n:Nat} (h:RI O knd a₀ runs rest st) (hF:FB knd (arrOf st) (pendingOf st) runs.flatten.length τ) (hu:Up O runs.flatten.length n (arrOf τ)) (hn:n<=rest.length) :
  ∃ r rest',r.length=n/\O.Srt r/\rest.length=n+rest'.length/\RI O knd a₀ runs (r++rest') τ:=by
 have hpm:=Yd7.mp hF.perm;have hsz:(arrOf τ).size=runs.flatten.length+rest.length:=by rw[hF.size,h.size]
 have e1:(arrOf τ).toList.take runs.flatten.length=runs.flatten:=by
  have:(arrOf τ).toList.take runs.flatten.length=(arrOf st).toList.take runs.flatten.length:=by
   apply Yc1;intro i;rcases Ybf i runs.flatten.length with hi | hi
   ·rw[Ycq hi,Ycq hi,Yaf,Yaf];exact hF.keep i hi
   ·rw[YbV (by rw[Yax];omega),YbV (by rw[Yax];omega)]
  rw[this,h.arr,Yeg]
 have e2:(arrOf τ).toList=runs.flatten++(arrOf τ).toList.drop runs.flatten.length:=by
  conv=>lhs;rw[<- YaI runs.flatten.length (arrOf τ).toList,e1]
 have lr:((arrOf τ).toList.drop runs.flatten.length).length=rest.length:=by
  rw[Ybm,Yao];omega
 refine⟨((arrOf τ).toList.drop runs.flatten.length).take n,((arrOf τ).toList.drop runs.flatten.length).drop n,by rw[Yax];omega,?_,by rw[Ybm];omega,⟨by rw[YaI];exact e2,hpm.trans h.perm,h.srt,h.ne,hF.kind,hF.failed,by rw[hF.pend];exact h.pend⟩⟩;refine YcV.mpr fun i j hi hj hij=>?_;rw[Yax] at hi hj;have q:=hu i j (by omega) (by omega);rw[YcB,YcB,YcZ,YcZ];have g:∀ k (hk:runs.flatten.length+k<(arrOf τ).toList.length),ka O (arrOf τ) (runs.flatten.length+k)=O.ky ((arrOf τ).toList[runs.flatten.length+k]):=by
  intro k hk;unfold ka;rw[<- Yaf,Yaa hk];rfl
 have hlt:(arrOf τ).toList.length=runs.flatten.length+rest.length:=by rw[Yao];exact hsz
 rw[g i (by omega),g j (by omega)] at q;exact q
theorem RI.push {a₀ rest r:List Keyed}{runs:List (List Keyed)}{lo n:Nat} (h:RI O knd a₀ runs (r++rest) st) (hs:O.Srt r) (hr:r.length=n) (hn:1<=n) (hl:lo=runs.flatten.length):RI O knd a₀ (runs++[r]) rest (setPending st ((pendingOf st).push (lo,n,0))):=by
 refine⟨?_,h.perm,?_,?_,h.kind,h.failed,?_⟩
 ·show (arrOf st).toList=_;rw[h.arr];simp
 ·intro x hx;rcases Yak.mp hx with hx | hx
  ·exact h.srt x hx
  ·rw[YaG.mp hx];exact hs
 ·intro x hx;rcases Yak.mp hx with hx | hx
  ·exact h.ne x hx
  ·rw[YaG.mp hx];omega
 ·show ((pendingOf st).push (lo,n,0)).toList.map pr=_;rw[Ycz,Yaz,h.pend,ZbS,hl,<- hr];simp[pos,pr]
theorem RI.pow {a₀ rest:List Keyed}{runs:List (List Keyed)}{pw:Nat} (h:RI O knd a₀ runs rest st):RI O knd a₀ runs rest (setPending st ((pendingOf st).modify ((pendingOf st).size - 1) fun x=>(x.1,x.2.1,pw))):=by
 refine⟨h.arr,h.perm,h.srt,h.ne,h.kind,h.failed,?_⟩;show ((pendingOf st).modify _ _).toList.map pr=_;rw[<- h.pend];apply Yc1;intro i;rw[Yam,Yam,Yaf,Yaf,Ydd];split
 ·cases (pendingOf st)[i]? <;> rfl
 ·rfl
theorem Zfs {a₀:Array Keyed}{Q:Unit->SortSt->Prop} (hA:Asks prog w A s O knd ok) (h0:∀ x∈a₀.toList,ok x) (ha:arrOf st=a₀) (hk:kindOf st=knd) (hf:failedOf st=none) (hp:pendingOf st=#[])
  (h:∀ τ,(arrOf τ).toList.Perm a₀.toList->failedOf τ=none->O.Srt (arrOf τ).toList->Q () τ):wpS (model prog w) A E s sortRuns' Q st:=by
 refine wpS_bind (wpS_get ?_);dsimp only;have hN:(arrOf st).size=a₀.size:=by rw[ha]
 have hN2:a₀.toList.length=a₀.size:=Yao;rw[hN];refine wpS_bind (wpS_mono (wpS_forRange
  (I:=fun x c τ=>∃ lo runs rest,c=((none:Option Unit),lo)/\RI O knd a₀.toList runs rest τ/\lo=runs.flatten.length/\(x<=lo))
  (Q:=fun c τ=>∃ lo runs,c=((none:Option Unit),lo)/\RI O knd a₀.toList runs [] τ) ?go ?out ⟨0,[],a₀.toList,rfl,⟨by rw[ha];simp,by rw[ha],(fun r hr=>nomatch hr),(fun r hr=>nomatch hr),hk,hf,by rw[hp];rfl⟩,rfl,Yag 0⟩) ?fin)
 case out=>
  rintro c τ ⟨lo,runs,rest,rfl,hR,e1,e2⟩;have q1:=hR.size;have q2:=hR.size0;have q3:=hN2;have:rest=[]:=Yc2.mp (by
   have q4:max 0 a₀.size<=lo:=e2;omega)
  subst this;exact⟨lo,runs,rfl,hR⟩
 case fin=>
  rintro c τ ⟨lo,runs,rfl,hR⟩;dsimp only;have q1:=hR.size;have q2:=ZhC hR.ne;have q3:=hN2;have q4:=hR.size0;refine wpS_bind (wpS_mono (wpS_forRange (I:=fun x c τ'=>c=((none:Option Unit),())/\∃ runs',RI O knd a₀.toList runs' [] τ'/\runs'.length+x<=a₀.size)
   (Q:=fun c τ'=>c=((none:Option Unit),())/\∃ runs',RI O knd a₀.toList runs' [] τ'/\runs'.length<=1) ?g2 ?o2 ⟨rfl,runs,hR,by simp only[List.length_nil] at q1;omega⟩) ?f2)
  case o2=>
   rintro c τ' ⟨hc,runs',hR',e⟩;have e:runs'.length+max 0 a₀.size<=a₀.size:=e;exact⟨hc,runs',hR',by omega⟩
  case f2=>
   rintro c τ' ⟨rfl,runs',hR',e⟩;refine wpS_pure (h τ' hR'.perm hR'.failed ?_);rw[hR'.arr,YbA]
   match runs',e,hR' with
   | [],_,_=>exact YbK
   | [r],_,hR'=>simpa using hR'.srt r (by simp)
  case g2=>
   rintro x c τ' _ _ ⟨rfl,runs',hR',e⟩;refine wpS_bind (wpS_get ?_);by_cases c1:(pendingOf τ').size<=1
   ·rw[if_pos c1];exact wpS_pure ⟨rfl,runs',hR',by rw[<- hR'.len];exact c1⟩
   rw[if_neg c1];have key:∀ j,j<=(pendingOf τ').size - 2->wpS (model prog w) A E s (mergeAt' j) (fun b τ3=>b=true/\∃ runs',RI O knd a₀.toList runs' [] τ3/\runs'.length+(x+1)<=a₀.size) τ':=by
    intro j hj;obtain⟨R1,a,b,R2,e3,e4⟩:=Zck (l:=runs') (i:=j) (by rw[<- hR'.len];omega);subst e3;refine Zb2 hA h0 hR' e4 fun m τ3 pm hR3=>⟨rfl,_,hR3,?_⟩
    simp only[Yai,Ybc] at e ⊢;omega
   refine wpS_bind (wpS_mono (key _ ?_) ?_)
   ·have:=hR'.len;rw[show (pendingOf τ').size=runs'.length from this];exact Zls (by omega) (by omega)
   ·rintro b τ3 ⟨rfl,runs3,hR3,e3⟩;simp only[YbW,Yar,if_false];exact wpS_pure ⟨rfl,runs3,hR3,e3⟩
 case go=>
  rintro x c τ _ hx ⟨lo,runs,rest,rfl,hR,e1,e2⟩;have q1:=hR.size;have q2:=hR.size0;have q3:=hN2;dsimp only;by_cases c0:lo ≥ a₀.size
  ·rw[if_pos c0];have:rest=[]:=Yc2.mp (by omega);subst this;exact wpS_pure ⟨lo,runs,rfl,hR⟩
  rw[if_neg c0];have oks:∀ x∈(arrOf τ).toList,ok x:=fun x hx=>h0 x (hR.perm.mem_iff.mp hx);refine wpS_bind (ZkN (b₀:=arrOf τ) (p₀:=pendingOf τ) (lo:=lo) hA oks ⟨Array.Perm.refl _,fun _ _=>rfl,hR.kind,hR.failed,rfl⟩ (by omega) (by omega) fun m τ1 hF m1 m2 u=>?_);dsimp only;refine ZaG (fun cm=>?_) (fun cm=>?_)
  ·refine wpS_bind (wpS_lift (wpAny_rule ⟨rfl,?_⟩));refine wpS_bind (ZkO hA oks hF (by omega) m1 (by omega) u fun τ2 hF2 u2=>?_);simp only[YbW,Yar,if_false];rw[e1] at hF2 u2;obtain⟨r,rest',hr,hs,hl,hR2⟩:=Zmv hR hF2 u2 (by omega);rw[<- e1] at hr;have h1n:1<=r.length:=by omega
   rw[hr] at h1n;refine wpS_bind (wpS_get ?_)
   cases eb:(pendingOf τ2).back? with
   | none=>
    dsimp only;exact wpS_bind (wpS_modify (wpS_pure ⟨_,runs++[r],rest',rfl,hR2.push hs hr h1n e1,by simp[hr,e1],by omega⟩))
   | some p=>
    obtain⟨s1,n1,w1⟩:=p;dsimp only;refine wpS_bind (wpS_mono (wpS_forRange (I:=fun _ c τ'=>c=((none:Option Unit),())/\∃ runs',RI O knd a₀.toList runs' (r++rest') τ'/\runs'.flatten.length=lo)
     (Q:=fun c τ'=>c=((none:Option Unit),())/\∃ runs',RI O knd a₀.toList runs' (r++rest') τ'/\runs'.flatten.length=lo) ?g2 (fun _ _ z=>z) ⟨rfl,runs,hR2,e1.symm⟩) ?f2)
    case f2=>
     rintro c τ' ⟨rfl,runs',hR',e⟩;exact wpS_bind (wpS_modify (wpS_bind (wpS_modify (wpS_pure ⟨_,runs'++[r],rest',rfl,hR'.pow.push hs hr h1n e.symm,by simp[hr,e],by omega⟩))))
    case g2=>
     rintro y c τ' _ _ ⟨rfl,runs',hR',e⟩;refine wpS_bind (wpS_get ?_);by_cases c1:(pendingOf τ').size > 1
     ·rw[if_pos c1]
      cases ep:(pendingOf τ')[(pendingOf τ').size - 2]? with
      | none=>exact wpS_pure ⟨rfl,runs',hR',e⟩
      | some p=>
       obtain⟨s3,n3,w3⟩:=p;dsimp only;refine ZaG (fun _=>wpS_pure ⟨rfl,runs',hR',e⟩) (fun _=>?_);obtain⟨R1,a,b,R2,e3,e4⟩:=Zck (l:=runs') (i:=(pendingOf τ').size - 2) (by rw[<- hR'.len];omega);subst e3;refine wpS_bind (Zb2 hA h0 hR' e4 fun m τ3 pm hR3=>?_);simp only[YbW,Yar,if_false];refine wpS_pure ⟨rfl,_,hR3,?_⟩;rw[<- e];have:=pm.length_eq;simp only[Yb2,Ybd,Yai] at this ⊢;omega
     ·rw[if_neg c1];exact wpS_pure ⟨rfl,runs',hR',e⟩
  ·rw[e1] at hF u;obtain⟨r,rest',hr,hs,hl,hR2⟩:=Zmv hR hF u (by omega);have h1n:1<=m:=m1;refine wpS_bind (wpS_get ?_)
   cases eb:(pendingOf τ1).back? with
   | none=>
    dsimp only;exact wpS_bind (wpS_modify (wpS_pure ⟨_,runs++[r],rest',rfl,hR2.push hs hr h1n e1,by simp[hr,e1],by omega⟩))
   | some p=>
    obtain⟨s1,n1,w1⟩:=p;dsimp only;refine wpS_bind (wpS_mono (wpS_forRange (I:=fun _ c τ'=>c=((none:Option Unit),())/\∃ runs',RI O knd a₀.toList runs' (r++rest') τ'/\runs'.flatten.length=lo)
     (Q:=fun c τ'=>c=((none:Option Unit),())/\∃ runs',RI O knd a₀.toList runs' (r++rest') τ'/\runs'.flatten.length=lo) ?g2 (fun _ _ z=>z) ⟨rfl,runs,hR2,e1.symm⟩) ?f2)
    case f2=>
     rintro c τ' ⟨rfl,runs',hR',e⟩;exact wpS_bind (wpS_modify (wpS_bind (wpS_modify (wpS_pure ⟨_,runs'++[r],rest',rfl,hR'.pow.push hs hr h1n e.symm,by simp[hr,e],by omega⟩))))
    case g2=>
     rintro y c τ' _ _ ⟨rfl,runs',hR',e⟩;refine wpS_bind (wpS_get ?_);by_cases c1:(pendingOf τ').size > 1
     ·rw[if_pos c1]
      cases ep:(pendingOf τ')[(pendingOf τ').size - 2]? with
      | none=>exact wpS_pure ⟨rfl,runs',hR',e⟩
      | some p=>
       obtain⟨s3,n3,w3⟩:=p;dsimp only;refine ZaG (fun _=>wpS_pure ⟨rfl,runs',hR',e⟩) (fun _=>?_);obtain⟨R1,a,b,R2,e3,e4⟩:=Zck (l:=runs') (i:=(pendingOf τ').size - 2) (by rw[<- hR'.len];omega);subst e3;refine wpS_bind (Zb2 hA h0 hR' e4 fun m τ3 pm hR3=>?_);simp only[YbW,Yar,if_false];refine wpS_pure ⟨rfl,_,hR3,?_⟩;rw[<- e];have:=pm.length_eq;simp only[Yb2,Ybd,Yai] at this ⊢;omega
     ·rw[if_neg c1];exact wpS_pure ⟨rfl,runs',hR',e⟩
end
end L2
namespace L2
open PySem PySem.Spec PyProof.Rows PySem.SeqAt
section
variable {prog:Program}{w:World}{A:Around}{E:Value->Shared->Prop}{s:Shared}
end
section
variable {X:Cx}
end
theorem Zg9 {b:Bool}{K:Yac}{own:List Str}{js:List Nat}{g:TG}{tt:TT}{te:TE}{σ:St}{H1:Hp}{Q:VK}{a:Addr}{xs:List V} (Pv:Addr->Nat->Hp->Prop) (h0:∀ acc,H1 acc=none->Pv acc 0 (upd H1 acc (.lst []))) (hl:∀ acc i H,H1 acc=none->i<=xs.length->Pv acc i H->SqB b K H a xs)
  (hs:∀ acc i x p H,H1 acc=none->xs[i]?=some x->Pv acc i H->H p=none->g (.ref p) (blkσ own js σ) (upd H p (.tup [.int i,x])) fun τ H4=>tt τ H4 fun c H5=>
   if c=true then te τ H5 fun y H6=>∃ ys,H6 acc=some (.lst ys)/\ys.length<sizeLine/\(i+1<=xs.length/\Pv acc (i+1) (upd H6 acc (.lst (ys++[y])))) else (i+1<=xs.length/\Pv acc (i+1) H5))
  (hd:∀ acc H,H1 acc=none->Pv acc xs.length H->Q (.ref acc) H):Zbl own js g tt te σ (IteB b K a) H1 Q:=by
 intro acc hacc;refine⟨fun i H=>i<=xs.length/\Pv acc i H,xs.length,⟨YaR _,h0 acc hacc⟩,?_⟩;rintro i H ⟨hi,p⟩;have q:=hl acc i H hacc hi p;by_cases hlt:i<xs.length
 ·refine .inr ⟨hlt,by cases b <;> exact⟨xs,xs[i],q,by simp[hlt]⟩,fun x H' y=>?_⟩;have y:∃ pa z,H pa=none/\x=.ref pa/\H'=upd H pa (.tup [.int i,z])/\xs[i]?=some z:=by
   cases b with
   | true=>obtain⟨pa,z,hp,e1,e2,y⟩:=y;exact⟨pa,z,hp,e1,e2,y xs q⟩
   | false=>obtain⟨pa,z,hp,e1,e2,y⟩:=y;exact⟨pa,z,hp,e1,e2,y xs q⟩
  obtain⟨pa,z,hp,e1,e2,y'⟩:=y;subst e1 e2;exact hs acc i z pa H hacc y' p hp
 ·have e:i=xs.length:=by omega
  subst e;exact .inl ⟨by cases b <;> exact⟨xs,q,Yag _⟩,hd acc H hacc p⟩
end L2
namespace L2
open PySem PyProof.Rows
section
variable {prog:Program}{w:World}{A:Around}{E:Value->Shared->Prop}{s:Shared}{O:KO}{knd:SortKind}{ok:Keyed->Prop}
def Ord2 (O:KO) (b:Bool) (us:List Value):Prop:=us.Pairwise fun u v=>if b=true then O.le (v,v) (u,u) else O.le (u,u) (v,v)
theorem Zmb {vs:List Value}{out:List Keyed} (hp:out.Perm (vs.zip vs)) (hs:O.Srt out) (b:Bool):∃ us:List Value,(if b=true then (out.map (·.2)).reverse else out.map (·.2))=us/\us.Perm vs/\Ord2 O b us:=by
 have hm:∀ p∈out,p=(p.2,p.2):=fun p hp'=>by
  have:=(mem_zip_self (hp.mem_iff.mp hp')).1
  exact Prod.ext this rfl
 have p1:(out.map (·.2)).Perm vs:=by
  have:=hp.map (·.2)
  rwa [List.map_snd_zip (Yag _)] at this
 have s1:(out.map (·.2)).Pairwise fun u v=>O.le (u,u) (v,v):=by
  rw[Ya5];refine hs.imp_of_mem fun {x y} hx hy q=>?_;rw[hm x hx,hm y hy] at q;exact q
 cases b with
 | false=>exact⟨_,rfl,p1,by simpa[Ord2] using s1⟩
 | true=>exact⟨_,rfl,(YcA _).trans p1,by simp only[Ord2,if_true,YcD];exact s1⟩
theorem Zhy {a:Addr}{vs:List Value}{n:Nat}{h:Heap} (ho:h.get? a=some (seqObj "list" vs.toArray n)) {b:Addr}{o:Obj} (hb:h.get? b=some o) (hne:b≠a):(((h.update a (YbT fun _=>#[])).push (seqObj "tuple" vs.toArray 0)).push (seqObj "list" #[] 0)).get? b=some o :=
 Yad _ (Yad _ (by rw[YeZ _ _ _ _ hne];exact hb))
theorem Zji {a:Addr}{vs:List Value}{n:Nat}{P:PySem.Fin->Shared->Prop} (ho:s.heap.get? a=some (seqObj "list" vs.toArray n)) (hz:vs.length<=sizeLine)
  (hkk:∀ h',(∀ b o,s.heap.get? b=some o->b≠a->h'.get? b=some o)->2<=vs.length->∀ Q:SortKind->Shared->Prop,Q knd { s with heap:=h' }->wpAny (model prog w) A (keyKind' vs.toArray) Q E { s with heap:=h' })
  (hA:∀ h',(∀ b o,s.heap.get? b=some o->b≠a->h'.get? b=some o)->Asks prog w A { s with heap:=h' } O knd ok) (hok:∀ v∈vs,ok (v,v))
  (h:∀ us:List Value,us.Perm vs->Ord2 O false us->P (.done (.ret .none)) { s with heap:=sortedHeap s.heap a vs us.toArray }):wpAny (model prog w) A (Builtin.«list.sort» ⟨[.ref a],[]⟩) P E s:=by
 have ha:a<s.heap.objs.size:=Yaj ho;have keep:=fun (b:Addr) (o:Obj) (hb:s.heap.get? b=some o) (hne:b≠a)=>Zhy ho hb hne;obtain⟨e1,ho1⟩:∃ c,(s.heap.update a (YbT fun _=>#[])).get? a=some (seqObj "list" #[] c):=⟨_,get?_update_seq ho (fun _=>#[])⟩
 have ho6:=Yad (seqObj "list" #[] 0) (Yad (seqObj "tuple" vs.toArray 0) ho1);have hsv:vs.toArray.size=vs.length:=Yal;have hz1:vs.toArray.size<=sizeLine:=by rw[hsv];exact hz
 have fin:∀ (τ:SortSt),(arrOf τ).toList.Perm (vs.zip vs)->O.Srt (arrOf τ).toList->P (.done (.ret .none)) { s with heap:=sortedHeap s.heap a vs ((arrOf τ).map (·.2)) }:=by
  intro τ hp hs;obtain⟨us,e,p1,p2⟩:=Zmb hp hs false;have e2:(arrOf τ).map (·.2)=us.toArray:=by rw[<- e];apply Array.toList_inj.mp;simp
  rw[e2];exact h us p1 p2
 have osz:∀ τ:SortSt,(arrOf τ).toList.Perm (vs.zip vs)->((arrOf τ).map (·.2)).size<=sizeLine+1:=by
  intro τ hp;rw[Array.size_map,<- Yao,hp.length_eq,List.length_zip];omega
 rw[list_sort_plain];refine wpAny_bind (listItems_at ho rfl (wpAny_bind (listUpdate_at ho rfl ?_ hz1 (YaR _))));refine wpAny_bind (seqEpoch_at ho1 rfl (wpAny_bind (wpAny_newTuple ?_ hz)));refine wpAny_bind (wpAny_newList ?_ (YaR _));refine wpAny_holding ?_;show wpAny (model prog w) A _ P E ({ s with heap:=((s.heap.update a (YbT fun _=>#[])).push (seqObj "tuple" vs.toArray 0)).push (seqObj "list" #[] 0) }:Shared);dsimp only;by_cases h2:vs.toArray.size<2
 ·rw[if_pos h2,if_pos h2];refine wpAny_bind (wpAny_pure ?_);rw[StateT.run_pure];have hp0:(vs.toArray.zip vs.toArray).toList.Perm (vs.zip vs):=by simp
  refine wpAny_bind (wpAny_pure (wpAny_bind (seqEpoch_at ho6 rfl (wpAny_bind (listUpdate_at ho6 rfl ?_ (YaR _) (osz (Ydu general' (vs.toArray.zip vs.toArray) #[] 7 none) hp0))))));simp only[bne_self_eq_false,Yar,if_false];refine wpAny_pure (fin (Ydu general' (vs.toArray.zip vs.toArray) #[] 7 none) hp0 ?_);show O.Srt (vs.toArray.zip vs.toArray).toList;rw[show (vs.toArray.zip vs.toArray).toList=vs.zip vs by simp]
  match vs,h2 with
  | [],_=>exact YbK
  | [v],_=>exact Yey _ _
 ·rw[if_neg h2,if_neg h2];refine wpAny_bind (hkk _ keep (by omega) _ ?_);refine wpAny_bind (wpAny_mono (Zfs (a₀:=vs.toArray.zip vs.toArray) (st:=Ydu knd (vs.toArray.zip vs.toArray) #[] 7 none) (Q:=fun _ τ=>(arrOf τ).toList.Perm (vs.zip vs)/\failedOf τ=none/\O.Srt (arrOf τ).toList)
   (hA _ keep) (fun x hx=>?_) rfl rfl rfl rfl fun τ a1 a2 a3=>⟨by simpa using a1,a2,a3⟩) ?_ fun _ _ z=>z)
  ·have hx:x∈vs.zip vs:=by simpa using hx
   have q:=mem_zip_self hx;rw[show x=(x.1,x.1) from Prod.ext rfl q.1.symm];exact hok _ q.2
  ·rintro⟨⟨⟩,τ⟩ s' ⟨rfl,hp,hf,hs⟩;refine wpAny_bind (seqEpoch_at ho6 rfl (wpAny_bind (listUpdate_at ho6 rfl ?_ (YaR _) (osz τ hp))));dsimp only;rw[hf];simp only[bne_self_eq_false,Yar,if_false];exact wpAny_pure (fin τ hp hs)
theorem ZgJ {l:Addr}{vs:List Value} (h:Heap):∀ b o,h.get? b=some o->(((h.push (seqObj "list" #[] 0)).update h.objs.size (YbT (·++vs.toArray))).push (seqObj "list" vs.toArray 0)).get? b=some o:=by
 intro b o q;have hlt:b<h.objs.size:=Yaj q;refine Yad _ ?_;rw[YeZ _ _ _ _ (YaB hlt)];exact Yad _ q
structure Sortable (prog:Program) (w:World) (s:Shared) (O:KO) (vs:List Value):Prop where
 ex:∃ (knd:SortKind) (ok:Keyed->Prop),(∀ v∈vs,ok (v,v))/\(∀ A h',(∀ b o,s.heap.get? b=some o->h'.get? b=some o)->Asks prog w A { s with heap:=h' } O knd ok) /\
  ∀ (A:Around) (E:Value->Shared->Prop) h',(∀ b o,s.heap.get? b=some o->h'.get? b=some o)->2<=vs.length->∀ Q:SortKind->Shared->Prop,Q knd { s with heap:=h' }->wpAny (model prog w) A (keyKind' vs.toArray) Q E { s with heap:=h' }
theorem Zc4 {l:Addr}{vs:List Value}{Q:Value->Shared->Prop} (hl:s.heap.IsList l vs.toArray) (hz:vs.length<=sizeLine) (hS:Sortable prog w s O vs)
  (h:∀ us:List Value,us.Perm vs->Ord2 O false us->Q (.ref (s.heap.objs.size+1)) { s with heap:=sortedAll s.heap vs us.toArray }):wpAny (model prog w) A (call (.builtin "sorted") [.ref l]) Q E s:=by
 obtain⟨knd,ok,h1,h2,h3⟩:=hS.ex;have zz:((s.heap.push (seqObj "list" #[] 0)).update s.heap.objs.size (YbT (·++vs.toArray))).objs.size=s.heap.objs.size+1:=by rw[Heap.size_update,size_push']
 have at1:(((s.heap.push (seqObj "list" #[] 0)).update s.heap.objs.size (YbT (·++vs.toArray))).push (seqObj "list" vs.toArray 0)).get? (s.heap.objs.size+1)=some (seqObj "list" vs.toArray 0):=by
  have:=Yat ((s.heap.push (seqObj "list" #[] 0)).update s.heap.objs.size (YbT (·++vs.toArray))) (o:=seqObj "list" vs.toArray 0) rfl
  rwa [zz] at this
 refine Calls.call_function_entry kind_sorted plain_sorted entry_sorted (args_sorted1 _) ?_;unfold Builtin.«sorted»;refine wpAny_bind (m:=checkCount "sorted" 1 1 _) (wpAny_pure (wpAny_bind (collect_list hl (wpAny_bind (wpAny_newList ?_ hz)) hz)));show wpAny _ _ _ _ _ { s with heap:=((s.heap.push (seqObj "list" #[] 0)).update s.heap.objs.size (YbT (·++vs.toArray))).push (seqObj "list" vs.toArray 0) };rw[zz];have up:∀ h':Heap,(∀ b o,(((s.heap.push (seqObj "list" #[] 0)).update s.heap.objs.size (YbT (·++vs.toArray))).push (seqObj "list" vs.toArray 0)).get? b=some o->b≠s.heap.objs.size+1->h'.get? b=some o)->∀ b o,s.heap.get? b=some o->h'.get? b=some o:=fun h' k b o q=>
  k b o (ZgJ (l:=l) s.heap b o q) (YaB (YbE (Yaj q)))
 exact wpAny_bind (wpAny_holding (wpAny_call_entry slot_list_sort ⟨_,at1,rfl⟩ entry_list_sort (Zji at1 hz (fun h' k hl2 Q' q=>h3 _ _ h' (up h' k) hl2 Q' q) (fun h' k=>h2 _ h' (up h' k)) h1 fun us p1 p2=>⟨_,rfl,wpAny_pure ⟨_,rfl,h us p1 p2⟩⟩) (args_list_sort _)))
def KOi:KO where
 α:=Int
 blt a b:=decide (a<b)
 irrefl a:=by simp
 trans a b c h1 h2:=by simp only[decide_eq_true_eq] at *;omega
 negTrans a b c h:=by simp only[decide_eq_true_eq] at *;omega
 total a b h1 h2:=by simp only[decide_eq_false_iff_not] at *;omega
 ky p:=numOf p.1
theorem Zd8 {vs:List Value}{ns:List Int} (hI:IntsAre vs ns):Sortable prog w s KOi vs:=by
 refine⟨oneType',(fun p=>∃ n t,p.1=.int n t),fun v hv=>?_,fun A h' _ x y hx hy E Q q=>?_,fun A E h' _ h2 Q q=>?_⟩
 ·obtain⟨n,t,e⟩:=hI.all v hv;exact⟨n,t,e⟩
 ·obtain⟨n,t,e1⟩:=hx;obtain⟨m,u,e2⟩:=hy;rw[keyLt'_oneType,e1,e2];refine oneLt_int ?_;have q:Q (decide (numOf x.1<numOf y.1)) { s with heap:=h' }:=q;rw[e1,e2] at q;exact q
 ·match vs,h2,hI with
  | v1::v2::r,_,hI=>
   rw[keyKind_ints hI];exact wpAny_pure q
theorem Zjy {us:List Value}{ms:List Int}{b:Bool} (hI:IntsAre us ms) (h:Ord2 KOi b us):if b=true then ms.Pairwise (· ≥ ·) else ms.Pairwise (·<=·):=by
 have e:=hI.nums;subst e
 cases b with
 | false=>
  simp only[Yar,if_false,Ord2] at h ⊢;rw[Ya5];exact h.imp fun {x y} q=>by
   have q:decide (numOf y<numOf x)=false:=q;simpa using q
 | true=>
  simp only[if_true,Ord2] at h ⊢;rw[Ya5];exact h.imp fun {x y} q=>by
   have q:decide (numOf x<numOf y)=false:=q;simpa using q
theorem Ziz {vs us:List Value}{ns:List Int} (hI:IntsAre vs ns) (hp:us.Perm vs):∃ ms,IntsAre us ms/\ms.Perm ns:=by
 refine⟨us.map numOf,intsAre_map us fun v hv=>hI.all v (hp.mem_iff.mp hv),?_⟩;rw[<- hI.nums];exact hp.map _
def lxB:List Int->List Int->Bool
 | _,[]=>false
 | [],_::_=>true
 | a::as,b::bs=>if a=b then lxB as bs else decide (a<b)
theorem ZdM:∀ a,lxB a a=false
 | []=>rfl
 | a::as=>by rw[lxB,if_pos rfl];exact ZdM as
theorem Zdc:∀ a b c,lxB a b=true->lxB b c=true->lxB a c=true
 | _,[],_,h,_=>by rw[lxB] at h;cases h
 | _,_::_,[],_,h=>by rw[lxB] at h;cases h
 | [],_::_,_::_,_,_=>rfl
 | a::as,b::bs,c::cs,h1,h2=>by
  rw[lxB] at h1 h2 ⊢;by_cases e1:a=b
  ·subst e1;rw[if_pos rfl] at h1;by_cases e2:a=c
   ·subst e2;rw[if_pos rfl] at h2 ⊢;exact Zdc as bs cs h1 h2
   ·rw[if_neg e2] at h2 ⊢;exact h2
  ·rw[if_neg e1] at h1;have h1:=of_decide_eq_true h1;by_cases e2:b=c
   ·subst e2;rw[if_neg e1];exact decide_eq_true h1
   ·rw[if_neg e2] at h2;have h2:=of_decide_eq_true h2;rw[if_neg (by omega)];exact decide_eq_true (by omega)
theorem Zco:∀ a b,lxB a b=false->lxB b a=false->a=b
 | [],[],_,_=>rfl
 | _::_,[],_,h=>by rw[lxB] at h;cases h
 | [],_::_,h,_=>by rw[lxB] at h;cases h
 | a::as,b::bs,h1,h2=>by
  rw[lxB] at h1 h2;by_cases e:a=b
  ·subst e;rw[if_pos rfl] at h1 h2;rw[Zco as bs h1 h2]
  ·rw[if_neg e] at h1;rw[if_neg (fun z=>e z.symm)] at h2;have h1:=of_decide_eq_false h1;have h2:=of_decide_eq_false h2;omega
theorem Zlo (a b c:List Int) (h:lxB a c=true):lxB a b=true∨lxB b c=true:=by
 cases e1:lxB a b with
 | true=>exact .inl rfl
 | false=>
  right
  cases e2:lxB b a with
  | true=>exact Zdc b a c e2 h
  | false=>rw[<- Zco a b e1 e2];exact h
def KOt (ks:Addr->List Int):KO where
 α:=List Int
 blt:=lxB
 irrefl:=ZdM
 trans:=Zdc
 negTrans:=Zlo
 total:=Zco
 ky p:=match p.1 with
  | .ref a=>ks a
  | _=>[]
theorem Zin {b:Bool}{Q:Bool->Shared->Prop}{τ:Shared}{fin:Bool}:∀ {xs ys:List Int}{us vs:List Value}{i:Nat},IntsAre us xs->IntsAre vs ys->(Q (lxB xs ys) τ)->(fin=decide (xs.length<ys.length)) ->
  PySem.W.KatLex prog w A b fin Q (us.zip vs) i τ
 | [],[],_,_,i,.nil,.nil,q,e=>by
  rw[e];exact YdF q
 | [],y::ys,_,_,i,.nil,.cons _ _ _,q,e=>by
  rw[e];exact YdF (by simpa[lxB] using q)
 | x::xs,[],_,_,i,.cons _ _ _,.nil,q,e=>by
  rw[e];exact YdF (by simpa[lxB] using q)
 | x::xs,y::ys,_,_,i,.cons _ t h1,.cons _ u h2,q,e=>by
  rw[Ye9];refine PySem.W.kat_cons (wpAny_eqBool_int ?_);rw[lxB] at q;by_cases c:x=y
  ·subst c;rw[if_pos rfl] at q;rw[show (x == x)=true by simp];exact PySem.W.kat_yes (Zin h1 h2 q (by rw[e];simp))
  ·rw[if_neg c] at q;rw[show (x == y)=false by simpa using c];refine PySem.W.kat_no ?_
   cases b && i == 0 with
   | true=>exact oneLt_int q
   | false=>exact PySem.W.kat_one _ _ (PySem.P.lt_int q)
def TupI (h:Heap) (ks:Addr->List Int) (v:Value):Prop:=∃ a o its n,v=.ref a/\h.get? a=some o/\o.cls=.type "tuple"/\o.data=.seq its n/\IntsAre its.toList (ks a)/\ks a≠[]
theorem ZdO {h:Heap}{ks:Addr->List Int}:∀ {vs:List Value},(∀ v∈vs,TupI h ks v)->∃ fs:List Value,fs.length=vs.length/\PySem.W.KatTups h vs fs/\∀ f∈fs,∃ n t,f=.int n t
 | [],_=>⟨[],rfl,PySem.W.KatTups.nil,fun f hf=>nomatch hf⟩
 | v::vs,hv=>by
  obtain⟨fs,e,k,q⟩:=ZdO (vs:=vs) fun u hu=>hv u (Yap _ hu);obtain⟨a,o,its,n,rfl,ho,hc,hd,hI,hne⟩:=hv v (YaC ..);obtain⟨l⟩:=its;have hI:IntsAre l (ks a):=hI
  revert hI hd
  generalize ks a=z at hne ⊢;intro hd hI
  cases hI with
  | nil=>exact absurd rfl hne
  | cons m t hI=>exact⟨.int m t::fs,by simp[e],PySem.W.KatTups.cons ho hc hd rfl k,fun f hf=>by
    rcases Yah.mp hf with z | z
    ·exact⟨m,t,z⟩
    ·exact q f z⟩
theorem Zd7 {vs:List Value}{ks:Addr->List Int} (hT:∀ v∈vs,TupI s.heap ks v):Sortable prog w s (KOt ks) vs:=by
 refine⟨tuples' (Yck "int" != Yck "tuple"),(fun p=>TupI s.heap ks p.1),hT,fun A h' kp x y hx hy E Q q=>?_,fun A E h' kp h2 Q q=>?_⟩
 ·obtain⟨a,o,its,n,e1,ho,hc,hd,hI,hne⟩:=hx;obtain⟨b,o',its',n',e2,ho',hc',hd',hI',hne'⟩:=hy;have q:Q (lxB ((KOt ks).ky x) ((KOt ks).ky y)) { s with heap:=h' }:=q;have k1:(KOt ks).ky x=ks a:=by show (match x.1 with | .ref a=>ks a | _=>[])=_;rw[e1]
  have k2:(KOt ks).ky y=ks b:=by show (match y.1 with | .ref a=>ks a | _=>[])=_;rw[e2]
  rw[k1,k2] at q;rw[e1,e2];refine PySem.W.kat_lt (kp _ _ ho) hd (kp _ _ ho') hd' (Zin hI hI' q ?_);rw[<- hI.nums,<- hI'.nums,Yab,Yab,Yao,Yao]
 ·obtain⟨fs,e,k,hi⟩:=ZdO (h:=h') (ks:=ks) (vs:=vs) fun v hv=>by
   obtain⟨a,o,its,n,e1,ho,r⟩:=hT v hv;exact⟨a,o,its,n,e1,kp _ _ ho,r⟩
  refine PySem.W.kat_kind (T:=Yck "int") k (by omega) (fun v hv=>?_) rfl q;obtain⟨n,t,rfl⟩:=hi v hv;exact PySem.W.Looks.now
end
end L2
namespace L2
open PySem PySem.Spec PyProof.Rows PySem.SeqAt
section
variable {X:Cx}
theorem ZdU:ZbO X (.builtin "sorted") (fun xs H Q=>∃ (a:Addr) (ns:List Int),xs=[.ref a]/\SqL X.K H a (ns.map V.int)/\∀ (l:Addr) (ms:List Int),H l=none->ms.Perm ns->ms.Pairwise (·<=·)->Q (.ref l) (upd H l (.lst (ms.map V.int)))):=by
 intro pins s σ H xs us Q I r h;obtain⟨a,ns,rfl,hq,q⟩:=h;obtain⟨u,rfl,r1⟩:=Zcv r;cases r1;obtain⟨its,rv,p,hz⟩:=I.list hq;have hl:its.length=ns.length:=by rw[<- rv.length,Yab]
 rw[Yab] at hz;refine Zc4 p.isList (by rw[hl];exact hz) (Zd8 (ZcC rv)) fun us p1 p2=>?_;obtain⟨ms,hI,pm⟩:=Ziz (ZcC rv) p1;obtain⟨e,he⟩:=sortedAll_at s.heap its us.toArray;have hle:s.heap.objs.size<=s.heap.objs.size+1:=Yc3 _;refine⟨.ref (s.heap.objs.size+1),_,I.laid (a:=s.heap.objs.size+1) (o:=.lst (ms.map V.int)) (t':=s.toks) (fun b o q=>sortedAll_old q) hle ⟨?_,us,e,ZeB hI,he⟩,rfl,q _ ms (I.hok.fresh hle) pm (Zjy hI p2)⟩;rw[Yab,pm.length_eq];exact hz
theorem ZeA:∀ {ps:List Addr}{us:List Value},Vals (ps.map V.ref) us->us=ps.map YaL
 | [],_,.nil=>rfl
 | p::ps,_,.cons r t=>by
  have e:_=YaL p:=r;rw[ZeA t,e];rfl
theorem ZeO:∀ (ps:List Addr),Vals (ps.map V.ref) (ps.map YaL)
 | []=>.nil
 | p::ps=>.cons rfl (ZeO ps)
def adr:Value->Addr
 | .ref a=>a
 | _=>0
theorem ZhG {ps:List Addr}{us:List Value} (h:us.Perm (ps.map YaL)):∃ qs:List Addr,us=qs.map YaL/\qs.Perm ps:=by
 refine⟨us.map adr,?_,?_⟩
 ·rw[Ydf];refine (YeX us).symm.trans (Ycn fun v hv=>?_);obtain⟨p,_,e⟩:=YaW.mp (h.mem_iff.mp hv);rw[<- e];rfl
 ·have:=h.map adr
  rwa [Ydf,show (adr ∘ YaL)=id from rfl,YeX] at this
theorem Zdm:ZbO X (.builtin "sorted") (fun xs H Q=>∃ (a:Addr) (ps:List Addr) (ks:Addr->List Int),xs=[.ref a]/\SqL X.K H a (ps.map V.ref)/\(∀ p∈ps,ks p≠[]/\H p=some (.tup ((ks p).map V.int)))/\∀ (l:Addr) (qs:List Addr),H l=none->qs.Perm ps->qs.Pairwise (fun p q=>lxB (ks q) (ks p)=false)->Q (.ref l) (upd H l (.lst (qs.map V.ref)))):=by
 intro pins s σ H xs us Q I r h;obtain⟨a,ps,ks,rfl,hq,ht,q⟩:=h;obtain⟨u,rfl,r1⟩:=Zcv r;cases r1;obtain⟨its,rv,p,hz⟩:=I.list hq;have ei:=ZeA rv;rw[Yab] at hz;have hl:its.length=ps.length:=by rw[ei,Yab]
 have hT:∀ v∈its,TupI s.heap ks v:=by
  intro v hv;rw[ei] at hv;obtain⟨b,hb,e⟩:=YaW.mp hv;obtain⟨h1,h2⟩:=ht b hb;obtain⟨_,ii,rr,o,g1,g2,_,n,g3⟩:=(show ObjOk X.prog X.w H s.heap b (.tup ((ks b).map V.int)) from I.hok b _ h2)
  exact⟨b,o,ii.toArray,n,e.symm,g1,g2,g3,by simpa using ZcC rr,h1⟩
 refine Zc4 p.isList (by rw[hl];exact hz) (Zd7 hT) fun us p1 p2=>?_;have p1':=p1;rw[ei] at p1';obtain⟨qs,e1,pm⟩:=ZhG p1';obtain⟨e,he⟩:=sortedAll_at s.heap its us.toArray;have hle:s.heap.objs.size<=s.heap.objs.size+1:=Yc3 _;refine⟨.ref (s.heap.objs.size+1),_,I.laid (a:=s.heap.objs.size+1) (o:=.lst (qs.map V.ref)) (t':=s.toks) (fun b o q=>sortedAll_old q) hle ⟨?_,us,e,?_,he⟩,rfl,q _ qs (I.hok.fresh hle) pm ?_⟩
 ·rw[Yab,pm.length_eq];exact hz
 ·rw[e1];exact ZeO qs
 ·rw[e1] at p2;simp only[Ord2,Yar,if_false] at p2;exact Ya5.mp p2
end
end L2
namespace L2
open PySem PySem.Spec PyProof.Rows PySem.SeqAt
section
variable {prog:Program}{w:World}{A:Around}{E:Value->Shared->Prop}{s:Shared}{O:KO}
end
section
variable {X:Cx}{pins:List (Addr × Obj)}{σ:St}{H:Hp}{s:Shared}{h':Heap}
end
section
variable {X:Cx}
end
end L2
namespace L2
open PySem PySem.Spec PyProof.Rows
structure WE (X:Cx) (e:Expr) (t:TE):Prop where
 out:PE X e t
section
variable {X:Cx}{a b e k v:Expr}{ta tb te tk tv:TE}{pos:Pos}{es:List Expr}{t:TA}
theorem we (h:PE X e te):WE X e te:=⟨h⟩
theorem ZlL {r:R2} (hr:IxR X r) (ha:WE X a ta) (hb:WE X b tb) (hs:Zi8 b):WE X (.Subscript a b pos) (tOp r ta tb):=⟨ZaB hr ha.out hb.out hs⟩
theorem ZfY (h:WA X es t):WE X (.List es pos) (tLst t):=⟨ZaM h.out⟩
theorem ZlK (he:WE X e te):WS X (.Return (some e) pos) (tRet te):=⟨Zay he.out⟩
theorem Zke {i:Nat}{x:Str}{pos':Pos} (hN:X.N.Nodup) (hi:X.N[i]?=some x) (hx:Loc X.env.scope x) (he:WE X e te) (hs:swapsWith e (some (.Name x pos')) pos.line X.env=pure false:=by rfl) (hf:X.fn x=true∨X.env.scope.names.lookup x=some .local:=by first | exact .inl rfl | exact .inr rfl | assumption) :
  WS X (.Assign [.Name x pos'] e pos) (tAsg te (ZbK i)):=⟨Zap hN hi hx he.out hs hf⟩
end
end L2
namespace Lv
open PySem L2
open Classical in
def cn (xs:List Int) (m:Int):Int:=(xs.count m:Int)
def Bd (B:Int) (N:List (List Int)):Prop:=∀ xs∈N,∀ m∈xs,0<=m/\m<=B
theorem Zfo (p:Nat):∀ n:Nat,Bd n (num p n)
 | 0=>fun xs a m b=>by
  rcases Yah.mp (show xs∈[0]::Yan (p - 1) [] from a) with rfl | h
  ·have:m=0:=by simpa using b
   omega
  ·rw[(YcR.mp h).2] at b;cases b
 | n+1=>fun xs a m b=>by
  have ih:=Zfo p n;have hf:∀ m∈fstN (num p n),0<=m/\m<=((n+1:Nat):Int):=fun m hm=>by
   unfold fstN at hm;obtain⟨y,hy,rfl⟩:=YaW.mp hm
   cases e:num p n with
   | nil=>rw[e] at hy;cases hy
   | cons c r=>
    rw[e] at hy;have:=ih c (by rw[e];exact YaC) y hy;omega
  rcases Yak.mp (show xs∈((num p n).tail.map (fstN (num p n)++·))++[fstN (num p n)] from a) with h | h
  ·obtain⟨y,hy,rfl⟩:=YaW.mp h;rcases Yak.mp b with b | b
   ·exact hf m b
   ·have:=ih y (List.mem_of_mem_tail hy) m b;omega
  ·rw[YaG.mp h] at b;exact hf m b
end Lv
namespace L2
open PySem PySem.Spec PyProof.Rows
mutual
inductive RdN (H:Hp):V->PyData->Prop
 | non:RdN H .non .none
 | bl (b:Bool):RdN H (.bl b) (.bool b)
 | int (i:Int):RdN H (.int i) (.int i)
 | str (x:Str):RdN H (.str x) (.str x)
 | lst {a:Addr}{xs:List V}{ds:List PyData}:H a=some (.lst xs)->RdL H xs ds->RdN H (.ref a) (.list ds)
 | tup {a:Addr}{xs:List V}{ds:List PyData}:H a=some (.tup xs)->RdL H xs ds->RdN H (.ref a) (.tuple ds)
inductive RdL (H:Hp):List V->List PyData->Prop
 | nil:RdL H [] []
 | cons {x:V}{xs:List V}{d:PyData}{ds:List PyData}:RdN H x d->RdL H xs ds->RdL H (x::xs) (d::ds)
end
section
variable {P:Program}{w:World}{H:Hp}{h:Heap}
end
section
variable {X:Cx}
end
end L2
namespace L2
open PySem PySem.Spec PyProof.Rows PySem.SeqAt
section
variable {P:Program}{w:World}{H:Hp}{s:Shared}
theorem RdL.len_eq:∀ {xs ys:List V}{ds:List PyData},RdL H xs ds->RdL H ys ds->xs.length=ys.length
 | _,_,_,.nil,r=>by cases r;rfl
 | _,_,_,.cons _ q,r=>by
  cases r with
  | cons _ q2=>rw[Ybc,Ybc,RdL.len_eq q q2]
mutual
theorem RdN.eqs (ok:HOk P w H s.heap):∀ {x:V}{d:PyData},RdN H x d->∀ {y:V},RdN H y d->∀ {u v:Value},RelV x u->RelV y v->∀ A:Around,A.units+d.depth<cLine->EqAt A s u v true
 | _,_,.non,y,r,u,v,h1,h2,A,hu=>by
  cases r;cases (show u=YbR from h1);cases (show v=YbR from h2);exact YeJ _
 | _,_,.bl b,y,r,u,v,h1,h2,A,hu=>by
  cases r;cases (show u=Ydy b from h1);cases (show v=Ydy b from h2);exact YeJ _
 | _,_,.int i,y,r,u,v,h1,h2,A,hu=>by
  cases r;obtain⟨t,z⟩:=(show ∃ t,u=YdN i t from h1);cases z;obtain⟨t2,z⟩:=(show ∃ t,v=YdN i t from h2);cases z;have:=EqAt.int_int (A:=A) (s:=s) i t i t2;rw[beq_self_eq_true] at this;exact this
 | _,_,.str x,y,r,u,v,h1,h2,A,hu=>by
  cases r;obtain⟨t,z⟩:=(show ∃ t,u=YdM x t from h1);cases z;obtain⟨t2,z⟩:=(show ∃ t,v=YdM x t from h2);cases z;have:=EqAt.str_str (A:=A) (s:=s) x t x t2;rw[show (x == x)=true from by rw[<- str_beq];exact beq_self_eq_true _] at this;exact this
 | _,_,.lst (a:=a) (xs:=xs) (ds:=ds) e q,y,r,u,v,h1,h2,A,hu=>by
  cases r with
  | lst e2 q2=>
   rename_i b ys;cases (show u=YaL a from h1);cases (show v=YaL b from h2);by_cases hab:a=b
   ·subst hab;exact YeJ _
   obtain⟨_,i1,n1,v1,g1⟩:=(show ObjOk P w H s.heap a (.lst xs) from ok a _ e)
   obtain⟨_,i2,n2,v2,g2⟩:=(show ObjOk P w H s.heap b (.lst ys) from ok b _ e2)
   have hd:A.units+(Ybi ds+1)<cLine:=hu;have hl:=q.len_eq q2;refine EqAt.of_refs hab ?_;have:=RcAt.lists (A:=A) (s:=s) (e:=fun _=>true) (l:=a) (b:=b) (items:=i1.toArray) (items2:=i2.toArray) ⟨_,g1,rfl,n1,rfl⟩ ⟨_,g2,rfl,n2,rfl⟩ (by rw[Yal,Yal,<- v1.length,<- v2.length,hl]) (by omega) (fun j h1 h2=>by
    have:=RdL.eqs ok q q2 v1 v2 A.in1 (by show A.units+1+_<_;omega) j (by simpa using h1) (by simpa using h2);simpa using this)
   rw[Zcu] at this;exact this
 | _,_,.tup (a:=a) (xs:=xs) (ds:=ds) e q,y,r,u,v,h1,h2,A,hu=>by
  cases r with
  | tup e2 q2=>
   rename_i b ys;cases (show u=YaL a from h1);cases (show v=YaL b from h2);by_cases hab:a=b
   ·subst hab;exact YeJ _
   obtain⟨_,i1,v1,o1,g1,c1,_,n1,k1⟩:=(show ObjOk P w H s.heap a (.tup xs) from ok a _ e)
   obtain⟨_,i2,v2,o2,g2,c2,_,n2,k2⟩:=(show ObjOk P w H s.heap b (.tup ys) from ok b _ e2)
   have hd:A.units+(Ybi ds+1)<cLine:=hu;have hl:=q.len_eq q2;refine EqAt.of_refs hab ?_;have:=RcAt.tuples (A:=A) (s:=s) (e:=fun _=>true) (l:=a) (b:=b) (items:=i1.toArray) (items2:=i2.toArray) ⟨o1,g1,c1,n1,k1⟩ ⟨o2,g2,c2,n2,k2⟩ (by omega) (fun j h1 h2=>by
    have:=RdL.eqs ok q q2 v1 v2 A.in1 (by show A.units+1+_<_;omega) j (by simpa using h1) (by simpa using h2);simpa using this)
   rw[Zcu,Yal,Yal,<- v1.length,<- v2.length,hl,beq_self_eq_true] at this;exact this
theorem RdL.eqs (ok:HOk P w H s.heap):∀ {xs:List V}{ds:List PyData},RdL H xs ds->∀ {ys:List V},RdL H ys ds->∀ {us vs:List Value},Vals xs us->Vals ys vs->∀ A:Around,A.units+Ybi ds<cLine->∀ (j:Nat) (h1:j<us.length) (h2:j<vs.length),EqAt A s us[j] vs[j] true
 | _,_,.nil,ys,r,us,vs,v1,v2,A,hu,j,h1,h2=>by
  cases v1;exact absurd h1 (YbB _)
 | _,_,.cons (d:=d) (ds:=ds) p q,ys,r,us,vs,v1,v2,A,hu,j,h1,h2=>by
  cases r with
  | cons p2 q2=>
   cases v1 with
   | cons a1 b1=>
    cases v2 with
    | cons a2 b2=>
     have hm:Ybi (d::ds)=max d.depth (Ybi ds):=by rw[Ybi]
     rw[hm] at hu
     cases j with
     | zero=>exact RdN.eqs ok p p2 a1 a2 A (by omega)
     | succ j=>exact RdL.eqs ok q q2 b1 b2 A (by omega) j (by simpa using h1) (by simpa using h2)
end
end
def rNeR:R2:=fun x y H Q=>∃ (a b:Addr) (d:PyData),x=.ref a/\y=.ref b/\RdN H (.ref a) d/\RdN H (.ref b) d/\d.depth<=10/\Q (.bl false) H
section
variable {X:Cx}
theorem Zkn {P:Program}{w:World}{H:Hp}{s:Shared}{A:Around}{xs ys:List V}{ds:List PyData}{i1 i2:List Value} (ok:HOk P w H s.heap) (q:RdL H xs ds) (q2:RdL H ys ds) (v1:Vals xs i1) (v2:Vals ys i2) (hu:A.units+1+Ybi ds<cLine) :
  ∀ j (h1:j<i1.toArray.size) (h2:j<i2.toArray.size),EqAt A.in1 s i1.toArray[j] i2.toArray[j] true:=fun j h1 h2=>by
 have:=RdL.eqs ok q q2 v1 v2 A.in1 (by show A.units+1+_<_;omega) j (by simpa using h1) (by simpa using h2);simpa using this
theorem Zmc (hu:X.A.units+12<cLine):OpR X (compareOp .NotEq) rNeR:=by
 intro pins s σ H x y v u Q I rx ry h;obtain⟨a,b,d,rfl,rfl,r1,r2,hd,q⟩:=h;cases rx;cases ry
 cases r1 with
 | lst e p=>
  rename_i xs ds
  cases r2 with
  | lst e2 p2=>
   rename_i ys;obtain⟨_,i1,n1,v1,g1⟩:=(show ObjOk X.prog X.w H s.heap a (.lst xs) from I.hok a _ e)
   obtain⟨_,i2,n2,v2,g2⟩:=(show ObjOk X.prog X.w H s.heap b (.lst ys) from I.hok b _ e2)
   have hd':Ybi ds+1<=10:=hd;refine RcNeAt.lists (e:=fun _=>true) (items:=i1.toArray) (items2:=i2.toArray) ⟨_,g1,rfl,n1,rfl⟩ ⟨_,g2,rfl,n2,rfl⟩ (by rw[Yal,Yal,<- v1.length,<- v2.length,p.len_eq p2]) (by omega) (Zkn I.hok p p2 v1 v2 (by omega)) _ _ _ _ ?_;rw[Zcu];exact⟨.bl false,H,I,rfl,q⟩
 | tup e p=>
  rename_i xs ds
  cases r2 with
  | tup e2 p2=>
   rename_i ys;obtain⟨_,i1,v1,o1,g1,c1,_,n1,k1⟩:=(show ObjOk X.prog X.w H s.heap a (.tup xs) from I.hok a _ e)
   obtain⟨_,i2,v2,o2,g2,c2,_,n2,k2⟩:=(show ObjOk X.prog X.w H s.heap b (.tup ys) from I.hok b _ e2)
   have hd':Ybi ds+1<=10:=hd;refine RcNeAt.tuples (e:=fun _=>true) (items:=i1.toArray) (items2:=i2.toArray) ⟨o1,g1,c1,n1,k1⟩ ⟨o2,g2,c2,n2,k2⟩ (by omega) (Zkn I.hok p p2 v1 v2 (by omega)) _ _ _ _ ?_;rw[Zcu,Yal,Yal,<- v1.length,<- v2.length,p.len_eq p2,beq_self_eq_true];exact⟨.bl false,H,I,rfl,q⟩
end
end L2
namespace L2
open PySem PySem.Spec PyProof.Rows
section
variable {X:Cx}
end
end L2
namespace Lv
open PySem L2
def rl (p n i:Nat):List Int:=(num p n).getD i []
end Lv
namespace Lv
open PySem L2
theorem Zh8 {p:Nat} (hp:2<=p) (n:Nat):∃ x r,num p n=x::r/\r.length+1=p:=by
 have hl:=Zcb (p:=p) (by omega) n
 cases h:num p n with
 | nil=>rw[h] at hl;simp at hl;omega
 | cons x r=>exact⟨x,r,rfl,by rw[h] at hl;simpa using hl⟩
end Lv
namespace L2
open PySem
end L2
namespace Lv
open PySem L2
def sm (g:Nat->Int):Nat->Int
 | 0=>0
 | k+1=>sm g k+g (k+1)
def sq (p n:Nat):List (List Int):=(YaT (n+1)).map fun j=>rl p j 0
end Lv
namespace L2
open PySem PySem.Spec PyProof.Rows PySem.SeqAt
inductive TyS (H:Hp):V->Value->Prop
 | int (i:Int):TyS H (.int i) (.type "int")
 | bl (b:Bool):TyS H (.bl b) (.type "bool")
 | lst {a:Addr}{xs:List V} (e:H a=some (.lst xs)):TyS H (.ref a) (.type "list")
 | tup {a:Addr}{xs:List V} (e:H a=some (.tup xs)):TyS H (.ref a) (.type "tuple")
section
variable {X:Cx}
end
end L2
namespace HT
open PySem PySem.Spec PyProof.Rows
section
variable {prog:Program}{w:World}{A:Around}{E:Value->Shared->Prop}{s:Shared}
end
end HT
namespace L2
open PySem PySem.Spec PyProof.Rows PySem.SeqAt
inductive TyA (H:Hp):V->String->Prop
 | non:TyA H .non "NoneType"
 | int (i:Int):TyA H (.int i) "int"
 | bl (b:Bool):TyA H (.bl b) "bool"
 | str (x:Str):TyA H (.str x) "str"
 | lst {a:Addr}{xs:List V} (e:H a=some (.lst xs)):TyA H (.ref a) "list"
 | tup {a:Addr}{xs:List V} (e:H a=some (.tup xs)):TyA H (.ref a) "tuple"
 | dK {a:Addr}{kvs:List (Key × V)} (e:H a=some (.dK kvs)):TyA H (.ref a) "dict"
section
variable {X:Cx}
end
end L2
namespace Lv
open PySem L2 PySem.W
def ZdR (K:Frag) (reel C:Addr) (all:List Addr):Bool:=excAll K C && (exmOne K (.ref C) (.ref reel) == some true && (kitOne K (.ref C) (.ref reel) == some true && (kitOne K (.ref C) (.type "ValueError") == some true && all.all fun D=>kitOne K (.ref C) (.ref D) == some (D == C))))
structure ExcTab (K:Frag) (reel C:Addr) (all:List Addr):Prop where
 ok:excAll K C=true
 exm:exmOne K (.ref C) (.ref reel)=some true
 isR:kitOne K (.ref C) (.ref reel)=some true
 isV:kitOne K (.ref C) (.type "ValueError")=some true
 one:∀ D∈all,kitOne K (.ref C) (.ref D)=some (D == C)
theorem ExcTab.of {K:Frag}{reel C:Addr}{all:List Addr} (h:ZdR K reel C all=true):ExcTab K reel C all:=by
 simp only[ZdR,Ybr,beq_iff_eq,Ycj] at h;exact⟨h.1,h.2.1,h.2.2.1,h.2.2.2.1,h.2.2.2.2⟩
structure Excs (K:Frag) (mg:Str->Option Value) where
 reel:Addr
 nWays:Addr
 nRoom:Addr
 nLevel:Addr
 nStand:Addr
 tMany:Addr
 tFew:Addr
 nPlace:Addr
 nText:Addr
 nLine:Addr
 nBack:Addr
 nPhase:Addr
 clash:Addr
 mReel:mg "ReelError"=some (.ref reel)
 mWays:mg "NoWays"=some (.ref nWays)
 mRoom:mg "NoRoom"=some (.ref nRoom)
 mLevel:mg "NoLevel"=some (.ref nLevel)
 mStand:mg "NoStanding"=some (.ref nStand)
 mMany:mg "TooMany"=some (.ref tMany)
 mFew:mg "TooFew"=some (.ref tFew)
 mPlace:mg "NoPlace"=some (.ref nPlace)
 mText:mg "NoText"=some (.ref nText)
 mLine:mg "NoLine"=some (.ref nLine)
 mBack:mg "NoBack"=some (.ref nBack)
 mPhase:mg "NoPhase"=some (.ref nPhase)
 mClash:mg "Clash"=some (.ref clash)
 nd:([nWays,nRoom,nLevel,nStand,tMany,tFew,nPlace,nText,nLine,nBack,nPhase,clash]:List Addr).Nodup
def Excs.all {K:Frag}{mg:Str->Option Value} (X:Excs K mg):List Addr:=[X.nWays,X.nRoom,X.nLevel,X.nStand,X.tMany,X.tFew,X.nPlace,X.nText,X.nLine,X.nBack,X.nPhase,X.clash]
theorem Zfq:bootBuiltins "ValueError"=some (.type "ValueError"):=by decide +kernel
def anT:List String:=["NoneType","bool","int","str","list","tuple","dict"]
theorem Zg3 {K:Yac}{T:String} (h:T∈anT):Yby K (.type T) (.type "int")=some (decide (T="int") || decide (T="bool")):=by
 simp only[anT,Yah,Ybb,or_false] at h;rcases h with rfl | rfl | rfl | rfl | rfl | rfl | rfl
 all_goals with_unfolding_all rfl
theorem Zde {K:Yac}{T:String} (h:T∈anT):Yby K (.type T) (.type "bool")=some (decide (T="bool")):=by
 simp only[anT,Yah,Ybb,or_false] at h;rcases h with rfl | rfl | rfl | rfl | rfl | rfl | rfl
 all_goals with_unfolding_all rfl
structure Thing (K:Frag) (H:Hp) (v:V) (T:String):Prop where
 ty:TyOf K H v (.type T)
 mem:T∈anT
theorem Thing.same {K:Frag}{H H':Hp}{v:V}{T:String} (h:Thing K H v T) (s:Same H H'):Thing K H' v T:=by
 obtain⟨ty,m⟩:=h;refine⟨?_,m⟩;generalize hv:Yck T=t at ty
 cases ty with
 | non=>exact .non
 | bl x=>exact .bl x
 | int i=>exact .int i
 | str x=>exact .str x
 | flt x=>exact .flt x
 | lst e=>exact .lst (s _ _ e)
 | frz e=>exact .frz (s _ _ e)
 | tup e=>exact .tup (s _ _ e)
 | dK e=>exact .dK (s _ _ e)
 | dT e=>exact .dT (s _ _ e)
 | ins e=>cases hv
def ZcQ (K:Frag):Sp:=fun vs H Q _=>∃ (x:V) (T:String),vs=[x]/\Thing K H x T/\Q (.bl (decide (T="int"))) H
def NotIn (lo hi:Int) (v:V) (T:String):Prop:=T≠"int"∨∃ i,v=.int i/\¬ (lo<=i/\i<=hi)
def Zhx (K:Frag) (lo hi:Int) (C:Addr):Sp:=fun vs H Q E=>∃ (v:V) (T:String),vs=[v]/\Thing K H v T/\((∃ i,v=.int i/\lo<=i/\i<=hi/\Q .non H)∨(NotIn lo hi v T/\E (.ref C) none H))
theorem FnOk.or {P:Program}{w:World}{K:Frag}{mg:Str->Option Value}{base:Heap}{CX:CXT}{k:Nat}{f:Addr}{fd:FuncData}{ps:List Str}{sp sp':Sp} (F:FnOk P w K mg base CX k f fd ps sp) (F':FnOk P w K mg base CX k f fd ps sp') :
  FnOk P w K mg base CX k f fd ps (fun vs H Q E=>sp vs H Q E∨sp' vs H Q E) :=
 ⟨fun vs H Q E h=>h.elim (F.len vs H Q E) (F'.len vs H Q E),fun A outer s H args us vs Q E hr he hb hv h=>h.elim (F.run A outer s H args us vs Q E hr he hb hv) (F'.run A outer s H args us vs Q E hr he hb hv)⟩
end Lv
namespace Lv
open PySem L2 PySem.W
theorem Thing.ty_int {K:Frag}{H:Hp}{i:Int}{T:String} (h:Thing K H (.int i) T):T="int":=by
 obtain⟨ty,m⟩:=h;cases ty;rfl
end Lv
namespace Lv
open PySem L2 PySem.W
theorem ExcTab.no {K:Frag}{reel C D:Addr}{all:List Addr} (h:ExcTab K reel C all) (hs:D∈all) (hn:D≠C):kitOne K (.ref C) (.ref D)=some false:=by
 rw[h.one D hs];congr 1;exact beq_eq_false_iff_ne.mpr hn
theorem ExcTab.yes {K:Frag}{reel C:Addr}{all:List Addr} (h:ExcTab K reel C all) (hs:C∈all):kitOne K (.ref C) (.ref C)=some true:=by
 rw[h.one C hs];congr 1;exact beq_self_eq_true C
end Lv
namespace Lv
open PySem L2 PySem.W
theorem Zee {X:Cx}{x:Str}{c:Addr}{pos:Pos} (hg:Gl X x) (hm:X.mg x=some (.ref c)) (hd:(x == ("__debug__":Str))=false:=by decide):PE X (.Name x pos) (tC (.ref c)):=ZfI (v:=.ref c) hg hm rfl hd
end Lv
namespace L2
open PySem PySem.Spec PyProof.Rows PySem.W
theorem Za5 (K:Frag) {X:Cx} (hK:X.K=K:=by rfl):ZbO X (.builtin "isinstance") (fun xs H Q=>∃ (ea C:Addr) (y:V) (c:Value) (b:Bool),xs=[.ref ea,y]/\H ea=some (ZcP ea C)/\excAll K C=true/\(y=.ty "ValueError"/\c=.type "ValueError"∨∃ D,y=.ref D/\c=.ref D)/\kitOne K (.ref C) c=some b/\Q (.bl b) H):=by subst hK;exact Zfh
end L2
namespace Lv
open PySem L2 PySem.W
end Lv
namespace Lv
open PySem L2 PySem.Spec PyProof.Rows
end Lv
namespace L2
open PySem PySem.Spec PyProof.Rows PySem.SeqAt
section
variable {X:Cx}
end
theorem ZiR {b1 b2:Bool}{K:Yac}{own:List Str}{js:List Nat}{g:TG}{tt:TT}{te:TE}{σ:St}{H1:Hp}{Q:VK}{a b:Addr}{xs ys:List V} (hlen:ys.length<=xs.length) (Pv:Addr->Nat->Hp->Prop) (h0:∀ acc,H1 acc=none->Pv acc 0 (upd H1 acc (.lst [])))
  (hl:∀ acc i H,H1 acc=none->i<=ys.length->Pv acc i H->SqB b1 K H a xs/\SqB b2 K H b ys)
  (hs:∀ acc i x y p H,H1 acc=none->xs[i]?=some x->ys[i]?=some y->Pv acc i H->H p=none->g (.ref p) (blkσ own js σ) (upd H p (.tup [x,y])) fun τ H4=>tt τ H4 fun c H5=>
   if c=true then te τ H5 fun y H6=>∃ zs,H6 acc=some (.lst zs)/\zs.length<sizeLine/\(i+1<=ys.length/\Pv acc (i+1) (upd H6 acc (.lst (zs++[y])))) else (i+1<=ys.length/\Pv acc (i+1) H5))
  (hd:∀ acc H,H1 acc=none->Pv acc ys.length H->Q (.ref acc) H):Zbl own js g tt te σ (ItzB b1 b2 K a b) H1 Q:=by
 intro acc hacc;refine⟨fun i H=>i<=ys.length/\Pv acc i H,ys.length,⟨YaR _,h0 acc hacc⟩,?_⟩;rintro i H ⟨hi,p⟩;obtain⟨q1,q2⟩:=hl acc i H hacc hi p;by_cases hlt:i<ys.length
 ·have hl2:i<xs.length:=by omega
  refine .inr ⟨hlt,⟨xs,ys,xs[i],ys[i],q1,q2,by simp[hl2],by simp[hlt]⟩,fun x H' y=>?_⟩;obtain⟨pa,z1,z2,hp,e1,e2,y1,y2⟩:=y;subst e1 e2;exact hs acc i z1 z2 pa H hacc (y1 xs q1) (y2 ys q2) p hp
 ·have e:i=ys.length:=by omega
  subst e;exact .inl ⟨⟨xs,ys,q1,q2,.inr (Yag _)⟩,hd acc H hacc p⟩
end L2
namespace L2
open PySem PySem.Spec PyProof.Rows PySem.SeqAt
section
variable {X:Cx}
end
end L2
namespace L2
open PySem PySem.Spec PyProof.Rows PySem.SeqAt
theorem ZdI {α:Type}:∀ ys:List α,(YaT ys.length).filterMap (ys[·]?)=ys
 | []=>rfl
 | y::ys=>by
  rw[Ybc,List.range_succ_eq_map,Ybo];show y::(List.map Nat.succ (YaT ys.length)).filterMap ((y::ys)[·]?)=_;rw[YcT];exact congrArg (y::·) (ZdI ys)
theorem Zgs {α β:Type}{f g:α->Option β}:∀ {l:List α},(∀ x∈l,f x=g x)->l.filterMap f=l.filterMap g
 | [],_=>rfl
 | x::l,h=>by rw[Ybo,Ybo,h x (by simp),Zgs fun y hy=>h y (by simp[hy])]
theorem Zdo (its:List Value):slicePick its.toArray none none (some (-1))=its.reverse.toArray:=by
 unfold slicePick;have e1:sliceBounds none none (some (-1)) its.toArray.size=((its.length:Int) - 1,-1,-1):=by
  simp[sliceBounds]
 rw[e1];have e2:sliceRange ((its.length:Int) - 1) (-1) (-1)=(YaT its.length).map fun k=>its.length - 1 - k:=by
  unfold sliceRange;have:(if (its.length:Int) - 1 > -1 then ((its.length:Int) - 1 - (-1) - (-1) - 1) / (-(-1)) else 0).toNat=its.length:=by
   by_cases h:(its.length:Int) - 1 > -1
   ·rw[if_pos h,show (-(-1):Int)=1 by decide,Int.ediv_one];omega
   ·rw[if_neg h];omega
  dsimp only;rw[if_neg (by decide),this];apply Ycn;intro k hk;have:=Ybh.mp hk;omega
 show (List.filterMap _ (sliceRange ((its.length:Int) - 1) (-1) (-1))).toArray=_;rw[e2,YcT];congr 1;have e3:=ZdI its.reverse;rw[Yco] at e3;rw[<- e3];apply Zgs;intro k hk;have:=Ybh.mp hk;show its.toArray[its.length - 1 - k]?=_;rw[List.getElem?_toArray,List.getElem?_reverse this]
def ZmS (K:Yac):V->Hp->VK->Prop:=fun x H Q=>∃ a xs,x=.ref a/\SqL K H a xs/\∀ p,H p=none->Q (.ref p) (upd H p (.lst xs.reverse))
def ZmG (K:Yac) (te:TE) (ts:TO):TE:=fun σ H Q=>te σ H fun x H1=>ts σ H1 fun k H2=>k=some (-1)/\ZmS K x H2 Q
section
variable {X:Cx}{e st:Expr}{te:TE}{ts:TO}{pos p2:Pos}
theorem Zl8 (he:PE X e te) (hst:PO X (some st) ts):PE X (.Subscript e (.Slice none none (some st) p2) pos) (ZmG X.K te ts):=by
 intro pins s σ H Q I h;refine Subscript_ (thn (he pins s σ H _ I h) fun v s1 ⟨x,H1,I1,r1,q1⟩=>?_);refine wpAny_Slice ?_;rw[evalPart_none];refine wpAny_pure ?_;refine wpAny_pure ?_;refine thn (hst pins s1 σ H1 _ I1 q1) fun vu s3 ⟨u,H3,I3,pu,ek,q3⟩=>?_;subst ek;obtain⟨a,xs,rfl,hx,q⟩:=q3;cases r1;have I4:Inv X pins σ H3 { s3 with heap:=s3.heap.push { cls:=.type "slice",data:=.fields #[.none,.none,vu] } }:=I3.kept (t':=s3.toks) fun b ob q=>Yad _ q;obtain⟨its,r,ht,hz⟩:=I4.list hx;have hlen:=r.length;show wpAny (model X.prog X.w) X.A (subscriptTail e (.Slice none none (some st) p2) (.ref a) (.ref s3.heap.objs.size)) (EP X pins σ Q) X.xe { s3 with heap:=s3.heap.push { cls:=.type "slice",data:=.fields #[.none,.none,vu] } };refine tail_any (ops:=[.ref a,.ref s3.heap.objs.size]) ht.isList.typeIs slot_list_getitem.lookup ?_ (by with_unfolding_all rfl);refine wpAny_getItem_list_slice ht.isList (YdS ..) .none .none pu (by simp) ?_ (by rw[Yal] <;> omega);rw[Zdo];refine⟨.ref (s3.heap.push { cls:=.type "slice",data:=.fields #[.none,.none,vu] }).objs.size,_,I4.laid (t':=s3.toks) (o:=.lst xs.reverse) (fun b ob q=>Yad _ q) (Yag _) ?_,rfl,q _ (I4.hok.fresh (Yag _))⟩;exact⟨by rw[Yco];omega,_,0,Vals.reverse r,Yat _ rfl⟩
end
end L2
namespace Lv
open PySem L2
def mxAt:List Int->Nat
 | []=>0
 | x::r=>if r.all (·<=x) then 0 else mxAt r+1
structure IsTop (d:List Int) (r:Nat):Prop where
 lt:r<d.length
 ge:∀ j (h:j<d.length),d[j]<=d[r]
 fst:∀ j (h:j<r),d[j]<d[r]
def Zm1 (c v:List Int):List Int:=YbI (· - ·) c v
def came (p:Nat):Nat->Nat × List Int
 | 0=>(0,Yan p 0)
 | n+1=>
  let L:=if (came p n).2=cnt p (came p n).1 then (came p n).1+1 else (came p n).1
  let r:=mxAt (Zm1 (cnt p L) (came p n).2)
  (L,(came p n).2.set r ((came p n).2.getD r 0+1))
end Lv
namespace L2
open PySem PySem.Spec PyProof.Rows PySem.SeqAt
section
variable {X:Cx}
end
end L2
namespace Lv
open PySem L2
end Lv
namespace Lv
open PySem L2
end Lv
namespace L2
open PySem PySem.Spec PyProof.Rows PySem.SeqAt
section
variable {X:Cx}
def isB (b:Bool) (y:Value):Bool:=match y with | .bool c=>c == b | _=>false
theorem Zfb (b:Bool):∀ {bs:List Bool}{its:List Value},Vals (bs.map V.bl) its->its.countP (isB b)=bs.count b
 | [],_,r=>by cases r;rfl
 | c::bs,_,r=>by
  cases r with
  | cons r1 r2=>
   cases r1;rw[List.countP_cons,List.count_cons,Zfb b r2];rfl
end
end L2
namespace L2
open PySem PySem.Spec PyProof.Rows PySem.SeqAt
theorem Zgz {bs:List Bool}{its:List Value} (r:Vals (bs.map V.bl) its):∀ y∈its,∃ c:Bool,y=.bool c:=fun y hy=>by
 obtain⟨i,hi,rfl⟩:=Ybl hy;have hi':i<bs.length:=by have:=r.length;rw[Yab] at this;omega
 obtain⟨u,hu,ru⟩:=r.get (x:=V.bl bs[i]) (i:=i) (by rw[Yam,Yaa hi'];rfl);cases ru;rw[Yaa hi] at hu;exact⟨_,YaF hu⟩
theorem Zkz (b:Bool) {bs:List Bool}{its:List Value} (r:Vals (bs.map V.bl) its) (j:Nat) (h1:j<its.length) (h2:j<bs.length):isB b its[j]=(bs[j] == b):=by
 obtain⟨u,hu,ru⟩:=r.get (x:=V.bl bs[j]) (i:=j) (by rw[Yam,Yaa h2];rfl);cases ru;rw[Yaa h1] at hu;rw[YaF hu];rfl
theorem ZkA (b:Bool):∀ (l:List Bool) (j:Nat) (hj:j<l.length),j<l.idxOf b->(l[j] == b)=false
 | [],j,hj,_=>by simp at hj
 | a::r,j,hj,hlt=>by
  rw[List.idxOf_cons] at hlt
  cases ha:(a == b) with
  | true=>rw[ha] at hlt;simp at hlt
  | false=>
   rw[ha] at hlt
   cases j with
   | zero=>exact ha
   | succ j=>exact ZkA b r j (by simpa using hj) (by simpa using hlt)
section
variable {X:Cx}
theorem Zid:MtM X "list.count" (fun x vs H Q=>∃ (l:Addr) (bs:List Bool) (b:Bool),x=.ref l/\vs=[.bl b]/\SqL X.K H l (bs.map V.bl)/\Q (.int (bs.count b:Nat)) H):=by
 intro pins s σ H x vs v us Q I rx rv h;obtain⟨l,bs,b,rfl,rfl,hq,q⟩:=h;cases rx;obtain⟨u,rfl,ru⟩:=rv.one;cases ru;obtain⟨its,r,p,hz⟩:=I.list hq;obtain⟨⟨cls,dd,data,sl⟩,ho,hc,n,hd⟩:=p.isList;simp only at hc hd;subst hc hd;have ec:=Zfb b r;refine call_meets F.slot_list_count ⟨_,ho,rfl⟩ F.entry_list_count (F.args_list_count_2 _ _) (list_countAt l its.toArray n dd sl (.bool b) (isB b)) ⟨ho,fun y hy=>?_,?_⟩
 ·obtain⟨c,rfl⟩:=Zgz r y (by simpa using hy);exact EqAt.bool_bool c b
 ·refine⟨.int _,H,I.tok _,⟨s.toks,?_⟩,q⟩;rw[<- ec]
theorem Zic:MtM X "list.index" (fun x vs H Q=>∃ (l:Addr) (bs:List Bool) (b:Bool),x=.ref l/\vs=[.bl b]/\SqL X.K H l (bs.map V.bl)/\b∈bs/\Q (.int (bs.idxOf b:Nat)) H):=by
 intro pins s σ H x vs v us Q I rx rv h;obtain⟨l,bs,b,rfl,rfl,hq,hi,q⟩:=h;cases rx;obtain⟨u,rfl,ru⟩:=rv.one;cases ru;obtain⟨its,r,p,hz⟩:=I.list hq;obtain⟨⟨cls,dd,data,sl⟩,ho,hc,n,hd⟩:=p.isList;simp only at hc hd;subst hc hd;have hlen:its.length=bs.length:=by rw[<- r.length,Yab]
 have hj:bs.idxOf b<bs.length:=List.idxOf_lt_length_iff.mpr hi;have hb:bs.length<=16777216:=by rw[Yab] at hz;exact hz
 refine call_meets F.slot_list_index ⟨_,ho,rfl⟩ F.entry_list_index (F.args_list_index_2 _ _) (list_indexAt l its.toArray n dd sl (.bool b) (isB b) (bs.idxOf b) (by simpa[hlen] using hj) (by omega) ?_ ?_) ⟨ho,fun y hy=>?_,⟨.int _,H,I.tok _,⟨s.toks,rfl⟩,q⟩⟩
 ·show isB b its[bs.idxOf b]=true;rw[Zkz b r _ (by omega) hj];simpa using List.getElem_idxOf hj
 ·intro j hjs hlt;show isB b its[j]=false;have hjs':j<its.length:=by simpa using hjs
  rw[Zkz b r j hjs' (by omega)];exact ZkA b bs j _ hlt
 ·obtain⟨c,rfl⟩:=Zgz r y (by simpa using hy);exact EqAt.bool_bool c b
end
end L2
namespace L2
open PySem PySem.Spec PyProof.Rows PySem.SeqAt
end L2
namespace L2
open PySem PySem.Spec PyProof.Rows PySem.W
structure RoomS (k:Nat) (A:Around):Prop where
 dp:A.depth+3*k+5<recursionLimit
 un:A.units+16*k+200<cLine
 gd:A.guards=some []
structure FnOkS (P:Program) (w:World) (K:Yac) (mg:Str->Option Value) (base:Heap) (CX:CXT) (k:Nat) (f:Addr) (fd:FuncData) (ps:List Str) (sp:Sp):Prop where
 len:∀ vs H Q E,sp vs H Q E->vs.length=ps.length
 run:∀ (A:Around) (outer:List Env) (s:Shared) (H:Hp) (args:Args) (us:List Value) (vs:List V) (Q:VK) (E:XK),RoomS k A->Env0 P w K mg base A outer s H->BindsTo s fd args (ps.zip us)->Vals vs us->sp vs H Q E ->
  codeAny (model P w) A (.call (.ref f) args) (CR CX outer P w H s Q E) s
section
variable {P:Program}{w:World}{K:Yac}{mg:Str->Option Value}{base:Heap}
end
structure CalS (P:Program) (w:World) (K:Yac) (mg:Str->Option Value) (base:Heap) (k:Nat) (x:Str) (ps:List Str) (sp:Sp) (f:Addr) (fd:FuncData):Prop where
 ok:FnOkS P w K mg base CX0 k f fd ps sp
 mg:mg x=some (.ref f)
 kp:Yav K (.ref f)=true
 bd:Binds K fd ps []
section
variable {X:Cx}
end
end L2
namespace Lv
open PySem L2
def stp (a q:Int × Int):Int × Int:=(a.1+q.1*(if a.2<q.2 then a.2 else q.2),a.2 - (if a.2<q.2 then a.2 else q.2))
def lsF:List (Int × Int)->Int × Int->Int × Int
 | [],a=>a
 | q::M,a=>lsF M (stp a q)
end Lv
namespace Lv
open PySem L2
def sprC (xs:List Int):List (Int × Int):=((YaT 401).map fun (m:Nat)=>((m:Int),cn xs m)).filter fun q=>decide (q.2≠0)
def Zmn (xs:List Int) (rows:Int):Option Int:=if (lsF (sprC xs) (0,rows)).2 > 0 then none else some (lsF (sprC xs) (0,rows)).1
end Lv
namespace Lv
open PySem L2
def pz (x:Int):Int:=if x<0 then 0 else x
def sv (xs:List Int) (t:Int):Int:=(xs.map fun x=>pz (t - x)).sum
def Sub (ys xs:List Int):Prop:=∀ m,cn ys m<=cn xs m
structure Lst (xs:List Int) (r v:Int):Prop where
 le:∀ t,r*t - sv xs t<=v
 eq:∃ θ∈xs,v=r*θ - sv xs θ
end Lv
namespace Lv
open PySem L2
def kr (p:Int) (M:Nat) (ys:List Int):Int:=(ys.map fun y=>p ^ (M - y.toNat)).sum
end Lv
namespace Lv
open PySem L2
def Zdv:Int:=10000000000000000000000000000000000000000000000000000000000000
def upI:List Int->Bool
 | []=>true
 | [_]=>true
 | a::b::r=>decide (a<=b) && upI (b::r)
inductive El (H:Hp):V->Prop
 | int {z:Int} (h1:-Zdv - 2<z) (h2:z<Zdv+2):El H (.int z)
 | bl (b:Bool):El H (.bl b)
 | non:El H .non
 | str {x:Str} (h:x.length<=400) (hc:∀ c∈x.cps.toList,c<16 ^ 8):El H (.str x)
 | lst {a:Addr}{zs:List Int} (e:H a=some (.lst (zs.map V.int))) (hl:zs.length<=3) (hb:∀ z∈zs,-Zdv - 2<z/\z<Zdv+2):El H (.ref a)
 | tup {a:Addr}{zs:List Int} (e:H a=some (.tup (zs.map V.int))) (hl:zs.length<=3) (hb:∀ z∈zs,-Zdv - 2<z/\z<Zdv+2):El H (.ref a)
inductive Lf (H:Hp):V->Prop
 | non:Lf H .non
 | int (i:Int) (h:i=7):Lf H (.int i)
 | bl (b:Bool):Lf H (.bl b)
 | str (x:Str):Lf H (.str x)
 | d0 {a:Addr} (e:H a=some (.dK [])):Lf H (.ref a)
 | d1 {a:Addr} (e:H a=some (.dK [(.inl 1,.int 2)])):Lf H (.ref a)
structure Sh (d:PyData) (n:Nat):Prop where
 ok:d.showable=true
 nd:d.hasDict=false
 dp:d.depth<=1
 sz:d.shown.length<=n
end Lv
namespace Lv
open PySem L2
def Free (N:List (List Int)) (m:List Nat) (o:Int):Prop:=0<=o/\o<N.length/\m.getD o.toNat 0≠(N.getD o.toNat []).length
instance (N:List (List Int)) (m:List Nat) (o:Int):Decidable (Free N m o):=by unfold Free;infer_instance
def ZmV (m:List Nat) (o:Int):List Nat:=m.set o.toNat (m.getD o.toNat 0+1)
def atO (N:List (List Int)) (m:List Nat) (o:Int):Int:=(N.getD o.toNat []).getD (m.getD o.toNat 0) 0
def hold (N:List (List Int)):List Nat->List Int->List Int->Option (List Nat × List Int)
 | m,t,[]=>some (m,t)
 | m,t,o::os=>if Free N m o then hold N (ZmV m o) (t++[atO N m o]) os else none
def InM (N:List (List Int)) (m:List Nat):Prop:=m.length=N.length/\∀ j,j<N.length->m.getD j 0<=(N.getD j []).length
end Lv
namespace Lv
open PySem L2
def lenN (N:List (List Int)):List Nat:=N.map Ycp
def opn (N:List (List Int)) (m:List Nat) (j:Nat):Bool:=decide (m.getD j 0<(N.getD j []).length)
def opnL (N:List (List Int)) (m:List Nat):List Nat:=(YaT N.length).filter (opn N m)
structure OrS (N:List (List Int)) (m:List Nat) (t os:List Int):Prop where
 hd:hold N (N.map fun _=>0) [] os=some (m,t)
 up:upI t=true
 lst:∀ l,t.getLast?=some l->∀ j∈opnL N m,l<=atO N m j
 inm:InM N m
 sm:m.sum=os.length
end Lv
namespace L2
open PySem PySem.Spec PyProof.Rows
abbrev two (elt t1 i1:Expr) (f1:List Expr) (t2 i2:Expr) (f2:List Expr) (scope:Scope) (pos:Pos):Expr:=.ListComp elt [⟨t1,i1,f1,0⟩,⟨t2,i2,f2,0⟩] scope pos
theorem Zhi (elt t1 i1:Expr) (f1:List Expr) (t2 i2:Expr) (f2:List Expr) (scope:Scope) (pos:Pos) (it acc:Value) (env:Env) :
  compTurn (two elt t1 i1 f1 t2 i2 f2 scope pos) 0 it acc env=(do
   standAt i1.pos
   match <- pyNext it with
   | none=>pure (.done .next)
   | some v=>
    letOwnedTupleGo t1 it v
    assign t1 env v
    let mut ok:=true
    for c in f1 do
     if ok then ok <- isTrue c env (eval c env)
    if ok then
     let x <- eval i2 env
     standAt i2.pos
     let x <- foldedSetIterable i2 env x
     let _ <- runOwn (.compStart (two elt t1 i1 f1 t2 i2 f2 scope pos) 1 (<- holding [x] (pyIter x)) acc env) env
    again (.compLoop (two elt t1 i1 f1 t2 i2 f2 scope pos) 0 it acc env)):=by rfl
theorem Zhh (elt t1 i1:Expr) (f1:List Expr) (t2 i2:Expr) (f2:List Expr) (scope:Scope) (pos:Pos) (it acc:Value) (env:Env) :
  compTurn (two elt t1 i1 f1 t2 i2 f2 scope pos) 1 it acc env=(do
   standAt i2.pos
   match <- pyNext it with
   | none=>pure (.done .next)
   | some v=>
    letOwnedTupleGo t2 it v
    assign t2 env v
    let mut ok:=true
    for c in f2 do
     if ok then ok <- isTrue c env (eval c env)
    if ok then
     (do let _ <- call (.builtin "list.append") [acc,<- eval elt env])
    again (.compLoop (two elt t1 i1 f1 t2 i2 f2 scope pos) 1 it acc env)):=by rfl
section
variable {prog:Program}{w:World}{A:Around}{R:Result->Shared->Prop}{s:Shared}{elt t1 i1:Expr}{f1:List Expr}{t2 i2:Expr}{f2:List Expr}{scope:Scope}{pos:Pos}{it acc:Value}{env:Env}
theorem Zij (I:Nat->Shared->Prop)
  (turn:∀ n s,I n s->wpAny (model prog w) A (pyNext it) (fun r s₁=>match r with
   | none=>R (.ok .next) s₁
   | some v=>wpAny (model prog w) A (letOwnedTupleGo t2 it v) (fun _ s₁'=>wpAny (model prog w) A (assign t2 env v) (fun _ s₂=>
     wpAny (model prog w) A (forIn f2 true fun c r=>if r=true then do let ok <- isTrue c env (eval c env);pure (Ya8 ok) else pure (Ya8 r)) (fun ok s₃=>
      if ok=true then wpAny (model prog w) A (eval elt env) (fun x s₄=>
       wpAny (model prog w) A (call (.builtin "list.append") [acc,x]) (fun _ s₅=>∃ m,m<n/\I m s₅) (fun _ _=>False) s₄) (fun _ _=>False) s₃
      else ∃ m,m<n/\I m s₃) (fun _ _=>False) s₂) (fun _ _=>False) s₁') (fun _ _=>False) s₁) (fun _ _=>False) s)
  (n:Nat) (h:I n s):codeAny (model prog w) A (.compLoop (two elt t1 i1 f1 t2 i2 f2 scope pos) 1 it acc env) R s:=by
 refine codeAny_loop rfl I (fun n s hI=>?_) n h;show wpAny _ A ((compTurn (two elt t1 i1 f1 t2 i2 f2 scope pos) 1 it acc env).onRaise (fun x=>do noteFrame x env;theTreesLotGoes x)) _ _ s;refine wpAny_noted ?_;rw[Zhh];refine wpAny_bind (wpAny_standAt (wpAny_bind (wpAny_mono (turn n s hI) (fun r s₁ h₁=>?_) fun _ _ h'=>h'.elim)))
 cases r with
 | none=>exact wpAny_pure h₁
 | some v=>
  refine wpAny_bind (wpAny_mono h₁ (fun _ s₁' h₁=>?_) fun _ _ h'=>h'.elim);refine wpAny_bind (wpAny_mono h₁ (fun _ s₂ h₂=>wpAny_bind (wpAny_mono h₂ (fun ok s₃ h₃=>?_) fun _ _ h'=>h'.elim)) fun _ _ h'=>h'.elim)
  cases ok with
  | false=>exact wpAny_pure ⟨rfl,h₃⟩
  | true=>
   exact wpAny_bind (wpAny_bind (wpAny_mono h₃ (fun x s₄ h₄=>wpAny_bind (wpAny_mono h₄ (fun _ s₅ h₅=>wpAny_pure (wpAny_pure ⟨rfl,h₅⟩)) fun _ _ h'=>h'.elim)) fun _ _ h'=>h'.elim))
theorem ZgF
  (h0:codeAny (model prog w) A (.compLoop (two elt t1 i1 f1 t2 i2 f2 scope pos) 1 it acc env) R s)
  (h:wpAny (model prog w) A (pyIter it) (fun it' s'=>codeAny (model prog w) A (.compLoop (two elt t1 i1 f1 t2 i2 f2 scope pos) 1 it' acc env) R s')
   (notedBy (model prog w) A env fun x s'=>R (.error x) s') s) :
  codeAny (model prog w) A (.compStart (two elt t1 i1 f1 t2 i2 f2 scope pos) 1 it acc env) R s:=by
 refine codeAny_of_tree ?_;show wpAny _ _ ((compStart (two elt t1 i1 f1 t2 i2 f2 scope pos) 1 it acc env).onRaise (fun x=>do noteFrame x env;standAt theWindowsPlace)) _ _ s;refine wpAny_notedAt ?_;unfold compStart;show wpAny _ _ (ask >>= _) _ _ s;refine wpAny_bind (wpAny_askSetting (wpAny_ite ?_));split
 ·first
   | exact wpAny_bind (wpAny_pure (wpAny_pure (And.intro rfl h0)))
   | exact wpAny_pure (And.intro rfl h0)
 ·refine wpAny_bind (wpAny_rule ?_);show wpAny _ _ (standAt i2.pos >>= _) _ _ s;exact wpAny_bind (wpAny_standAt (wpAny_bind (wpAny_mono h (fun it' s' h'=>wpAny_pure (And.intro rfl h')) fun _ _ x=>x)))
theorem Zik (I:Nat->Shared->Prop) (hs:∀ x,foldedSetIterable i2 env x=pure x)
  (turn:∀ n s,I n s->wpAny (model prog w) A (pyNext it) (fun r s₁=>match r with
   | none=>R (.ok .next) s₁
   | some v=>wpAny (model prog w) A (letOwnedTupleGo t1 it v) (fun _ s₁'=>wpAny (model prog w) A (assign t1 env v) (fun _ s₂=>
     wpAny (model prog w) A (forIn f1 true fun c r=>if r=true then do let ok <- isTrue c env (eval c env);pure (Ya8 ok) else pure (Ya8 r)) (fun ok s₃=>
      if ok=true then wpAny (model prog w) A (eval i2 env) (fun x s₄=>wpAny (model prog w) A (pyIter x) (fun itv s₅=>
       codeAny (model prog w) A (.compStart (two elt t1 i1 f1 t2 i2 f2 scope pos) 1 itv acc env) (fun r s₆=>∃ fl,r=.ok fl/\∃ m,m<n/\I m s₆) s₅) (fun _ _=>False) s₄) (fun _ _=>False) s₃
      else ∃ m,m<n/\I m s₃) (fun _ _=>False) s₂) (fun _ _=>False) s₁') (fun _ _=>False) s₁) (fun _ _=>False) s)
  (n:Nat) (h:I n s):codeAny (model prog w) A (.compLoop (two elt t1 i1 f1 t2 i2 f2 scope pos) 0 it acc env) R s:=by
 refine codeAny_loop rfl I (fun n s hI=>?_) n h;show wpAny _ A ((compTurn (two elt t1 i1 f1 t2 i2 f2 scope pos) 0 it acc env).onRaise (fun x=>do noteFrame x env;theTreesLotGoes x)) _ _ s;refine wpAny_noted ?_;rw[Zhi];refine wpAny_bind (wpAny_standAt (wpAny_bind (wpAny_mono (turn n s hI) (fun r s₁ h₁=>?_) fun _ _ h'=>h'.elim)))
 cases r with
 | none=>exact wpAny_pure h₁
 | some v=>
  refine wpAny_bind (wpAny_mono h₁ (fun _ s₁' h₁=>?_) fun _ _ h'=>h'.elim);refine wpAny_bind (wpAny_mono h₁ (fun _ s₂ h₂=>wpAny_bind (wpAny_mono h₂ (fun ok s₃ h₃=>?_) fun _ _ h'=>h'.elim)) fun _ _ h'=>h'.elim)
  cases ok with
  | false=>exact wpAny_pure ⟨rfl,h₃⟩
  | true=>
   refine wpAny_bind (wpAny_mono h₃ (fun x s₄ h₄=>wpAny_bind (wpAny_standAt ?_)) fun _ _ h'=>h'.elim);rw[hs];refine wpAny_bind (wpAny_pure (wpAny_bind (wpAny_holding (wpAny_mono h₄ (fun itv s₅ h₅=>?_) fun _ _ h'=>h'.elim))));refine wpAny_bind (wpAny_runOwn (h:=none) (codeAny_mono h₅ fun r s₆ ⟨fl,er,h₆⟩=>?_));subst er;exact wpAny_pure ⟨rfl,h₆⟩
end
end L2
namespace L2
open PySem PySem.Spec PyProof.Rows
def tInW (g2:TG) (tt2:TT) (te:TE) (τ:St) (acc:Addr) (J2:It) (H6:Hp) (Z:Hp->Prop):Prop :=
 ∃ (W2:Nat->Hp->Prop) (n2:Nat),W2 0 H6/\∀ k H7,W2 k H7->(J2.stop k H7/\Z H7)∨(k<n2/\J2.go k H7/\∀ y H8,J2.yld k H7 y H8->g2 y τ H8 fun τ2 H9=>tt2 τ2 H9 fun c H10=>
  if c=true then te τ2 H10 fun z H11=>∃ ys,H11 acc=some (.lst ys)/\ys.length<sizeLine/\W2 (k+1) (upd H11 acc (.lst (ys++[z]))) else W2 (k+1) H10)
def Zfv (own:List Str) (js:List Nat) (g1:TG) (tt1:TT) (wi2:TI) (g2:TG) (tt2:TT) (te:TE) (σ:St) (J:It) (H1:Hp) (Q:VK):Prop :=
 ∀ acc,H1 acc=none->∃ (W:Nat->Hp->Prop) (n:Nat),W 0 (upd H1 acc (.lst []))/\∀ i H2,W i H2 ->
  (J.stop i H2/\Q (.ref acc) H2)∨(i<n/\J.go i H2/\∀ x H3,J.yld i H2 x H3->g1 x (blkσ own js σ) H3 fun τ H4=>tt1 τ H4 fun c H5=>
   if c=true then wi2 τ H5 fun J2 H6=>tInW g2 tt2 te τ acc J2 H6 (W (i+1)) else W (i+1) H5)
def ZlV (own:List Str) (js:List Nat) (wi:TI) (g1:TG) (tt1:TT) (wi2:TI) (g2:TG) (tt2:TT) (te:TE):TE:=fun σ H Q=>wi σ H fun J H1=>Zfv own js g1 tt1 wi2 g2 tt2 te σ J H1 Q
def ZlJ (fr:List Nat) (τ:St):Prop:=∀ i∈fr,∀ v,τ[i]?≠some (some v)
def Zi9 (own:List Str) (fr:List Nat) (g:TG):Prop:=∀ (js:List Nat) (σ:St) (x:V) (H:Hp) (Q:St->Hp->Prop),g x (blkσ own js σ) H Q ->
 g x (blkσ own js σ) H fun τ H'=>((∀ (j:Nat) v,(blkσ own js σ)[j]?=some (some v)->τ[j]?=some (some v))/\ZlJ fr τ)/\Q τ H'
def ZgB (fr:List Nat) (g:TG):Prop:=∀ (τ:St),ZlJ fr τ->∀ (x:V) (H:Hp) (Q:St->Hp->Prop),g x τ H Q->g x τ H fun τ' H'=>(∀ (j:Nat) v,τ[j]?=some (some v)->τ'[j]?=some (some v))/\Q τ' H'
theorem Zg5 {K:Yac}{own:List Str}{i k:Nat}{fr:List Nat} (hi:i<own.length:=by decide) (hk:k<own.length:=by decide) (hf:∀ j∈fr,j<own.length/\j≠i/\j≠k:=by decide):Zi9 own fr (gTup K 2 (Zdh (ZbK i) (Zdh (ZbK k) gNil))):=fun js σ x H Q h=>by
 obtain⟨a,xs,rfl,hq,hl,v,r,rfl,w,r',rfl,e,h⟩:=h;refine⟨a,_,rfl,hq,hl,v,_,rfl,w,r',rfl,e,⟨fun j z e=>?_,fun j hj z e=>?_⟩,h⟩
 ·have hj:j≠i:=by rintro rfl;exact Za6 hi e
  have hj':j≠k:=by rintro rfl;exact Za6 hk e
  rw[YaO (Ybn hj'),YaO (Ybn hj)];exact e
 ·obtain⟨h1,h2,h3⟩:=hf j hj;rw[YaO (Ybn h3),YaO (Ybn h2)] at e;exact Za6 h1 e
theorem Zg4 {K:Yac}{i k:Nat}:ZgB [i,k] (gTup K 2 (Zdh (ZbK i) (Zdh (ZbK k) gNil))):=fun τ u x H Q h=>by
 obtain⟨a,xs,rfl,hq,hl,v,r,rfl,w,r',rfl,e,h⟩:=h;refine⟨a,_,rfl,hq,hl,v,_,rfl,w,r',rfl,e,fun j z e=>?_,h⟩;have hj:j≠i:=by rintro rfl;exact u j (by simp) _ e
 have hj':j≠k:=by rintro rfl;exact u j (by simp) _ e
 rw[YaO (Ybn hj'),YaO (Ybn hj)];exact e
section
variable {X:Cx}{scope:Scope}{own:List Str}{js fr:List Nat}{elt t1 i1:Expr}{f1:List Expr}{t2 i2:Expr}{f2:List Expr}{wi wi2:TI}{g1 g2:TG}{tt1 tt2:TT}{te:TE}{pos:Pos}
theorem ZiB {pins:List (Addr × Obj)}{s₂:Shared}{H2:Hp}{C:Addr}{fp:List Addr}{τ:St}{H6:Hp}{s6:Shared}{it2 acc:Addr}{fp2:List Addr}{tn2:Nat->Heap->Prop}{J2:It}{Z:Hp->Prop}{P:List (Addr × Obj)}
  (hc:X.calm=true) (hgk:ZgB fr g2) (hu:ZlJ fr τ)
  (hg:PG (X.blk scope own js s₂ H2 C fp pins) t2 g2) (ht:PTs (X.blk scope own js s₂ H2 C fp pins) f2 tt2) (he:PE (X.blk scope own js s₂ H2 C fp pins) elt te)
  (I6:Inv (X.blk scope own js s₂ H2 C fp pins) P τ H6 s6) (T:Turn X.prog X.w X.K t2 J2 fp2 it2 tn2) (st:tn2 0 s6.heap) (hf:∀ b∈fp2,FpOk (X.blk scope own js s₂ H2 C fp pins) P H6 b) (h:tInW g2 tt2 te τ acc J2 H6 Z) :
  codeAny (model X.prog X.w) X.A (.compStart (two elt t1 i1 f1 t2 i2 f2 scope pos) 1 (.ref it2) (.ref acc) (compEnvC scope (clOf scope X.env) C X.env)) (fun r s'=>r=.ok .next/\∃ H',Inv (X.blk scope own js s₂ H2 C fp pins) P τ H' s'/\Z H') s6:=by
 obtain⟨W,nn,w0,turn⟩:=h;have fOk:∀ {H':Hp},(∀ b∈fp2,H' b=none)->∀ b∈fp2,FpOk (X.blk scope own js s₂ H2 C fp pins) P H' b:=fun hn b hb=>⟨hn b hb,(hf b hb).2⟩
 have loop:codeAny (model X.prog X.w) X.A (.compLoop (two elt t1 i1 f1 t2 i2 f2 scope pos) 1 (.ref it2) (.ref acc) (compEnvC scope (clOf scope X.env) C X.env)) (fun r s'=>r=.ok .next/\∃ H',Inv (X.blk scope own js s₂ H2 C fp pins) P τ H' s'/\Z H') s6:=by
  refine Zij (fun n s'=>∃ i H',n=nn - i/\Inv (X.blk scope own js s₂ H2 C fp pins) P τ H' s'/\tn2 i s'.heap/\(∀ b∈fp2,H' b=none)/\W i H') ?_ nn ⟨0,_,rfl,I6,st,fun b hb=>(hf b hb).1,w0⟩;rintro n s3 ⟨i,H3,en,I3,st3,fr3,w3⟩;rcases turn i H3 w3 with ⟨stop,qn⟩ | ⟨hin,go,step⟩
  ·refine thn (T.done (X.blk scope own js s₂ H2 C fp pins) rfl rfl rfl hc i P s3 _ H3 (fun _ _=>False) I3 (fOk fr3) st3 stop) fun r s4 ⟨hr,I4⟩=>?_;subst hr;exact⟨rfl,H3,I4,qn⟩
  ·refine thn (T.item (X.blk scope own js s₂ H2 C fp pins) rfl rfl rfl hc i P s3 _ H3 (fun _ _=>False) I3 (fOk fr3) st3 go) fun r s4 ⟨u,hr,h4⟩=>?_;subst hr;refine thn h4 fun _ s5 ⟨x,H5,I5,r5,y5,st5,fr5⟩=>?_;have I5':=I5.pinned (fOk fr5) (T.obj _ _ st5);have again:∀ {σ7:St}{H7:Hp}{s7:Shared},Inv (X.blk scope own js s₂ H2 C fp pins) (P++Zda fp2 s5.heap) σ7 H7 s7->(∀ (j:Nat) v,τ[j]?=some (some v)->σ7[j]?=some (some v))->W (i+1) H7 ->
     ∃ m,m<n/\∃ i H',m=nn - i/\Inv (X.blk scope own js s₂ H2 C fp pins) P τ H' s7/\tn2 i s7.heap/\(∀ b∈fp2,H' b=none)/\W i H':=fun {σ7 H7 s7} I7 hw w7=>by
    refine⟨nn - (i+1),by omega,i+1,H7,rfl,(I7.unpinned).weak (I3.len.trans I7.len.symm) hw,T.keep _ _ _ st5 fun b hb o e=>(I7.pin (b,o) (Yay _ (Yay _ (Za1 hb e)))).1,fun b hb=>?_,w7⟩;obtain⟨o,e,d⟩:=T.obj _ _ st5 b hb;exact (I7.pin (b,o) (Yay _ (Yay _ (Za1 hb e)))).2.1
   refine thn (hg _ s5 _ H5 x u _ I5' r5 (hgk τ hu _ _ _ (step x H5 y5))) fun _ s6 ⟨σ6,H6,I6,kp,q6⟩=>?_;refine thn (ht _ s6 σ6 H6 _ I6 q6) fun ok s7 ⟨H7,I7,q7⟩=>?_
   cases ok with
   | false=>exact again I7 kp q7
   | true=>
    refine thn (he _ s7 σ6 H7 _ I7 q7) fun y s8 ⟨v,H8,I8,r8,ys,hl,hz,w8⟩=>?_;refine thn (Zba (X:=X.blk scope own js s₂ H2 C fp pins) _ s8 σ6 H8 (.ref acc) [v] (.ref acc) [y] (fun _ H9=>W (i+1) H9) I8 rfl (.cons r8 .nil) ⟨acc,ys,v,rfl,rfl,hl,hz,w8⟩) fun _ s9 ⟨_,H9,I9,_,w9⟩=>?_;exact again I9 kp w9
 exact ZgF loop (T.self _ 0 _ _ _ st loop)
theorem Zj9 {pins:List (Addr × Obj)}{σ:St}{H2:Hp}{s₂:Shared}{it:Addr}{fp:List Addr}{tn:Nat->Heap->Prop}{J:It}{Q:VK}{E:Value->Shared->Prop}{RR:Value->Addr->Result->Shared->Prop}
  (c:CompOk X scope own js) (hc:X.calm=true) (hgk:Zi9 own fr g1) (hgt:ZgB fr g2)
  (hg:∀ s H C fp pins,PG (X.blk scope own js s H C fp pins) t1 g1) (ht:∀ s H C fp pins,PTs (X.blk scope own js s H C fp pins) f1 tt1) (hi2:∀ s H C fp pins,PI (X.blk scope own js s H C fp pins) t2 i2 wi2)
  (hg2:∀ s H C fp pins,PG (X.blk scope own js s H C fp pins) t2 g2) (ht2:∀ s H C fp pins,PTs (X.blk scope own js s H C fp pins) f2 tt2) (he:∀ s H C fp pins,PE (X.blk scope own js s H C fp pins) elt te)
  (hs2:∀ env x,foldedSetIterable i2 env x=pure x)
  (I:Inv X pins σ H2 s₂) (T:Turn X.prog X.w X.K t1 J fp it tn) (st:tn 0 s₂.heap) (hf:∀ b∈fp,FpOk X pins H2 b) (h:Zfv own js g1 tt1 wi2 g2 tt2 te σ J H2 Q)
  (hRR:∀ acc C H' s' m,s₂.heap.objs.size<=C->H' C=none->Inv X pins σ H' s'->s'.heap.Ns C m->Q (.ref acc) H'->RR (.ref acc) C (.ok .next) s') :
  wpAny (model X.prog X.w) X.A (newList []) (fun acc s₃=>wpAny (model X.prog X.w) X.A (newFunctionEnv scope X.env.globals (clOf scope X.env) [] X.env.qual none .none (some X.env)) (fun cenv s₄=>
   codeAny (model X.prog X.w) X.A (.compStart (two elt t1 i1 f1 t2 i2 f2 scope pos) 0 (.ref it) acc { cenv with scope:=relabel scope X.env }) (RR acc cenv.locals) s₄) E s₃) E s₂:=by
 refine wpAny_newObj_type (wpAny_newFunctionEnv c.cell (by intro y hy;simp at hy) (fun h₁ hns₁ hsb₁=>?_) c.kind);dsimp only at hns₁ hsb₁ ⊢;generalize hH2:s₂.heap.push { cls:=.type "list",dict:=none,data:=.seq ([]:List Value).toArray }=G2 at hns₁ hsb₁ ⊢;have hC:G2.objs.size=s₂.heap.objs.size+1:=by rw[<- hH2,YaZ]
 have hDC:s₂.heap.objs.size≠G2.objs.size:=by rw[hC];exact YaB (Ybu _)
 have hCle:s₂.heap.objs.size<=G2.objs.size:=by rw[hC];exact Yc3 _
 have old:∀ b o,s₂.heap.get? b=some o->h₁.get? b=some o:=fun b o e=>hsb₁.extBut b o (YaB (Yas (Yaj e) hCle)) (Yad _ (hH2 ▸ Yad _ e));have hacc:h₁.get? s₂.heap.objs.size=some { cls:=.type "list",data:=.seq ([]:List Value).toArray 0 }:=hsb₁.extBut _ _ hDC (Yad _ (hH2 ▸ Yat _ rfl));have ho2:∀ b∈fp,∃ o,s₂.heap.get? b=some o:=fun b hb=>let ⟨o,e,_⟩:=T.obj 0 _ st b hb;⟨o,e⟩
 have I0:∀ tk,Inv (X.blk scope own js s₂ H2 G2.objs.size fp pins) [] (blkσ own js σ) (upd H2 s₂.heap.objs.size (.lst [])) { s₂ with heap:=h₁,toks:=tk }:=fun tk=>
  Zfj c I hCle hf ho2 hns₁ old (Yag _) hDC hacc
 obtain⟨W,nn,w0,turn⟩:=h s₂.heap.objs.size (I.hok.fresh (Yag _));generalize hacc':s₂.heap.objs.size=acc at *;generalize hGC:G2.objs.size=C at *;have st1:tn 0 h₁:=T.keep 0 _ _ st fun b _ o e=>old b o e;have fOk:∀ {H':Hp},(∀ b∈fp,H' b=none)->∀ b∈fp,FpOk (X.blk scope own js s₂ H2 C fp pins) [] H' b:=fun hn b hb=>by
  obtain⟨f0,f1,f2,f3,f4,f5⟩:=hf b hb;obtain⟨o,e⟩:=ho2 b hb;refine⟨hn b hb,YaB (Yas (Yaj e) (by rw[<- hacc'] at hCle;exact hCle)),fun z=>?_,.inl hb,fun x a h=>f4 x a (c.look I h),fun p hp=>f5 p (by simpa[Cx.blk] using hp)⟩;rcases Yah.mp (I.stkSub b z) with q | q
  ·exact f1 q
  ·exact f2 q
 have loop:∀ s₃:Shared,s₃={ s₂ with heap:=h₁,toks:=s₂.toks+([]:List (Str × Value)).length } ->
   codeAny (model X.prog X.w) X.A (.compLoop (two elt t1 i1 f1 t2 i2 f2 scope pos) 0 (.ref it) (.ref acc) (compEnvC scope (clOf scope X.env) C X.env)) (RR (.ref acc) C) s₃:=by
  rintro s₃ rfl;refine Zik (fun n s'=>∃ i H',n=nn - i/\Inv (X.blk scope own js s₂ H2 C fp pins) [] (blkσ own js σ) H' s'/\tn i s'.heap/\(∀ b∈fp,H' b=none)/\W i H') (hs2 _) ?_ nn ⟨0,_,rfl,I0 _,st1,fun b hb=>?_,w0⟩
  ·rintro n s3 ⟨i,H3,en,I3,st3,fr3,w3⟩;rcases turn i H3 w3 with ⟨stop,qn⟩ | ⟨hin,go,step⟩
   ·refine thn (T.done (X.blk scope own js s₂ H2 C fp pins) rfl rfl rfl hc i [] s3 _ H3 (fun _ _=>False) I3 (fOk fr3) st3 stop) fun r s4 ⟨hr,I4⟩=>?_;subst hr;obtain⟨m,hn,_⟩:=I4.loc;exact hRR acc C H3 s4 m hCle I4.free (Zi4 I hf I4) hn qn
   ·refine thn (T.item (X.blk scope own js s₂ H2 C fp pins) rfl rfl rfl hc i [] s3 _ H3 (fun _ _=>False) I3 (fOk fr3) st3 go) fun r s4 ⟨u,hr,h4⟩=>?_;subst hr;refine thn h4 fun _ s5 ⟨x,H5,I5,r5,y5,st5,fr5⟩=>?_;have I5':=I5.pinned (fOk fr5) (T.obj _ _ st5);have again:∀ {σ7:St}{H7:Hp}{s7:Shared},Inv (X.blk scope own js s₂ H2 C fp pins) ([]++Zda fp s5.heap) σ7 H7 s7->(∀ (j:Nat) v,(blkσ own js σ)[j]?=some (some v)->σ7[j]?=some (some v))->W (i+1) H7 ->
      ∃ m,m<n/\∃ i H',m=nn - i/\Inv (X.blk scope own js s₂ H2 C fp pins) [] (blkσ own js σ) H' s7/\tn i s7.heap/\(∀ b∈fp,H' b=none)/\W i H':=fun {σ7 H7 s7} I7 hw w7=>by
     refine⟨nn - (i+1),by omega,i+1,H7,rfl,(I7.unpinned).weak ((ZfU own js σ X).trans I7.len.symm) hw,T.keep _ _ _ st5 fun b hb o e=>(I7.pin (b,o) (Yay _ (Yay _ (Za1 hb e)))).1,fun b hb=>?_,w7⟩;obtain⟨o,e,d⟩:=T.obj _ _ st5 b hb;exact (I7.pin (b,o) (Yay _ (Yay _ (Za1 hb e)))).2.1
    refine thn (hg s₂ H2 C fp pins _ s5 _ H5 x u _ I5' r5 (hgk _ _ _ _ _ (step x H5 y5))) fun _ s6 ⟨σ6,H6,I6,⟨kp,un⟩,q6⟩=>?_;refine thn (ht s₂ H2 C fp pins _ s6 σ6 H6 _ I6 q6) fun ok s7 ⟨H7,I7,q7⟩=>?_
    cases ok with
    | false=>exact again I7 kp q7
    | true=>
     refine thn (hi2 s₂ H2 C fp pins _ s7 σ6 H7 _ I7 q7) fun v s8 h8=>thn h8 fun itv s9 h9=>?_;obtain⟨it2,fp2,tn2,J2,H9,e9,I9,T2,st9,f9,hw9⟩:=h9;subst e9;refine codeAny_mono (ZiB (t1:=t1) (i1:=i1) (f1:=f1) (i2:=i2) (pos:=pos) hc hgt un (hg2 s₂ H2 C fp pins) (ht2 s₂ H2 C fp pins) (he s₂ H2 C fp pins) I9 T2 st9 f9 hw9) fun r s10 ⟨er,H10,I10,w10⟩=>?_;exact⟨_,er,again I10 kp w10⟩
  ·rw[Zah ?_]
   ·exact (hf b hb).1
   ·obtain⟨o,e⟩:=ho2 b hb;rw[<- hacc'];exact YaB (Yaj e)
 exact codeAny_compStart_list (loop _ rfl) (T.self _ 0 _ _ _ st1 (loop _ rfl))
end
end L2
namespace L2
open PySem PySem.Spec PyProof.Rows PySem.SeqAt
def ItlB (b:Bool) (K:Yac) (a:Addr):It:=match b with | true=>Itl K a | false=>Itt K a
def Zmu (K:Yac) (tl:TE):TI:=fun σ H R=>tl σ H fun x H1=>∃ a b,x=.ref a/\(∃ xs,SqB b K H1 a xs)/\R (ItlB b K a) H1
theorem Zju (K:Yac) {X:Cx}{tg l:Expr}{tl:TE} (hl:PE X l tl) (hK:X.K=K:=by rfl):PI X tg l (Zmu K tl):=by
 subst hK;intro pins s σ H R I h;refine thn (hl pins s σ H _ I h) fun v s1 ⟨x,H1,I1,r1,q1⟩=>?_;obtain⟨a,b,e,⟨xs,hq⟩,q⟩:=q1;subst e;cases r1;have fp:∀ b∈[s1.heap.objs.size],FpOk X pins H1 b:=fun b hb=>by
  have e:b=s1.heap.objs.size:=by simpa using hb
  subst e;exact I1.fpOk (Yag _) (I1.hok.fresh (Yag _))
 cases b with
 | true=>
  obtain⟨its,rv,p,hz⟩:=I1.list hq;exact wpAny_pyIter_list p.isList ⟨s1.heap.objs.size,[s1.heap.objs.size],_,_,H1,rfl,I1.kept (t':=s1.toks) fun b o e=>Yad _ e,ZeD a _,⟨_,Yat _ rfl,rfl,rfl⟩,fp,q⟩
 | false=>
  obtain⟨its,rv,p,hz⟩:=I1.tuple hq;exact wpAny_pyIter_tuple (show s1.heap.IsTuple a its.toArray from p) ⟨s1.heap.objs.size,[s1.heap.objs.size],_,_,H1,rfl,I1.kept (t':=s1.toks) fun b o e=>Yad _ e,Zdy a _,⟨_,Yat _ rfl,rfl,rfl⟩,fp,q⟩
theorem ZfH {X:Cx}{tg l:Expr}{tl:TE} (hl:PE X l tl):PI X tg l (Zmu X.K tl):=Zju X.K hl
theorem Ziu {b:Bool}{K:Yac}{H:Hp}{a:Addr}{xs:List V}{i:Nat} (q:SqB b K H a xs) (hi:i<xs.length):(ItlB b K a).go i H:=by
 cases b <;> exact⟨xs,xs[i],q,Yaa hi⟩
theorem Zgn {b:Bool}{K:Yac}{H H':Hp}{a:Addr}{xs:List V}{i:Nat}{x:V} (q:SqB b K H a xs) (y:(ItlB b K a).yld i H x H'):H'=H/\xs[i]?=some x:=by
 cases b <;> exact⟨y.1,y.2 xs q⟩
theorem Ze2 {b:Bool}{K:Yac}{H:Hp}{a:Addr}{xs:List V}{i:Nat} (q:SqB b K H a xs) (hi:xs.length<=i):(ItlB b K a).stop i H:=by
 cases b <;> exact⟨xs,q,hi⟩
theorem Ziv {b:Bool}{K:Yac}{H:Hp}{a:Addr}{xs:List V}{i:Nat} (q:SqB b K H a xs) (hi:i<xs.length):(IteB b K a).go i H:=by
 cases b <;> exact⟨xs,xs[i],q,Yaa hi⟩
theorem Zgo {b:Bool}{K:Yac}{H H':Hp}{a:Addr}{xs:List V}{i:Nat}{x:V} (q:SqB b K H a xs) (y:(IteB b K a).yld i H x H'):∃ p z,H p=none/\x=.ref p/\H'=upd H p (.tup [.int i,z])/\xs[i]?=some z:=by
 cases b with
 | true=>obtain⟨p,z,hp,e1,e2,y⟩:=y;exact⟨p,z,hp,e1,e2,y xs q⟩
 | false=>obtain⟨p,z,hp,e1,e2,y⟩:=y;exact⟨p,z,hp,e1,e2,y xs q⟩
theorem Ze3 {b:Bool}{K:Yac}{H:Hp}{a:Addr}{xs:List V}{i:Nat} (q:SqB b K H a xs) (hi:xs.length<=i):(IteB b K a).stop i H:=by
 cases b <;> exact⟨xs,q,hi⟩
section
variable {b:Bool}{K:Yac}{own:List Str}{js:List Nat}{g1 g2 g:TG}{tt1 tt2 tt:TT}{wi2:TI}{te:TE}{σ τ:St}{H1 H6:Hp}{Q:VK}{a acc:Addr}{xs:List V}
theorem ZiT (Pv:Addr->Nat->Hp->Prop) (h0:∀ acc,H1 acc=none->Pv acc 0 (upd H1 acc (.lst []))) (hl:∀ acc i H,H1 acc=none->i<=xs.length->Pv acc i H->SqB b K H a xs)
  (hs:∀ acc i x H,H1 acc=none->xs[i]?=some x->Pv acc i H->g x (blkσ own js σ) H fun τ H4=>tt τ H4 fun c H5=>
   if c=true then te τ H5 fun y H6=>∃ ys,H6 acc=some (.lst ys)/\ys.length<sizeLine/\(i+1<=xs.length/\Pv acc (i+1) (upd H6 acc (.lst (ys++[y])))) else (i+1<=xs.length/\Pv acc (i+1) H5))
  (hd:∀ acc H,H1 acc=none->Pv acc xs.length H->Q (.ref acc) H):Zbl own js g tt te σ (ItlB b K a) H1 Q:=by
 intro acc hacc;refine⟨fun i H=>i<=xs.length/\Pv acc i H,xs.length,⟨YaR _,h0 acc hacc⟩,?_⟩;rintro i H ⟨hi,p⟩;have q:=hl acc i H hacc hi p;rcases Ybf i xs.length with hlt | hge
 ·refine .inr ⟨hlt,Ziu q hlt,fun x H' y=>?_⟩;obtain⟨rfl,hx⟩:=Zgn q y;exact hs acc i x _ hacc hx p
 ·obtain rfl:i=xs.length:=by omega
  exact .inl ⟨Ze2 q (Yag _),hd acc H hacc p⟩
theorem ZfT (Pv:Addr->Nat->Hp->Prop) (h0:∀ acc,H1 acc=none->Pv acc 0 (upd H1 acc (.lst []))) (hl:∀ acc i H,H1 acc=none->i<=xs.length->Pv acc i H->SqB b K H a xs)
  (hs:∀ acc i x p H,H1 acc=none->xs[i]?=some x->Pv acc i H->H p=none->g1 (.ref p) (blkσ own js σ) (upd H p (.tup [.int i,x])) fun τ H4=>tt1 τ H4 fun c H5=>
   if c=true then wi2 τ H5 fun J2 H6=>tInW g2 tt2 te τ acc J2 H6 (fun H7=>i+1<=xs.length/\Pv acc (i+1) H7) else (i+1<=xs.length/\Pv acc (i+1) H5))
  (hd:∀ acc H,H1 acc=none->Pv acc xs.length H->Q (.ref acc) H):Zfv own js g1 tt1 wi2 g2 tt2 te σ (IteB b K a) H1 Q:=by
 intro acc hacc;refine⟨fun i H=>i<=xs.length/\Pv acc i H,xs.length,⟨YaR _,h0 acc hacc⟩,?_⟩;rintro i H ⟨hi,p⟩;have q:=hl acc i H hacc hi p;rcases Ybf i xs.length with hlt | hge
 ·refine .inr ⟨hlt,Ziv q hlt,fun x H' y=>?_⟩;obtain⟨pa,z,hp,rfl,rfl,hx⟩:=Zgo q y;exact hs acc i z pa H hacc hx p hp
 ·obtain rfl:i=xs.length:=by omega
  exact .inl ⟨Ze3 q (Yag _),hd acc H hacc p⟩
theorem ZjX {tb:TS}{D:Ends}{H:Hp} (Pv:Nat->St->Hp->Prop) (h0:Pv 0 σ H) (hl:∀ i σ H,i<=xs.length->Pv i σ H->SqB b K H a xs)
  (hs:∀ i x σ H,xs[i]?=some x->Pv i σ H->g x σ H fun σ2 H2=>tb { D with nx:=Pv (i+1),ct:=Pv (i+1),bk:=D.nx } σ2 H2) (hd:∀ σ H,Pv xs.length σ H->D.nx σ H) :
  ∃ W:Nat->Nat->St->Hp->Prop,(∃ m,W 0 m σ H)/\∀ i m σ H,W i m σ H ->
   ((ItlB b K a).stop i H/\D.nx σ H)∨((ItlB b K a).go i H/\∃ N:St->Hp->Prop,(∀ σ' H',N σ' H'->∃ m',m'<m/\W (i+1) m' σ' H')/\∀ x H',(ItlB b K a).yld i H x H'->g x σ H' fun σ2 H2=>tb { D with nx:=N,ct:=N,bk:=D.nx } σ2 H2):=by
 refine⟨fun i m σ H=>m=xs.length - i/\i<=xs.length/\Pv i σ H,⟨xs.length,by simp,YaR _,h0⟩,?_⟩;rintro i m σ H ⟨rfl,hi,p⟩;have q:=hl i σ H hi p;rcases Ybf i xs.length with hlt | hge
 ·refine .inr ⟨Ziu q hlt,Pv (i+1),fun σ' H' z=>⟨xs.length - (i+1),by omega,rfl,hlt,z⟩,fun x H' y=>?_⟩;obtain⟨rfl,hx⟩:=Zgn q y;exact hs i x σ _ hx p
 ·obtain rfl:i=xs.length:=by omega
  exact .inl ⟨Ze2 q (Yag _),hd σ H p⟩
end
end L2
namespace Lv
open PySem L2
def prs:Nat->List (List Int)->List Nat->List (Int × Nat)
 | k,x::N,m::ms=>(x.drop m).map (fun z=>(z,k))++prs (k+1) N ms
 | _,_,_=>[]
def Zml (p q:Int × Nat):Prop:=p.1<q.1∨(p.1=q.1/\p.2<=q.2)
structure MgS (N:List (List Int)) (m:List Nat) (tk:List (Int × Nat)):Prop where
 inm:InM N m
 perm:(tk++prs 0 N m).Perm (prs 0 N (N.map fun _=>0))
 srt:tk.Pairwise Zml
 le:∀ p∈tk,∀ q∈prs 0 N m,Zml p q
 sm:m.sum=tk.length
def SeqI (H:Hp) (r:Addr) (xs:List V):Prop:=H r=some (.lst xs)∨H r=some (.tup xs)
structure RwS (H:Hp) (a:Addr) (rs:List Addr) (N:List (List Int)):Prop where
 top:SeqI H a (rs.map V.ref)
 len:rs.length=N.length
 row:∀ (j:Nat) r xs,rs[j]?=some r->N[j]?=some xs->SeqI H r (xs.map V.int)
theorem Zdg {qs:List Addr}{i:Nat}{x:V} (h:(qs.map V.ref)[i]?=some x):∃ p,qs[i]?=some p/\x=.ref p:=by
 rw[Yam] at h
 cases e:qs[i]? with
 | none=>rw[e] at h;cases h
 | some p=>rw[e] at h;exact⟨p,rfl,(YaF h).symm⟩
theorem Zgb {H:Hp}:∀ zs:List Int,RdL H (zs.map V.int) (zs.map Ydb)
 | []=>.nil
 | z::zs=>.cons (.int z) (Zgb zs)
structure GoodT (N:List (List Int)):Prop where
 many:N.length<=12
 tot:(lenN N).sum<=400
 bnd:∀ xs∈N,∀ z∈xs,-Zdv<z/\z<Zdv
 srt:∀ xs∈N,xs.Pairwise (·<=·)
structure GoodB (b:Nat) (N:List (List Int)):Prop where
 len:∀ xs∈N,xs.length<=b
 bnd:∀ xs∈N,∀ z∈xs,-Zdv<z/\z<Zdv
 srt:∀ xs∈N,xs.Pairwise (·<=·)
end Lv
namespace L2
open PySem PySem.Spec PyProof.Rows PySem.SeqAt
section
variable {X:Cx}
end
end L2
namespace Lv
open PySem L2
def Fr (S:List Addr) (H H':Hp):Prop:=∀ b o,H b=some o->b ∉ S->H' b=some o
abbrev Rows:=List (Option (List Int))
def datO:Option (List Int)->PyData
 | none=>.none
 | some xs=>.list (xs.map Ydb)
def ZmP (ds:Rows):PyData:=.list (ds.map datO)
def shp (D:List Rows):List (List Bool):=D.map fun ds=>ds.map Option.isSome
theorem ZdP:∀ (zs:List Int),Ybi (zs.map Ydb)=0
 | []=>rfl
 | z::zs=>by simp only[YaV,Ybi,Yev,ZdP zs];rfl
abbrev Cell:=Option (Addr × List Int)
abbrev Reel:=Addr × List Cell
def cV:Cell->V
 | none=>.non
 | some (r,_)=>.ref r
def cA:Cell->List Addr
 | none=>[]
 | some (r,_)=>[r]
def cOk (H:Hp):Cell->Prop
 | none=>True
 | some (r,xs)=>H r=some (.lst (xs.map V.int))
def tA (t:Reel):List Addr:=t.1::t.2.flatMap cA
def adr (T:List Reel):List Addr:=T.flatMap tA
def tOk (H:Hp) (t:Reel):Prop:=H t.1=some (.lst (t.2.map cV))/\∀ c∈t.2,cOk H c
def NRL (H:Hp) (T:List Reel):Prop:=∀ t∈T,tOk H t
def TB (H:Hp) (tr:List Addr) (B:List (List Bool)):Prop:=tr.length=B.length/\∀ (j:Nat) r bs,tr[j]?=some r->B[j]?=some bs->H r=some (.tup (bs.map V.bl))
end Lv
namespace Lv
open PySem L2
def St (S:List Addr) (H:Hp) (Φ:Hp->Prop):Prop:=∀ H',Fr S H H'->Φ H'
structure Bld (S:List Addr) (H:Hp) (us:List V) (rs tr:List Addr) (D:List Rows) (R:List (List Int)):Prop where
 due:St S H fun H'=>RdL H' us (D.map ZmP)
 rows:St S H fun H'=>LLs H' rs R
 lay:St S H fun H'=>TB H' tr (shp D)
end Lv
namespace Lv
open PySem L2
end Lv
namespace Lv
open PySem L2
def les (m x:Int):Int:=if x - m > 0 then x - m else 0
def ZlH (c:List Int) (out:Nat) (m:Int):List Int:=(c.map (les m)).set out m
def Zm9 (a b:List Int):Prop:=a.length=b.length/\∀ j:Nat,a.getD j 0<=b.getD j 0
def Cov (c L:List Int):Prop:=∃ l:List Int,l.Perm (c)/\Zm9 l (L++[0])
end Lv
namespace L2
open PySem PySem.Spec PyProof.Rows PySem.SeqAt
section
variable {X:Cx}
end
end L2
namespace Lv
open PySem L2
def CovL (L r:List Int):Prop:=∀ j,j<L.length->r.getD j 0<=L.getD j 0
instance (L r:List Int):Decidable (CovL L r):=inferInstanceAs (Decidable (∀ j,j<L.length->r.getD j 0<=L.getD j 0))
def big:Int:=1000000000000000000000000000000000000000000000000000000000000
structure Stand (p:Nat) (st:List Int):Prop where
 p2:2<=p
 p7:p<=7
 len:st.length=p+1
 nn:∀ x∈st,0<=x
 le:∀ x∈st,x<=big
 zero:(0:Int)∈st
 pos:∃ x∈st,1<=x
def mxl:List Int->Int
 | []=>0
 | x::r=>if mxl r > x then mxl r else x
structure On (p:Nat) (c:List Int) (n:Nat):Prop where
 len:c.length=p+1
 cov:Cov c (cnt p n)
 nn:∀ x∈c,0<=x
 pos:∃ x∈c,1<=x
end Lv
namespace Lv
open PySem L2
end Lv
namespace Lv
open PySem L2
end Lv
namespace L2
open PySem PySem.Spec PyProof.Rows
section
variable {X:Cx}
end
end L2
namespace Lv
open PySem L2
end Lv
namespace L2
open PySem PySem.Spec PyProof.Rows PySem.W
abbrev VB:List Value:=[.type "ValueError",.type "Exception",.type "BaseException",.type "object"]
def Zmw (K:Frag) (C:Addr):Bool:=match K.lookup C with
 | some ⟨.type "type",_,.cls cd,sl⟩=>(match cd.mro,sl.toList with
  | .ref D::bm,[_,_,_,_,some (.builtin n),_]=>D == C && (n == "ValueError.__new__" && (!cd.hasDel && (tailIn K VB bm && (nsOkIn K cd.ns && cd.hasDict))))
  | _,_=>false)
 | _=>false
def ZlC (K:Frag) (C fI:Addr):Bool:=Zmw K C && (ZcD K C && (findIn K (.ref C) "__setattr__" == some (some (.builtin "object.__setattr__")) && (findIn K (.ref C) "at" == some none && (isFn K (.ref fI) && (keepIn K (.ref C) && findIn K (.ref C) "__init__" == some (some (.ref fI)))))))
section
variable {prog:Program}{w:World}{A:Around}{E:Value->Shared->Prop}{s:Shared}{K:Frag}{x C fI:Addr}{v:Value}
abbrev newExc (C t:Addr):Obj:={ cls:=.ref C,data:=.fields #[.ref t,.none,.none,.none,.bool false,.none] }
end
end L2
namespace L2
open PySem PySem.Spec PyProof.Rows PySem.W
section
variable {X:Cx}{o value:Expr}{pos pos':Pos}{ta tv:TE}{C fI:Addr}
end
end L2
namespace Lv
open PySem L2 PySem.W
structure ExcTabI (K:Frag) (reel C fI:Addr) (all:List Addr):Prop where
 ok:ZlC K C fI=true
 exm:exmOne K (.ref C) (.ref reel)=some true
 exmS:exmOne K (.ref C) (.ref C)=some true
 isR:kitOne K (.ref C) (.ref reel)=some true
 isV:kitOne K (.ref C) (.type "ValueError")=some true
 one:∀ D∈all,kitOne K (.ref C) (.ref D)=some (D == C)
end Lv
namespace Lv
open PySem L2
def PhOk (c:List Int) (out m:Int):Prop:=(0<=out/\out<(c.length:Int))/\(c.getD out.toNat 0<=0/\(1<=m/\m<=mxl c))
instance (c:List Int) (out m:Int):Decidable (PhOk c out m):=by unfold PhOk;infer_instance
end Lv
namespace Lv
open PySem L2
def wk:List Int->List (Int × Int)->Nat->Except Nat (List Int)
 | c,[],_=>.ok c
 | c,(o,m)::r,i=>if PhOk c o m then wk (ZlH c o.toNat m) r (i+1) else .error i
def fin (c:List Int) (ps:List (Int × Int)):Except Nat (List Int):=match wk c ps 0 with
 | .ok d=>if 1<d.sum then .error ps.length else .ok d
 | .error i=>.error i
structure Way (c0:List Int) (ps:List (Int × Int)) (i:Nat) (c:List Int):Prop where
 wk:wk c0 ps 0=wk c (ps.drop i) i
 len:c.length=c0.length
 nn:∀ x∈c,0<=x
structure Cts (p:Nat) (c:List Int):Prop where
 len:c.length=p+1
 nn:∀ x∈c,0<=x
 le:∀ x∈c,x<=big
 pos:∃ x∈c,1<=x
end Lv
namespace Lv
open PySem L2
end Lv
namespace Lv
open PySem L2
def srt (xs:List Int):List Int:=xs.mergeSort fun a b=>decide (a<=b)
def rl90 (cs:Rows):List (List Int):=cs.filterMap id
def mrg (cs:Rows):Option (List Int):=if rl90 cs=[] then none else some (srt (rl90 cs).flatten)
def tkA (D:List Rows) (m i:Nat):Rows:=D.filterMap fun r=>(r.take m)[i]?
def phR (D:List Rows) (o m:Nat):List Rows:=(D.map (·.drop m)).set o ((YaT m).map fun i=>mrg (tkA D m i))
def thg (cs:Rows):Int:=((rl90 cs).map fun xs=>(xs.length:Int)).sum
def lns (D:List Rows):List Int:=D.map fun r=>(r.length:Int)
def allT (D:List Rows):List Int:=(rl90 D.flatten).flatten
abbrev refT (T:List Reel):List V:=T.map fun t=>V.ref t.1
def plR:List Rows->List (Int × Int)->List Rows
 | D,[]=>D
 | D,(o,m)::r=>plR (phR D o.toNat m.toNat) r
def rdR:List Rows->List (Int × Int)->List (List Int)
 | _,[]=>[]
 | D,(o,m)::r=>(D.map fun q=>thg (q.take m.toNat))::rdR (phR D o.toNat m.toNat) r
def Pls:List Rows->List (Int × Int)->Prop
 | _,[]=>True
 | D,(o,m)::r=>PhOk (lns D) o m/\Pls (phR D o.toNat m.toNat) r
end Lv
namespace Lv
open PySem L2
def dot:List Int->List Int->Int
 | w::ws,n::ns=>w*n+dot ws ns
 | _,_=>0
def fmJ (p:Int) (L:Nat):Nat:=(((L:Int) - 2) % (p - 1)+2).toNat
def hfF (p:Int):Nat->List Int->Int
 | 0,_=>0
 | k+1,ws=>if ws.length<=1 then 0 else (ws.take (fmJ p ws.length)).sum+hfF p k (srt ((ws.take (fmJ p ws.length)).sum::ws.drop (fmJ p ws.length)))
def hf (p:Int) (ws:List Int):Int:=hfF p ws.length (srt ws)
theorem Zjv {ws vs:List Int} (h:ws.Perm vs):∀ {ns:List Int},ns.length=ws.length->∃ ms,ms.Perm ns/\dot vs ms=dot ws ns:=by
 induction h with
 | nil=>intro ns h;exact⟨ns,Ycv _,rfl⟩
 | cons w _ ih=>
  intro ns h
  cases ns with
  | nil=>simp at h
  | cons n ns=>
   obtain⟨ms,h1,h2⟩:=ih (ns:=ns) (by simpa using h);exact⟨n::ms,h1.cons n,by rw[dot,dot,h2]⟩
 | swap a b l=>
  intro ns h
  match ns,h with
  | n::m::ns,h=>exact⟨m::n::ns,Ycu _ _ _,by simp only[dot];omega⟩
  | [n],h=>simp at h
  | [],h=>simp at h
 | trans h1 _ ih1 ih2=>
  intro ns h;obtain⟨ms,a1,a2⟩:=ih1 h;obtain⟨ks,b1,b2⟩:=ih2 (ns:=ms) (by rw[a1.length_eq,h,h1.length_eq]);exact⟨ks,b1.trans a1,b2.trans a2⟩
theorem Zmy:∀ {ws ns:List Int}{w0 n0 N:Int},ws.length=ns.length->(∀ w∈ws,w0<=w)->n0<=N->N∈ns->∃ ms,(N::ms).Perm (n0::ns)/\w0*N+dot ws ms<=w0*n0+dot ws ns
 | [],[],_,_,_,_,_,_,h=>by simp at h
 | [],_::_,_,_,_,h,_,_,_=>by simp at h
 | _::_,[],_,_,_,h,_,_,_=>by simp at h
 | w::ws,n::ns,w0,n0,N,hl,hw,hn,hm=>by
  rcases Yah.mp hm with rfl | hm
  ·refine⟨n0::ns,Ycu _ _ _,?_⟩;have h1:=hw w YaC;have h2:w0*(N - n0)<=w*(N - n0):=YdL h1 (by omega);rw[Int.mul_sub,Int.mul_sub] at h2;simp only[dot];omega
  ·obtain⟨ms,h1,h2⟩:=Zmy (ws:=ws) (ns:=ns) (w0:=w0) (n0:=n0) (by simpa using hl) (fun x hx=>hw x (Yap _ hx)) hn hm;refine⟨n::ms,((Ycu _ _ _).trans (h1.cons n)).trans (Ycu _ _ _),?_⟩;simp only[dot];omega
theorem mxE:∀ (ns:List Int),ns≠[]->∃ N∈ns,∀ n∈ns,n<=N
 | [],h=>absurd rfl h
 | [n],_=>⟨n,YaC,fun x hx=>by rw[YaG.mp hx];exact Ycr _⟩
 | n::m::ns,_=>by
  obtain⟨N,h1,h2⟩:=mxE (m::ns) (by simp);by_cases z:n<=N
  ·exact⟨N,Yap _ h1,fun x hx=>by
    rcases Yah.mp hx with rfl | hx
    ·exact z
    ·exact h2 x hx⟩
  ·exact⟨n,YaC,fun x hx=>by
    rcases Yah.mp hx with rfl | hx
    ·exact Ycr _
    ·have:=h2 x hx;omega⟩
theorem Zl3:∀ (ws ns:List Int),ws.length=ns.length->ws.Pairwise (·<=·)->∃ ms,ms.Perm ns/\ms.Pairwise (fun a b=>b<=a)/\dot ws ms<=dot ws ns
 | [],[],_,_=>⟨[],Ycv _,YbK,Ycr _⟩
 | [],_::_,h,_=>by simp at h
 | _::_,[],h,_=>by simp at h
 | w::ws,n::ns,hl,hs=>by
  obtain⟨N,h1,h2⟩:=mxE (n::ns) (by simp);obtain⟨ks,k1,k2⟩:∃ ks,(N::ks).Perm (n::ns)/\w*N+dot ws ks<=w*n+dot ws ns:=by
   rcases Yah.mp h1 with rfl | h1
   ·exact⟨ns,Ycv _,Ycr _⟩
   ·exact Zmy (by simpa using hl) (fun x hx=>(Ybe.mp hs).1 x hx) (h2 n YaC) h1
  have hkl:ws.length=ks.length:=by have:=k1.length_eq;simp at this hl;omega
  obtain⟨ms,m1,m2,m3⟩:=Zl3 ws ks hkl (Ybe.mp hs).2;refine⟨N::ms,(m1.cons N).trans k1,Ybe.mpr ⟨fun x hx=>h2 x (k1.subset (Yap _ (m1.subset hx))),m2⟩,?_⟩;simp only[dot];omega
theorem ZiM:∀ {a b c d:List Int},a.length=c.length->dot (a++b) (c++d)=dot a c+dot b d
 | [],b,[],d,_=>by simp[dot]
 | [],_,_::_,_,h=>by simp at h
 | _::_,_,[],_,h=>by simp at h
 | x::a,b,y::c,d,h=>by
  have ih:=ZiM (a:=a) (b:=b) (c:=c) (d:=d) (by simpa using h);simp only[YdK,dot,ih];omega
end Lv
namespace L2
open PySem PySem.Spec PyProof.Rows PySem.SeqAt
section
variable {prog:Program}{w:World}{A:Around}{E:Value->Shared->Prop}{s:Shared}
end
section
variable {X:Cx}{tg:Expr}
end
end L2
namespace L2
open PySem PySem.Spec PyProof.Rows
section
variable {X:Cx}{tg:Expr}
end
end L2
namespace Lv
open PySem L2
inductive Chain (p:Nat):Int->List Int->List (List Int)->Prop
 | one (m x:Int):Chain p m [x] []
 | step (m:Int) (th T rest:List Int) (L:List (List Int)) (h1:th.Perm (T++rest)) (h2:T≠[]) (h3:T.length<=p) (h:Chain p (m+1) (rest++[m]) L):Chain p m th (T::L)
def pw (p D:Nat) (f:Int->Nat) (xs:List Int):Nat:=(xs.map fun x=>p ^ (D - f x)).sum
inductive Built (p r:Nat):List (List Int)->List Int->Prop
 | nil:Built p r [] ((YaT r).map fun (i:Nat)=>(i:Int))
 | snoc (L:List (List Int)) (th T rest:List Int) (h:Built p r L th) (h1:th.Perm (T++rest)) (h2:T≠[]) (h3:T.length<=p):Built p r (L++[T]) (rest++[((r+L.length:Nat):Int)])
end Lv
namespace Lv
open PySem L2
theorem cut3 {a b c R:TS}{D:Ends}{σ:L2.St}{H:Hp} (M:L2.St->Hp->Prop) (h1:∀ R':TS,(∀ σ' H',M σ' H'->R' D σ' H')->tSeq a (tSeq b (tSeq c R')) D σ H) (h2:∀ σ' H',M σ' H'->R D σ' H'):tSeq a (tSeq b (tSeq c R)) D σ H:=h1 R h2
def ZfA:Sp:=fun vs H Q _=>∃ (c:Int) (k:Nat),vs=[.int c,.int k]/\k<=1000/\∀ d H',0<=d->Same H H'->Q (.int d) H'
end Lv
namespace L2
open PySem PySem.Spec PyProof.Rows PySem.SeqAt
end L2
namespace Lv
open PySem L2
def upL (ks:List (List Int)):Prop:=ks.Pairwise (fun p q=>lxB q p=false)
def k0 (k:List Int):Int:=k.getD 0 0
def k1 (k:List Int):Int:=k.getD 1 0
inductive JRun (p:Nat):Nat->Int->List (List Int)->Int->List (List Int)->Prop
 | done (m:Nat) (n:Int) (ks:List (List Int)) (h:ks.length<=1):JRun p m n ks 0 []
 | step (m:Nat) (n:Int) (ks ks':List (List Int)) (r:Int) (T:List Int) (L:List (List Int)) (h2:2<=ks.length)
   (hT:T.Perm ((ks.take m).map k1)) (hT2:T.Pairwise (·<=·)) (hk:ks'.Perm (ks.drop m++[[((ks.take m).map k0).sum,n]])) (hs:upL ks')
   (h:JRun p p (n+1) ks' r L):JRun p m n ks (((ks.take m).map k0).sum+r) (T::L)
def lkI (D:List (Int × Int)) (x:Int):Option Int:=(D.find? fun q=>decide (q.1=x)).map (·.2)
def okT (m:Nat) (D:List (Int × Int)) (T:List Int):Prop:=T.length=m/\(∀ x∈T,(lkI D x).isSome=true)/\T.Pairwise (·<·)/\srt (T.map fun x=>(lkI D x).getD 0)=(srt (D.map (·.2))).take T.length
instance (m:Nat) (D:List (Int × Int)) (T:List Int):Decidable (okT m D T):=by unfold okT;infer_instance
theorem TTs.offJ {H:Hp}{rs:List Addr}{N:List (List Int)}{l:Addr}{xs:List V}{o:HO} (h:TTs H rs N) (e:H l=some (.lst xs)):TTs (upd H l o) rs N:=⟨h.1,fun j r ys a b=>by
 have h1:=h.2 j r ys a b;rw[Zah (fun z=>by rw[z,e] at h1;cases h1)];exact h1⟩
end Lv
namespace Lv
open PySem L2
def leP:List Int->List Int->Prop
 | [],[]=>True
 | a::as,b::bs=>a<=b/\leP as bs
 | _,_=>False
end Lv
namespace Lv
open PySem L2
def pre:Int->List Int->List Int
 | _,[]=>[]
 | s,x::r=>(s+x)::pre (s+x) r
end Lv
namespace L2
open PySem PySem.Spec PyProof.Rows PySem.SeqAt
section
variable {X:Cx}
end
end L2
namespace Lv
open PySem L2
def up1 (A:List Int):List Int:=A.map (·+1)
def ZmO (r:List (List Int)) (t:Nat):List Int:=r.getD t []
def S (q:Int) (g:Nat->List Int) (a:List Int):Int:=((YaT a.length).map fun t=>((g t).count q:Int)*a.getD t 0).sum
def pot (q:Int):List (List (List Int))->List (List Int)->Int
 | r::R,a::N=>S q (ZmO r) a+pot q R N
 | _,_=>0
end Lv
namespace Lv
open PySem L2
end Lv
namespace Lv
open PySem L2
end Lv
namespace Lv
open PySem L2
end Lv
namespace L2
open PySem PySem.Spec PyProof.Rows PySem.SeqAt
section
variable {X:Cx}{scope:Scope}{own:List Str}{js fr:List Nat}{elt i1 t1 i2 t2:Expr}{f1 f2:List Expr}{wi wi2:TI}{g1 g2:TG}{tt1 tt2:TT}{te:TE}{pos:Pos}
theorem Zjr {i:Nat}{y:Str}{py spos:Pos} (hN:X.N.Nodup) (hy:X.N[i]?=some y) (hyl:X.env.scope.names.lookup y=some .local) (c:CompOk X scope own js) (hc:X.calm=true) (hi:PI X t1 i1 wi) (hgk:Zi9 own fr g1) (hgt:ZgB fr g2)
  (hg:∀ s H C fp pins,PG (X.blk scope own js s H C fp pins) t1 g1) (ht:∀ s H C fp pins,PTs (X.blk scope own js s H C fp pins) f1 tt1) (hi2:∀ s H C fp pins,PI (X.blk scope own js s H C fp pins) t2 i2 wi2)
  (hg2:∀ s H C fp pins,PG (X.blk scope own js s H C fp pins) t2 g2) (ht2:∀ s H C fp pins,PTs (X.blk scope own js s H C fp pins) f2 tt2) (he:∀ s H C fp pins,PE (X.blk scope own js s H C fp pins) elt te)
  (hsw:swapsWith (two elt t1 i1 f1 t2 i2 f2 scope pos) (some (.Name y py)) spos.line X.env=pure true:=by rfl)
  (hs:∀ x,foldedSetIterable i1 X.env x=pure x:=by intro _;rfl) (hs2:∀ env x,foldedSetIterable i2 env x=pure x:=by intro _ _;rfl):PS X (.Assign [.Name y py] (two elt t1 i1 f1 t2 i2 f2 scope pos) spos) (tAsg (ZlV own js wi g1 tt1 wi2 g2 tt2 te) (ZbK i)):=by
 intro pins s σ H D I h;rw[exec_Assign_Name_used _ _ _ _ hsw];refine wpAny_bind (wpAny_standAt (wpAny_bind ?_));show wpAny _ X.A (do let _ <- comprehension (two elt t1 i1 f1 t2 i2 f2 scope pos) scope X.env _ (newList []) false (eval i1 X.env) (some (assign (.Name y py) X.env))) _ _ s;refine wpAny_bind (wpAny_mono (wpAny_comprehension_free (use:=some (assign (.Name y py) X.env)) (Q:=fun _ s'=>SP X pins D .next s') rfl hs (ZdT (c.cl I)) c.kind c.names
  (thn (hi pins s σ H _ I h) fun v s1 h1=>thn h1 fun itv s2 h2=>?_)) (fun _ s' hq=>wpAny_pure (wpAny_pure hq)) fun _ _ e=>e)
 obtain⟨it,fp,tn,J,H2,e,I2,T,st2,f2',hw⟩:=h2;subst e;refine Zj9 (Q:=fun x H1=>ZbK i x σ H1 D.nx) (RR:=fun acc C=>compPost (model X.prog X.w) X.A X.xe (some (assign (.Name y py) X.env)) (fun _ s'=>SP X pins D .next s') acc C) c hc hgk hgt hg ht hi2 hg2 ht2 he hs2 I2 T st2 f2' hw ?_;intro acc C H' s' m hCs hCn I' hn q;have hL:C≠X.env.locals:=YbO (Yas I2.lt hCs);have hcell:∀ x a,X.env.cells.lookup x=some a->a≠C:=by
  intro x a e z;obtain⟨v,q⟩:=I2.cell x a e;exact absurd (Yas q.lt (by rw[z];exact hCs)) (Ybt _)
 refine wpAny_assign_Name (ZeI I' hN hy (.inl hyl) (v:=.ref acc) rfl (fun s2 I'' hch=>?_) (.inr hyl));obtain⟨a,sb,ha⟩:=hch;have hCa:C≠a:=by
  rcases ha with rfl | ha
  ·exact hL
  ·exact Ybn (hcell _ _ ha)
 refine⟨m,hn.sameBut sb hCa,fun h' hs'=>⟨_,H',I''.other hs' hCn hL (Ybx I2.sz hCs) hcell ?_,q⟩⟩;intro p hp z;exact absurd (Yas (Yaj (I2.pin p hp).1) (by rw[z];exact hCs)) (Ybt _)
end
end L2
namespace L2
open PySem PySem.Spec PyProof.Rows PySem.SeqAt
theorem ZhP (K:Yac) {X:Cx}{es:List Expr}{x1}{tpos:Pos}{e:Expr}{ta:TA}{p pos:Pos} (hg:Gl X "enumerate") (hm:X.mg "enumerate"=none) (ha:PA X [e] ta) (hK:X.K=K:=by rfl) (hs:starEach [e] X.env=[(false,eval e X.env)]:=by rfl) :
  PI X (.Tuple es x1 tpos) (.Call (.Name "enumerate" p) [e] [] pos) (ZkB K ta):=by subst hK;exact ZcU hg hm ha hs
section
variable {b:Bool}{K:Yac}{g2:TG}{tt2:TT}{te:TE}{τ:St}{H6:Hp}{a acc:Addr}{xs:List V}
theorem ZjU {Z:Hp->Prop} (W2:Nat->Hp->Prop) (h0:W2 0 H6) (hl:∀ i H,i<=xs.length->W2 i H->SqB b K H a xs)
  (hs:∀ i x p H,xs[i]?=some x->W2 i H->H p=none->g2 (.ref p) τ (upd H p (.tup [.int i,x])) fun τ2 H9=>tt2 τ2 H9 fun c H10=>
   if c=true then te τ2 H10 fun z H11=>∃ zs,H11 acc=some (.lst zs)/\zs.length<sizeLine/\(i+1<=xs.length/\W2 (i+1) (upd H11 acc (.lst (zs++[z])))) else (i+1<=xs.length/\W2 (i+1) H10))
  (hd:∀ H,W2 xs.length H->Z H):tInW g2 tt2 te τ acc (IteB b K a) H6 Z:=by
 refine⟨fun i H=>i<=xs.length/\W2 i H,xs.length,⟨YaR _,h0⟩,?_⟩;rintro i H ⟨hi,p⟩;have q:=hl i H hi p;rcases Ybf i xs.length with hlt | hge
 ·refine .inr ⟨hlt,Ziv q hlt,fun x H' y=>?_⟩;obtain⟨pa,z,hp,rfl,rfl,hx⟩:=Zgo q y;exact hs i z pa H hx p hp
 ·obtain rfl:i=xs.length:=by omega
  exact .inl ⟨Ze3 q (Yag _),hd H p⟩
end
end L2
namespace Lv
open PySem L2
def intW:V->Int
 | .int i=>i
 | _=>0
def kf (H:Hp) (p:Addr):List Int:=match H p with
 | some (.tup vs)=>vs.map intW
 | _=>[]
theorem Ze1 {H:Hp}{p:Addr}{k:List Int} (h:H p=some (.tup (k.map V.int))):kf H p=k:=by
 unfold kf;rw[h];show (k.map V.int).map intW=k;rw[Ydf];exact (Ycn fun _ _=>rfl).trans (YeX k)
def TuM (H:Hp) (ps:List Addr) (ks:List (List Int)):Prop:=(∀ p∈ps,∃ k:List Int,k≠[]/\H p=some (.tup (k.map V.int)))/\ps.map (kf H)=ks
theorem TuM.nil {H:Hp}:TuM H [] []:=⟨fun p hp=>(nomatch hp),rfl⟩
theorem TuM.keep {H H':Hp}{ps:List Addr}{ks:List (List Int)} (h:TuM H ps ks) (k:∀ p∈ps,H' p=H p):TuM H' ps ks:=by
 refine⟨fun p hp=>by rw[k p hp];exact h.1 p hp,?_⟩;rw[<- h.2];refine Ycn fun p hp=>?_;unfold kf;rw[k p hp]
theorem TuM.same {H H':Hp}{ps:List Addr}{ks:List (List Int)} (h:TuM H ps ks) (s:Same H H'):TuM H' ps ks:=h.keep fun p hp=>by
 obtain⟨k,_,e⟩:=h.1 p hp;rw[e,s _ _ e]
theorem TuM.snoc {H:Hp}{ps:List Addr}{ks:List (List Int)}{p:Addr}{k:List Int} (h:TuM H ps ks) (e:H p=some (.tup (k.map V.int))) (hk:k≠[]):TuM H (ps++[p]) (ks++[k]):=by
 refine⟨fun q hq=>?_,by rw[Yaz,h.2,YaV,Yde,Ze1 e]⟩;rcases Yak.mp hq with hq | hq
 ·exact h.1 q hq
 ·rw[YaG.mp hq];exact⟨k,hk,e⟩
theorem TuM.at {H:Hp}{ps:List Addr}{ks:List (List Int)} (h:TuM H ps ks) {j:Nat}{p:Addr} (e:ps[j]?=some p):∃ k,ks[j]?=some k/\H p=some (.tup (k.map V.int)):=by
 obtain⟨k,_,e2⟩:=h.1 p (Yaw e);exact⟨k,by rw[<- h.2,Yam,e,Yfd,Ze1 e2],e2⟩
theorem TuM.len {H:Hp}{ps:List Addr}{ks:List (List Int)} (h:TuM H ps ks):ps.length=ks.length:=by rw[<- h.2,Yab]
def ZbC (k:Nat) (xs:List Int):List (List Int):=xs.mapIdx fun j z=>[z,(k:Int),(j:Int)]
def trip:Nat->List (List Int)->List (List Int)
 | _,[]=>[]
 | k,xs::N=>ZbC k xs++trip (k+1) N
theorem ZgE {k:Nat}{xs:List Int}{j:Nat}{z:Int} (h:xs[j]?=some z):ZbC k (xs.take (j+1))=ZbC k (xs.take j)++[[z,(k:Int),(j:Int)]]:=by
 have hl:=(Yae.mp h).1
 unfold ZbC;rw[Yba,h,YbS,Yfa];simp[Yax,Ycw (Ybj hl)]
theorem ZeE:∀ (N:List (List Int)) (k:Nat) (xs:List Int),trip k (N++[xs])=trip k N++ZbC (k+N.length) xs
 | [],k,xs=>by simp[trip]
 | y::N,k,xs=>by rw[YdK,trip,ZeE N (k+1) xs,trip,YaH,Ybc,show k+1+N.length=k+(N.length+1) by omega]
theorem Zhk {N:List (List Int)}{i:Nat}{xs:List Int} (h:N[i]?=some xs):trip 0 (N.take (i+1))=trip 0 (N.take i)++ZbC i xs:=by
 have hl:=(Yae.mp h).1
 rw[Yba,h,YbS,ZeE,Yax,Ycw (Ybj hl),Ybw]
theorem ZeG (k:Nat) (xs:List Int):(ZbC k xs).length=xs.length:=by unfold ZbC;simp
theorem Zbr:∀ (N:List (List Int)) (k:Nat),(trip k N).length=N.flatten.length
 | [],_=>rfl
 | xs::N,k=>by rw[trip,Yai,ZeG,Zbr N,Ybd,Yai]
theorem Zf2:∀ (N:List (List Int)) (k:Nat),(trip k N).map (fun t=>t.getD 0 0)=N.flatten
 | [],_=>rfl
 | xs::N,k=>by
  rw[trip,Yaz,Zf2 N,Ybd];congr 1;unfold ZbC;exact Ybq (by simp) fun i h1 h2=>by simp
def Zd2:Sp:=fun vs H Q _=>∃ (a:Addr) (rs:List Addr) (N:List (List Int)) (m:Nat),vs=[.ref a,.int m]/\H a=some (.tup (rs.map V.ref))/\TTs H rs N/\N.length<=7/\N.flatten.length<=100000 /\
 ∀ (l:Addr) (qs:List Addr) (ks:List (List Int)) H',H l=none->H' l=some (.lst ((qs.take m).map V.ref))->TuM H' qs ks->ks.Perm (trip 0 N)->ks.Pairwise (fun p q=>lxB q p=false)->Same H H'->Q (.ref l) H'
end Lv
namespace L2
open PySem PySem.Spec PyProof.Rows PySem.SeqAt
theorem ZdQ {K:Yac}{own:List Str}{i k m:Nat} (hi:i<own.length:=by decide) (hk:k<own.length:=by decide) (hm:m<own.length:=by decide):Zja own (gTup K 2 (Zdh (ZbK i) (Zdh (gTup K 2 (Zdh (ZbK k) (Zdh (ZbK m) gNil))) gNil))):=fun js σ x H Q h=>by
 obtain⟨a,xs,rfl,hq,hl,v,r,rfl,w,r',rfl,⟨b,ys,rfl,hq2,hl2,v2,r2,rfl,w2,r3,rfl,e2,e,h⟩⟩:=h;refine⟨a,_,rfl,hq,hl,v,_,rfl,_,r',rfl,⟨b,_,rfl,hq2,hl2,v2,_,rfl,w2,r3,rfl,e2,e,fun j z e=>?_,h⟩⟩;have hj:j≠i:=by rintro rfl;exact Za6 hi e
 have hj':j≠k:=by rintro rfl;exact Za6 hk e
 have hj3:j≠m:=by rintro rfl;exact Za6 hm e
 rw[YaO (Ybn hj3),YaO (Ybn hj'),YaO (Ybn hj)];exact e
theorem Zgm (K:Yac) {X:Cx} (hK:X.K=K:=by rfl):IxR X (rIxT K):=by subst hK;exact Za2
end L2
namespace Lv
open PySem L2
def numV (N:List (List Int)) (k:List Int):Int:=(N.getD (k.getD 0 0).toNat []).getD (k.getD 1 0).toNat 0
def InN (N:List (List Int)) (k:List Int):Prop:=∃ (r p:Nat) (xs:List Int),k=[(r:Int),(p:Int)]/\N[r]?=some xs/\p<xs.length
def ZaR (N:List (List Int)) (ls:List Int) (ks:List (List Int)):List Int:=YbI (fun l k=>l*numV N k) ls ks
theorem ZgQ {N:List (List Int)}{ls:List Int}{ks:List (List Int)}{i:Nat}{l:Int}{k:List Int} (h1:ls[i]?=some l) (h2:ks[i]?=some k):ZaR N (ls.take (i+1)) (ks.take (i+1))=ZaR N (ls.take i) (ks.take i)++[l*numV N k]:=by
 have a:=(Yae.mp h1).1
 have b:=(Yae.mp h2).1
 unfold ZaR;rw[Yba,h1,Yba,h2,YbS,YbS,List.zipWith_append (by rw[Yax,Yax];omega)];rfl
def ZcR (K:Yac):Sp:=fun vs H Q _=>∃ (a ll pl:Addr) (b:Bool) (rs qs:List Addr) (N:List (List Int)) (ls:List Int) (ks:List (List Int)),vs=[.ref a,.ref ll,.ref pl]/\H a=some (.tup (rs.map V.ref))/\TTs H rs N/\SqB b K H ll (ls.map V.int)/\H pl=some (.lst (qs.map V.ref))/\TuM H qs ks/\(∀ k∈ks,InN N k)/\ls.length=ks.length/\ls.length<=100000 /\
 (∀ l∈ls,Ya3 l<=8000)/\(∀ xs∈N,∀ z∈xs,Ya3 z<=8000)/\∀ H',Same H H'->Q (.int (ZaR N ls ks).sum) H'
end Lv
namespace L2
open PySem PySem.Spec PyProof.Rows PySem.SeqAt
theorem Zlz {b1 b2:Bool}{K:Yac}{a b:Addr}{xs ys:List V}{g:TG}{tb:TS}{D:Ends}{σ:St}{H:Hp} (hlen:xs.length<=ys.length) (Pv:Nat->St->Hp->Prop) (h0:Pv 0 σ H)
  (hl:∀ i σ H,i<=xs.length->Pv i σ H->SqB b1 K H a xs/\SqB b2 K H b ys)
  (hs:∀ i x y p σ H,xs[i]?=some x->ys[i]?=some y->Pv i σ H->H p=none->g (.ref p) σ (upd H p (.tup [x,y])) fun σ2 H2=>tb { D with nx:=Pv (i+1),ct:=Pv (i+1),bk:=D.nx } σ2 H2) (hd:∀ σ H,Pv xs.length σ H->D.nx σ H) :
  ∃ W:Nat->Nat->St->Hp->Prop,(∃ m,W 0 m σ H)/\∀ i m σ H,W i m σ H ->
   ((ItzB b1 b2 K a b).stop i H/\D.nx σ H)∨((ItzB b1 b2 K a b).go i H/\∃ N:St->Hp->Prop,(∀ σ' H',N σ' H'->∃ m',m'<m/\W (i+1) m' σ' H')/\∀ x H',(ItzB b1 b2 K a b).yld i H x H'->g x σ H' fun σ2 H2=>tb { D with nx:=N,ct:=N,bk:=D.nx } σ2 H2):=by
 refine⟨fun i m σ H=>m=xs.length - i/\i<=xs.length/\Pv i σ H,⟨xs.length,by simp,YaR _,h0⟩,?_⟩;rintro i m σ H ⟨rfl,hi,p⟩;obtain⟨q1,q2⟩:=hl i σ H hi p;by_cases hlt:i<xs.length
 ·have gx:xs[i]?=some xs[i]:=Yaa hlt;have gy:ys[i]?=some ys[i]:=Yaa (by omega);refine .inr ⟨⟨xs,ys,xs[i],ys[i],q1,q2,gx,gy⟩,Pv (i+1),fun σ' H' z=>⟨xs.length - (i+1),by omega,rfl,hlt,z⟩,fun x H' y=>?_⟩;obtain⟨pa,z,z',hp,e1,e2,y1,y2⟩:=y;subst e1 e2;exact hs i z z' pa σ H (y1 xs q1) (y2 ys q2) p hp
 ·obtain rfl:i=xs.length:=by omega
  exact .inl ⟨⟨xs,ys,q1,q2,.inl (Yag _)⟩,hd σ H p⟩
end L2
namespace Lv
open PySem L2
def prL (ls:List Int):List (List Int):=ls.mapIdx fun j l=>[-l,(j:Int)]
theorem Zjs {ls:List Int}{j:Nat}{l:Int} (h:ls[j]?=some l):prL (ls.take (j+1))=prL (ls.take j)++[[-l,(j:Int)]]:=by
 have hl:=(Yae.mp h).1
 unfold prL;rw[Yba,h,YbS,Yfa];simp[Yax,Ycw (Ybj hl)]
theorem ZbH (ls:List Int):(prL ls).length=ls.length:=by unfold prL;simp
theorem ZhK {ls:List Int}{j:Nat}{l:Int} (h:ls[j]?=some l):(prL ls)[j]?=some [-l,(j:Int)]:=by
 unfold prL;rw[YcJ,h];rfl
theorem Zeb {ls:List Int}{f:List Int} (h:f∈prL ls):∃ (j:Nat) (l:Int),f=[-l,(j:Int)]/\ls[j]?=some l:=by
 obtain⟨j,hj⟩:=YbU.mp h;unfold prL at hj;rw[YcJ] at hj
 cases e:ls[j]? with
 | none=>rw[e] at hj;cases hj
 | some l=>rw[e] at hj;cases hj;exact⟨j,l,rfl,e⟩
theorem Zhl {k:Nat}{xs f:List Int} (h:f∈ZbC k xs):∃ (j:Nat) (z:Int),f=[z,(k:Int),(j:Int)]/\xs[j]?=some z:=by
 obtain⟨j,hj⟩:=YbU.mp h;unfold ZbC at hj;rw[YcJ] at hj
 cases e:xs[j]? with
 | none=>rw[e] at hj;cases hj
 | some l=>rw[e] at hj;cases hj;exact⟨j,l,rfl,e⟩
theorem Zbq:∀ {N:List (List Int)}{k:Nat}{f:List Int},f∈trip k N->∃ (r j:Nat) (z:Int) (xs:List Int),f=[z,((k+r:Nat):Int),(j:Int)]/\N[r]?=some xs/\xs[j]?=some z
 | [],_,_,h=>nomatch h
 | ys::N,k,f,h=>by
  rw[trip] at h;rcases Yak.mp h with h | h
  ·obtain⟨j,z,e,hz⟩:=Zhl h;exact⟨0,j,z,ys,e,rfl,hz⟩
  ·obtain⟨r,j,z,xs,e,hx,hz⟩:=Zbq h;exact⟨r+1,j,z,xs,by rw[e,show k+1+r=k+(r+1) by omega],hx,hz⟩
theorem ZgO {ls:List Int}{lf:List (List Int)} (h:lf.Perm (prL ls)):(lf.map fun f=>f.getD 1 0).Nodup:=by
 refine ((h.map _).nodup_iff).mpr ?_;have e:(prL ls).map (fun f=>f.getD 1 0)=(YaT ls.length).map fun (j:Nat)=>(j:Int):=by
  unfold prL;exact Ybq (by simp) fun i h1 h2=>by simp
 rw[e];refine Ya5.mpr (Yci.imp fun {a b} hab=>?_);omega
theorem Zi7 {H:Hp}{N:List (List Int)}:∀ {vs:List V},(∀ (j:Nat),j<vs.length->∃ (q:Addr) (k:List Int),vs[j]?=some (.ref q)/\H q=some (.tup (k.map V.int))/\InN N k)->∃ (qs:List Addr) (ks:List (List Int)),vs=qs.map V.ref/\TuM H qs ks/\∀ k∈ks,InN N k
 | [],_=>⟨[],[],rfl,TuM.nil,fun k hk=>nomatch hk⟩
 | v::vs,h=>by
  obtain⟨qs,ks,e1,e2,e3⟩:=Zi7 (vs:=vs) fun j hj=>h (j+1) (by simpa using hj);obtain⟨q,k,a1,a2,a3⟩:=h 0 (by simp);have a1:v=.ref q:=by simpa using a1
  have hk:k≠[]:=by obtain⟨r,p,xs,e,_⟩:=a3;rw[e];simp
  refine⟨q::qs,k::ks,by rw[a1,e1];rfl,⟨fun p hp=>?_,by rw[YaV,e2.2,Ze1 a2]⟩,fun k' hk'=>?_⟩
  ·rcases Yah.mp hp with rfl | hp
   ·exact⟨k,hk,a2⟩
   ·exact e2.1 p hp
  ·rcases Yah.mp hk' with rfl | hk'
   ·exact a3
   ·exact e3 k' hk'
def ZcM (ls:List Int) (N:List (List Int)) (ks lf lp:List (List Int)):Prop:=ks.length=ls.length/\lf.Perm (prL ls)/\lf.Pairwise (fun p q=>lxB q p=false)/\lp.Perm (trip 0 N)/\lp.Pairwise (fun p q=>lxB q p=false) /\
 ∀ (t:Nat) f p,lf[t]?=some f->lp[t]?=some p->ks[(f.getD 1 0).toNat]?=some [p.getD 1 0,p.getD 2 0]
def ZbE (K:Yac):Sp:=fun vs H Q _=>∃ (a ll:Addr) (b:Bool) (rs:List Addr) (N:List (List Int)) (ls:List Int),vs=[.ref a,.ref ll]/\H a=some (.tup (rs.map V.ref))/\TTs H rs N/\N.length<=7/\N.flatten.length<=100000/\SqB b K H ll (ls.map V.int)/\ls.length<=N.flatten.length /\
 (∀ l∈ls,Ya3 l<=8000)/\(∀ xs∈N,∀ z∈xs,Ya3 z<=8000) /\
 ∀ (t pl:Addr) (qs:List Addr) (ks lf lp:List (List Int)) H',H t=none->H' t=some (.tup [.int (ZaR N ls ks).sum,.ref pl])->H pl=none->H' pl=some (.lst (qs.map V.ref))->TuM H' qs ks->(∀ k∈ks,InN N k)->ZcM ls N ks lf lp->Same H H'->Q (.ref t) H'
end Lv
namespace Lv
open PySem L2
def ZmB (ls:List Int) (N:List (List Int)) (R:Int):Prop:=∃ ks lf lp:List (List Int),ZcM ls N ks lf lp/\(∀ k∈ks,InN N k)/\R=(ZaR N ls ks).sum
def Fit (ls:List Int) (N:List (List Int)):Prop:=ls.length<=N.flatten.length
end Lv
namespace Lv
open PySem L2
end Lv
namespace Lv
open PySem L2
end Lv
namespace Lv
open PySem L2
end Lv
namespace Lv
open PySem L2
end Lv
namespace Lv
open PySem L2
theorem ZhQ {a b:List Int} (h:a.Perm b):a.sum=b.sum:=by
 induction h with
 | nil=>rfl
 | cons x _ ih=>rw[Ybk,Ybk,ih]
 | swap x y l=>rw[Ybk,Ybk,Ybk,Ybk];omega
 | trans _ _ h1 h2=>exact h1.trans h2
theorem ZgH {ls:List Int}{N ks lf lp:List (List Int)} (h:ZcM ls N ks lf lp) (hle:ls.length<=N.flatten.length):(ZaR N ls ks).sum=(YbI (fun f p=>-(f.getD 0 0)*p.getD 0 0) lf lp).sum:=by
 obtain⟨h1,h2,_,h4,_,h6⟩:=h;have e1:ZaR N ls ks=(prL ls).map fun f=>-(f.getD 0 0)*numV N (ks.getD (f.getD 1 0).toNat []):=by
  refine Ybq (by unfold ZaR prL;simp;omega) fun i a b=>?_;have hi:i<ls.length:=by rw[Yab,ZbH] at b;exact b
  have hk:i<ks.length:=by omega
  have hp:(prL ls)[i]?=some [-ls[i],(i:Int)]:=ZhK (Yaa hi);have hp2:(prL ls)[i]'(by rw[ZbH];exact hi)=[-ls[i],(i:Int)]:=(Yae.mp hp).2
  rw[YcH,hp2];have hz:(ZaR N ls ks)[i]?=some (ls[i]*numV N ks[i]):=by
   unfold ZaR;rw[Ydg,Yaa hi,Yaa hk]
  rw[(Yae.mp hz).2];show ls[i]*numV N ks[i] = -(-ls[i])*numV N (ks.getD ((i:Int)).toNat []);rw[Int.neg_neg,YaM,Yau,Yaa hk];rfl
 have e2:YbI (fun f p=>-(f.getD 0 0)*p.getD 0 0) lf lp=lf.map fun f=>-(f.getD 0 0)*numV N (ks.getD (f.getD 1 0).toNat []):=by
  have l1:lf.length=ls.length:=by rw[h2.length_eq,ZbH]
  have l2:lp.length=N.flatten.length:=by rw[h4.length_eq,Zbr]
  refine Ybq (by simp;omega) fun i a b=>?_;have hi:i<lf.length:=by rw[Yab] at b;exact b
  have hj:i<lp.length:=by omega
  have g:=h6 i lf[i] lp[i] (Yaa hi) (Yaa hj);obtain⟨r,jj,z,xs,ep,hr,hz⟩:=Zbq (h4.mem_iff.mp (Ybp hj));rw[List.getElem_zipWith,YcH,Yau (l:=ks),g,Ye5,ep];congr 1;show z=numV N [((0+r:Nat):Int),(jj:Int)];unfold numV;simp[Yau,hr,hz]
 rw[e1,e2];exact ZhQ (h2.symm.map _)
end Lv
namespace Lv
open PySem L2
def isrt (l:List Int):List Int:=l.mergeSort (fun a b=>decide (a<=b))
def ZcO (l:List Int):List Int:=l.mergeSort (fun a b=>decide (b<=a))
theorem ZfO {l m:List Int} (h:m.Perm l) (hs:m.Pairwise (·<=·)):m=isrt l:=by
 refine YcO (le:=(·<=·)) (fun a b _ _ h1 h2=>Int.le_antisymm h1 h2) hs ?_ (h.trans (Ycm l _).symm);refine (Yct (fun a b c h1 h2=>?_) (fun a b=>?_) l).imp fun h=>of_decide_eq_true h
 ·have:=of_decide_eq_true h1;have:=of_decide_eq_true h2;exact decide_eq_true (by omega)
 ·by_cases h:a<=b
  ·simp[h]
  ·simp;omega
theorem Zgp {l m:List Int} (h:m.Perm l) (hs:m.Pairwise (· ≥ ·)):m=ZcO l:=by
 refine YcO (le:=(· ≥ ·)) (fun a b _ _ h1 h2=>Int.le_antisymm h2 h1) hs ?_ (h.trans (Ycm l _).symm);refine (Yct (fun a b c h1 h2=>?_) (fun a b=>?_) l).imp fun h=>of_decide_eq_true h
 ·have:=of_decide_eq_true h1;have:=of_decide_eq_true h2;exact decide_eq_true (by omega)
 ·by_cases h:b<=a
  ·simp[h]
  ·simp;omega
def rdF (ls:List Int) (N:List (List Int)):Int:=(YbI (·*·) (isrt N.flatten) (ZcO ls)).sum
theorem Zii {x y:Int}{a b:List Int} (h:lxB (y::b) (x::a)=false):x<=y:=by
 rw[lxB] at h;by_cases e:y=x
 ·omega
 ·rw[if_neg e] at h;have:=of_decide_eq_false h;omega
theorem Zjo {ls:List Int}{N:List (List Int)}{R:Int} (h:ZmB ls N R) (hf:Fit ls N):R=rdF ls N:=by
 obtain⟨ks,lf,lp,hs,_,rfl⟩:=h;rw[ZgH hs hf];obtain⟨_,h2,h3,h4,h5,_⟩:=hs;have e1:lp.map (fun t=>t.getD 0 0)=isrt N.flatten:=by
  refine ZfO ?_ ?_
  ·rw[<- Zf2 N 0];exact h4.map _
  ·refine Ya5.mpr (Yb8 (fun {p q} hp hq h=>?_) h5);obtain⟨_,_,_,_,rfl,_⟩:=Zbq (h4.mem_iff.mp hp);obtain⟨_,_,_,_,rfl,_⟩:=Zbq (h4.mem_iff.mp hq);exact Zii h
 have e2:lf.map (fun f=>-(f.getD 0 0))=ZcO ls:=by
  refine Zgp ?_ ?_
  ·have:(prL ls).map (fun f=>-(f.getD 0 0))=ls:=by
    refine Ybq (by simp[prL]) fun i h1 h2=>?_;simp[prL]
   exact (h2.map _).trans (by rw[this])
  ·refine Ya5.mpr (Yb8 (fun {p q} hp hq h=>?_) h3);obtain⟨_,_,rfl,_⟩:=Zeb (h2.mem_iff.mp hp);obtain⟨_,_,rfl,_⟩:=Zeb (h2.mem_iff.mp hq);have:=Zii h;show (-(-_:Int)) ≥ -(-_);omega
 unfold rdF;rw[<- e1,<- e2,List.zipWith_map];congr 1;rw[List.zipWith_comm];congr 1
 funext p f
 exact YeU _ _
end Lv
namespace Lv
open PySem L2
end Lv
namespace Lv
open PySem L2
theorem Zjb {ms fs:List Int}{j:Nat}{x y:Int} (hx:ms[j]?=some x) (hy:fs[j]?=some y):(YbI (·*·) ms fs).take (j+1)=(YbI (·*·) ms fs).take j++[x*y]:=by
 rw[Yba,Ydg,hx,hy];rfl
theorem Zg6 {N:List (List Int)}{j:Nat}{xs:List Int} (h:N[j]?=some xs):(N.take (j+1)).flatten=(N.take j).flatten++xs:=by
 rw[Yba,h,YbS,Yb2];simp
end Lv
namespace Lv
open PySem L2
section
variable {α:Type}
structure Adds (g:List α->Int):Prop where
 nil:g []=0
 app:∀ a b,g (a++b)=g a+g b
def dt (g:List α->Int):List (List α)->List Int->Int
 | r::rs,n::ns=>n*g r+dt g rs ns
 | _,_=>0
def sg (g:List α->Int) (rs:List (List α)):Int:=(rs.map g).sum
def ptR (g:List α->Int):List (List (List α))->List (List Int)->Int
 | R::RR,W::WW=>dt g R W+ptR g RR WW
 | _,_=>0
def es:List Int->(Nat->Int)->Int
 | [],_=>0
 | n::ns,h=>(n+1)*h 0+es ns fun j=>h (j+1)
end
theorem Zh9 {p:Nat} (hp:2<=p) (n:Nat):∃ x r,num p n=x::r/\r.length+1=p/\num p (n+1)=(r.map (x.map (·+1)++·))++[x.map (·+1)]:=by
 obtain⟨x,r,e,hr⟩:=Zh8 hp n;refine⟨x,r,e,hr,?_⟩;show ZfM (num p n)=_;rw[e];rfl
end Lv
namespace Lv
open PySem L2
end Lv
namespace Lv
open PySem L2
section
variable {S:List Addr}{H H':Hp}{a w:Addr}
end
end Lv
namespace Lv
open PySem L2
section
variable {α:Type}
def ones (RR:List (List (List α))):List (List Int):=RR.map fun R=>R.map fun _=>1
def tl (g:List α->Int) (RR:List (List (List α))):Int:=(RR.map fun R=>sg g R).sum
end
end Lv
namespace Lv
open PySem L2
def phO (p t:Nat):Int:=((p:Int) - t) % ((p:Int)+1)
end Lv
namespace Lv
open PySem L2
def fill (x y:Int):List Bool:=Yan x.toNat false++Yan y.toNat true
def layB (c v:List Int):List (List Bool):=YbI (fun x y=>fill (x - y) y) c v
def lay (p n:Nat):List (List Bool):=layB (cnt p (came p n).1) (came p n).2
end Lv
namespace L2
open PySem PySem.Spec PyProof.Rows
end L2
namespace Lv
open PySem L2
def sel (xs:List Int) (bs:List Bool):List Int:=((xs.zip bs).filter (·.2)).map (·.1)
def ZmQ (N:List (List Int)) (B:List (List Bool)):List Int:=(YbI sel N B).flatten
end Lv
namespace Lv
open PySem L2
def opr (D:List Rows):List (List (List Int)):=D.map fun r=>r.map fun c=>c.getD []
def gl (r:List Int):Int:=(r.length:Nat)
def phL (p:Nat):Nat->Nat->List (Int × Int)
 | _,0=>[]
 | t,m+1=>(phO p t,hd p m)::phL p (t+1) m
def SrtD (D:List Rows):Prop:=∀ r∈D,∀ xs:List Int,some xs∈r->xs.Pairwise (·<=·)
def HasR (D:List Rows):Prop:=∃ r∈D,∃ xs:List Int,some xs∈r
def ZmC (o:Int) (s:List Int):Prop:=∃ a:Nat,o=a/\s[a]?=some 0/\∀ (j:Nat) x,s[j]?=some x->j≠a->1<=x
end Lv
namespace L2
open PySem PySem.Spec PyProof.Rows
section
variable {M:Model}{A:Around}{E:Value->Shared->Prop}
end
section
variable {X:Cx}{pins:List (Addr × Obj)}{σ:St}{H H':Hp}{s s':Shared}{scope:Scope}{own:List Str}{js:List Nat}{C:Addr}{fp:List Addr}
structure CompOkK (X:Cx) (scope:Scope) (own:List Str) (js:List Nat):Prop where
 kind:scope.kind=.function
 free:∀ y∈scope.names,y.2=.free->X.env.kindOf y.1=some .cell∨X.env.kindOf y.1=some .free
 names:∀ y∈scope.names,scope.names.lookup y.1=some y.2
 out:∀ j∈js,∃ x,X.N[j]?=some x/\scope.names.lookup x=some .free
end
section
variable {X:Cx}{scope:Scope}{own:List Str}{js:List Nat}{elt iter target:Expr}{ifs:List Expr}{wi:TI}{g:TG}{tt:TT}{te:TE}{pos:Pos}
end
end L2
namespace Lv
open PySem L2
end Lv
namespace Lv
open PySem L2
def fil1:List Bool->List (List Int)->Rows
 | [],_=>[]
 | false::bs,rows=>none::fil1 bs rows
 | true::bs,rows=>some (rows.headD [])::fil1 bs rows.tail
def filB:List (List Bool)->List (List Int)->List Rows
 | [],_=>[]
 | b::B,rows=>fil1 b (rows.take (b.count true))::filB B (rows.drop (b.count true))
def wS (rows:List (List Int)) (ns:List Int):List Int:=YbI (fun r w=>(r.length:Int)*w) rows ns
structure Pl52 (p n:Nat) (B:List (List Bool)) (rows:List (List Int)):Prop where
 pls:Pls (filB B rows++[[]]) (phL p 0 n)
 left:(plR (filB B rows++[[]]) (phL p 0 n)).flatten=[some (srt rows.flatten)]
 read:((rdR (filB B rows++[[]]) (phL p 0 n)).map List.sum).sum=(wS rows (ZmQ (num p n) B)).sum
 out:(∀ b∈B,∀ x∈b,x=true)->(∀ r∈rows,r≠[])->∀ (i:Nat) q s,(phL p 0 n)[i]?=some q->(rdR (filB B rows++[[]]) (phL p 0 n))[i]?=some s->ZmC q.1 s
end Lv
namespace Lv
open PySem L2
theorem Zeh (p n:Nat):((num p n).flatten.length:Int)=tot p n:=by
 unfold tot;rw[<- Zcp];have:∀ N:List (List Int),((N.flatten.length:Nat):Int)=(lens N).sum:=fun N=>by
  induction N with
  | nil=>rfl
  | cons x N ih=>
   unfold lens at *;rw[Ybd,Yai,YaV,Ybk];omega
 exact this _
end Lv
namespace Lv
open PySem L2
def plcT (p:List Int):List Int:=[p.getD 1 0,p.getD 2 0]
theorem Zfx {ls:List Int}{N ks lf lp:List (List Int)} (h:ZcM ls N ks lf lp) (hle:ls.length<=N.flatten.length):ks.Perm ((lp.take ls.length).map plcT):=by
 obtain⟨h1,h2,_,h4,_,h6⟩:=h;have l1:lf.length=ls.length:=by rw[h2.length_eq,ZbH]
 have l2:lp.length=N.flatten.length:=by rw[h4.length_eq,Zbr]
 have hs:(lf.map fun f=>(f.getD 1 0).toNat).Perm (YaT ls.length):=by
  refine (h2.map _).trans (YdB ?_);unfold prL;exact Ybq (by simp) fun i h1 h2=>by simp
 have hA:(lf.map fun f=>(f.getD 1 0).toNat).map (fun i=>ks.getD i [])=(lp.take ls.length).map plcT:=by
  refine Ybq (by simp;omega) fun i a b=>?_;have hi:i<lf.length:=by simpa using a
  have hj:i<lp.length:=by omega
  have g:=h6 i lf[i] lp[i] (Yaa hi) (Yaa hj);simp only[YcH,YcB];rw[Yau,g];rfl
 have hB:(YaT ls.length).map (fun i=>ks.getD i [])=ks:=by
  refine Ybq (by simp;omega) fun i a b=>?_;simp only[YcH,List.getElem_range];rw[Yau,Yaa b];rfl
 rw[<- hA];exact (YdB hB.symm).trans (hs.symm.map _)
theorem Zdz:∀ (N:List (List Int)) (k:Nat),((trip k N).map plcT).Nodup/\∀ q∈(trip k N).map plcT,(k:Int)<=q.getD 0 0
 | [],k=>⟨YcW,fun q hq=>nomatch hq⟩
 | xs::N,k=>by
  obtain⟨i1,i2⟩:=Zdz N (k+1);have e:(ZbC k xs).map plcT=(YaT xs.length).map fun (j:Nat)=>[(k:Int),(j:Int)]:=by
   unfold ZbC;exact Ybq (by simp) fun i h1 h2=>by simp[plcT]
  rw[trip,Yaz,e];refine⟨YcY.mpr ⟨?_,i1,fun a ha b hb z=>?_⟩,fun q hq=>?_⟩
  ·refine Ya5.mpr (Yci.imp fun {a b} hab z=>hab ?_);have:(a:Int)=b:=by simpa using z
   omega
  ·obtain⟨j,_,rfl⟩:=YaW.mp ha;have:=i2 b hb;rw[<- z] at this;have:((k+1:Nat):Int)<=k:=this;omega
  ·rcases Yak.mp hq with h | h
   ·obtain⟨j,_,rfl⟩:=YaW.mp h;exact Ycr _
   ·have:=i2 q h;omega
theorem ZeJ {ls:List Int}{N ks lf lp:List (List Int)} (h:ZcM ls N ks lf lp) (hle:ls.length<=N.flatten.length):ks.Nodup:=by
 refine (Zfx h hle).nodup_iff.mpr ?_;obtain⟨_,_,_,h4,_,_⟩:=h;have h5:(lp.map plcT).Nodup:=(h4.map plcT).nodup_iff.mpr (Zdz N 0).1;rw[Ydw];exact h5.sublist (YdE _ _)
theorem ZeF:∀ (N:List (List Int)) (k:Nat),(trip k N).map (fun p=>p.getD 0 0)=N.flatten
 | [],_=>rfl
 | xs::N,k=>by
  rw[trip,Yaz,ZeF N (k+1),Ybd];congr 1;unfold ZbC;exact Ybq (by simp) fun i h1 h2=>by simp
theorem Zje {N:List (List Int)}{q:List Int} (h:q∈trip 0 N):numV N (plcT q)=q.getD 0 0:=by
 obtain⟨r,j,z,xs,rfl,hx,hz⟩:=Zbq h;unfold numV plcT;simp only[List.getD_cons_zero,List.getD_cons_succ];rw[Ybw,YaM,YaM,Yau,Yau,hx,Ye5,hz];rfl
theorem ZeP (N:List (List Int)):∀ (ls:List Int) (ks:List (List Int)),(ZaR N ls ks).sum=dot ls (ks.map (numV N))
 | [],ks=>by cases ks <;> rfl
 | l::ls,[]=>rfl
 | l::ls,k::ks=>by
  have ih:=ZeP N ls ks;unfold ZaR at ih ⊢;rw[YeB,Ybk,ih];rfl
structure Plcd (N:List (List Int)) (rows:List (List Int)) (ks:List (List Int)) (i:Nat) (D:List Rows):Prop where
 len:D.map Ycp=(N++[[]]).map Ycp
 free:∀ (r j:Nat) xs,N[r]?=some xs->j<xs.length->[(r:Int),(j:Int)] ∉ ks.take i->∃ row,D[r]?=some row/\row[j]?=some none
 all:(allT D).Perm (rows.take i).flatten
 pt:ptR gl (opr D) (N++[[]])=(ZaR N ((rows.take i).map fun r=>(r.length:Int)) (ks.take i)).sum
 srt:(∀ r∈rows,r.Pairwise (·<=·))->SrtD D
 has:1<=i->1<=rows.length->HasR D
end Lv
namespace L2
open PySem PySem.Spec PyProof.Rows PySem.SeqAt
end L2
namespace Lv
open PySem L2
theorem Same.sqB {b:Bool}{K:Yac}{H H':Hp}{a:Addr}{xs:List V} (e:Same H H') (h:SqB b K H a xs):SqB b K H' a xs:=by
 cases b with
 | true=>exact e.seq h
 | false=>exact e.tup h
theorem Zfd {b:Bool}{K:Yac}{own:List Str}{js:List Nat}{g:TG}{te:TE}{σ:L2.St}{H1:Hp}{Q:VK}{a:Addr}{xs:List V} (ys:List V) (hq:SqB b K H1 a xs) (hl:xs.length=ys.length) (hlen:xs.length<=20000)
  (hs:∀ (i:Nat) x y,xs[i]?=some x->ys[i]?=some y->∀ H,Same H1 H->∀ R:VK,(∀ H',Same H H'->R y H')->g x (blkσ own js σ) H fun τ H4=>te τ H4 R)
  (hd:∀ acc H,H1 acc=none->Same H1 H->H acc=some (.lst ys)->Q (.ref acc) H):Zbl own js g ZcZ te σ (ItlB b K a) H1 Q:=by
 refine ZiT (b:=b) (K:=K) (a:=a) (xs:=xs) (fun acc i H=>Same H1 H/\H acc=some (.lst (ys.take i))) (fun acc h0=>⟨Same.new h0,Zab⟩) (fun acc i H h0 _ z=>?_) ?_ ?_
 ·exact Same.sqB z.1 hq
 ·rintro acc i x H h0 hx ⟨s1,hacc⟩;have hi:=(Yae.mp hx).1
  have hy:=Yaa (l:=ys) (i:=i) (by omega);refine (cast ?_ (hs i x _ hx hy H s1 (fun y H6=>∃ zs,H6 acc=some (.lst zs)/\zs.length<sizeLine/\(i+1<=xs.length/\(Same H1 (upd H6 acc (.lst (zs++[y])))/\upd H6 acc (.lst (zs++[y])) acc=some (.lst (ys.take (i+1)))))) fun H' s'=>?_))
  ·unfold ZcZ;simp only[if_true]
  ·refine⟨_,s' _ _ hacc,?_,hi,(s1.trans s').put h0,?_⟩
   ·rw[sizeLine_eq,Yax];omega
   ·rw[Zab,Yba,hy];simp
 ·rintro acc H h0 ⟨s1,hacc⟩;rw[hl,YaS] at hacc;exact hd acc H h0 s1 hacc
end Lv
namespace Lv
open PySem L2
end Lv
namespace Lv
open PySem L2
structure Bl (H:Hp) (l pl cl rl tg:Addr) (fs cs:List Int) (T:List Reel) (ts:List Int):Prop where
 hl:H l=some (.lst (fs.map V.int))
 hc:H cl=some (.lst (cs.map V.int))
 hr:H rl=some (.lst (refT T))
 ht:H tg=some (.lst (ts.map V.int))
 hN:NRL H T
 hA:∀ x∈adr T,x≠pl/\x≠rl/\x≠tg
structure Dst (l pl cl rl tg:Addr):Prop where
 lp:l≠pl
 lr:l≠rl
 lt:l≠tg
 cp:cl≠pl
 cr:cl≠rl
 ct:cl≠tg
 rp:rl≠pl
 rt:rl≠tg
 tp:tg≠pl
variable {H H':Hp}{l pl cl rl tg:Addr}{fs cs:List Int}{T:List Reel}{ts:List Int}
end Lv
namespace Lv
open PySem L2
section
variable {K:Yac}
end
end Lv
namespace Fw
open PySem L2
def val (ns:List Int) (p:Int):Int:=ns.getD p.toNat 0
def upto (n:Nat):List Int:=(YaT n).map fun (i:Nat)=>(i:Int)
def there (n:Nat) (r:Int) (w:List Int):List Int:=(upto (min n (w.length+r.toNat))).filter fun p=>!w.contains p
def fits (ns w:List Int) (p:Int):Bool:=w.isEmpty || decide (val ns (w.getLast?.getD 0)<=val ns p)
def cand (ns hs w:List Int):List Int:=if (hs.filter (fits ns w)).isEmpty then hs else hs.filter (fits ns w)
def pick (ns:List Int):List Int->Int
 | []=>0
 | b::c=>(b::c).foldl (fun b p=>if val ns p<val ns b then p else b) b
def writ (ns:List Int) (r:Int):Nat->List Int
 | 0=>[]
 | t+1=>writ ns r t++[pick ns (cand ns (there ns.length r (writ ns r t)) (writ ns r t))]
structure Good (n:Nat) (r:Int) (w:List Int):Prop where
 nd:w.Nodup
 lt:∀ q∈w,0<=q/\q<n/\q+1<w.length+r
end Fw
namespace Fw
open PySem L2
end Fw
namespace Fw
open PySem L2
abbrev Key2:=Nat × Int
def kle (a b:Key2):Prop:=a.1<b.1∨(a.1=b.1/\a.2<=b.2)
def nxtK (k:Option Key2) (v:Int):Key2:=match k with | none=>(0,v) | some (r,l)=>(if v<l then r+1 else r,v)
def Zgl:Option Key2->List Int->List Key2
 | _,[]=>[]
 | k,v::vs=>nxtK k v::Zgl (some (nxtK k v)) vs
def wk (ns:List Int) (r:Int) (t:Nat):List Key2:=Zgl none ((writ ns r t).map (val ns))
def lk (ns:List Int) (r:Int) (t:Nat):Option Key2:=(wk ns r t).getLast?
structure Holds (n:Nat) (r:Int) (v:List Int):Prop where
 nd:v.Nodup
 lt:∀ (i:Nat) p,v[i]?=some p->0<=p/\p<n/\p<i+r
end Fw
namespace Lv
open PySem L2 Fw
end Lv
namespace L2
open PySem PySem.Spec PyProof.Rows PySem.SeqAt
end L2
namespace Lv
open PySem L2 Fw
structure Rws3 (H0 H:Hp) (l:Addr) (rf:List Addr) (R:List (List Int)):Prop where
 top:H l=some (.lst (rf.map V.ref))
 rows:LLs H rf R
 own:∀ q∈rf,H0 q=none/\q≠l
 nd:rf.Nodup
end Lv
namespace L2
open PySem PySem.Spec PyProof.Rows PySem.SeqAt
section
variable {X:Cx}
end
end L2
namespace Lv
open PySem L2 Fw
structure HoldsP (n:Nat) (r:Int) (ws:List Int):Prop where
 len:ws.length=n
 nd:ws.Nodup
 rg:∀ p∈ws,0<=p/\p<(n:Int)
 bd:∀ (i:Nat) (p:Int),ws[i]?=some p->p<i+r
structure HoldsT (n:Nat) (r:Int) (ws:List Int) (t:Nat):Prop where
 nd:(ws.take t).Nodup
 rg:∀ p∈ws.take t,0<=p/\p<(n:Int)
 bd:∀ (i:Nat) (p:Int),(ws.take t)[i]?=some p->p<i+r
end Lv
namespace Lv
open PySem L2 Fw
end Lv
namespace Lv
open PySem L2 Fw
structure HI (n:Nat) (r:Int) (ly fs:List Int) (c:Nat):Prop where
 pm:(fs++ly).Perm (upto c)
 bd:∀ (i:Nat) (p:Int),fs[i]?=some p->p<i+r
 cn:c=min n (fs.length+r.toNat)
end Lv
namespace Lv
open PySem L2 Fw
end Lv
namespace Lv
open PySem L2 Fw
end Lv
namespace L2
open PySem PySem.Spec PyProof.Rows PySem.SeqAt
section
variable {X:Cx}{tg:Expr}
end
end L2
namespace L2
open PySem PySem.Spec PyProof.Rows
section
variable {own:List Str}{js:List Nat}{g:TG}{tt:TT}{te:TE}{σ:L2.St}{H1:Hp}{Q:VK}
theorem ZiS {b1 b2:Bool}{K:Yac}{a b:Addr}{xs ys:List V} (zs:List V) (hq1:SqB b1 K H1 a xs) (hq2:SqB b2 K H1 b ys) (hl:ys.length<=xs.length) (hz:zs.length=ys.length) (hlen:ys.length<=20000)
  (hs:∀ (i:Nat) x y z,xs[i]?=some x->ys[i]?=some y->zs[i]?=some z->∀ p H,Same H1 H->H p=some (.tup [x,y])->∀ R:VK,(∀ H',Same H H'->R z H')->g (.ref p) (blkσ own js σ) H fun τ H4=>te τ H4 R)
  (hd:∀ acc H,H1 acc=none->Same H1 H->H acc=some (.lst zs)->Q (.ref acc) H):Zbl own js g ZcZ te σ (ItzB b1 b2 K a b) H1 Q:=by
 refine ZiR (xs:=xs) (ys:=ys) hl (fun acc i H=>Same H1 H/\H acc=some (.lst (zs.take i))) (fun acc h0=>⟨Same.new h0,Zab⟩) (fun acc i H h0 _ z=>⟨Lv.Same.sqB z.1 hq1,Lv.Same.sqB z.1 hq2⟩) ?_ ?_
 ·rintro acc i x y p H h0 hx hy ⟨s1,hacc⟩ hp;have hi:=(Yae.mp hy).1
  have hy':=Yaa (l:=zs) (i:=i) (by omega);have s2:Same H (upd H p (.tup [x,y])):=Same.new hp;refine (cast ?_ (hs i x y _ hx hy hy' p _ (s1.trans s2) Zab (fun y H6=>∃ zs',H6 acc=some (.lst zs')/\zs'.length<sizeLine/\(i+1<=ys.length/\(Same H1 (upd H6 acc (.lst (zs'++[y])))/\upd H6 acc (.lst (zs'++[y])) acc=some (.lst (zs.take (i+1)))))) fun H' s'=>?_))
  ·unfold ZcZ;simp only[if_true]
  ·refine⟨_,s' _ _ (s2 _ _ hacc),?_,hi,((s1.trans s2).trans s').put h0,?_⟩
   ·rw[sizeLine_eq,Yax];omega
   ·rw[Zab,Yba,hy'];simp
 ·rintro acc H h0 ⟨s1,hacc⟩;rw[<- hz,YaS] at hacc;exact hd acc H h0 s1 hacc
theorem ZiV {lo:Int}{n:Nat} (zs:List V) (hz:zs.length=n) (hlen:n<=20000)
  (hs:∀ i z,i<n->zs[i]?=some z->∀ H,Same H1 H->∀ R:VK,(∀ H',Same H H'->R z H')->g (.int (lo+(i:Nat))) (blkσ own js σ) H fun τ H4=>te τ H4 R)
  (hd:∀ acc H,H1 acc=none->Same H1 H->H acc=some (.lst zs)->Q (.ref acc) H):Zbl own js g ZcZ te σ (Itr lo n) H1 Q:=by
 refine ZcE (fun acc i H=>Same H1 H/\H acc=some (.lst (zs.take i))) (fun acc h0=>⟨Same.new h0,Zab⟩) ?_ fun acc H h0 ⟨s1,hacc⟩=>hd acc H h0 s1 (by rw[hacc,<- hz,YaS]);rintro acc i H h0 hi ⟨s1,hacc⟩;have hy':=Yaa (l:=zs) (i:=i) (by omega);refine (cast ?_ (hs i _ hi hy' H s1 (fun y H6=>∃ zs',H6 acc=some (.lst zs')/\zs'.length<sizeLine/\(i+1<=n/\(Same H1 (upd H6 acc (.lst (zs'++[y])))/\upd H6 acc (.lst (zs'++[y])) acc=some (.lst (zs.take (i+1)))))) fun H' s'=>?_))
 ·unfold ZcZ;simp only[if_true]
 ·refine⟨_,s' _ _ hacc,?_,hi,(s1.trans s').put h0,?_⟩
  ·rw[sizeLine_eq,Yax];omega
  ·rw[Zab,Yba,hy'];simp
end
end L2
namespace Lv
open PySem L2
def ZmW (p L:Nat):Nat:=if L=0 then 0 else (L - 1) / p+1
def Znc (p:Nat) (xs:List Int):List (List Int):=(YaT (ZmW p xs.length)).map fun i=>(xs.drop (i*p)).take p
def Znb (ns:List Int):List Int:=ns.map fun n=>min n ((ns.length:Int) - 1)
end Lv
namespace Lv
open PySem L2
end Lv
namespace Lv
open PySem L2
end Lv
namespace Lv
open PySem L2
def Zm0 (r:List (List Int)):List Int:=r.getLastD []
def wr (L:List (List (List Int))):List Int:=(L.map Zm0).flatten
end Lv
namespace Lv
open PySem L2
theorem Zj4 (xs:List V) (c:Nat):cutV xs none (some (c:Int))=xs.take c:=by
 unfold cutV;show (xs.drop 0).take (HT.sIx xs.length xs.length (some (c:Int)) - 0)=_;rw[HT.sIx_nat,Nat.sub_zero,List.drop_zero];by_cases h:c<=xs.length
 ·rw[Ycw h]
 ·rw[YdP (by omega),YaS,Ya6 (by omega)]
theorem Zj5 (xs:List V) (c:Nat):cutV xs (some (c:Int)) none=xs.drop c:=by
 unfold cutV;rw[HT.sIx_nat];show (xs.drop (min c xs.length)).take (xs.length - min c xs.length)=_;by_cases h:c<=xs.length
 ·rw[Ycw h,Ya6 (by simp)]
 ·rw[YdP (by omega),List.drop_length,List.drop_of_length_le (by omega)];simp
end Lv
namespace StT
open PySem PySem.SetTable
def f5 (N x:Nat):Nat:=(x*5+1) % N
def it5 (N:Nat):Nat->Nat->Nat
 | 0,x=>x
 | s+1,x=>it5 N s (f5 N x)
theorem Zen (N:Nat):∀ (s t x:Nat),it5 N (s+t) x=it5 N t (it5 N s x)
 | 0,t,x=>by rw[Ybw];rfl
 | s+1,t,x=>by rw[Nat.succ_add];exact Zen N s t (f5 N x)
def orb (N:Nat):Nat->Nat->Nat->Nat
 | 0,_,acc=>acc
 | s+1,x,acc=>orb N s (f5 N x) (acc ||| (1 <<< x))
theorem ZhV (N j:Nat):∀ (s x acc:Nat),(orb N s x acc).testBit j=true->acc.testBit j=true∨∃ t,t<s/\it5 N t x=j
 | 0,x,acc,h=>.inl h
 | s+1,x,acc,h=>by
  rcases ZhV N j s _ _ h with h | ⟨t,ht,e⟩
  ·rw[Nat.testBit_or,Yd5] at h;rcases h with h | h
   ·exact .inl h
   ·refine .inr ⟨0,YeP _,?_⟩;rw[Nat.one_shiftLeft,Nat.testBit_two_pow] at h;exact of_decide_eq_true h
  ·exact .inr ⟨t+1,by omega,e⟩
theorem ZhD {N:Nat} (h1:orb N N 0 0=2 ^ N - 1) (h2:it5 N N 0=0):∀ i j,i<N->j<N->∃ s,s<N/\it5 N s i=j:=by
 have all:∀ j,j<N->∃ s,s<N/\it5 N s 0=j:=fun j hj=>by
  have:(orb N N 0 0).testBit j=true:=by rw[h1,Nat.testBit_two_pow_sub_one];exact decide_eq_true hj
  rcases ZhV N j N 0 0 this with h | h
  ·simp at h
  ·exact h
 intro i j hi hj;obtain⟨a,ha,ea⟩:=all i hi;obtain⟨b,hb,eb⟩:=all j hj;by_cases hab:a<=b
 ·exact⟨b - a,by omega,by rw[<- ea,<- Zen,show a+(b - a)=b by omega,eb]⟩
 ·refine⟨N - a+b,by omega,?_⟩;rw[<- ea,<- Zen,show a+(N - a+b)=N+b by omega,Zen,h2,eb]
def Msk (m:Nat):Prop:=m=7∨m=31∨m=127∨m=511∨m=2047
theorem Zie {m:Nat} (h:Msk m):∀ i j,i<m+1->j<m+1->∃ s,s<m+1/\it5 (m+1) s i=j:=by
 rcases h with rfl | rfl | rfl | rfl | rfl
 ·exact ZhD (by decide +kernel) (by decide +kernel)
 ·exact ZhD (by decide +kernel) (by decide +kernel)
 ·exact ZhD (by decide +kernel) (by decide +kernel)
 ·exact ZhD (by decide +kernel) (by decide +kernel)
 ·exact ZhD (by decide +kernel) (by decide +kernel)
def lpI (m:Nat) (h:Int):Nat->Nat × Nat
 | 0=>(bits h % (m+1),bits h)
 | k+1=>leap m (lpI m h k).1 (lpI m h k).2
theorem Zkv (m:Nat) (h:Int):∀ k,(lpI m h k).2=bits h / 32 ^ k
 | 0=>by simp[lpI]
 | k+1=>by
  show (leap m (lpI m h k).1 (lpI m h k).2).2=_;unfold leap;rw[Zkv m h k,YeF,Nat.pow_succ]
theorem ZlG (h:Int):bits h<2 ^ 64:=by
 unfold bits;have h1:=Ya2 h (show (2 ^ 64:Int)≠0 by decide);have h2:=Ybg h (show (0:Int)<2 ^ 64 by decide);omega
theorem ZmZ (m:Nat) (h:Int):∀ k,(lpI m h k).1<m+1
 | 0=>Yex _ (YeP _)
 | k+1=>Yex _ (YeP _)
theorem Zlp (m:Nat) (h:Int) (k:Nat):(lpI m h (12+(k+1))).1=f5 (m+1) (lpI m h (12+k)).1:=by
 show (leap m (lpI m h (12+k)).1 (lpI m h (12+k)).2).1=_;unfold leap f5;have:(lpI m h (12+k)).2 / 32=0:=by
  rw[Zkv,YeF,<- Nat.pow_succ];refine Nat.div_eq_of_lt (Yas (ZlG h) ?_);refine Ybx (show 2 ^ 64<=32 ^ 13 by decide) (Nat.pow_le_pow_right (by decide) (by omega))
 rw[this,Ydk]
theorem Zmj (m:Nat) (h:Int):∀ s k,(lpI m h (12+k+s)).1=it5 (m+1) s (lpI m h (12+k)).1
 | 0,k=>rfl
 | s+1,k=>by
  rw[it5,<- Zlp,show 12+k+(s+1)=12+(k+1)+s by omega];exact Zmj m h s (k+1)
theorem Zgk {m:Nat} (hm:Msk m) (h:Int) (j:Nat) (hj:j<m+1):∃ k,k<turns m/\(lpI m h k).1=j:=by
 obtain⟨s,hs,e⟩:=Zie hm (lpI m h (12+0)).1 j (ZmZ m h _) hj;exact⟨12+s,by unfold turns;omega,by have:=Zmj m h s 0;rw[e] at this;exact this⟩
def adv (m:Nat) (p:Probe):Probe :=
 if p.more > 0 then { p with j:=p.j+1,more:=p.more - 1 } else
 let (i,perturb):=leap m p.i p.perturb
 { p with j:=i,more:=runEnd m i - i,i,perturb }
def pst (m:Nat) (h:Int):Probe:={ j:=bits h % (m+1),more:=runEnd m (bits h % (m+1)) - bits h % (m+1),i:=bits h % (m+1),perturb:=bits h,dummy:=none }
def pth (m:Nat) (h:Int):Nat->Probe
 | 0=>pst m h
 | n+1=>adv m (pth m h n)
theorem Zc8 (m:Nat) (h:Int):∀ n,(pth m h n).dummy=none
 | 0=>rfl
 | n+1=>by
  show (adv m (pth m h n)).dummy=none;unfold adv;split
  ·exact Zc8 m h n
  ·exact Zc8 m h n
def Zhe (m:Nat) (h:Int) (n k:Nat):Prop:=(pth m h n).j=(lpI m h k).1/\(pth m h n).i=(lpI m h k).1/\(pth m h n).perturb=(lpI m h k).2/\(pth m h n).more=runEnd m (lpI m h k).1 - (lpI m h k).1
theorem Zk2 (m i:Nat):runEnd m i - i<=9:=by unfold runEnd;split <;> omega
theorem Zgq {m:Nat}{h:Int}{n k:Nat} (a:Zhe m h n k):∀ q,q<=runEnd m (lpI m h k).1 - (lpI m h k).1->(pth m h (n+q)).j=(lpI m h k).1+q/\(pth m h (n+q)).i=(lpI m h k).1/\(pth m h (n+q)).perturb=(lpI m h k).2/\(pth m h (n+q)).more=runEnd m (lpI m h k).1 - (lpI m h k).1 - q
 | 0,_=>⟨by rw[Ydk,Ydk];exact a.1,a.2.1,a.2.2.1,a.2.2.2⟩
 | q+1,hq=>by
  obtain⟨b1,b2,b3,b4⟩:=Zgq a q (by omega);have e:pth m h (n+(q+1))=adv m (pth m h (n+q)):=rfl;have hp:(pth m h (n+q)).more > 0:=by omega
  rw[e];unfold adv;rw[if_pos hp];exact⟨by dsimp only;omega,b2,b3,by dsimp only;omega⟩
theorem Zgj {m:Nat}{h:Int}{n k:Nat} (a:Zhe m h n k):Zhe m h (n+(runEnd m (lpI m h k).1 - (lpI m h k).1)+1) (k+1):=by
 obtain⟨b1,b2,b3,b4⟩:=Zgq a _ (Yag _);have e:pth m h (n+(runEnd m (lpI m h k).1 - (lpI m h k).1)+1)=adv m (pth m h (n+(runEnd m (lpI m h k).1 - (lpI m h k).1))):=rfl;have hp:¬ (pth m h (n+(runEnd m (lpI m h k).1 - (lpI m h k).1))).more > 0:=by omega
 unfold Zhe;rw[e];unfold adv;rw[if_neg hp,b2,b3];exact⟨rfl,rfl,rfl,rfl⟩
theorem ZkI (m:Nat) (h:Int):∀ k,∃ n,n<=10*k/\Zhe m h n k
 | 0=>⟨0,Yag _,rfl,rfl,rfl,rfl⟩
 | k+1=>by
  obtain⟨n,hn,a⟩:=ZkI m h k;exact⟨_,by have:=Zk2 m (lpI m h k).1;omega,Zgj a⟩
theorem Zln {m:Nat} (hm:Msk m) (h:Int) (j:Nat) (hj:j<m+1):∃ n,n<10*turns m/\(pth m h n).j=j:=by
 obtain⟨k,hk,e⟩:=Zgk hm h j hj;obtain⟨n,hn,a⟩:=ZkI m h k;exact⟨n,by omega,a.1.trans e⟩
theorem Zgc {m:Nat} (h:Int):∀ n,(pth m h n).j<m+1/\(pth m h n).j+(pth m h n).more<=m
 | 0=>by
  have:=Yex (bits h) (show 0<m+1 by omega);show bits h % (m+1)<m+1/\bits h % (m+1)+(runEnd m (bits h % (m+1)) - bits h % (m+1))<=m;unfold runEnd;split <;> omega
 | n+1=>by
  obtain⟨a,b⟩:=Zgc (m:=m) h n;show (adv m (pth m h n)).j<m+1/\(adv m (pth m h n)).j+(adv m (pth m h n)).more<=m;unfold adv;split
  ·dsimp only;omega
  ·have:=Yex ((pth m h n).i*5+1+(pth m h n).perturb / 32) (show 0<m+1 by omega);dsimp only[leap];unfold runEnd;split <;> omega
end StT
namespace StT
open PySem PySem.SetTable
def Rise (xs:Array Nat):Prop:=xs.toList.Pairwise (·<·)
theorem Rise.lt {xs:Array Nat} (h:Rise xs) {i j:Nat} (hij:i<j) (hj:j<xs.size):xs.getD i 0<xs.getD j 0:=by
 have hi:i<xs.size:=by omega
 have:=YcV.mp h i j (by simpa using hi) (by simpa using hj) hij;simpa[YbL,hi,hj] using this
theorem Zew {xs:Array Nat} (hr:Rise xs) (j:Nat):∀ (fuel lo hi:Nat),hi - lo<=fuel->lo<=hi->hi<=xs.size->(∀ i,i<lo->xs.getD i 0<j)->(∀ i,hi<=i->i<xs.size->j<=xs.getD i 0) ->
  ∃ r,below.go xs j fuel lo hi=r/\r<=xs.size/\(∀ i,i<r->xs.getD i 0<j)/\∀ i,r<=i->i<xs.size->j<=xs.getD i 0
 | 0,lo,hi,hf,h1,h2,a,b=>⟨lo,rfl,by omega,a,fun i h=>b i (by omega)⟩
 | fuel+1,lo,hi,hf,h1,h2,a,b=>by
  unfold below.go;by_cases hlt:lo<hi
  ·rw[if_pos hlt];dsimp only;by_cases hm:xs.getD ((lo+hi) / 2) j<j
   ·rw[if_pos hm];have hs:(lo+hi) / 2<xs.size:=by omega
    have hm:xs.getD ((lo+hi) / 2) 0<j:=by simpa[YbL,hs] using hm
    refine Zew hr j fuel _ _ (by omega) (by omega) h2 (fun i hi'=>?_) b;by_cases e:i=(lo+hi) / 2
    ·rw[e];exact hm
    ·exact YeQ (hr.lt (by omega) hs) hm
   ·rw[if_neg hm];have hs:(lo+hi) / 2<xs.size:=by omega
    have hm:¬ xs.getD ((lo+hi) / 2) 0<j:=by simpa[YbL,hs] using hm
    refine Zew hr j fuel _ _ (by omega) (by omega) (by omega) a (fun i hi' hi2=>?_);by_cases e:i=(lo+hi) / 2
    ·rw[e];omega
    ·have:=hr.lt (show (lo+hi) / 2<i by omega) hi2;omega
  ·rw[if_neg hlt];exact⟨lo,rfl,by omega,a,fun i h=>b i (by omega)⟩
theorem ZbU {xs:Array Nat} (hr:Rise xs) (j:Nat):below xs j<=xs.size/\(∀ i,i<below xs j->xs.getD i 0<j)/\∀ i,below xs j<=i->i<xs.size->j<=xs.getD i 0:=by
 obtain⟨r,e,h⟩:=Zew hr j xs.size 0 xs.size (by omega) (by omega) (Yag _) (fun i h=>absurd h (YbB _)) (fun i h h2=>by omega);unfold below;rw[e];exact h
theorem ZbV {xs:Array Nat} (hr:Rise xs) {i j:Nat} (h:xs[i]?=some j):below xs j=i:=by
 obtain⟨b1,b2,b3⟩:=ZbU hr j;have hi:i<xs.size:=(YaP.mp h).1
 have e:xs.getD i 0=j:=by simp[YbL,hi];exact (YaP.mp h).2
 rcases Nat.lt_trichotomy (below xs j) i with z | z | z
 ·have:=b3 (below xs j) (Yag _) (by omega);have:=hr.lt z hi;omega
 ·exact z
 ·have:=b2 i z;omega
theorem ZgA {xs:Array Nat} (hr:Rise xs) {j:Nat} (h:j∈xs.toList):xs[below xs j]?=some j:=by
 obtain⟨i,hi,e⟩:=Ybl h;have hx:xs[i]?=some j:=by
  rw[<- Yaf,Yaa hi,e]
 rw[ZbV hr hx];exact hx
theorem ZeK {t:SetTable} (hr:Rise t.place) {j i:Nat} (h:t.place[i]?=some j):t.slot j=.live i:=by
 unfold Yfb;dsimp only;rw[ZbV hr h,h];simp
theorem ZgK {t:SetTable} (hr:Rise t.place) (hd:t.dummies=#[]) {j:Nat} (h:j ∉ t.place.toList):t.slot j=.empty:=by
 unfold Yfb;dsimp only;have:(t.place[below t.place j]? == some j)=false:=by
  refine Yfk.mpr fun z=>h ?_;have z:=eq_of_beq z;rw[<- Yaf] at z;exact Yaw z
 rw[this,hd];rfl
theorem ZgL {t:SetTable} (hr:Rise t.place) (hd:t.dummies=#[]) (j:Nat):(j ∉ t.place.toList/\t.slot j=.empty)∨∃ i,t.place[i]?=some j/\t.slot j=.live i:=by
 by_cases h:j∈t.place.toList
 ·exact .inr ⟨_,ZgA hr h,ZeK hr (ZgA hr h)⟩
 ·exact .inl ⟨h,ZgK hr hd h⟩
structure Tab (t:SetTable) (es:Array (Int × Value)):Prop where
 msk:Msk t.mask
 rise:Rise t.place
 dm:t.dummies=#[]
 sz:t.place.size=es.size
 few:es.size*5<t.mask*3
 le:∀ j∈t.place.toList,j<=t.mask
 chain:∀ (i:Nat) j e,t.place[i]?=some j->es[i]?=some e->∃ n,(pth t.mask e.1 n).j=j/\∀ m,m<n->(pth t.mask e.1 m).j∈t.place.toList
theorem Tab.msk1 {t:SetTable}{es:Array (Int × Value)} (T:Tab t es):7<=t.mask/\t.mask<=2047:=by
 rcases T.msk with h | h | h | h | h <;> omega
theorem Tab.fits {t:SetTable}{es:Array (Int × Value)} (T:Tab t es):t.fits es.size=true:=by
 have:=T.few;have:=T.msk1;unfold Yfc YdT;rw[T.dm,T.sz];simp;omega
theorem Tab.odd {t:SetTable}{es:Array (Int × Value)} (T:Tab t es):t.gaveWay=false:=by
 unfold SetTable.gaveWay;rcases T.msk with h | h | h | h | h <;> rw[h] <;> rfl
theorem Tab.room {t:SetTable}{es:Array (Int × Value)} (T:Tab t es):∃ j,j<t.mask+1/\j ∉ t.place.toList:=by
 refine YcK fun z=>?_;have hall:∀ j,j<t.mask+1->j∈t.place.toList:=fun j hj=>YcK fun y=>z ⟨j,hj,y⟩;have hsub:(YaT (t.mask+1)).length<=t.place.toList.length:=by
  refine List.Nodup.length_le_of_subset Yci fun j hj=>hall j (Ybh.mp hj)
 have:=T.few;have:=T.msk1;rw[YbY,Yao,T.sz] at hsub;omega
theorem Tab.free {t:SetTable}{es:Array (Int × Value)} (T:Tab t es) (h:Int):∃ n,n<10*turns t.mask/\(pth t.mask h n).j ∉ t.place.toList/\∀ m,m<n->(pth t.mask h m).j∈t.place.toList:=by
 obtain⟨j,hj,hn⟩:=T.room;obtain⟨n0,h0,e0⟩:=Zln T.msk h j hj;have key:∀ k,(∀ m,m<k->(pth t.mask h m).j∈t.place.toList)∨∃ n,n<k/\(pth t.mask h n).j ∉ t.place.toList/\∀ m,m<n->(pth t.mask h m).j∈t.place.toList:=by
  intro k
  induction k with
  | zero=>exact .inl fun m hm=>absurd hm (YbB _)
  | succ k ih=>
   rcases ih with h1 | ⟨n,a,b,c⟩
   ·by_cases hk:(pth t.mask h k).j∈t.place.toList
    ·exact .inl fun m hm=>by
      rcases Ybf m k with z | z
      ·exact h1 m z
      ·rw[show m=k by omega];exact hk
    ·exact .inr ⟨k,Ybu _,hk,h1⟩
   ·exact .inr ⟨n,by omega,b,c⟩
 rcases key (n0+1) with h1 | ⟨n,a,b,c⟩
 ·exact absurd (h1 n0 (Ybu _)) (by rw[e0];exact hn)
 ·exact⟨n,by omega,b,c⟩
theorem Zgd {t:SetTable} (hr:Rise t.place) (hd:t.dummies=#[]) (ha:Nat->Int) (h:Int) {N:Nat} (hN:(pth t.mask h N).j ∉ t.place.toList) :
  ∀ (fuel n:Nat),n<=N->N<n+fuel->∃ m,n<=m/\m<=N/\(∀ l,n<=l->l<m->∀ i,t.place[i]?=some (pth t.mask h l).j->ha i≠h) /\
   (((pth t.mask h m).j ∉ t.place.toList/\YbQ t ha h fuel (pth t.mask h n)=some (.empty (pth t.mask h m).j none)) ∨
    ∃ i,t.place[i]?=some (pth t.mask h m).j/\ha i=h/\m<N/\YbQ t ha h fuel (pth t.mask h n)=some (.candidate (pth t.mask h m).j i (pth t.mask h (m+1))))
 | 0,n,h1,h2=>by omega
 | fuel+1,n,h1,h2=>by
  rcases ZgL hr hd (pth t.mask h n).j with ⟨hn,e⟩ | ⟨i,hi,e⟩
  ·refine⟨n,Yag _,h1,fun l a b=>by omega,.inl ⟨hn,?_⟩⟩;unfold YbQ;rw[e];dsimp only;rw[Zc8]
  ·have hin:(pth t.mask h n).j∈t.place.toList:=by
    rw[<- Yaf] at hi;exact Yaw hi
   have hne:n≠N:=fun z=>hN (z ▸ hin);by_cases hh:ha i=h
   ·refine⟨n,Yag _,h1,fun l a b=>by omega,.inr ⟨i,hi,hh,by omega,?_⟩⟩;unfold YbQ;rw[e];dsimp only;rw[if_pos (by simpa using hh)];rfl
   ·obtain⟨m,m1,m2,m3,m4⟩:=Zgd hr hd ha h hN fuel (n+1) (by omega) (by omega);have e2:YbQ t ha h (fuel+1) (pth t.mask h n)=YbQ t ha h fuel (pth t.mask h (n+1)):=by
     conv=>lhs;unfold YbQ
     rw[e];dsimp only;rw[if_neg (by simpa using hh)];rfl
    refine⟨m,by omega,m2,fun l a b i' hi'=>?_,?_⟩
    ·by_cases z:l=n
     ·subst z;have b1:=ZbV hr hi;have b2:=ZbV hr hi';have:i=i':=by omega
      rw[<- this];exact hh
     ·exact m3 l (by omega) b i' hi'
    ·rw[e2];exact m4
end StT
namespace StT
open PySem PySem.SetTable
theorem Zax {α:Type} (xs:Array α) (p:Nat) (x:α):(insertAt xs p x).toList=xs.toList.take p++x::xs.toList.drop p:=by
 unfold insertAt;simp[List.extract_eq_take_drop,Ya6]
theorem ZkJ {α β:Type}{a:List α}{b:List β} (h:a.length=b.length) (p:Nat) (x:α) (y:β):∀ q∈(a.take p++x::a.drop p).zip (b.take p++y::b.drop p),q=(x,y)∨q∈a.zip b:=by
 intro q hq;have h1:(a.take p).length=(b.take p).length:=by rw[Yax,Yax,h]
 rw[List.zip_append h1,Ye9,Yak,Yah] at hq;have e:a.zip b=(a.take p).zip (b.take p)++(a.drop p).zip (b.drop p):=by
  rw[<- List.zip_append h1,YaI,YaI]
 rw[e,Yak];rcases hq with hq | hq | hq
 ·exact .inr (.inl hq)
 ·exact .inl hq
 ·exact .inr (.inr hq)
theorem ZkL {α β:Type}{a:Array α}{b:Array β}{i:Nat}{x:α}{y:β} (h1:a[i]?=some x) (h2:b[i]?=some y):(x,y)∈a.toList.zip b.toList:=by
 rw[<- Yaf] at h1 h2;exact Yaw (Yeh.mpr ⟨h1,h2⟩)
theorem ZkK {α β:Type}{a:Array α}{b:Array β}{x:α}{y:β} (h:(x,y)∈a.toList.zip b.toList):∃ i:Nat,a[i]?=some x/\b[i]?=some y:=by
 obtain⟨i,hi⟩:=YbU.mp h;obtain⟨h1,h2⟩:=Yeh.mp hi;exact⟨i,by rw[<- Yaf];exact h1,by rw[<- Yaf];exact h2⟩
theorem ZhJ {t:SetTable} (hd:t.dummies=#[]) (j:Nat):t.put j=({ t with place:=insertAt t.place (below t.place j) j },below t.place j):=by
 unfold SetTable.put;dsimp only;rw[hd];have:has #[] j=false:=rfl;rw[this];simp[hd]
theorem Tab.put {t:SetTable}{es:Array (Int × Value)} (T:Tab t es) {h:Int}{x:Value}{n:Nat} (hn:(pth t.mask h n).j ∉ t.place.toList) (hb:∀ m,m<n->(pth t.mask h m).j∈t.place.toList) (hf:¬ (es.size+1)*5 ≥ t.mask*3) :
  Tab (t.put (pth t.mask h n).j).1 (insertAt es (t.put (pth t.mask h n).j).2 (h,x)):=by
 rw[ZhJ T.dm];dsimp only;obtain⟨b1,b2,b3⟩:=ZbU T.rise (pth t.mask h n).j;generalize hp:below t.place (pth t.mask h n).j=p at b1 b2 b3 ⊢;have hj:=(Zgc (m:=t.mask) h n).1
 generalize hJ:(pth t.mask h n).j=j at hn b2 b3 hj ⊢;have mem':∀ y,y∈(insertAt t.place p j).toList↔y=j∨y∈t.place.toList:=fun y=>by
  rw[Zax,Yak,Yah]
  conv=>rhs;rw[<- YaI p t.place.toList,Yak]
  constructor
  ·rintro (h | h | h)
   ·exact .inr (.inl h)
   ·exact .inl h
   ·exact .inr (.inr h)
  ·rintro (h | h | h)
   ·exact .inr (.inl h)
   ·exact .inl h
   ·exact .inr (.inr h)
 have ge:∀ i,i<t.place.size->t.place.getD i 0∈t.place.toList:=fun i hi=>by simp[YbL,hi]
 refine⟨T.msk,?_,T.dm,?_,?_,?_,?_⟩
 ·show (insertAt t.place p j).toList.Pairwise (·<·);rw[Zax,YaN,Ybe];have hr:t.place.toList.Pairwise (·<·):=T.rise;refine⟨hr.take,⟨fun y hy=>?_,hr.drop⟩,fun a ha b hb2=>?_⟩
  ·obtain⟨i,hi,rfl⟩:=Ybl hy;rw[Ybm,Yao] at hi;have h3:=b3 (p+i) (by omega) (by omega);have h4:=ge (p+i) (by omega);rw[YcZ];have e:t.place.getD (p+i) 0=t.place.toList[p+i]'(by simpa using (show p+i<t.place.size by omega)):=by simp[YbL,show p+i<t.place.size by omega]
   rw[<- e];refine Nat.lt_of_le_of_ne h3 fun z=>hn ?_;rw[z];exact h4
  ·obtain⟨i,hi,rfl⟩:=Ybl ha;rw[Yax,Yao] at hi;have h3:=b2 i (by omega);rw[YcB];have e:t.place.getD i 0=t.place.toList[i]'(by simpa using (show i<t.place.size by omega)):=by simp[YbL,show i<t.place.size by omega]
   rw[<- e];rcases Yah.mp hb2 with rfl | hb2
   ·exact h3
   ·obtain⟨i2,hi2,rfl⟩:=Ybl hb2;rw[Ybm,Yao] at hi2;have h5:=b3 (p+i2) (by omega) (by omega);rw[YcZ];have e2:t.place.getD (p+i2) 0=t.place.toList[p+i2]'(by simpa using (show p+i2<t.place.size by omega)):=by simp[YbL,show p+i2<t.place.size by omega]
    rw[<- e2];omega
 ·have hs:=T.sz;rw[<- Yao,<- Yao,Zax,Zax];simp only[Yai,Ybc,Yax,Ybm,Yao];omega
 ·rw[<- Yao,Zax];have hs:=T.sz;simp only[Yai,Ybc,Yax,Ybm,Yao];show _<t.mask*3;omega
 ·intro y hy;rcases (mem' y).mp hy with rfl | hy
  ·show _<=t.mask;omega
  ·exact T.le y hy
 ·intro i j' e h1 h2;have hz:=ZkL h1 h2;rw[Zax,Zax] at hz;rcases ZkJ (show t.place.toList.length=es.toList.length by simpa using T.sz) p j (h,x) _ hz with hz | hz
  ·cases hz;exact⟨n,hJ,fun m hm=>(mem' _).mpr (.inr (hb m hm))⟩
  ·obtain⟨i2,e1,e2⟩:=ZkK hz;obtain⟨n2,a,b⟩:=T.chain i2 j' e e1 e2;exact⟨n2,a,fun m hm=>(mem' _).mpr (.inr (b m hm))⟩
def Occ (ow:Array (Option Nat)) (j:Nat):Prop:=∃ l,ow[j]?=some (some l)
theorem ZiE {ow:Array (Option Nat)}{j:Nat} (hj:j<ow.size):(ow.getD j (some 0)).isNone=true↔ow[j]?=some none:=by
 simp[YbL,hj]
theorem Zku {ow:Array (Option Nat)}{j:Nat} (hj:j<ow.size) (h:¬ (ow.getD j (some 0)).isNone=true):Occ ow j:=by
 rw[ZiE hj] at h
 cases e:ow[j] with
 | none=>exact absurd (by rw[YaK hj,e]) h
 | some l=>exact⟨l,by rw[YaK hj,e]⟩
theorem Ze6 {m:Nat}{h:Int}{ow:Array (Option Nat)} (hs:ow.size=m+1) {k':Nat} (hk':ow[(lpI m h k').1]?=some none):∀ (fuel k n:Nat),Zhe m h n k->(∀ l,l<n->Occ ow (pth m h l).j)->k<=k'->k'<k+fuel ->
  ∃ j N,layClean.free m ow fuel (lpI m h k).1 (lpI m h k).2=some j/\(pth m h N).j=j/\ow[j]?=some none/\∀ l,l<N->Occ ow (pth m h l).j
 | 0,k,n,a,b,h1,h2=>by omega
 | fuel+1,k,n,a,b,h1,h2=>by
  unfold layClean.free
  cases e:(YaT (runEnd m (lpI m h k).1+1 - (lpI m h k).1)).find? fun q=>(ow.getD ((lpI m h k).1+q) (some 0)).isNone with
  | some q=>
   obtain⟨q1,q2,q3⟩:=List.find?_range_eq_some.mp e;have q2:=Ybh.mp q2;have hle:(lpI m h k).1<=runEnd m (lpI m h k).1:=by unfold runEnd;split <;> omega
   have at_:∀ r,r<=q->(pth m h (n+r)).j=(lpI m h k).1+r:=fun r hr=>(Zgq a r (by omega)).1
   have bd:∀ r,r<=q->(lpI m h k).1+r<ow.size:=fun r hr=>by
    rw[hs,<- at_ r hr];exact (Zgc (m:=m) h _).1
   refine⟨_,n+q,rfl,at_ q (Yag _),(ZiE (bd q (Yag _))).mp q1,fun l hl=>?_⟩;rcases Ybf l n with z | z
   ·exact b l z
   ·have:=q3 (l - n) (by omega);rw[show l=n+(l - n) by omega,at_ (l - n) (by omega)];exact Zku (bd _ (by omega)) fun y=>by rw[y] at this;exact absurd this (by decide)
  | none=>
   have e:=List.find?_range_eq_none.mp e;have hle:(lpI m h k).1<=runEnd m (lpI m h k).1:=by unfold runEnd;split <;> omega
   have occr:∀ r,r<=runEnd m (lpI m h k).1 - (lpI m h k).1->Occ ow (pth m h (n+r)).j:=fun r hr=>by
    have h3:=(Zgq a r hr).1
    have h4:=(Zgc (m:=m) h (n+r)).1
    have h5:=e r (by omega);rw[h3] at h4 ⊢;exact Zku (by omega) fun y=>by rw[y] at h5;exact absurd h5 (by decide)
   have hkk:k≠k':=fun z=>by
    subst z;obtain⟨l,hl⟩:=occr 0 (YaR _);rw[Ydk,a.1,hk'] at hl;cases hl
   exact Ze6 hs hk' fuel (k+1) _ (Zgj a) (fun l hl=>by
    rcases Ybf l n with z | z
    ·exact b l z
    ·rw[show l=n+(l - n) by omega];exact occr (l - n) (by omega)) (by omega) (by omega)
structure Own (m:Nat) (hs:List Int) (ow:Array (Option Nat)):Prop where
 sz:ow.size=m+1
 hit:∀ l:Nat,l<hs.length->∃ j:Nat,ow[j]?=some (some l)
 own:∀ (j l:Nat),ow[j]?=some (some l)->∃ h,hs[l]?=some h/\∃ n,(pth m h n).j=j/\∀ q,q<n->Occ ow (pth m h q).j
 inj:∀ (j j' l:Nat),ow[j]?=some (some l)->ow[j']?=some (some l)->j=j'
theorem Own.start (m:Nat):Own m [] (Array.replicate (m+1) none):=by
 refine⟨by simp,fun l h=>absurd h (YbB _),fun j l h=>?_,fun j j' l h=>?_⟩
 ·rw[Yen] at h;split at h <;> simp at h
 ·rw[Yen] at h;split at h <;> simp at h
theorem Own.room {m:Nat}{hs:List Int}{ow:Array (Option Nat)} (O:Own m hs ow) (hl:hs.length<m+1):∃ j:Nat,j<m+1/\ow[j]?=some none:=by
 refine YcK fun z=>?_;have hall:∀ j:Nat,j<m+1->∃ l:Nat,l<hs.length/\ow[j]?=some (some l):=fun j hj=>by
  have hj':j<ow.size:=by rw[O.sz];exact hj
  cases e:ow[j] with
  | none=>exact absurd ⟨j,hj,by rw[YaK hj',e]⟩ z
  | some l=>
   have e2:ow[j]?=some (some l):=by rw[YaK hj',e]
   obtain⟨h,hh,_⟩:=O.own j l e2;exact⟨l,(Yae.mp hh).1,e2⟩
 let f:Nat->Nat:=fun j=>((ow.getD j none).getD 0)
 have fv:∀ j:Nat,j<m+1->ow[j]?=some (some (f j))/\f j<hs.length:=fun j hj=>by
  obtain⟨l,hl,e⟩:=hall j hj;have hj':j<ow.size:=by rw[O.sz];exact hj
  have:f j=l:=by
   show (ow.getD j none).getD 0=l;rw[YaK hj'] at e;have e:=YaF e;simp[YbL,hj',e]
  rw[this];exact⟨e,hl⟩
 have nd:((YaT (m+1)).map f).Nodup:=by
  rw[YcQ,Ya5];refine Yb8 (fun {a b} ha hb hab z=>hab ?_) Yci;have h1:=(fv a (Ybh.mp ha)).1
  have h2:=(fv b (Ybh.mp hb)).1
  rw[<- z] at h2;exact O.inj a b _ h1 h2
 have:=nd.length_le_of_subset (l₂:=YaT hs.length) fun y hy=>by
  obtain⟨j,hj,rfl⟩:=YaW.mp hy;exact Ybh.mpr (fv j (Ybh.mp hj)).2
 rw[Yab,YbY,YbY] at this;omega
theorem Own.step {m:Nat} (hm:Msk m) {hs:List Int}{ow:Array (Option Nat)} (O:Own m hs ow) (hl:hs.length<m+1) (h:Int):∃ j,layClean.free m ow (turns m) (bits h % (m+1)) (bits h)=some j/\Own m (hs++[h]) (ow.setIfInBounds j (some hs.length)):=by
 obtain⟨j0,hj0,e0⟩:=O.room hl;obtain⟨k',hk',ek'⟩:=Zgk hm h j0 hj0;obtain⟨j,N,f1,f2,f3,f4⟩:=Ze6 O.sz (h:=h) (by rw[ek'];exact e0) (turns m) 0 0 ⟨rfl,rfl,rfl,rfl⟩ (fun l hl=>absurd hl (YbB _)) (YaR _) (by omega);have hjs:j<ow.size:=(YaP.mp f3).1
 refine⟨j,f1,?_⟩;have get:∀ i:Nat,(ow.setIfInBounds j (some hs.length))[i]?=if j=i then some (some hs.length) else ow[i]?:=fun i=>by
  rw[Array.getElem?_setIfInBounds];by_cases z:j=i
  ·subst z;rw[if_pos rfl,if_pos hjs,if_pos rfl]
  ·rw[if_neg z,if_neg z]
 have occ':∀ i,Occ ow i->Occ (ow.setIfInBounds j (some hs.length)) i:=fun i ⟨l,e⟩=>by
  by_cases z:j=i
  ·exact⟨hs.length,by rw[get,if_pos z]⟩
  ·exact⟨l,by rw[get,if_neg z];exact e⟩
 refine⟨by rw[Array.size_setIfInBounds];exact O.sz,fun l hl2=>?_,fun i l hi=>?_,fun i i' l h1 h2=>?_⟩
 ·rw[Yai] at hl2;by_cases z:l=hs.length
  ·exact⟨j,by rw[get,if_pos rfl,z]⟩
  ·obtain⟨i,hi⟩:=O.hit l (by simp at hl2;omega);refine⟨i,?_⟩;rw[get,if_neg fun y=>?_]
   ·exact hi
   ·subst y;rw[f3] at hi;cases hi
 ·rw[get] at hi;by_cases z:j=i
  ·rw[if_pos z] at hi;cases hi;exact⟨h,by simp,N,by rw[f2,z],fun q hq=>occ' _ (f4 q hq)⟩
  ·rw[if_neg z] at hi;obtain⟨h',hh,n,a,b⟩:=O.own i l hi;refine⟨h',?_,n,a,fun q hq=>occ' _ (b q hq)⟩;rw[Ya4 (Yae.mp hh).1];exact hh
 ·have lt:∀ i:Nat,ow[i]?=some (some l)->l<hs.length:=fun i hi=>by
   obtain⟨h',hh,_⟩:=O.own i l hi;exact (Yae.mp hh).1
  rw[get] at h1 h2;by_cases z:j=i
  ·rw[if_pos z] at h1;cases h1;by_cases z2:j=i'
   ·exact z.symm.trans z2
   ·rw[if_neg z2] at h2;exact absurd (lt _ h2) (Ybt _)
  ·rw[if_neg z] at h1;by_cases z2:j=i'
   ·rw[if_pos z2] at h2;cases h2;exact absurd (lt _ h1) (Ybt _)
   ·rw[if_neg z2] at h2;exact O.inj i i' l h1 h2
theorem Zdd {m:Nat} (hm:Msk m):∀ (rest hs:List Int) (ow:Array (Option Nat)),Own m hs ow->hs.length+rest.length<m+1 ->
  ∃ ow',(rest.foldl (fun acc h=>do
    let __x <- acc
    match __x with
     | (owner,k)=>do
      let j <- layClean.free m owner (turns m) (bits h % (m+1)) (bits h)
      pure (owner.setIfInBounds j (some k),k+1)) (some (ow,hs.length)))=some (ow',hs.length+rest.length)/\Own m (hs++rest) ow'
 | [],hs,ow,O,h=>⟨ow,rfl,by rw[YbA];exact O⟩
 | x::rest,hs,ow,O,h=>by
  rw[Ybc] at h;obtain⟨j,f,O'⟩:=O.step hm (by omega) x;obtain⟨ow',e,O2⟩:=Zdd hm rest (hs++[x]) _ O' (by rw[Yai];simp;omega);refine⟨ow',?_,by simpa using O2⟩;rw[Yd2];have:(do
    let __x <- (some (ow,hs.length):Option (Array (Option Nat) × Nat))
    match __x with
     | (owner,k)=>do
      let j <- layClean.free m owner (turns m) (bits x % (m+1)) (bits x)
      pure (owner.setIfInBounds j (some k),k+1))=some (ow.setIfInBounds j (some hs.length),(hs++[x]).length):=by
   show (layClean.free m ow (turns m) (bits x % (m+1)) (bits x) >>= fun j=>pure (ow.setIfInBounds j (some hs.length),hs.length+1))=_;rw[f];simp
  rw[this,e];simp;omega
theorem Zj6 {m:Nat} (hm:Msk m) {hashes:Array Int} (hl:hashes.size<m+1):∃ ow,layClean m hashes=some ow/\Own m hashes.toList ow:=by
 obtain⟨ow,e,O⟩:=Zdd hm hashes.toList [] _ (Own.start m) (by simpa using hl);refine⟨ow,?_,by simpa using O⟩;unfold layClean;rw[<- Array.foldl_toList];have e':=e;rw[List.length_nil] at e';rw[e'];rfl
end StT
namespace StT
open PySem PySem.SetTable
theorem Zb1 {α β:Type}{f:α->Option β}{g:α->β}:∀ {l:List α},(∀ x∈l,f x=some (g x))->l.filterMap f=l.map g
 | [],_=>rfl
 | x::l,h=>by rw[Ybo,h x YaC,YaV,Zb1 fun y hy=>h y (Yap _ hy)]
def Za4 (m:Nat) (ow:Array (Option Nat)):List (Nat × Nat):=(YaT (m+1)).filterMap fun j=>(ow.getD j none).map fun x=>(j,x)
theorem Zby {m:Nat}{hs:List Int}{ow:Array (Option Nat)} (O:Own m hs ow) (j l:Nat):(j,l)∈Za4 m ow↔ow[j]?=some (some l):=by
 unfold Za4;rw[Ydv];constructor
 ·rintro⟨i,hi,e⟩;have hi:=Ybh.mp hi;have hi':i<ow.size:=by rw[O.sz];exact hi
  cases q:ow[i] with
  | none=>simp[YbL,hi',q] at e
  | some x=>
   simp[YbL,hi',q] at e;obtain⟨rfl,rfl⟩:=e;rw[YaK hi',q]
 ·intro h;have hi:j<ow.size:=(YaP.mp h).1
  refine⟨j,Ybh.mpr (by rw[<- O.sz];exact hi),?_⟩;have:ow[j]=some l:=(YaP.mp h).2
  simp[YbL,hi,this]
theorem ZeY {m:Nat}{ow:Array (Option Nat)}:(Za4 m ow).Pairwise fun a b=>a.1<b.1:=by
 refine List.Pairwise.filterMap _ (fun a b hab x hx y hy=>?_) (List.pairwise_lt_range (n:=m+1))
 cases ha:ow.getD a none with
 | none=>rw[ha] at hx;simp at hx
 | some u=>
  cases hb:ow.getD b none with
  | none=>rw[hb] at hy;simp at hy
  | some v=>
   rw[ha] at hx;rw[hb] at hy;simp at hx hy;rw[<- hx,<- hy];exact hab
theorem Zim {m:Nat}{hs:List Int}{ow:Array (Option Nat)} (O:Own m hs ow):((Za4 m ow).map (·.2)).Perm (YaT hs.length):=by
 refine (Yec ?_ Yci).mpr fun l=>?_
 ·rw[YcQ,Ya5];refine Yb8 (fun {a b} ha hb hab z=>?_) (ZeY (m:=m) (ow:=ow));have h1:=(Zby O a.1 a.2).mp ha;have h2:=(Zby O b.1 b.2).mp hb;rw[<- z] at h2;have:=O.inj a.1 b.1 _ h1 h2;omega
 ·rw[Ybh];constructor
  ·intro h;obtain⟨q,hq,rfl⟩:=YaW.mp h;obtain⟨h',hh,_⟩:=O.own q.1 q.2 ((Zby O q.1 q.2).mp hq);exact (Yae.mp hh).1
  ·intro h;obtain⟨j,hj⟩:=O.hit l h;exact YaW.mpr ⟨(j,l),(Zby O j l).mpr hj,rfl⟩
theorem Zlr {m fi mv:Nat}{led pl:Bool} (hm:Msk m) {es:Array (Int × Value)} (hf:es.size*5<m*3) :
  ∃ t' order,laid m fi mv led pl (es.map (·.1))=some (t',order)/\t'.led=led/\t'.plain=pl/\(order.filterMap (es[·]?)).size=es.size/\Tab t' (order.filterMap (es[·]?))/\(order.filterMap (es[·]?)).toList.Perm es.toList:=by
 have hml:7<=m:=by rcases hm with h | h | h | h | h <;> omega
 obtain⟨ow,e,O⟩:=Zj6 hm (hashes:=es.map (·.1)) (by rw[Array.size_map];omega);have hlen:((es.map (·.1)).toList).length=es.size:=by simp
 have hperm:=Zim O;rw[hlen] at hperm;have hlt:∀ q∈Za4 m ow,q.2<es.size:=fun q hq=>by
  have:=hperm.mem_iff.mp (YaW.mpr ⟨q,hq,rfl⟩);exact Ybh.mp this
 have eo:((((Za4 m ow).map (·.2)).toArray).filterMap (es[·]?)).toList=(Za4 m ow).map fun q=>es.getD q.2 default:=by
  rw[Array.toList_filterMap];show ((Za4 m ow).map (·.2)).filterMap (es[·]?)=_;rw[YcT];refine Zb1 fun q hq=>?_;have:=hlt q hq;show es[q.2]?=some (es.getD q.2 default);simp[YbL,this]
 have esz:((((Za4 m ow).map (·.2)).toArray).filterMap (es[·]?)).size=es.size:=by
  rw[<- Yao,eo,Yab];have:=hperm.length_eq
  rwa [Yab,YbY] at this
 refine⟨{ mask:=m,place:=((Za4 m ow).map (·.1)).toArray,dummies:=#[],finger:=fi,led:=led,moves:=mv,plain:=pl },((Za4 m ow).map (·.2)).toArray,?_,rfl,rfl,esz,?_,?_⟩
 ·unfold laid;rw[e];rfl
 ·have pl':((Za4 m ow).map (·.1)).toArray.toList=(Za4 m ow).map (·.1):=rfl;have occ_in:∀ j,Occ ow j->j∈(Za4 m ow).map (·.1):=fun j ⟨l,hl⟩=>YaW.mpr ⟨(j,l),(Zby O j l).mpr hl,rfl⟩;refine⟨hm,?_,rfl,?_,?_,?_,?_⟩
  ·show ((Za4 m ow).map (·.1)).Pairwise (·<·);rw[Ya5];exact ZeY
  ·show ((Za4 m ow).map (·.1)).toArray.size=_;rw[esz];have:=hperm.length_eq;rw[Yab,YbY] at this;simp[this]
  ·rw[esz];exact hf
  ·intro j hj;obtain⟨q,hq,rfl⟩:=YaW.mp (show j∈(Za4 m ow).map (·.1) from hj);have:=(YaP.mp ((Zby O q.1 q.2).mp hq)).1
   rw[O.sz] at this;show q.1<=m;omega
  ·intro i j x h1 h2;have h1':((Za4 m ow).map (·.1))[i]?=some j:=by
    rw[<- Yaf] at h1;exact h1
   rw[<- Yaf,eo,Yam] at h2;rw[Yam] at h1'
   cases hq:(Za4 m ow)[i]? with
   | none=>rw[hq] at h1';cases h1'
   | some q=>
    rw[hq] at h1' h2;cases h1';cases h2;have hqm:=Yaw hq;obtain⟨h',hh,n,a,b⟩:=O.own q.1 q.2 ((Zby O q.1 q.2).mp hqm);have hq2:=hlt q hqm;have eh:(es.getD q.2 default).1=h':=by
     have:(es.map (·.1)).toList[q.2]?=some (es.getD q.2 default).1:=by simp[YbL,hq2]
     rw[hh] at this;exact (YaF this).symm
    rw[eh];exact⟨n,a,fun r hr=>occ_in _ (b r hr)⟩
 ·rw[eo];have h1:((YaT es.size).map fun l=>es.getD l default)=es.toList:=by
   refine Ybq (by simp) fun i h1 h2=>?_;have:i<es.size:=by simpa using h1
   simp[YbL,this]
  have h2:=hperm.map fun l=>es.getD l default;rw[Ydf,h1] at h2;exact h2
theorem Zlw {m n:Nat} (hm:Msk m) (h:n*5<m*3) (h4:n<=500) (hf:(n+1)*5 ≥ m*3):Msk (sizeAbove (grown (n+1)) - 1)/\(n+1)*5<(sizeAbove (grown (n+1)) - 1)*3/\sizeAbove (grown (n+1))<=4096:=by
 rcases hm with rfl | rfl | rfl | rfl | rfl
 ·obtain rfl:n=4:=by omega
  exact⟨.inr (.inl rfl),by decide,by decide⟩
 ·obtain rfl:n=18:=by omega
  exact⟨.inr (.inr (.inl rfl)),by decide,by decide⟩
 ·obtain rfl:n=76:=by omega
  exact⟨.inr (.inr (.inr (.inl rfl))),by decide,by decide⟩
 ·obtain rfl:n=306:=by omega
  exact⟨.inr (.inr (.inr (.inr rfl))),by decide +kernel,by decide +kernel⟩
 ·omega
end StT
namespace StT
open PySem PySem.SetTable PySem.Spec
section
variable {prog:Program}{w:World}{A:Around}{E:Value->Shared->Prop}{s:Shared}
abbrev TKey (prog:Program) (w:World) (h:Heap) (k:List Int) (b:Addr):Prop:=IsTupleKey (intKind prog w) h k b
abbrev Zav (prog:Program) (w:World) (k:List Int):Int:=tupleKeyHash (intKind prog w) k
theorem ZiY (n:Nat) (i:Int) (t:Tok):ofAClassStatement n (.int i t)=pure false:=by cases n <;> rfl
theorem Zey {ks:List Int}{vs:List Value} (h:ItemsAre (intKind prog w) ks vs):∀ v∈vs,∃ i t,v=.int i t:=by
 induction h with
 | nil=>intro v hv;simp at hv
 | @cons k v' ks vs h1 _ ih=>
  intro v hv;rcases Yah.mp hv with rfl | hv
  ·cases v with
   | int i t=>exact⟨i,t,rfl⟩
   | _=>exact absurd h1 (by intro z;cases z)
  ·exact ih v hv
theorem Zdl {k:List Int}{b:Addr}{Q:Bool->Shared->Prop} (hk:TKey prog w s.heap k b) (h:Q false s):wpAny (model prog w) A (ofAClassStatement 8 (.ref b)) Q E s:=by
 have hT:=hk.typeIs;obtain⟨o,items,n,ho,_,hd,hi⟩:=hk;have hii:=Zey hi;unfold ofAClassStatement;refine wpAny_bind (wpAny_typeOf hT ?_);show wpAny _ _ ((if ("tuple" == "tuple")=true then pure true else isSubtype (.type "tuple") (.type "tuple")) >>= _) _ _ s;rw[if_pos (by decide)];refine wpAny_bind (wpAny_pure ?_);simp only[YbW,Yar,if_false];refine wpAny_bind (wpAny_seqItems ho hd ?_);show wpAny _ _ (forIn items _ _ >>= _) _ _ s;rw[<- Ye1];refine wpAny_bind (wpAny_forIn_list _ (fun rest r s'=>r.1=none/\s'=s/\∀ v∈rest,∃ i t,v=.int i t) _ ?_ ?_ _ _ ⟨rfl,rfl,hii⟩)
 ·rintro v rest r s' ⟨hr,rfl,hall⟩;obtain⟨i,t,rfl⟩:=hall v YaC;rw[ZiY];refine wpAny_bind (wpAny_pure ?_);simp only[Yar,if_false];exact wpAny_pure ⟨rfl,rfl,fun u hu=>hall u (Yap _ hu)⟩
 ·rintro⟨r1,r2⟩ s' ⟨hr,rfl,_⟩;simp only at hr;subst hr;exact wpAny_pure h
theorem ZjO {k0:List Int}{b0:Addr}{ys:List Value}{Q:Bool->Shared->Prop} (h0:TKey prog w s.heap k0 b0) (hy:∀ y∈ys,∃ k b,y=.ref b/\TKey prog w s.heap k b) (h:Q false s) :
  wpAny (model prog w) A (searchCouldBeSeen (.ref b0) ys) Q E s:=by
 unfold searchCouldBeSeen;refine wpAny_bind (wpAny_forIn_list _ (fun rest r s'=>r.1=none/\s'=s/\∀ y∈rest,∃ k b,y=.ref b/\TKey prog w s.heap k b) _ ?_ ?_ _ _ ⟨rfl,rfl,hy⟩)
 ·rintro y rest r s' ⟨hr,rfl,hall⟩;obtain⟨k,b,rfl,hk⟩:=hall y YaC;have hn:r.1=none/\s'=s'/\∀ y∈rest,∃ k b,y=.ref b/\TKey prog w s'.heap k b:=⟨hr,rfl,fun u hu=>hall u (Yap _ hu)⟩
  dsimp only;split
  ·exact wpAny_pure ⟨rfl,hn.2⟩
  ·refine wpAny_bind (wpAny_eqIsQuiet_tuple h0 ?_);simp only[YbW,Yar,if_false];refine wpAny_bind (wpAny_eqIsQuiet_tuple hk ?_);simp only[YbW,Yar,if_false];refine wpAny_bind (Zdl h0 ?_);simp only[Yar,if_false];refine wpAny_bind (Zdl hk ?_);simp only[Yar,if_false];exact wpAny_pure ⟨rfl,hn.2⟩
 ·rintro⟨r1,r2⟩ s' ⟨hr,rfl,_⟩;simp only at hr;subst hr;exact wpAny_pure h
theorem Zlv (n:Nat) (i:Int) (t:Tok):hashByValue n (.int i t)=pure true:=by cases n <;> rfl
theorem Zj8 {k:List Int}{b:Addr}{Q:Bool->Shared->Prop} (hk:TKey prog w s.heap k b) (h:Q true s):wpAny (model prog w) A (hashByValue 8 (.ref b)) Q E s:=by
 have hT:=hk.typeIs;obtain⟨o,items,n,ho,_,hd,hi⟩:=hk;have hii:=Zey hi;unfold hashByValue;refine wpAny_bind (wpAny_specialOf hT F.slot_tuple_hash.lookup ?_);show wpAny _ _ (seqItems? (.ref b) >>= _) _ _ s;refine wpAny_bind (wpAny_seqItems ho hd ?_);show wpAny _ _ (forIn items _ _ >>= _) _ _ s;rw[<- Ye1];refine wpAny_bind (wpAny_forIn_list _ (fun rest r s'=>r.1=none/\s'=s/\∀ v∈rest,∃ i t,v=.int i t) _ ?_ ?_ _ _ ⟨rfl,rfl,hii⟩)
 ·rintro v rest r s' ⟨hr,rfl,hall⟩;obtain⟨i,t,rfl⟩:=hall v YaC;rw[Zlv];refine wpAny_bind (wpAny_pure ?_);simp only[YbW,Yar,if_false];exact wpAny_pure ⟨rfl,rfl,fun u hu=>hall u (Yap _ hu)⟩
 ·rintro⟨r1,r2⟩ s' ⟨hr,rfl,_⟩;simp only at hr;subst hr;exact wpAny_pure h
end
end StT
namespace StT
open PySem PySem.SetTable PySem.Spec
def hAt (es:Array (Int × Value)) (i:Nat):Int:=(es[i]?.map (·.1)).getD 0
theorem Zjg (a:Addr) (x:Value) (h:Int) (adding:Bool) (fuel:Nat) (stand:Option Probe):setSearchFrom a x h adding (fuel+1) stand=(do
  let (es,_,t) <- setState a
  if t.gaveWay then unsupported "set:on-a-table-that-gave-way"
  let some met:=t.probe (hAt es) h (stand.getD (t.probeStart h)) | unsupported "internal:set-table-without-an-empty-slot"
  match met with
  | .empty j dummy=>
   match dummy with
   | none=>return .free j false
   | some d=>
    if adding && t.slot d != .dummy then rule "set.search.the-dummy-was-taken";return <- setSearchFrom a x h adding fuel none
    return .free d true
  | .candidate j i next=>
   if !t.led then
    if <- searchCouldBeSeen x ((es.filter (·.1 == h)).toList.map (·.2)) then unsupported "set:the-search-would-show-the-table"
   let some (_,y):=es[i]? | unsupported "internal:set-entry"
   let equal <- holding [y] (eqBool y x)
   let (es',_,t') <- setState a
   if adding && equal then return .there none
   let some same:=t'.sameMemory t.moves t.mask | unsupported "set.changed-during-lookup:is-the-new-block-at-the-old-address"
   let still <- match (if same then t'.slot j else .empty) with
    | .live i'=>match es'[i']? with
     | some (_,y')=>do pure (if <- isSame y' y then some i' else none)
     | none=>pure none
    | _=>pure none
   match still with
   | none=>rule "set.search.anew";setSearchFrom a x h adding fuel none
   | some i'=>if equal then return .there (some i') else setSearchFrom a x h adding fuel (some next)):=rfl
structure Held (prog:Program) (w:World) (h:Heap) (es:Array (Int × Value)) (L:List (List Int × Addr)):Prop where
 es:es.toList=L.map fun q=>(Zav prog w q.1,YaL q.2)
 key:∀ q∈L,TKey prog w h q.1 q.2
theorem Held.get {prog:Program}{w:World}{h:Heap}{es:Array (Int × Value)}{L:List (List Int × Addr)} (X:Held prog w h es L) {i:Nat}{e:Int × Value} (he:es[i]?=some e):∃ q,L[i]?=some q/\e=(Zav prog w q.1,YaL q.2)/\TKey prog w h q.1 q.2:=by
 rw[<- Yaf,X.es,Yam] at he
 cases hq:L[i]? with
 | none=>rw[hq] at he;cases he
 | some q=>rw[hq] at he;exact⟨q,rfl,(YaF he).symm,X.key q (Yaw hq)⟩
theorem Held.at {prog:Program}{w:World}{h:Heap}{es:Array (Int × Value)}{L:List (List Int × Addr)} (X:Held prog w h es L) {i:Nat}{q:List Int × Addr} (hq:L[i]?=some q):es[i]?=some (Zav prog w q.1,YaL q.2):=by
 rw[<- Yaf,X.es,Yam,hq];rfl
section
variable {prog:Program}{w:World}{A:Around}{E:Value->Shared->Prop}{s:Shared}
theorem Zkl {a:Addr}{o:Obj}{es:Array (Int × Value)}{ep:Nat}{t:SetTable}{L:List (List Int × Addr)}{k0:List Int}{b0:Addr} (hu:A.units<cLine)
  (ho:s.heap.get? a=some o) (hd:o.data=.set es ep t) (T:Tab t es) (X:Held prog w s.heap es L) (h0:TKey prog w s.heap k0 b0) {N:Nat} (hN:(pth t.mask (Zav prog w k0) N).j ∉ t.place.toList) (hb:∀ m,m<N->(pth t.mask (Zav prog w k0) m).j∈t.place.toList) (hlt:N<10*turns t.mask) {Q:SetFound->Shared->Prop}
  (qA:(∀ q∈L,q.1≠k0)->Q (.free (pth t.mask (Zav prog w k0) N).j false) s) (qB:(∃ q∈L,q.1=k0)->Q (.there none) s) :
  ∀ (fuel n:Nat) (stand:Option Probe),stand.getD (t.probeStart (Zav prog w k0))=pth t.mask (Zav prog w k0) n->n<=N->N - n<fuel->(∀ l,l<n->∀ (i:Nat) q,t.place[i]?=some (pth t.mask (Zav prog w k0) l).j->L[i]?=some q->q.1≠k0) ->
   wpAny (model prog w) A (setSearchFrom a (.ref b0) (Zav prog w k0) true fuel stand) Q E s
 | 0,n,stand,_,_,hf,_=>by omega
 | fuel+1,n,stand,hst,hnN,hf,hinv=>by
  rw[Zjg];refine wpAny_bind (wpAny_setState_of ho hd T.fits ?_);dsimp only;rw[T.odd];simp only[Yar,if_false];rw[hst];obtain⟨m,m1,m2,m3,m4⟩:=Zgd T.rise T.dm (hAt es) (Zav prog w k0) hN (10*turns t.mask) n hnN (by omega);have at_:∀ (i:Nat) j,t.place[i]?=some j->∃ q,L[i]?=some q/\hAt es i=Zav prog w q.1/\es[i]?=some (Zav prog w q.1,YaL q.2)/\TKey prog w s.heap q.1 q.2:=fun i j hi=>by
   have hil:i<es.size:=by rw[<- T.sz];exact (YaP.mp hi).1
   obtain⟨q,hq,e,hk⟩:=X.get (YaK hil);refine⟨q,hq,?_,?_,hk⟩
   ·unfold hAt;rw[YaK hil,e];rfl
   ·rw[YaK hil,e]
  have hinv2:∀ l,l<m->∀ (i:Nat) q,t.place[i]?=some (pth t.mask (Zav prog w k0) l).j->L[i]?=some q->q.1≠k0:=fun l hl i q hi hq=>by
   rcases Ybf l n with z | z
   ·exact hinv l z i q hi hq
   ·intro e;obtain⟨q',hq',hh,_⟩:=at_ i _ hi;rw[hq] at hq';cases hq';exact m3 l z hl i hi (by rw[hh,e])
  unfold SetTable.probe;rcases m4 with ⟨hn,e⟩ | ⟨i,hi,hh,hmN,e⟩
  ·rw[e];dsimp only;have hmN:m=N:=by
    rcases Ybf m N with z | z
    ·exact absurd (hb m z) hn
    ·omega
   subst hmN;refine wpAny_pure (qA fun q hq e=>?_);obtain⟨i,hi⟩:=YbU.mp hq;have hes:=X.at hi;have hil:i<t.place.size:=by rw[T.sz];exact (YaP.mp hes).1
   have hpl:=YaK hil;obtain⟨n2,c1,c2⟩:=T.chain i _ _ hpl hes;dsimp only at c1 c2;rw[e] at c1 c2;have hn2:n2<m:=by
    rcases Ybf n2 m with z | z
    ·exact z
    ·rcases Ybf m n2 with y | y
     ·exact absurd (c2 m y) hn
     ·have:n2=m:=by omega
      subst this;exact absurd (show (pth t.mask (Zav prog w k0) n2).j∈t.place.toList by rw[c1];simp) hn
   exact hinv2 n2 hn2 i q (by rw[hpl,c1]) hi e
  ·rw[e];dsimp only;obtain⟨q,hq,_,hes,hk⟩:=at_ i _ hi;have main:wpAny (model prog w) A (do
     let some (_,y):=es[i]? | unsupported "internal:set-entry"
     let equal <- holding [y] (eqBool y (.ref b0))
     let (es',_,t') <- setState a
     if true && equal then return Ye3 none
     let some same:=t'.sameMemory t.moves t.mask | unsupported "set.changed-during-lookup:is-the-new-block-at-the-old-address"
     let still <- match (if same then t'.slot (pth t.mask (Zav prog w k0) m).j else .empty) with
      | .live i'=>match es'[i']? with
       | some (_,y')=>do pure (if <- isSame y' y then some i' else none)
       | none=>pure none
      | _=>pure none
     match still with
     | none=>rule "set.search.anew";setSearchFrom a (.ref b0) (Zav prog w k0) true fuel none
     | some i'=>if equal then return Ye3 (some i') else setSearchFrom a (.ref b0) (Zav prog w k0) true fuel (some (pth t.mask (Zav prog w k0) (m+1)))) Q E s:=by
    rw[hes];dsimp only;refine wpAny_bind (wpAny_holding (wpAny_eqBool_tuple hu hk h0 ?_));refine wpAny_bind (wpAny_setState_of ho hd T.fits ?_);dsimp only;by_cases hkk:q.1=k0
    ·rw[decide_eq_true hkk];simp only[Bool.and_self,if_true];exact wpAny_pure (qB ⟨q,Yaw hq,hkk⟩)
    ·rw[decide_eq_false hkk];simp only[Ydo,Yar,if_false];have hsm:t.sameMemory t.moves t.mask=some true:=by unfold SetTable.sameMemory;simp
     rw[hsm];dsimp only;rw[if_pos rfl,ZeK T.rise hi];dsimp only;rw[hes];dsimp only;have hsame:isSame (.ref q.2) (.ref q.2)=pure true:=by unfold isSame;simp
     rw[hsame];refine wpAny_bind (wpAny_bind (wpAny_pure (wpAny_pure ?_)));simp only[if_true];refine Zkl hu ho hd T X h0 hN hb hlt qA qB fuel (m+1) _ rfl (by omega) (by omega) fun l hl i' q' hi' hq'=>?_;rcases Ybf l m with z | z
     ·exact hinv2 l z i' q' hi' hq'
     ·have:l=m:=by omega
      subst this;have b1:=ZbV T.rise hi;have b2:=ZbV T.rise hi';have:i=i':=by omega
      subst this;rw[hq] at hq';cases hq';exact hkk
   by_cases hl:t.led=true
   ·rw[hl];simp only[YbW,Yar,if_false];exact main
   ·have hl:t.led=false:=by simpa using hl
    rw[hl];simp only[Yem,if_true];refine wpAny_bind (ZjO h0 (fun y hy=>?_) ?_)
    ·obtain⟨e',he',rfl⟩:=YaW.mp hy;have he':e'∈es.toList:=by
      have:=Ydm.mp he';exact Ydm.mpr (Array.mem_filter.mp this).1
     rw[X.es] at he';obtain⟨q',hq',rfl⟩:=YaW.mp he';exact⟨q'.1,q'.2,rfl,X.key q' hq'⟩
    ·simp only[Yar,if_false];exact main
end
end StT
namespace StT
open PySem PySem.SetTable PySem.Spec
def Zl2 (es:Array (Int × Value)) (laid:Option (SetTable × Array Nat)):Sem (Array (Int × Value) × SetTable):=do
 let some (t,order):=laid | unsupported "internal:set-table-without-room"
 let es':=order.filterMap (es[·]?)
 if es'.size != es.size then unsupported "internal:set-table-lost-an-element"
 pure (es',t)
theorem Zjn (a:Addr) (wanted:Nat):setRelay a wanted=(do
  let (es,_,t) <- setState a
  if SetTable.sizeAbove wanted > sizeLine then unsupported "set:memory"
  let (es,t) <- Zl2 es (t.relaid (es.map (·.1)) wanted)
  storeSet a es t):=rfl
def SetT (prog:Program) (w:World) (h:Heap) (a:Addr) (L:List (List Int × Addr)):Prop :=
 ∃ o es ep t,h.get? a=some o/\o.ExactSet/\o.data=.set es ep t/\Tab t es/\Held prog w h es L/\(L.map (·.1)).Nodup
section
variable {prog:Program}{w:World}{A:Around}{E:Value->Shared->Prop}{s:Shared}
theorem Zhn {h h':Heap}{k:List Int}{b a:Addr}{o:Obj}{es:Array (Int × Value)}{ep:Nat}{t:SetTable} (x:TKey prog w h k b) (ho:h.get? a=some o) (hd:o.data=.set es ep t) (hs:Ycs a h h'):TKey prog w h' k b:=by
 obtain⟨o',items,n,ho',hc,hd',hi⟩:=x;have hne:b≠a:=by
  rintro rfl;obtain rfl:o'=o:=YaF (ho'.symm.trans ho);rw[hd] at hd';exact nomatch hd'
 exact⟨o',items,n,(hs.2 b hne).trans ho',hc,hd',hi⟩
theorem Zki {h:Heap}{a:Addr}{o:Obj}{es:Array (Int × Value)}{ep:Nat}{t:SetTable} (ho:h.get? a=some o) (hd:o.data=.set es ep t) (es':Array (Int × Value)) (t':SetTable) :
  (h.update a (Yew es' t')).get? a=some { o with data:=.set es' (ep+1) t' }:=by
 have:=Ydh (Yew es' t') ho (by rw[putSet_of es' t' hd];rfl);rw[putSet_of es' t' hd] at this;exact this
theorem ZiD {h:Heap}{es es':Array (Int × Value)}{L:List (List Int × Addr)} (X:Held prog w h es L) (p:es'.toList.Perm es.toList):∃ L',Held prog w h es' L'/\L'.Perm L:=by
  rw[X.es] at p;obtain⟨L',e,hp⟩:∃ L':List (List Int × Addr),es'.toList=L'.map (fun q=>(Zav prog w q.1,YaL q.2))/\L'.Perm L:=by
    generalize es'.toList=l at p;clear X;have aux:∀ {l m:List (Int × Value)},l.Perm m->∀ L:List (List Int × Addr),m=L.map (fun q=>(Zav prog w q.1,YaL q.2))->∃ L':List (List Int × Addr),l=L'.map (fun q=>(Zav prog w q.1,YaL q.2))/\L'.Perm L:=by
      intro l m h
      induction h with
      | nil=>intro L e;cases L with
        | nil=>exact⟨[],rfl,Ycv _⟩
        | cons _ _=>cases e
      | cons x _ ih=>intro L e;cases L with
        | nil=>cases e
        | cons q L=>
          rw[YaV] at e;obtain⟨e1,e2⟩:=Ydl e;obtain⟨L',a,b⟩:=ih L e2;exact⟨q::L',by rw[YaV,e1,a],b.cons q⟩
      | swap x y l=>intro L e;cases L with
        | nil=>cases e
        | cons q L=>cases L with
          | nil=>cases e
          | cons r L=>
            rw[YaV,YaV] at e;obtain⟨e1,e2⟩:=Ydl e;obtain⟨e3,e4⟩:=Ydl e2;exact⟨r::q::L,by rw[YaV,YaV,e1,e3,e4],Ycu _ _ _⟩
      | trans _ _ ih1 ih2 => intro L e
                             obtain⟨L2,a,b⟩:=ih2 L e;obtain⟨L1,c,d⟩:=ih1 L2 a;exact⟨L1,c,d.trans b⟩
    exact aux p L rfl
  exact⟨L',⟨e,fun q hq=>X.key q (hp.mem_iff.mp hq)⟩,hp⟩
theorem ZjW {h:Heap}{es:Array (Int × Value)}{L:List (List Int × Addr)}{k0:List Int}{b0:Addr} (X:Held prog w h es L) (h0:TKey prog w h k0 b0) (p:Nat):Held prog w h (insertAt es p (Zav prog w k0,.ref b0)) (L.take p++(k0,b0)::L.drop p):=by
 refine⟨?_,fun q hq=>?_⟩
 ·rw[Zax,X.es,Yaz,YaV,Ydw,List.map_drop]
 ·rcases Yak.mp hq with hq | hq
  ·exact X.key q (YbC hq)
  ·rcases Yah.mp hq with rfl | hq
   ·exact h0
   ·exact X.key q (YbN hq)
theorem Ze4 {h h':Heap}{a:Addr}{o:Obj}{es es2:Array (Int × Value)}{ep:Nat}{t:SetTable}{L:List (List Int × Addr)} (X:Held prog w h es2 L) (ho:h.get? a=some o) (hd:o.data=.set es ep t) (hs:Ycs a h h'):Held prog w h' es2 L :=
 ⟨X.es,fun q hq=>Zhn (X.key q hq) ho hd hs⟩
theorem Zhc {a:Addr}{L:List (List Int × Addr)}{k0:List Int}{b0:Addr} (hu:A.units<cLine) (S:SetT prog w s.heap a L) (h0:TKey prog w s.heap k0 b0) (h5:L.length<=500) {Q:Bool->Shared->Prop}
  (h:∀ c h' L',Ycs a s.heap h'->SetT prog w h' a L'->(∀ k,k∈L'.map (·.1)↔k∈L.map (·.1)∨k=k0)->L'.length<=L.length+1->(∀ q∈L',q∈L∨q=(k0,b0))->Q c { s with heap:=h' }) :
  wpAny (model prog w) A (setAddHashed a (.ref b0) (Zav prog w k0)) Q E s:=by
 obtain⟨o,es,ep,t,ho,hex,hd,T,X,nd⟩:=S;have hsz:es.size=L.length:=by rw[<- Yao,X.es,Yab]
 unfold setAddHashed;refine wpAny_holding ?_;show wpAny _ _ (setAddHashedIn a (.ref b0) (Zav prog w k0) (99999+1)) _ _ _;unfold setAddHashedIn;refine wpAny_bind (wpAny_setState_of ho hd T.fits ?_);dsimp only;have hscan:byScan (.ref b0) es=false:=by unfold byScan Value.scannable;simp
 rw[hscan];simp only[Yar,if_false];obtain⟨N,n1,n2,n3⟩:=T.free (Zav prog w k0);refine wpAny_bind ?_;show wpAny _ _ (setSearchFrom a (.ref b0) (Zav prog w k0) true 100000 none) _ _ _;refine Zkl hu ho hd T X h0 n2 n3 n1 (fun hnew=>?_) (fun hold=>?_) 100000 0 none rfl (YaR _) (by have:=T.msk1;unfold turns at n1;omega) (fun l hl=>absurd hl (YbB _))
 ·dsimp only;refine wpAny_bind (wpAny_setState_of ho hd T.fits ?_);dsimp only;have ndk:k0 ∉ L.map (·.1):=fun z=>by
   obtain⟨q,hq,e⟩:=YaW.mp z;exact hnew q hq e
  have X1:=ZjW X h0 (t.put (pth t.mask (Zav prog w k0) N).j).2;generalize hp:(t.put (pth t.mask (Zav prog w k0) N).j).2=p at X1;have nd1:((L.take p++(k0,b0)::L.drop p).map (·.1)).Nodup:=by
   rw[Yaz,YaV];have e:L.map (·.1)=(L.take p).map (·.1)++(L.drop p).map (·.1):=by rw[<- Yaz,YaI]
   rw[e] at nd ndk;obtain⟨d1,d2,d3⟩:=YcY.mp nd;rw[Yak,not_or] at ndk;refine YcY.mpr ⟨d1,Yb7.mpr ⟨ndk.2,d2⟩,fun x hx y hy=>?_⟩;rcases Yah.mp hy with rfl | hy
   ·exact fun z=>ndk.1 (z ▸ hx)
   ·exact d3 x hx y hy
  have mem1:∀ k,k∈(L.take p++(k0,b0)::L.drop p).map (·.1)↔k∈L.map (·.1)∨k=k0:=fun k=>by
   have e:L.map (·.1)=(L.take p).map (·.1)++(L.drop p).map (·.1):=by rw[<- Yaz,YaI]
   rw[e,Yaz,YaV,Yak,Yah,Yak];constructor
   ·rintro (h | h | h)
    ·exact .inl (.inl h)
    ·exact .inr h
    ·exact .inl (.inr h)
   ·rintro ((h | h) | h)
    ·exact .inl h
    ·exact .inr (.inr h)
    ·exact .inr (.inl h)
  have in1:∀ q∈L.take p++(k0,b0)::L.drop p,q∈L∨q=(k0,b0):=fun q hq=>by
   rcases Yak.mp hq with hq | hq
   ·exact .inl (YbC hq)
   ·rcases Yah.mp hq with hq | hq
    ·exact .inr hq
    ·exact .inl (YbN hq)
  have len1:(L.take p++(k0,b0)::L.drop p).length=L.length+1:=by
   rw[Yai,Ybc,Yax,Ybm];omega
  have hm:=T.msk1;have esz:(insertAt es p (Zav prog w k0,YaL b0)).size=es.size+1:=by
   rw[<- Yao,X1.es,Yab,len1,hsz]
  have fin:∀ pl:Bool,wpAny (model prog w) A (do
    storeSet a (insertAt es p (Zav prog w k0,YaL b0)) { (t.put (pth t.mask (Zav prog w k0) N).j).1 with plain:=pl }
    if (!false && ({ (t.put (pth t.mask (Zav prog w k0) N).j).1 with plain:=pl }:SetTable).tooFull)=true then do
     setRelay a (grown (es.size+1))
     pure true
    else pure true) Q E s:=fun pl=>by
   rw[ZhJ T.dm];dsimp only;refine wpAny_bind (wpAny_storeSet_of ho hd ?_ (by rw[esz];have:=T.few;rw[sizeLine_eq];omega));have hsb1:=YcC s.heap a (Yew (insertAt es p (Zav prog w k0,YaL b0)) { t with place:=insertAt t.place (below t.place (pth t.mask (Zav prog w k0) N).j) (pth t.mask (Zav prog w k0) N).j,plain:=pl });have hg1:=Zki ho hd (insertAt es p (Zav prog w k0,YaL b0)) { t with place:=insertAt t.place (below t.place (pth t.mask (Zav prog w k0) N).j) (pth t.mask (Zav prog w k0) N).j,plain:=pl };have hfl:({ t with place:=insertAt t.place (below t.place (pth t.mask (Zav prog w k0) N).j) (pth t.mask (Zav prog w k0) N).j,plain:=pl }:SetTable).tooFull=decide ((es.size+1)*5 ≥ t.mask*3):=by
    unfold SetTable.tooFull YdT;dsimp only;have hpz:(insertAt t.place (below t.place (pth t.mask (Zav prog w k0) N).j) (pth t.mask (Zav prog w k0) N).j).size=es.size+1:=by
     rw[<- Yao,Zax,Yai,Ybc,Yax,Ybm,Yao,T.sz];have:=(ZbU T.rise (pth t.mask (Zav prog w k0) N).j).1
     rw[T.sz] at this;omega
    rw[hpz,T.dm];rfl
   rw[hfl];simp only[Yem,Bool.true_and];by_cases hfull:(es.size+1)*5 ≥ t.mask*3
   ·rw[if_pos (decide_eq_true hfull)];obtain⟨g1,g2,g3⟩:=Zlw T.msk T.few (by omega) hfull;have sz1:=esz;refine wpAny_bind ?_;rw[Zjn];refine wpAny_bind (wpAny_setState_of hg1 rfl ?_ ?_)
    ·unfold Yfc YdT;dsimp only;have hpz:(insertAt t.place (below t.place (pth t.mask (Zav prog w k0) N).j) (pth t.mask (Zav prog w k0) N).j).size=es.size+1:=by
      rw[<- Yao,Zax,Yai,Ybc,Yax,Ybm,Yao,T.sz];have:=(ZbU T.rise (pth t.mask (Zav prog w k0) N).j).1
      rw[T.sz] at this;omega
     rw[hpz,T.dm,esz];have:=T.few;simp;omega
    dsimp only;rw[if_neg (by rw[sizeLine_eq];omega)];obtain⟨t',order,e1,_,_,e2,T',e3⟩:=Zlr (fi:=t.finger) (mv:=({ t with place:=insertAt t.place (below t.place (pth t.mask (Zav prog w k0) N).j) (pth t.mask (Zav prog w k0) N).j,plain:=pl }:SetTable).movedTo (sizeAbove (grown (es.size+1)) - 1)) (led:=t.led) (pl:=pl) g1 (es:=insertAt es p (Zav prog w k0,YaL b0)) (by rw[esz];exact g2);unfold SetTable.relaid;dsimp only;rw[e1];unfold Zl2;dsimp only;have:((order.filterMap ((insertAt es p (Zav prog w k0,YaL b0))[·]?)).size != (insertAt es p (Zav prog w k0,YaL b0)).size)=false:=by simp[e2]
    rw[this];simp only[Yar,if_false];refine wpAny_bind (wpAny_pure ?_);dsimp only;refine wpAny_storeSet_of hg1 rfl ?_ (by rw[e2,esz];have:=T.few;rw[sizeLine_eq];omega);have hg2:=Zki hg1 rfl (order.filterMap ((insertAt es p (Zav prog w k0,YaL b0))[·]?)) t';have hsb2:=hsb1.trans (YcC _ a (Yew (order.filterMap ((insertAt es p (Zav prog w k0,YaL b0))[·]?)) t'));obtain⟨L2,X2,p2⟩:=ZiD X1 e3;refine wpAny_pure (h true _ L2 hsb2 ⟨_,_,_,_,hg2,hex,rfl,T',Ze4 X2 ho hd hsb2,?_⟩ (fun k=>?_) (by rw[p2.length_eq,len1];exact Yag _) fun q hq=>in1 q (p2.mem_iff.mp hq))
    ·exact (p2.map (·.1)).nodup_iff.mpr nd1
    ·rw[(p2.map (·.1)).mem_iff];exact mem1 k
   ·rw[if_neg (by simpa using hfull)];have Tp:=T.put n2 n3 (x:=YaL b0) hfull;rw[hp,ZhJ T.dm] at Tp;dsimp only at Tp;refine wpAny_pure (h true _ _ hsb1 ⟨_,_,_,_,hg1,hex,rfl,⟨Tp.msk,Tp.rise,Tp.dm,Tp.sz,Tp.few,Tp.le,Tp.chain⟩,Ze4 X1 ho hd hsb1,nd1⟩ mem1 (by rw[len1];exact Yag _) in1)
  have plain_eta:∀ x:SetTable,({ x with plain:=x.plain }:SetTable)=x:=fun x=>rfl;by_cases hpl:(t.put (pth t.mask (Zav prog w k0) N).j).1.plain=true
  ·rw[if_pos hpl];refine wpAny_bind (Zj8 h0 ?_);simp only[if_true];exact fin (t.put (pth t.mask (Zav prog w k0) N).j).1.plain
  ·rw[if_neg hpl];refine wpAny_bind (wpAny_pure ?_);simp only[if_true];exact fin (t.put (pth t.mask (Zav prog w k0) N).j).1.plain
 ·dsimp only;refine wpAny_pure ?_;have e:s={ s with heap:=s.heap }:=by cases s;rfl
  rw[e];refine h false s.heap L (Heap.SameBut.refl a s.heap) ⟨o,es,ep,t,ho,hex,hd,T,X,nd⟩ (fun k=>⟨.inl,fun z=>z.elim id fun e=>?_⟩) (Yc3 _) fun q hq=>.inl hq;obtain⟨q,hq,e2⟩:=hold;rw[e,<- e2];exact YaW.mpr ⟨q,hq,rfl⟩
end
end StT
namespace StT
open PySem PySem.SetTable PySem.Spec PyProof.Rows
section
variable {prog:Program}{w:World}{A:Around}{E:Value->Shared->Prop}{s:Shared}
theorem ZbD {h h':Heap}{k:List Int}{b:Addr} (x:TKey prog w h k b) (e:∀ o,h.get? b=some o->h'.get? b=some o):TKey prog w h' k b:=by
 obtain⟨o,items,n,ho,r⟩:=x;exact⟨o,items,n,e _ ho,r⟩
theorem ZeM {h h':Heap}{a:Addr}{L:List (List Int × Addr)} (S:SetT prog w h a L) (e:∀ o,h.get? a=some o->h'.get? a=some o) (k:∀ q∈L,∀ o,h.get? q.2=some o->h'.get? q.2=some o):SetT prog w h' a L:=by
 obtain⟨o,es,ep,t,ho,hex,hd,T,X,nd⟩:=S;exact⟨o,es,ep,t,e _ ho,hex,hd,T,⟨X.es,fun q hq=>ZbD (X.key q hq) (k q hq)⟩,nd⟩
def Keys (key:Nat->List Int) (adr:Nat->Addr) (i:Nat) (L:List (List Int × Addr)):Prop:=(∀ k,k∈L.map (·.1)↔∃ j,j<i/\key j=k)/\L.length<=i/\∀ q∈L,∃ j,q.2=adr j/\j<i
theorem Zmk {R:Result->Shared->Prop}{I:Addr}{fp wr:List Addr}{G:Array GenState->Array GenState->Prop}{n:Nat}{P:Nat->Value->Prop}{St:Nat->Shared->Prop}
  (hu:A.in1.units<cLine) (W:WalksS prog w A.in1 I fp wr G n P St) (S:Addr) (hSf:S ∉ fp) (key:Nat->List Int) (adr:Nat->Addr) (hval:∀ i v,P i v->v=.ref (adr i)) (hadr:∀ i,i<n->adr i ∉ fp/\adr i≠S) (hb:n<=500) :
  ∀ (k i:Nat) (s:Shared) (L:List (List Int × Addr)),n - i=k->i<=n->St i s->SetT prog w s.heap S L->Keys key adr i L->(∀ j,j<n->TKey prog w s.heap (key j) (adr j)) ->
   (∀ s' L',Moved (S::wr) G s s'->SetT prog w s'.heap S L'->Keys key adr n L'->R (.ok (.ret .none)) s') ->
   codeAny (model prog w) A (.builtin "set.update.loop" ⟨[.ref S,.ref I],[]⟩) R s:=by
 have hSw:S ∉ wr:=fun h=>hSf (W.sub _ h);have hsub:∀ b∈wr,b∈S::wr:=fun b hb=>Yap _ hb;have haw:∀ i,i<n->adr i ∉ wr:=fun i hi h=>(hadr i hi).1 (W.sub _ h)
 intro k
 induction k with
 | zero=>
  intro i s L hk hi hst hS hK hT hR;have hin:i=n:=by omega
  subst hin;refine codeAny_builtin F.entry_set_update_loop ?_;rw[YeD F.plain_set_update_loop _];show wpAny _ A.in1 (pyNext (.ref I) >>= _) _ _ s;refine wpAny_bind (W.done s _ _ hst fun s' hm=>?_);show wpAny _ A.in1 (ret YbR) _ _ s';exact wpAny_pure (hR s' L (hm.mono hsub) (ZeM hS (fun o e=>hm.heap S _ hSw e) fun q hq o e=>by
   obtain⟨j,e1,hj⟩:=hK.2.2 q hq;rw[e1] at e ⊢;exact hm.heap _ _ (haw j hj) e) hK)
 | succ k ih=>
  intro i s L hk hi hst hS hK hT hR;have hlt:i<n:=by omega
  refine codeAny_builtin F.entry_set_update_loop ?_;rw[YeD F.plain_set_update_loop _];show wpAny _ A.in1 (pyNext (.ref I) >>= _) _ _ s;refine wpAny_bind (W.item i s _ _ hlt hst fun v s' hP hst' hm=>?_);obtain rfl:=hval i v hP;have hS':SetT prog w s'.heap S L:=ZeM hS (fun o e=>hm.heap S _ hSw e) fun q hq o e=>by
   obtain⟨j,e1,hj⟩:=hK.2.2 q hq;rw[e1] at e ⊢;exact hm.heap _ _ (haw j (by omega)) e
  have hT':∀ j,j<n->TKey prog w s'.heap (key j) (adr j):=fun j hj=>ZbD (hT j hj) fun o e=>hm.heap _ _ (haw j hj) e;show wpAny _ A.in1 (holding [YaL (adr i)] (setAdd S (.ref (adr i))) >>= _) _ _ s';refine wpAny_bind (wpAny_holding ?_);unfold setAdd;refine wpAny_holding ?_;refine wpAny_bind (wpAny_pyHash_tuple hu (hT' i hlt) ?_);refine Zhc (s:={ s' with toks:=s'.toks+((key i).length+1) }) hu hS' (hT' i hlt) (by have:=hK.2.1;omega) fun c h' L' hsb hS2 hmem hlen hin=>?_;have hT2:∀ j,j<n->TKey prog w h' (key j) (adr j):=fun j hj=>ZbD (hT' j hj) fun o e=>by rw[hsb.2 _ (hadr j hj).2];exact e
  have hK2:Keys key adr (i+1) L':=by
   refine⟨fun k=>?_,by have:=hK.2.1;omega,fun q hq=>?_⟩
   ·rw[hmem,hK.1];constructor
    ·rintro (⟨j,hj,e⟩ | e)
     ·exact⟨j,by omega,e⟩
     ·exact⟨i,by omega,e.symm⟩
    ·rintro⟨j,hj,e⟩;by_cases z:j=i
     ·subst z;exact .inr e.symm
     ·exact .inl ⟨j,by omega,e⟩
   ·rcases hin q hq with hq | rfl
    ·obtain⟨j,e1,hj⟩:=hK.2.2 q hq;exact⟨j,e1,by omega⟩
    ·exact⟨i,rfl,Ybu _⟩
  refine wpAny_pure ⟨plainId_quiet F.plain_set_update_loop _,ih (i+1) _ L' (by omega) hlt (W.frame _ s' _ _ hst' (Yc7 _ _) fun b hb o e=>?_) hS2 hK2 hT2 fun s'' L'' hm'' hS'' hK''=>?_⟩
  ·rw[hsb.2 b (fun h:b=S=>hSf (by rw[<- h];exact hb))];exact e
  ·refine hR s'' L'' (Moved.trans W.gtrans ((hm.mono hsub).then_heap (Yc7 _ _) fun b o hb e=>?_) hm'') hS'' hK'';rw[hsb.2 b (fun h:b=S=>hb (by rw[h];exact YaC))];exact e
end
end StT
namespace StT
open PySem PySem.SetTable PySem.Spec PyProof.Rows
theorem Zdn:isSubtype (.type "tuple") (.type "set")=pure false:=by rw[isSubtype_type];kernel_rfl
theorem ZbX:isSubtype (.type "tuple") (.type "frozenset")=pure false:=by rw[isSubtype_type];kernel_rfl
section
variable {prog:Program}{w:World}{A:Around}{E:Value->Shared->Prop}{s:Shared}
theorem Zdu {l:Addr}{items:Array Value}{ks:List (List Int)}{bs:List Addr}{Q:Value->Shared->Prop}
  (hu:A.units+8<cLine) (hh:A.handled=none) (hl:s.heap.IsList l items) (hi:items.toList=bs.map YaL) (hlen:bs.length=ks.length) (h5:ks.length<=500)
  (hk:∀ (i:Nat) b k,bs[i]?=some b->ks[i]?=some k->TKey prog w s.heap k b)
  (h:∀ (h':Heap) (tk:Nat) (L:List (List Int × Addr)),SetT prog w h' s.heap.objs.size L->(∀ k,k∈L.map (·.1)↔k∈ks) ->
   (∀ b o,b<s.heap.objs.size->s.heap.get? b=some o->h'.get? b=some o)->Q (.ref s.heap.objs.size) { s with heap:=h',toks:=tk }) :
  wpAny (model prog w) A (call (.type "set") [.ref l]) Q E s:=by
 obtain⟨c,tl,hmro⟩:=F.called_set.mro;have hmade:=F.called_set.made;have hsub:=F.called_set.sub;refine wpAny_call (codeAny_of_tree ?_);show wpAny _ _ (callAny (.type "set") _) _ _ _;refine wpAny_pure ⟨Ydx _ (by decide +kernel),codeAny_builtin F.entry_type_call ?_⟩;rw[YeV (weight_type_call_type "set" [.ref l] []) rfl];have h1:=F.called_set.notType;have h2:=F.called_set.canCreate;have hct:=F.typeCall_set_1 (.ref l)
 repeat (any_goals (first | assumption | wp_step))
 refine codeAny_mono (code_set_new_1 (.ref l) (E:=E) (Q₁:=fun obj s₁=>∃ led:Bool,obj=.ref s.heap.objs.size/\s₁={ s with heap:=s.heap.push { cls:=.type "set",dict:=none,data:=.set #[] 0 (.fresh 0 0 led) } }) fun led=>⟨led,rfl,rfl⟩) fun r s₁ hr=>?_
 cases r with
 | error e=>exact hr
 | ok fl=>
  cases fl with
  | ret obj=>
   obtain⟨led,rfl,rfl⟩:=hr;have hS:(s.heap.push { cls:=.type "set",dict:=none,data:=.set #[] 0 (.fresh 0 0 led) }).get? s.heap.objs.size=some { cls:=.type "set",dict:=none,data:=.set #[] 0 (.fresh 0 0 led) }:=Yat _ rfl;have hT:Shared.TypeIs { s with heap:=s.heap.push { cls:=.type "set",dict:=none,data:=.set #[] 0 (.fresh 0 0 led) } } (.ref s.heap.objs.size) "set":=⟨_,hS,rfl⟩
   have hli:=F.called_set.init.lookup;have hbi:=F.called_set.init.bind (.ref s.heap.objs.size)
   repeat (any_goals (first | assumption | wp_step))
   refine codeAny_mono (codeAny_call_builtin (R:=wants (fun r s₂=>r=.none/\∃ h' tk,s₂={ s with heap:=h',toks:=tk } /\
     (∃ L,SetT prog w h' s.heap.objs.size L/\(∀ k,k∈L.map (·.1)↔k∈ks)) /\
     (∀ b o,b<s.heap.objs.size->s.heap.get? b=some o->h'.get? b=some o)) E) F.called_set.init.plain F.entry_set_init (check_set_init_1 hT ?_)) fun r₂ s₂ hr₂=>?_
   ·obtain⟨ol,hol,hcl,nl,hdl⟩:=hl;obtain⟨ocls,odict,odata,oslots⟩:=ol;simp only at hcl hdl;subst hcl;subst hdl;have hol':(s.heap.push { cls:=.type "set",dict:=none,data:=.set #[] 0 (.fresh 0 0 led) }).get? l=some { cls:=.type "list",dict:=odict,data:=.seq items nl,slots:=oslots }:=Yad _ hol;have hsls:=F.sub_list_set;have hslf:=F.sub_list_frozenset;have hne:(Yck "list" == Yck "dict")=false:=by decide
    have hl1:(s.heap.push { cls:=.type "set",dict:=none,data:=.set #[] 0 (.fresh 0 0 led) }).IsList l items:=⟨_,hol',rfl,nl,rfl⟩
    unfold Builtin.«set.__init__» noKeywords Yc9;generalize hPI:pyIter=PI
    wp_walk
    subst hPI;refine wpAny_pyIter_list hl1 ?_;refine wpAny_bind (wpAny_runValue ?_);have hlS:l<s.heap.objs.size:=Yaj hol;have hh3:A.in1.in1.in1.handled=none:=by simp[hh]
    have hneI:l≠(s.heap.push { cls:=.type "set",dict:=none,data:=.set #[] 0 (.fresh 0 0 led) }).objs.size:=by
     rw[YaZ];exact YaB (YbE hlS)
    have hSf:s.heap.objs.size ∉ [(s.heap.push { cls:=.type "set",dict:=none,data:=.set #[] 0 (.fresh 0 0 led) }).objs.size,l]:=by
     rw[YaZ];simp only[Yah,YaG,Ybb,or_false,not_or];exact⟨YaB (Ybu _),YbO hlS⟩
    have hsz:items.size=bs.length:=by rw[<- Yao,hi,Yab]
    have hval:∀ (i:Nat) (v:Value),items[i]?=some v->v=.ref ((fun i=>bs.getD i 0) i):=fun i v hv=>by
     rw[<- Yaf,hi,Yam] at hv
     cases e:bs[i]? with
     | none=>rw[e] at hv;cases hv
     | some b=>rw[e] at hv;cases hv;simp[Yc0,e]
    have hat:∀ i,i<items.size->∃ b k,bs[i]?=some b/\ks[i]?=some k/\bs.getD i 0=b/\ks.getD i []=k/\TKey prog w s.heap k b:=fun i h=>by
     have h1:i<bs.length:=by omega
     have h2:i<ks.length:=by omega
     exact⟨bs[i],ks[i],Yaa h1,Yaa h2,by simp[Yc0,h1],by simp[Yc0,h2],hk i _ _ (Yaa h1) (Yaa h2)⟩
    have hold:∀ b k,TKey prog w s.heap k b->b<s.heap.objs.size/\TKey prog w ((s.heap.push { cls:=.type "set",dict:=none,data:=.set #[] 0 (.fresh 0 0 led) }).push { cls:=.type "list_iterator",data:=.fields #[.ref l,.int 0 0] }) k b:=fun b k x=>by
     refine⟨?_,ZbD x fun o e=>Yad _ (Yad _ e)⟩;obtain⟨o,_,_,ho,_⟩:=x;exact Yaj ho
    have hget:((s.heap.push { cls:=.type "set",dict:=none,data:=.set #[] 0 (.fresh 0 0 led) }).push { cls:=.type "list_iterator",data:=.fields #[.ref l,.int 0 0] }).get? s.heap.objs.size
      = some { cls:=.type "set",dict:=none,data:=.set #[] 0 (.fresh 0 0 led) }:=Yad _ hS
    refine Zmk (by show A.units+1+1+1<cLine;omega) ((Ye2 hh3 _ l hneI items).toS) s.heap.objs.size
     hSf (fun i=>ks.getD i []) (fun i=>bs.getD i 0) hval (fun i h=>?hadr) (by omega) (items.size - 0) 0 _ [] (by omega) (YaR _)
     ⟨⟨_,Yat _ rfl,rfl,rfl⟩,(hl1.push _)⟩ ?hS0 ⟨fun k=>by simp,Yag _,fun q hq=>by simp at hq⟩ (fun j hj=>?hTK) ?hR
    case hadr=>
     obtain⟨b,k,e1,e2,e3,e4,x⟩:=hat i h;obtain⟨hlt,_⟩:=hold b k x;rw[e3];have hbl:b≠l:=fun z=>by
      obtain⟨o,its,n,ho,hc,hd,hii⟩:=x;subst z;rw[hol] at ho;cases ho;simp at hc
     refine⟨?_,YaB hlt⟩;rw[YaZ];simp only[Yah,YaG,Ybb,or_false,not_or];exact⟨YaB (YbE hlt),hbl⟩
    case hTK=>
     obtain⟨b,k,e1,e2,e3,e4,x⟩:=hat j hj;dsimp only;rw[e3,e4];exact (hold b k x).2
    case hS0=>
     refine⟨_,#[],0,_,hget,⟨rfl,rfl,rfl⟩,rfl,⟨.inl rfl,YbK,rfl,rfl,by show 0*5<7*3;decide,fun j hj=>by simp[Yda] at hj,fun i j e h1=>by simp[Yda] at h1⟩,⟨rfl,fun q hq=>by simp at hq⟩,YcW⟩
    case hR=>
     intro s' L' hm hS' hK';obtain⟨h',g',d',tk',os'⟩:=s';have eg:g'=s.gens:=hm.gens;have ed:d'=s.drawn:=hm.drawn;have eo:os'=s.os:=hm.os;subst eg;subst ed;subst eo;show wpAny _ _ _ _ _ _;refine wpAny_pure ?_;show wpAny _ _ (ret YbR) _ _ _;refine wpAny_pure ⟨rfl,h',tk',rfl,⟨L',hS',fun k=>?_⟩,fun b o hb e=>?_⟩
     ·rw[hK'.1];constructor
      ·rintro⟨j,hj,rfl⟩;obtain⟨b,k,e1,e2,e3,e4,x⟩:=hat j hj;dsimp only;rw[e4];exact Yaw e2
      ·intro hk2;obtain⟨j,hj,e⟩:=Ybl hk2;exact⟨j,by omega,by simp[Yc0,hj,e]⟩
     ·have hb1:b≠s.heap.objs.size:=YaB hb;have hb2:b≠(s.heap.push { cls:=.type "set",dict:=none,data:=.set #[] 0 (.fresh 0 0 led) }).objs.size:=by
       rw[YaZ];exact YaB (YbE hb)
      exact hm.heap b o (by simp only[Yah,YaG,Ybb,or_false,not_or];exact⟨hb1,hb2⟩) (Yad _ (Yad _ e))
   ·cases r₂ with
    | error e=>exact hr₂
    | ok fl₂=>
     cases fl₂ with
     | ret r=>
      obtain⟨rfl,h',tk,rfl,⟨L,hS',hL⟩,hk'⟩:=hr₂
      repeat (any_goals (first | assumption | wp_step))
      exact h _ _ L hS' hL hk'
     | _=>exact hr₂.elim
  | _=>exact hr.elim
theorem Zet {l:Addr}{items:Array Value}{ks:List (List Int)}{bs:List Addr}{Q:Value->Shared->Prop}
  (hu:A.units+8<cLine) (hh:A.handled=none) (hl:s.heap.IsTuple l items) (hi:items.toList=bs.map YaL) (hlen:bs.length=ks.length) (h5:ks.length<=500)
  (hk:∀ (i:Nat) b k,bs[i]?=some b->ks[i]?=some k->TKey prog w s.heap k b)
  (h:∀ (h':Heap) (tk:Nat) (L:List (List Int × Addr)),SetT prog w h' s.heap.objs.size L->(∀ k,k∈L.map (·.1)↔k∈ks) ->
   (∀ b o,b<s.heap.objs.size->s.heap.get? b=some o->h'.get? b=some o)->Q (.ref s.heap.objs.size) { s with heap:=h',toks:=tk }) :
  wpAny (model prog w) A (call (.type "set") [.ref l]) Q E s:=by
 obtain⟨c,tl,hmro⟩:=F.called_set.mro;have hmade:=F.called_set.made;have hsub:=F.called_set.sub;refine wpAny_call (codeAny_of_tree ?_);show wpAny _ _ (callAny (.type "set") _) _ _ _;refine wpAny_pure ⟨Ydx _ (by decide +kernel),codeAny_builtin F.entry_type_call ?_⟩;rw[YeV (weight_type_call_type "set" [.ref l] []) rfl];have h1:=F.called_set.notType;have h2:=F.called_set.canCreate;have hct:=F.typeCall_set_1 (.ref l)
 repeat (any_goals (first | assumption | wp_step))
 refine codeAny_mono (code_set_new_1 (.ref l) (E:=E) (Q₁:=fun obj s₁=>∃ led:Bool,obj=.ref s.heap.objs.size/\s₁={ s with heap:=s.heap.push { cls:=.type "set",dict:=none,data:=.set #[] 0 (.fresh 0 0 led) } }) fun led=>⟨led,rfl,rfl⟩) fun r s₁ hr=>?_
 cases r with
 | error e=>exact hr
 | ok fl=>
  cases fl with
  | ret obj=>
   obtain⟨led,rfl,rfl⟩:=hr;have hS:(s.heap.push { cls:=.type "set",dict:=none,data:=.set #[] 0 (.fresh 0 0 led) }).get? s.heap.objs.size=some { cls:=.type "set",dict:=none,data:=.set #[] 0 (.fresh 0 0 led) }:=Yat _ rfl;have hT:Shared.TypeIs { s with heap:=s.heap.push { cls:=.type "set",dict:=none,data:=.set #[] 0 (.fresh 0 0 led) } } (.ref s.heap.objs.size) "set":=⟨_,hS,rfl⟩
   have hli:=F.called_set.init.lookup;have hbi:=F.called_set.init.bind (.ref s.heap.objs.size)
   repeat (any_goals (first | assumption | wp_step))
   refine codeAny_mono (codeAny_call_builtin (R:=wants (fun r s₂=>r=.none/\∃ h' tk,s₂={ s with heap:=h',toks:=tk } /\
     (∃ L,SetT prog w h' s.heap.objs.size L/\(∀ k,k∈L.map (·.1)↔k∈ks)) /\
     (∀ b o,b<s.heap.objs.size->s.heap.get? b=some o->h'.get? b=some o)) E) F.called_set.init.plain F.entry_set_init (check_set_init_1 hT ?_)) fun r₂ s₂ hr₂=>?_
   ·obtain⟨ol,hol,hcl,nl,hdl⟩:=hl;obtain⟨ocls,odict,odata,oslots⟩:=ol;simp only at hcl hdl;subst hcl;subst hdl;have hol':(s.heap.push { cls:=.type "set",dict:=none,data:=.set #[] 0 (.fresh 0 0 led) }).get? l=some { cls:=.type "tuple",dict:=odict,data:=.seq items nl,slots:=oslots }:=Yad _ hol;have hsls:=Zdn;have hslf:=ZbX;have hne:(Yck "tuple" == Yck "dict")=false:=by decide
    have hl1:(s.heap.push { cls:=.type "set",dict:=none,data:=.set #[] 0 (.fresh 0 0 led) }).IsTuple l items:=⟨_,hol',rfl,nl,rfl⟩
    unfold Builtin.«set.__init__» noKeywords Yc9;generalize hPI:pyIter=PI
    wp_walk
    subst hPI;refine wpAny_pyIter_tuple hl1 ?_;refine wpAny_bind (wpAny_runValue ?_);have hlS:l<s.heap.objs.size:=Yaj hol;have hh3:A.in1.in1.in1.handled=none:=by simp[hh]
    have hneI:l≠(s.heap.push { cls:=.type "set",dict:=none,data:=.set #[] 0 (.fresh 0 0 led) }).objs.size:=by
     rw[YaZ];exact YaB (YbE hlS)
    have hSf:s.heap.objs.size ∉ [(s.heap.push { cls:=.type "set",dict:=none,data:=.set #[] 0 (.fresh 0 0 led) }).objs.size,l]:=by
     rw[YaZ];simp only[Yah,YaG,Ybb,or_false,not_or];exact⟨YaB (Ybu _),YbO hlS⟩
    have hsz:items.size=bs.length:=by rw[<- Yao,hi,Yab]
    have hval:∀ (i:Nat) (v:Value),items[i]?=some v->v=.ref ((fun i=>bs.getD i 0) i):=fun i v hv=>by
     rw[<- Yaf,hi,Yam] at hv
     cases e:bs[i]? with
     | none=>rw[e] at hv;cases hv
     | some b=>rw[e] at hv;cases hv;simp[Yc0,e]
    have hat:∀ i,i<items.size->∃ b k,bs[i]?=some b/\ks[i]?=some k/\bs.getD i 0=b/\ks.getD i []=k/\TKey prog w s.heap k b:=fun i h=>by
     have h1:i<bs.length:=by omega
     have h2:i<ks.length:=by omega
     exact⟨bs[i],ks[i],Yaa h1,Yaa h2,by simp[Yc0,h1],by simp[Yc0,h2],hk i _ _ (Yaa h1) (Yaa h2)⟩
    have hold:∀ b k,TKey prog w s.heap k b->b<s.heap.objs.size/\TKey prog w ((s.heap.push { cls:=.type "set",dict:=none,data:=.set #[] 0 (.fresh 0 0 led) }).push { cls:=.type "tuple_iterator",data:=.fields #[.ref l,.int 0 0] }) k b:=fun b k x=>by
     refine⟨?_,ZbD x fun o e=>Yad _ (Yad _ e)⟩;obtain⟨o,_,_,ho,_⟩:=x;exact Yaj ho
    have hget:((s.heap.push { cls:=.type "set",dict:=none,data:=.set #[] 0 (.fresh 0 0 led) }).push { cls:=.type "tuple_iterator",data:=.fields #[.ref l,.int 0 0] }).get? s.heap.objs.size
      = some { cls:=.type "set",dict:=none,data:=.set #[] 0 (.fresh 0 0 led) }:=Yad _ hS
    refine Zmk (by show A.units+1+1+1<cLine;omega) ((Walks.tuple hh3 _ l hneI items).toS) s.heap.objs.size
     hSf (fun i=>ks.getD i []) (fun i=>bs.getD i 0) hval (fun i h=>?hadr) (by omega) (items.size - 0) 0 _ [] (by omega) (YaR _)
     ⟨⟨_,Yat _ rfl,rfl,rfl⟩,(hl1.push _)⟩ ?hS0 ⟨fun k=>by simp,Yag _,fun q hq=>by simp at hq⟩ (fun j hj=>?hTK) ?hR
    case hadr=>
     obtain⟨b,k,e1,e2,e3,e4,x⟩:=hat i h;obtain⟨hlt,_⟩:=hold b k x;rw[e3];have hbl:b≠l:=fun z=>by
      obtain⟨o,its,n,ho,hc,hd,hii⟩:=x;subst z;rw[hol] at ho;cases ho;cases hd;have hb0:=Yaw e1;have hv:YaL b∈items.toList:=by rw[hi];exact YaW.mpr ⟨b,hb0,rfl⟩
      obtain⟨i0,t0,e0⟩:=Zey hii _ hv;cases e0
     refine⟨?_,YaB hlt⟩;rw[YaZ];simp only[Yah,YaG,Ybb,or_false,not_or];exact⟨YaB (YbE hlt),hbl⟩
    case hTK=>
     obtain⟨b,k,e1,e2,e3,e4,x⟩:=hat j hj;dsimp only;rw[e3,e4];exact (hold b k x).2
    case hS0=>
     refine⟨_,#[],0,_,hget,⟨rfl,rfl,rfl⟩,rfl,⟨.inl rfl,YbK,rfl,rfl,by show 0*5<7*3;decide,fun j hj=>by simp[Yda] at hj,fun i j e h1=>by simp[Yda] at h1⟩,⟨rfl,fun q hq=>by simp at hq⟩,YcW⟩
    case hR=>
     intro s' L' hm hS' hK';obtain⟨h',g',d',tk',os'⟩:=s';have eg:g'=s.gens:=hm.gens;have ed:d'=s.drawn:=hm.drawn;have eo:os'=s.os:=hm.os;subst eg;subst ed;subst eo;show wpAny _ _ _ _ _ _;refine wpAny_pure ?_;show wpAny _ _ (ret YbR) _ _ _;refine wpAny_pure ⟨rfl,h',tk',rfl,⟨L',hS',fun k=>?_⟩,fun b o hb e=>?_⟩
     ·rw[hK'.1];constructor
      ·rintro⟨j,hj,rfl⟩;obtain⟨b,k,e1,e2,e3,e4,x⟩:=hat j hj;dsimp only;rw[e4];exact Yaw e2
      ·intro hk2;obtain⟨j,hj,e⟩:=Ybl hk2;exact⟨j,by omega,by simp[Yc0,hj,e]⟩
     ·have hb1:b≠s.heap.objs.size:=YaB hb;have hb2:b≠(s.heap.push { cls:=.type "set",dict:=none,data:=.set #[] 0 (.fresh 0 0 led) }).objs.size:=by
       rw[YaZ];exact YaB (YbE hb)
      exact hm.heap b o (by simp only[Yah,YaG,Ybb,or_false,not_or];exact⟨hb1,hb2⟩) (Yad _ (Yad _ e))
   ·cases r₂ with
    | error e=>exact hr₂
    | ok fl₂=>
     cases fl₂ with
     | ret r=>
      obtain⟨rfl,h',tk,rfl,⟨L,hS',hL⟩,hk'⟩:=hr₂
      repeat (any_goals (first | assumption | wp_step))
      exact h _ _ L hS' hL hk'
     | _=>exact hr₂.elim
  | _=>exact hr.elim
end
end StT
namespace L2
open PySem PySem.Spec PyProof.Rows StT
def SetN (a:Addr) (n:Nat):HO:=.ext fun h=>∃ o es ep t,h.get? a=some o/\o.ExactSet/\o.data=.set es ep t/\t.fits es.size=true/\es.size=n/\n<=500
theorem ZkV {P:Program}{w:World}{H:Hp}{h:Heap}{a:Addr}{L:List (List Int × Addr)} (S:SetT P w h a L) (h5:L.length<=500):ObjOk P w H h a (SetN a L.length):=by
 obtain⟨o,es,ep,t,ho,hex,hd,T,X,nd⟩:=S;exact⟨⟨o,es,ep,t,ho,hex,hd,T.fits,by rw[<- Yao,X.es,Yab],h5⟩,⟨o,ho⟩,fun _ _ ⟨o,es,ep,t,e,r⟩ k=>⟨o,es,ep,t,k o e,r⟩⟩
theorem Zky {P:Program}{w:World}:∀ {ks:List Int}{us:List Value},Vals (ks.map V.int) us->ItemsAre (intKind P w) ks us
 | [],_,r=>by rw[Yde] at r;cases r;exact .nil
 | k::ks,_,r=>by
  rw[YaV] at r
  cases r with
  | cons h t=>
   obtain⟨tk,rfl⟩:=h;exact .cons (by show YeL k (.int k tk)=true;simp[YeL]) (Zky t)
theorem Zk4:∀ {qs:List Addr}{us:List Value},Vals (qs.map V.ref) us->us=qs.map YaL
 | [],_,r=>by rw[Yde] at r;cases r;rfl
 | q::qs,_,r=>by
  rw[YaV] at r
  cases r with
  | cons h t=>
   cases h;rw[YaV,Zk4 t]
theorem ZmF {P:Program}{w:World}{H:Hp}{h:Heap}{a:Addr}{k:List Int} (ok:HOk P w H h) (e:H a=some (.tup (k.map V.int))):TKey P w h k a:=by
 obtain⟨_,its,r,o,h1,h2,_,n,h3⟩:=(show ObjOk P w H h a (.tup (k.map V.int)) from ok a _ e)
 exact⟨o,its.toArray,n,h1,h2,h3,by simpa using Zky r⟩
section
variable {X:Cx}
theorem Zi2 (hc:X.calm=true) (hu:X.A.units+8<cLine):ZbO X (.type "set") (fun xs H Q=>∃ (a:Addr) (b:Bool) (qs:List Addr) (ks:List (List Int)),xs=[.ref a]/\SqB b X.K H a (qs.map V.ref)/\TTs H qs ks/\ks.length<=500 /\
  ∀ (l:Addr) (L:List (List Int)),H l=none->L.Nodup->(∀ k,k∈L↔k∈ks)->Q (.ref l) (upd H l (SetN l L.length))):=by
 intro pins s σ H xs us Q I r h;obtain⟨a,b,qs,ks,rfl,hq,hT,h5,q⟩:=h;obtain⟨u,rfl,rx⟩:=Zcv r;cases rx;have hk:∀ (i:Nat) b k,qs[i]?=some b->ks[i]?=some k->TKey X.prog X.w s.heap k b:=fun i b k h1 h2=>ZmF I.hok (hT.2 i b k h1 h2);have fin:∀ (h':Heap) (tk:Nat) (L:List (List Int × Addr)),SetT X.prog X.w h' s.heap.objs.size L->(∀ k,k∈L.map (·.1)↔k∈ks) ->
   (∀ b o,b<s.heap.objs.size->s.heap.get? b=some o->h'.get? b=some o)->EP X pins σ Q (.ref s.heap.objs.size) { s with heap:=h',toks:=tk }:=fun h' tk L hS hm kp=>by
  have nd:(L.map (·.1)).Nodup:=by obtain⟨_,_,_,_,_,_,_,_,_,nd⟩:=hS;exact nd
  have hl:(L.map (·.1)).length<=ks.length:=nd.length_le_of_subset fun k hk=>(hm k).mp hk;rw[Yab] at hl;have I1:=I.laid (a:=s.heap.objs.size) (o:=SetN s.heap.objs.size L.length) (h':=h') (t':=tk) (fun b o e=>kp b o (Yaj e) e) (Yag _) (ZkV hS (by omega));have hq2:=q s.heap.objs.size (L.map (·.1)) (I.hok.fresh (Yag _)) nd hm;rw[Yab] at hq2;exact⟨.ref s.heap.objs.size,_,I1,rfl,hq2⟩
 cases b
 ·obtain⟨its,r',pl,hz⟩:=I.tuple hq;exact Zet hu (I.ok.hd hc) (show s.heap.IsTuple a its.toArray from pl) (Zk4 r') hT.1 h5 hk fin
 ·obtain⟨its,r',pl,hz⟩:=I.list hq;exact Zdu hu (I.ok.hd hc) pl.isList (Zk4 r') hT.1 h5 hk fin
theorem Zi3:ZbO X (.builtin "len") (fun xs H Q=>∃ (a:Addr) (n:Nat),xs=[.ref a]/\H a=some (SetN a n)/\Q (.int (n:Int)) H):=by
 intro pins s σ H xs us Q I r h;obtain⟨a,n,rfl,ha,q⟩:=h;obtain⟨u,rfl,rx⟩:=Zcv r;cases rx;obtain⟨⟨o,es,ep,t,ho,hex,hd,hf,hn,h5⟩,_⟩:=(show ObjOk X.prog X.w H s.heap a (SetN a n) from I.hok a _ ha)
 have hm:=ZeZ;exact PySem.call_len_set ho hex hd hf (by omega) ⟨.int (n:Int),H,I.tok _,⟨s.toks+1,by rw[hn]⟩,q⟩
theorem Zm7:bootBuiltins "set"=some (.type "set"):=by decide +kernel
end
end L2
namespace L2
open PySem PySem.Spec PyProof.Rows PySem.SeqAt
section
variable {prog:Program}{w:World}{A:Around}{E:Value->Shared->Prop}{s:Shared}
set_option maxRecDepth 100000 in
end
section
variable {X:Cx}
end
end L2
namespace L2
open PySem PySem.Spec PyProof.Rows
end L2
namespace PySem.AutoSeq1
open PySem PySem.Spec PyProof.Rows
end PySem.AutoSeq1
namespace L2
open PySem PySem.Spec PyProof.Rows
section
variable {X:Cx}
end
end L2
namespace L2
open PySem PySem.Spec PyProof.Rows
section
variable {own:List Str}{js:List Nat}{g:TG}{te:TE}{σ:St}{H1:Hp}{Q:VK}
theorem LLs.snocC {H:Hp}{rs:List Addr}{N:List (List Int)}{q:Addr}{xs:List Int} (h:LLs H rs N) (e:H q=some (.lst (xs.map V.int))):LLs H (rs++[q]) (N++[xs]):=⟨by rw[Yai,Yai,h.1];rfl,fun j r ys a b=>by
 have hl:=h.1;by_cases hj:j<rs.length
 ·rw[Ya4 hj] at a;rw[Ya4 (by omega)] at b;exact h.2 j r ys a b
 ·rw[Ya9 (by omega)] at a b;have e0:j - rs.length=0:=by
   have:=(Yae.mp a).1
   simp at this;omega
  rw[e0] at a;rw[<- hl,e0] at b;cases a;cases b;exact e⟩
theorem Zfc {lo:Int}{n:Nat} (N:List (List Int)) (hN:N.length=n) (hlen:n<=20000)
  (hs:∀ i xs,i<n->N[i]?=some xs->∀ H,Same H1 H->∀ R:VK,(∀ q H',H q=none->Same H H'->H' q=some (.lst (xs.map V.int))->R (.ref q) H')->g (.int (lo+(i:Nat))) (blkσ own js σ) H fun τ H4=>te τ H4 R)
  (hd:∀ acc (qs:List Addr) H,H1 acc=none->Same H1 H->H acc=some (.lst (qs.map V.ref))->LLs H qs N->(∀ q∈qs,q≠acc/\H1 q=none)->Q (.ref acc) H):Zbl own js g ZcZ te σ (Itr lo n) H1 Q:=by
 refine ZcE (fun acc i H=>Same H1 H/\∃ qs:List Addr,H acc=some (.lst (qs.map V.ref))/\LLs H qs (N.take i)/\∀ q∈qs,q≠acc/\H1 q=none) (fun acc h0=>⟨Same.new h0,[],Zab,⟨rfl,fun j r xs a=>(nomatch a)⟩,fun q h=>nomatch h⟩) ?_ fun acc H h0 ⟨s1,qs,hacc,hL,hq⟩=>hd acc qs H h0 s1 hacc (by rwa [<- hN,YaS] at hL) hq;rintro acc i H h0 hi ⟨s1,qs,hacc,hL,hq⟩;have hy':=Yaa (l:=N) (i:=i) (by omega);have hql:qs.length=i:=by rw[hL.1,Yax];omega
 refine (cast ?_ (hs i _ hi hy' H s1 (fun y H6=>∃ zs',H6 acc=some (.lst zs')/\zs'.length<sizeLine/\(i+1<=n/\(Same H1 (upd H6 acc (.lst (zs'++[y])))/\∃ qs:List Addr,upd H6 acc (.lst (zs'++[y])) acc=some (.lst (qs.map V.ref))/\LLs (upd H6 acc (.lst (zs'++[y]))) qs (N.take (i+1))/\∀ q∈qs,q≠acc/\H1 q=none))) fun q H' nq s' hq'=>?_))
 ·unfold ZcZ;simp only[if_true]
 ·have hqa:q≠acc:=fun e=>by rw[e,hacc] at nq;cases nq
  refine⟨_,s' _ _ hacc,?_,hi,(s1.trans s').put h0,qs++[q],by rw[Zab,Yaz];rfl,?_,fun x hx=>?_⟩
  ·rw[sizeLine_eq,Yab];omega
  ·rw[Yba,hy'];have h5:=(hL.same s').snocC hq';refine⟨h5.1,fun j r xs a b=>?_⟩;have hne:r≠acc:=by
    rcases Yak.mp (Yaw a) with z | z
    ·exact (hq r z).1
    ·rw[YaG.mp z];exact hqa
   rw[Zah hne];exact h5.2 j r xs a b
  ·rcases Yak.mp hx with z | z
   ·exact hq x z
   ·rw[YaG.mp z];exact⟨hqa,s1.free nq⟩
theorem TTs.snocC {H:Hp}{rs:List Addr}{N:List (List Int)}{q:Addr}{xs:List Int} (h:TTs H rs N) (e:H q=some (.tup (xs.map V.int))):TTs H (rs++[q]) (N++[xs]):=⟨by rw[Yai,Yai,h.1];rfl,fun j r ys a b=>by
 have hl:=h.1;by_cases hj:j<rs.length
 ·rw[Ya4 hj] at a;rw[Ya4 (by omega)] at b;exact h.2 j r ys a b
 ·rw[Ya9 (by omega)] at a b;have e0:j - rs.length=0:=by
   have:=(Yae.mp a).1
   simp at this;omega
  rw[e0] at a;rw[<- hl,e0] at b;cases a;cases b;exact e⟩
theorem ZiU {lo:Int}{n:Nat} (N:List (List Int)) (hN:N.length=n) (hlen:n<=20000)
  (hs:∀ i xs,i<n->N[i]?=some xs->∀ H,Same H1 H->∀ R:VK,(∀ q H',H q=none->Same H H'->H' q=some (.tup (xs.map V.int))->R (.ref q) H')->g (.int (lo+(i:Nat))) (blkσ own js σ) H fun τ H4=>te τ H4 R)
  (hd:∀ acc (qs:List Addr) H,H1 acc=none->Same H1 H->H acc=some (.lst (qs.map V.ref))->TTs H qs N->(∀ q∈qs,q≠acc/\H1 q=none)->Q (.ref acc) H):Zbl own js g ZcZ te σ (Itr lo n) H1 Q:=by
 refine ZcE (fun acc i H=>Same H1 H/\∃ qs:List Addr,H acc=some (.lst (qs.map V.ref))/\TTs H qs (N.take i)/\∀ q∈qs,q≠acc/\H1 q=none) (fun acc h0=>⟨Same.new h0,[],Zab,⟨rfl,fun j r xs a=>(nomatch a)⟩,fun q h=>nomatch h⟩) ?_ fun acc H h0 ⟨s1,qs,hacc,hL,hq⟩=>hd acc qs H h0 s1 hacc (by rwa [<- hN,YaS] at hL) hq;rintro acc i H h0 hi ⟨s1,qs,hacc,hL,hq⟩;have hy':=Yaa (l:=N) (i:=i) (by omega);have hql:qs.length=i:=by rw[hL.1,Yax];omega
 refine (cast ?_ (hs i _ hi hy' H s1 (fun y H6=>∃ zs',H6 acc=some (.lst zs')/\zs'.length<sizeLine/\(i+1<=n/\(Same H1 (upd H6 acc (.lst (zs'++[y])))/\∃ qs:List Addr,upd H6 acc (.lst (zs'++[y])) acc=some (.lst (qs.map V.ref))/\TTs (upd H6 acc (.lst (zs'++[y]))) qs (N.take (i+1))/\∀ q∈qs,q≠acc/\H1 q=none))) fun q H' nq s' hq'=>?_))
 ·unfold ZcZ;simp only[if_true]
 ·have hqa:q≠acc:=fun e=>by rw[e,hacc] at nq;cases nq
  refine⟨_,s' _ _ hacc,?_,hi,(s1.trans s').put h0,qs++[q],by rw[Zab,Yaz];rfl,?_,fun x hx=>?_⟩
  ·rw[sizeLine_eq,Yab];omega
  ·rw[Yba,hy'];have h5:=(hL.same s').snocC hq';refine⟨h5.1,fun j r xs a b=>?_⟩;have hne:r≠acc:=by
    rcases Yak.mp (Yaw a) with z | z
    ·exact (hq r z).1
    ·rw[YaG.mp z];exact hqa
   rw[Zah hne];exact h5.2 j r xs a b
  ·rcases Yak.mp hx with z | z
   ·exact hq x z
   ·rw[YaG.mp z];exact⟨hqa,s1.free nq⟩
end
end L2
namespace Lv
open PySem L2
theorem Zf7 {α:Type}:∀ (ys:List α) (i:Nat) (h:i<ys.length) (z:α),(ys++[z]).Perm (ys[i]::ys.set i z)
 | [],i,h,z=>absurd h (YbB _)
 | y::ys,0,_,z=>by
  show (y::(ys++[z])).Perm (y::z::ys);exact (Yed z ys).cons y
 | y::ys,i+1,h,z=>by
  have hi:i<ys.length:=by simpa using h
  show (y::(ys++[z])).Perm (ys[i]::y::ys.set i z);exact ((Zf7 ys i hi z).cons y).trans (Ycu _ _ _)
def ZgS {α:Type} (xs:List α) (i:Nat) (z:α):List α:=(xs.set i z).dropLast
theorem ZgR {α:Type}{xs:List α}{i:Nat}{x z:α} (hx:xs[i]?=some x) (hz:xs[xs.length - 1]?=some z):xs.Perm (x::ZgS xs i z):=by
 obtain⟨hi,rfl⟩:=Yae.mp hx;have hne:xs≠[]:=fun e=>by rw[e] at hi;exact YbB _ hi
 obtain⟨ys,y,rfl⟩:∃ ys y,xs=ys++[y]:=⟨xs.dropLast,xs.getLast hne,(YdR hne).symm⟩
 have:y=z:=by simpa using hz
 subst this;unfold ZgS;by_cases h:i<ys.length
 ·rw[List.set_append_left _ _ h,YeT];have:=Zf7 ys i h y
  rwa [show (ys++[y])[i]=ys[i] from List.getElem_append_left h]
 ·have hi':i=ys.length:=by simp at hi;omega
  subst hi';rw[List.set_append_right _ _ (Yag _)];simp only[Nat.sub_self,List.set_cons_zero,YeT,List.getElem_concat_length];exact Yed y ys
theorem ZhM {α:Type}{xs:List α}{i:Nat}{z:α}:(ZgS xs i z).length=xs.length - 1:=by unfold ZgS;simp
theorem TuM.perm {H:Hp}{a b:List Addr}{ks:List (List Int)} (h:TuM H a ks) (e:a.Perm b):∃ ks',TuM H b ks'/\ks.Perm ks':=⟨b.map (kf H),⟨fun p hp=>h.1 p (e.mem_iff.mpr hp),rfl⟩,by rw[<- h.2];exact e.map _⟩
theorem TuM.app {H:Hp}{a b:List Addr}{ks js:List (List Int)} (h:TuM H a ks) (g:TuM H b js):TuM H (a++b) (ks++js):=⟨fun p hp=>(Yak.mp hp).elim (h.1 p) (g.1 p),by rw[Yaz,h.2,g.2]⟩
theorem TuM.ofTT {H:Hp}{qs:List Addr}{N:List (List Int)} (h:TTs H qs N) (hne:∀ k∈N,k≠[]):TuM H qs N:=by
 refine⟨fun p hp=>?_,?_⟩
 ·obtain⟨j,hj,rfl⟩:=Ybl hp;have hN:j<N.length:=by rw[<- h.1];exact hj
  exact⟨N[j],hne _ (Ybp hN),h.2 j _ _ (Yaa hj) (Yaa hN)⟩
 ·refine Ybq (by rw[Yab,h.1]) fun j h1 h2=>?_;rw[YcH];have hj:j<qs.length:=by simpa using h1
  exact Ze1 (h.2 j _ _ (Yaa hj) (Yaa h2))
def plcs (N:List (List Int)) (i:Nat):List (List Int):=((YaT i).map fun r=>(YaT (N.getD r []).length).map fun (j:Nat)=>[(r:Int),(j:Int)]).flatten
theorem Zcm (N:List (List Int)) (i:Nat):plcs N (i+1)=plcs N i++(YaT (N.getD i []).length).map fun (j:Nat)=>[(i:Int),(j:Int)]:=by
 unfold plcs;rw[List.range_succ,Yaz,Yb2];simp
theorem Zge {N:List (List Int)}{i:Nat}{k:List Int} (h:k∈plcs N i):∃ r j:Nat,k=[(r:Int),(j:Int)]/\r<i/\j<(N.getD r []).length:=by
 unfold plcs at h;obtain⟨l,hl,hk⟩:=Yfp.mp h;obtain⟨r,hr,rfl⟩:=YaW.mp hl;obtain⟨j,hj,rfl⟩:=YaW.mp hk;exact⟨r,j,rfl,Ybh.mp hr,Ybh.mp hj⟩
theorem Zk8 {N:List (List Int)}{k:List Int} (h:k∈plcs N N.length):InN N k:=by
 obtain⟨r,j,e,hr,hj⟩:=Zge h;rw[Yau,Yaa hr] at hj;exact⟨r,j,N[r],e,Yaa hr,hj⟩
theorem ZdJ (N:List (List Int)):∀ i,(plcs N i).Nodup
 | 0=>YcW
 | i+1=>by
  rw[Zcm];refine YcY.mpr ⟨ZdJ N i,?_,fun a ha b hb e=>?_⟩
  ·rw[YcQ,Ya5];refine Yci.imp fun {a b} h z=>h ?_;have z2:(a:Int)=b:=by simpa using z
   omega
  ·obtain⟨r,j,e1,hr,_⟩:=Zge ha;obtain⟨j',_,rfl⟩:=YaW.mp hb;rw[e1] at e;have:(r:Int)=(i:Int):=by simpa using (Ydl e).1
   omega
theorem Zec (N:List (List Int)):∀ i,i<=N.length->(plcs N i).length=((N.take i).map Ycp).sum
 | 0,_=>rfl
 | i+1,h=>by
  rw[Zcm,Yai,Zec N i (by omega),Ycx (by omega),Yaz,YdX,Yab,YbY];rw[Yau,Yaa (by omega)];simp
end Lv
namespace L2
open PySem PySem.Spec PyProof.Rows PySem.SeqAt
end L2
namespace L2
open PySem PySem.Spec PyProof.Rows PySem.SeqAt Lv
end L2
namespace Fk38
open PySem L2 Lv
def top (i:Nat):Stmt:=PySem.Challenge.pw_fewreels_k38_least_of_a_level.main.body.getD i (.Pass ⟨0,0,0,0⟩)
abbrev ZdB:Stmt:=top 7
abbrev ZeN:Stmt:=top 12
abbrev ZcH:Stmt:=top 13
abbrev ZdF:Stmt:=top 14
abbrev ZfF:Stmt:=top 15
abbrev Zb8:Stmt:=top 16
abbrev Zc5:Stmt:=top 17
abbrev sTot:Stmt:=top 20
abbrev Zb7:Stmt:=top 21
abbrev Zcy:Stmt:=top 22
abbrev ZcG:Stmt:=top 23
abbrev ZdH:Stmt:=top 24
abbrev ZdC:Stmt:=top 25
abbrev sLN:Stmt:=top 26
abbrev Zcw:Stmt:=top 27
abbrev Zb6:Stmt:=top 29
abbrev ZbP:Stmt:=top 30
abbrev ZgN:Stmt:=top 31
abbrev ZaF:Stmt:=top 32
abbrev ZdD:Stmt:=top 34
abbrev ZdG:Stmt:=top 35
abbrev Zbd:Stmt:=top 36
abbrev Zbs:Stmt:=top 37
abbrev ZdE:Stmt:=top 38
abbrev Zc6:Stmt:=top 39
abbrev Zcx:Stmt:=top 40
abbrev ZbQ:Stmt:=top 41
abbrev Za3:Stmt:=top 42
abbrev ZbR:Stmt:=top 43
abbrev Za0:Stmt:=top 44
abbrev sLaw:Stmt:=top 45
end Fk38
namespace Fk38
open PySem L2 Lv
section
variable {P:Program}{w:World}{K:Yac}{mg:Str->Option Value}{base:Heap}
theorem scDraws:FnScope ["cell","many","base","found","left","k"] ["cell","many","base"] (Zad ZdG):=⟨rfl,rfl,rfl,by decide +kernel,rfl,by decide +kernel,by decide +kernel⟩
def Zd5:Sp:=fun vs H Q _=>∃ (c:Int) (m:Nat) (b:Int),vs=[.int c,.int m,.int b]/\m<=900/\0<b/\Ya3 b<=8000/\∀ (l:Addr) (ds:List Int) (H':Hp),H l=none->H' l=some (.lst (ds.map V.int))->ds.length=m->(∀ d∈ds,0<=d)->Same H H'->Q (.ref l) H'
theorem ZjL {f fA:Addr}{fd dA:FuncData} (F:Fun K "_law_draws" "_law_draws" ZdG f fd) (T:Txt mg) (CA:Cal P w K mg base 1 "_law_mixed" ["cell","k"] ZfA fA dA):FnOk P w K mg base CX0 2 f fd ["cell","many","base"] Zd5:=by
 refine F.ok scDraws (fun vs H Q E h=>?_) (fun cdv A outer s H vs Q E hr h=>?_)
 ·obtain⟨c,m,b,rfl,_⟩:=h;rfl
 ·obtain⟨c,m,b,rfl,hm,hb0,hbb,k⟩:=h;refine⟨_,Zas (Zap (i:=3) scDraws.nd rfl (YaQ rfl) (ZaM Zac))
   (Zas (Zap (i:=4) scDraws.nd rfl (YaQ rfl) Zae)
   (Zas (Zdq (Zaz Zmd (pv 0) (Zak ZcJ Zae Zae) (ZaJ _)) (Zao (Zap (i:=4) scDraws.nd rfl (YaQ rfl) (Zak ZbA (pv 0) (Zak ZcJ Zae Zae)))) Zbt)
   (Zas (ZbY Ybv rfl (ZaS rfl T.range (Zaa (pv 1) Zac)) (Zaq (i:=5) scDraws.nd rfl (YaQ rfl))
    (Zao (Zdq (Zaz ZfL (pv 4) Zae (ZaJ _))
     (Zas (ZaN (Zdr Ya1 YbH YbG Zba (pv 3) (Zaa (Zak ZaU (pv 4) (pv 2)) Zac)))
     (Zao (Zap (i:=4) scDraws.nd rfl (YaQ rfl) (Zak Zjz (pv 4) (pv 2)))))
     (Zao (ZaN (Zdr Ya1 YbH YbG Zba (pv 3) (Zaa (Zak ZaU (Zar CA hr rfl (Zaa (pv 0) (Zaa (pv 5) Zac))) (pv 2)) Zac)))))))
   (Zao (Zay (pv 3)))))),?_⟩
  refine cut3 (fun σ' H'=>∃ (l:Addr) (lf:Int),H l=none/\σ'=[some (.int c),some (.int m),some (.int b),some (.ref l),some (.int lf),none]/\H'=upd H l (.lst [])) (fun R hR=>?_) ?_
  ·refine⟨YaR _,fun l hl=>?_⟩;refine⟨_,rfl,10,18,rfl,rfl,⟨by decide,by decide,by decide⟩,_,_,rfl,rfl,_,rfl,?_⟩;refine ite2 (fun _=>?_) (fun _=>hR _ _ ⟨l,_,hl,rfl,rfl⟩);exact⟨_,rfl,10,18,rfl,rfl,⟨by decide,by decide,by decide⟩,_,_,rfl,rfl,hR _ _ ⟨l,_,hl,rfl,rfl⟩⟩
  ·rintro σ' H' ⟨l,lf,hl,rfl,rfl⟩;refine⟨_,rfl,m,rfl,by omega,by omega,Zbn (fun i σ H2=>∃ (lf:Int) (o:Option V) (ds:List Int),σ=[some (.int c),some (.int m),some (.int b),some (.ref l),some (.int lf),o]/\H2 l=some (.lst (ds.map V.int))/\ds.length=i/\(∀ d∈ds,0<=d)/\Same H H2)
    ⟨lf,none,[],rfl,Zab,rfl,fun d hd=>by simp at hd,Same.new hl⟩ ?_ ?_⟩
   ·rintro i σ H2 hi ⟨lf,o,ds,rfl,hl2,hd,h0,s2⟩;have push:∀ (y:Int),0<=y->((upd H2 l (.lst (ds.map V.int++[.int y]))) l=some (.lst ((ds++[y]).map V.int)))/\(ds++[y]).length=i+1/\(∀ d∈ds++[y],0<=d):=by
     intro y hy;refine⟨by rw[Zab];simp,by simp[hd],fun d hd'=>?_⟩;rcases Yak.mp hd' with z | z
     ·exact h0 d z
     ·have:d=y:=by simpa using z
      omega
    refine⟨_,rfl,_,_,rfl,rfl,_,rfl,?_⟩;refine ite2 (fun hc=>?_) (fun hc=>?_)
    ·refine⟨_,rfl,.inl ⟨rfl,_,SqL.of hl2⟩,_,rfl,_,rfl,lf,b,rfl,rfl,hb0,l,_,_,rfl,rfl,hl2,ZaL (by rw[Yab];omega),?_⟩;obtain⟨p1,p2,p3⟩:=push (lf % b) (Ya2 _ (by omega));refine⟨_,rfl,_,rfl,lf,b,rfl,rfl,⟨hb0,hbb⟩,?_⟩;exact⟨_,_,ds++[lf % b],rfl,p1,p2,p3,s2.put hl⟩
    ·refine⟨_,rfl,.inl ⟨rfl,_,SqL.of hl2⟩,_,rfl,_,rfl,c,i,?_,by omega,fun d H3 d0 s3=>?_⟩
     ·rw[show ((0:Int)+(i:Int))=(i:Int) by omega];rfl
     have hl3:=s3 l _ hl2;refine⟨_,rfl,d,b,rfl,rfl,hb0,l,_,_,rfl,rfl,hl3,ZaL (by rw[Yab];omega),?_⟩;obtain⟨p1,p2,p3⟩:=push (d % b) (Ya2 _ (by omega));refine⟨_,_,ds++[d % b],rfl,by rw[Zab];simp,p2,p3,(s2.trans s3).put hl⟩
   ·rintro σ H2 ⟨lf,o,ds,rfl,hl2,hd,h0,s2⟩;exact⟨_,rfl,k l ds H2 hl hl2 (by rw[hd];omega) h0 s2⟩
theorem scReels72:FnScope ["p","n","reels","level","more"] ["p","n"] (Zad Zbd):=⟨rfl,rfl,rfl,by decide +kernel,rfl,by decide +kernel,by decide +kernel⟩
def Zc1 (K:Yac):Sp:=fun vs H Q _=>∃ (p n:Nat),vs=[.int p,.int n]/\2<=p/\p<=7/\n<=400/\tot p n<=4000/\∀ l (rs:List Addr) H',H l=none->H' l=some (.lst (rs.map V.ref))->LLs H' rs (num p n)->Same H H'->Q (.ref l) H'
theorem ZgW {f:Addr}{fd:FuncData} (F:Fun K "_law_reels" "_law_reels" Zbd f fd) (T:Txt mg):FnOk P w K mg base CX0 1 f fd ["p","n"] (Zc1 K):=by
 refine okW F scReels72 (fun vs H Q E h=>?_) (fun cdv A outer s H vs Q E hr h=>?_)
 ·obtain⟨p,n,rfl,_⟩:=h;rfl
 ·obtain⟨p,n,rfl,p2,p7,hn,ht,k⟩:=h;refine⟨_,(Zaf (ws (Zap (i:=2) scReels72.nd rfl (Ydc rfl) (Zak Zb0 (ZaM (Zaa (ZaM (Zaa Zae Zac)) Zac)) (Za8 (own:=["reel"]) (js:=[]) (CompOk.by (sc:=Zad Zbd) (N:=["p","n","reels","level","more"]) rfl rfl (by decide +kernel)) rfl (ZaS rfl T.range (Zaa (Zak ZbA (pv 0) Zae) Zac)) ZaO (fun _ _ _ _ _=>(Zaq (i:=0) (by show (["reel"]:List Str).Nodup;decide +kernel) rfl (YaQ rfl) (.inr rfl))) (fun _ _ _ _ _=>ZaW) (fun _ _ _ _ _=>(ZaM Zac))))))
   (Zaf (ws (ZbY Ybv rfl (ZaS rfl T.range (Zaa (pv 1) Zac)) (Zaq (i:=3) scReels72.nd rfl (YaQ rfl))
   (WSs.out (Zaf (ws (Zap (i:=4) scReels72.nd rfl (Ydc rfl) (Za8 (own:=["number"]) (js:=[]) (CompOk.by (sc:=Zad Zbd) (N:=["p","n","reels","level","more"]) rfl rfl (by decide +kernel)) rfl (ZfH (ZaB ZaA (pv 2) Zae (fun _ _=>rfl))) ZaO (fun _ _ _ _ _=>(Zaq (i:=0) (by show (["number"]:List Str).Nodup;decide +kernel) rfl (YaQ rfl) (.inr rfl))) (fun _ _ _ _ _=>ZaW) (fun _ _ _ _ _=>(Zak Za7 (pv 0) Zae)))))
    (Zaw (ws (Zap (i:=2) scReels72.nd rfl (Ydc rfl) (Zak Zb0 (Za8 (own:=["k"]) (js:=[2,4]) (CompOk.by (sc:=Zad Zbd) (N:=["p","n","reels","level","more"]) rfl rfl (by decide +kernel)) rfl (ZaS rfl T.range (Zaa (Zak ZbA (pv 0) Zae) Zac)) ZaO (fun _ _ _ _ _=>(Zaq (i:=0) (by show (["k","reels","more"]:List Str).Nodup;decide +kernel) rfl (YaQ rfl) (.inr rfl))) (fun _ _ _ _ _=>ZaW) (fun _ _ _ _ _=>(Zak Zb0 (pv 2) (ZaB (Zcr K) (pv 1) (Zak Za7 (pv 0) Zae) (fun _ _=>rfl))))) (ZaM (Zaa (pv 4) Zac))))))))))
   (Zaw (ws (Zay (pv 2)))))),?_⟩
  have hz:20000<sizeLine:=by decide
  refine⟨(by show 1<=sizeLine;decide),fun q1 n1=>⟨(by show 1<=sizeLine;decide),fun q2 n2=>?_⟩⟩;have s2:=(Same.new (o:=.lst [V.int 0]) n1).trans (Same.new (o:=.lst [V.ref q1]) n2);have e1:upd (upd H q1 (.lst [V.int 0])) q2 (.lst [V.ref q1]) q1=some (.lst [V.int 0]):=(Same.new n2) _ _ Zab;have e2:upd (upd H q1 (.lst [V.int 0])) q2 (.lst [V.ref q1]) q2=some (.lst [V.ref q1]):=Zab;generalize upd (upd H q1 (.lst [V.int 0])) q2 (.lst [V.ref q1])=H2 at s2 e1 e2 ⊢;refine⟨_,rfl,_,_,rfl,rfl,_,rfl,by show -(2 ^ 62)<=(p:Int) - 1;omega,by show (p:Int) - 1<2 ^ 62;omega,?_⟩;rw[show ((p:Int) - 1).toNat=p - 1 by omega];refine Zfc (lo:=0) (n:=p - 1) (Yan (p - 1) []) (by simp) (by omega) (fun i xs hi hx Hc sc Rr hRr=>?_) fun a3 qs H3 na3 s3 ha3 hL3 _=>?_
  ·rw[Yb1,if_pos hi] at hx;cases hx;exact⟨YaR _,fun q nq=>hRr q _ nq (Same.new nq) Zab⟩
  refine⟨q2,a3,_,_,rfl,rfl,s3 _ _ e2,ha3,?_,fun rl0 nrl0=>?_⟩
  ·have:=hL3.1;rw[YbJ] at this;exact Ybj (ZaL (by rw[Yab,this];simp;omega))
  have s4:=Same.new (o:=.lst ([V.ref q1]++qs.map V.ref)) nrl0;have e4:upd H3 rl0 (.lst ([V.ref q1]++qs.map V.ref)) rl0=some (.lst ((q1::qs).map V.ref)):=Zab;have hN4:LLs H3 (q1::qs) (num p 0):=by
   refine⟨by have:=hL3.1;show _=(num0 p).length;unfold num0;simp at this ⊢;exact this,fun j r xs a b=>?_⟩
   cases j with
   | zero=>
    have a:q1=r:=by simpa using a
    have b:[0]=xs:=by
     have b:(num0 p)[0]?=some xs:=b;simpa[num0] using b
    rw[<- a,<- b];exact s3 _ _ e1
   | succ j=>exact hL3.2 j r xs (by simpa using a) (by
     have b:(num0 p)[j+1]?=some xs:=b;simpa[num0] using b)
  have hN4:=hN4.same s4;generalize upd H3 rl0 (.lst ([V.ref q1]++qs.map V.ref))=H4 at s4 e4 hN4 ⊢;have s04:=(s2.trans s3).trans s4;refine⟨_,rfl,n,rfl,by omega,by omega,?_⟩;rw[YaM];refine Zbn (fun i σ Hx=>∃ (rl:Addr) (rs:List Addr) (o3 o4:Option V),σ=[some (.int p),some (.int n),some (.ref rl),o3,o4]/\Hx rl=some (.lst (rs.map V.ref))/\LLs Hx rs (num p i)/\H rl=none/\Same H Hx) ⟨rl0,q1::qs,none,none,rfl,e4,hN4,(s2.trans s3).free nrl0,s04⟩ ?_ ?_
  ·rintro i σ Hx hi ⟨rl,rs,o3,o4,rfl,hrl,hLL,nrl,sx⟩;obtain⟨x,r,ex,hr,exn⟩:=Zh9 p2 i;have hlen:rs.length=p:=by rw[hLL.1];exact Zcb (by omega) i
   have hxl:x.length<=4000:=by
    have:=Zia (p:=p) (n:=i) (xs:=x) (by rw[ex];exact YaC);have:=Zcj p2 (m:=i) (n:=n) (by omega);omega
   obtain⟨a0,rs',rfl⟩:∃ a0 rs',rs=a0::rs':=by
    match rs,hlen with
    | [],h=>simp at h;omega
    | a0::rs',_=>exact⟨a0,rs',rfl⟩
   have ha0:=hLL.2 0 a0 x rfl (by rw[ex];rfl);refine⟨_,rfl,rl,_,0,.ref a0,rfl,rfl,SqL.of hrl,(Zbg (j:=0) rfl),a0,true,rfl,⟨_,SqL.of ha0⟩,?_⟩;refine Zfd ((x.map (·+1)).map V.int) (show SqB true K Hx a0 (x.map V.int) from SqL.of ha0) (by simp) (by rw[Yab];omega) (fun j y z hy hz' Hc sc Rr hRr=>?_) fun ml H5 nml s5 hml=>?_
   ·obtain⟨y',hy',rfl⟩:=Zbf hy;rw[Yam,Yam,hy'] at hz';cases hz';exact⟨_,rfl,_,_,rfl,rfl,hRr Hc (Same.refl _)⟩
   have hrl5:=s5 _ _ hrl;have hLL5:=hLL.same s5;have sx5:=sx.trans s5;refine⟨_,rfl,_,_,rfl,rfl,_,rfl,by show -(2 ^ 62)<=(p:Int) - 1;omega,by show (p:Int) - 1<2 ^ 62;omega,?_⟩;rw[show ((p:Int) - 1).toNat=p - 1 by omega];have hrl4:∀ y∈r,y.length<=4000:=fun y hy=>by
    have:=Zia (p:=p) (n:=i) (xs:=y) (by rw[ex];exact Yap _ hy);have:=Zcj p2 (m:=i) (n:=n) (by omega);omega
   refine Zfc (lo:=0) (n:=p - 1) (r.map (x.map (·+1)++·)) (by rw[Yab];omega) (by omega) (fun j xs hj hx Hc sc Rr hRr=>?_) fun a6 qs6 H6 na6 s6 ha6 hL6 _=>?_
   ·rw[Yam] at hx;have hjr:j<r.length:=by omega
    rw[Yaa hjr] at hx;cases hx;have hjs:j+1<(a0::rs').length:=by omega
    have hy:=hLL5.2 (j+1) _ r[j] (Yaa hjs) (by rw[ex];exact Yaa hjr);have hjy:=hrl4 _ (Ybp hjr);have hat:atI ((a0::rs').map V.ref) ((0:Int)+(j:Int)+1)=some (.ref (a0::rs')[j+1]):=by
     rw[show (0:Int)+(j:Int)+1=((j+1:Nat):Int) by omega];exact Zbg (by rw[Yam,Yaa hjs];rfl)
    exact⟨_,rfl,_,rfl,_,rfl,_,_,rfl,rfl,rl,_,_,.ref (a0::rs')[j+1],rfl,rfl,SqL.of (sc _ _ hrl5),hat,ml,_,_,_,rfl,rfl,sc _ _ hml,sc _ _ hy,by rw[sizeLine_eq];simp;omega,fun q nq=>hRr q _ nq (Same.new nq) (by rw[Zab,Yaz])⟩
   refine⟨_,rfl,(by show 1<=sizeLine;decide),fun q7 n7=>?_⟩;have s7:=Same.new (o:=.lst [V.ref ml]) n7;refine⟨a6,q7,_,_,rfl,rfl,s7 _ _ ha6,Zab,?_,fun rl2 nrl2=>?_⟩
   ·have:=hL6.1;rw[Yab] at this;exact Ybj (ZaL (by rw[Yab,this];simp;omega))
   have hL7:=((hL6.same s7).snocC (s7 _ _ (s6 _ _ hml)))
   generalize upd H6 q7 (.lst [V.ref ml])=H7 at s7 nrl2 hL7 ⊢;have s8:=Same.new (o:=.lst (qs6.map V.ref++[V.ref ml])) nrl2;have sx8:=((sx5.trans s6).trans s7).trans s8;refine⟨rl2,qs6++[ml],_,_,rfl,by rw[Zab,Yaz];rfl,?_,((sx5.trans s6).trans s7).free nrl2,sx8⟩;rw[exn];exact hL7.same s8
  ·rintro σ Hx ⟨rl,rs,o3,o4,rfl,hrl,hLL,nrl,sx⟩;exact⟨_,rfl,k rl rs Hx nrl hrl hLL sx⟩
theorem scLevel72:FnScope ["p","rows","further","most","counts","level","higher"] ["p","rows","further","most"] (Zad Zbs):=⟨rfl,rfl,rfl,by decide +kernel,rfl,by decide +kernel,by decide +kernel⟩
theorem ZkQ {a b:TT}{σ:L2.St}{H:Hp}{Q:Bool->Hp->Prop} (c1 c2:Bool) (ha:∀ R:Bool->Hp->Prop,R c1 H->a σ H R) (hb:∀ R:Bool->Hp->Prop,R c2 H->b σ H R) (q:Q (c1 || c2) H):tOr a b σ H Q:=ha _ (by
 cases c1
 ·exact hb _ q
 ·exact q)
theorem Zm5 {p:Nat} (n:Nat):hd p n<=tot p n:=ZlX (ZcV p n).2
theorem Zhm {p:Nat} (hp:2<=p) (h7:p<=7) (n:Nat):tot p (n+1)<=7*tot p n:=by
 have h1:=Zf3 hp n;have h2:=Zm5 (p:=p) n;have h3:=Zgr hp n;have:((p - 1:Nat):Int)*hd p n<=6*hd p n:=YdL (by omega) (by omega);omega
def Zd1 (K:Yac):Sp:=fun vs H Q _=>∃ (p:Nat) (rows fu mo B:Int),vs=[.int p,.int rows,.int fu,.int mo]/\2<=p/\p<=7/\1<=rows/\7*rows<=B/\0<=fu/\mo<=B/\∀ (n:Nat) H',rows<=tot p n->tot p n<=B->(fu=0->∀ j:Nat,j<n->tot p j<rows)->Same H H'->Q (.int n) H'
theorem Zh2 {f:Addr}{fd:FuncData} (F:Fun K "_law_level" "_law_level" Zbs f fd) (T:Txt mg):FnOk P w K mg base CX0 1 f fd ["p","rows","further","most"] (Zd1 K):=by
 refine okW F scLevel72 (fun vs H Q E h=>?_) (fun cdv A outer s H vs Q E hr h=>?_)
 ·obtain⟨p,rows,fu,mo,B,rfl,_⟩:=h;rfl
 ·obtain⟨p,rows,fu0,mo,B,rfl,p2,p7,r1,rB,f0,mB,k⟩:=h;refine⟨_,(Zaf (ws (Zap (i:=4) scLevel72.nd rfl (Ydc rfl) (Zak Zb0 (ZaM (Zaa Zae Zac)) (Zak Zgf (ZaM (Zaa Zae Zac)) (Zak ZbA (pv 0) Zae)))))
   (Zaf (ws (Zap (i:=5) scLevel72.nd rfl (YaQ rfl) Zae))
   (Zaf (ws (Zjq Ybv (PW.pt (Zb9 (Zaz ZgU (Zai (Zbo rfl) rfl T.sum Zfp (Zaa (pv 4) Zac)) (pv 1) (ZaJ _)) (ZbG (Zaz ZfL (pv 2) Zae (ZaJ _)))))
   (WSs.out (Zaf (ws (Zap (i:=6) scLevel72.nd rfl (YaQ rfl) (Zak Zb0 (Za8 (own:=["k"]) (js:=[4]) (CompOk.by (sc:=Zad Zbs) (N:=["p","rows","further","most","counts","level","higher"]) rfl rfl (by decide +kernel)) rfl (ZaS rfl T.range (Zaa (Zak ZbA (pv 0) Zae) Zac)) ZaO (fun _ _ _ _ _=>(Zaq (i:=0) (by show (["k","counts"]:List Str).Nodup;decide +kernel) rfl (YaQ rfl) (.inr rfl))) (fun _ _ _ _ _=>ZaW) (fun _ _ _ _ _=>(Zak Za7 (ZaB (Zcr K) (pv 1) Zae (fun _ _=>rfl)) (ZaB (Zcr K) (pv 1) (Zak Za7 (pv 0) Zae) (fun _ _=>rfl))))) (ZaM (Zaa (ZaB ZaA (pv 4) Zae (fun _ _=>rfl)) Zac)))))
    (Zaf (ZbW (Zaz Zmd (Zai (Zbo rfl) rfl T.sum Zfp (Zaa (pv 4) Zac)) (pv 1) (ZaJ _))
    (Zaf (ws (Zap (i:=2) scLevel72.nd rfl (YaQ rfl) (Zak ZbA (pv 2) Zae)))
     (Zaw (ZbW (Zaz ZfL (Zai (Zbo rfl) rfl T.sum Zfp (Zaa (pv 6) Zac)) (pv 3) (ZaJ _))
     (Zaf (ws (Zap (i:=2) scLevel72.nd rfl (YaQ rfl) Zae))
      (Zaf (ws (Zap (i:=6) scLevel72.nd rfl (YaQ rfl) (pv 4)))
      (Zaw (ws (Zap (i:=5) scLevel72.nd rfl (YaQ rfl) (Zak ZbA (pv 5) Zae))))))
     ZaQ)))
    ZaQ)
    (Zaf (ws (Zap (i:=4) scLevel72.nd rfl (Ydc rfl) (pv 6)))
    (Zaw (ws (Zap (i:=5) scLevel72.nd rfl (YaQ rfl) (Zak Za7 (pv 5) Zae))))))))))
   (Zaw (ws (Zay (pv 5))))))),?_⟩
  have hz:20000<sizeLine:=by decide
  refine⟨(by show 1<=sizeLine;decide),fun q1 n1=>⟨(by show 1<=sizeLine;decide),fun q2 n2=>?_⟩⟩;have s2:=(Same.new (o:=.lst [V.int 1]) n1).trans (Same.new (o:=.lst [V.int 0]) n2);have e1:upd (upd H q1 (.lst [V.int 1])) q2 (.lst [V.int 0]) q1=some (.lst [V.int 1]):=(Same.new n2) _ _ Zab;have e2:upd (upd H q1 (.lst [V.int 1])) q2 (.lst [V.int 0]) q2=some (.lst [V.int 0]):=Zab;generalize upd (upd H q1 (.lst [V.int 1])) q2 (.lst [V.int 0])=H2 at s2 e1 e2 ⊢;refine⟨_,rfl,_,_,rfl,rfl,q2,_,_,rfl,rfl,e2,by show -(2 ^ 63)<=(p:Int) - 1;omega,by show (p:Int) - 1<2 ^ 63;omega,?_,fun q3 n3=>?_⟩
  ·exact Ybj (ZaL (by show 1*((p:Int) - 1).toNat<=1000;omega))
  have s3:=Same.new (o:=.lst (Yan ((p:Int) - 1).toNat [V.int 0]).flatten) n3;refine⟨q1,q3,_,_,rfl,rfl,s3 _ _ e1,Zab,?_,fun l0 n0=>?_⟩
  ·exact Ybj (ZaL (by rw[Zip];simp;omega))
  have e0:[V.int 1]++(Yan ((p:Int) - 1).toNat [V.int 0]).flatten=(cnt p 0).map V.int:=by
   show _=(Zcs p).map V.int;unfold Zcs;rw[Ycy,show ((p:Int) - 1).toNat=p - 1 by omega,YaV,List.map_replicate];rfl
  rw[e0];generalize upd H2 q3 (.lst (Yan ((p:Int) - 1).toNat [V.int 0]).flatten)=H3 at s3 n0 ⊢;have s4:=Same.new (o:=.lst ((cnt p 0).map V.int)) n0;have e4:upd H3 l0 (.lst ((cnt p 0).map V.int)) l0=some (.lst ((cnt p 0).map V.int)):=Zab;generalize upd H3 l0 (.lst ((cnt p 0).map V.int))=H4 at s4 e4 ⊢;have s04:=(s2.trans s3).trans s4;have t0:tot p 0=1:=by unfold tot cnt Zcs;simp
  refine⟨fun m σ Hx=>∃ (n:Nat) (cl:Addr) (fu:Int) (o6:Option V),m=(rows - tot p n).toNat+fu.toNat/\σ=[some (.int p),some (.int rows),some (.int fu),some (.int mo),some (.ref cl),some (.int n),o6]/\Hx cl=some (.lst ((cnt p n).map V.int))/\tot p n<=B/\0<=fu/\(fu0=0->fu=0/\∀ j:Nat,j<n->tot p j<rows)/\Same H Hx,⟨_,0,l0,fu0,none,rfl,rfl,e4,by omega,f0,fun h=>⟨h,fun j hj=>absurd hj (YbB _)⟩,s04⟩,?_⟩;rintro m σ Hx ⟨n,cl,fu,o6,rfl,rfl,hcl,hb,hf,hmn,sx⟩;have hcl7:=Zdk (p:=p) (by omega) n;refine ZkQ (decide (tot p n<rows)) (decide (fu > 0)) (fun R h=>⟨_,rfl,cl,_,rfl,SqL.of hcl,_,rfl,_,_,rfl,rfl,_,rfl,h⟩) (fun R h=>⟨_,rfl,_,_,rfl,rfl,_,rfl,h⟩) ?_;refine ite2 (fun hgo=>?_) (fun hst=>?_)
  ·refine⟨fun σ' H'=>∃ (m:Nat) (n':Nat) (cl:Addr) (fu':Int) (o6:Option V),m=(rows - tot p n').toNat+fu'.toNat/\m<(rows - tot p n).toNat+fu.toNat/\σ'=[some (.int p),some (.int rows),some (.int fu'),some (.int mo),some (.ref cl),some (.int n'),o6]/\H' cl=some (.lst ((cnt p n').map V.int))/\tot p n'<=B/\0<=fu'/\(fu0=0->fu'=0/\∀ j:Nat,j<n'->tot p j<rows)/\Same H H',fun σ' H' ⟨m,n,cl,fu,o6,e1,e2,r⟩=>⟨m,e2,n,cl,fu,o6,e1,r⟩,?_⟩;refine⟨_,rfl,_,_,rfl,rfl,_,rfl,by show -(2 ^ 62)<=(p:Int) - 1;omega,by show (p:Int) - 1<2 ^ 62;omega,?_⟩;rw[show ((p:Int) - 1).toNat=p - 1 by omega];have gc:∀ j:Nat,j<p->atI ((cnt p n).map V.int) (j:Int)=some (.int ((cnt p n).getD j 0)):=fun j hj=>by
    rw[Zex (by omega) (by omega),YaM]
   refine ZiV (lo:=0) (n:=p - 1) (((YaT (p - 1)).map fun k=>(cnt p n).getD 0 0+(cnt p n).getD (k+1) 0).map V.int) (by simp) (by omega) (fun i z hi hz' Hc sc Rr hRr=>?_) fun a5 H5 na5 s5 ha5=>?_
   ·rw[Yam,Yam,Ydq hi] at hz';cases hz';refine⟨_,rfl,cl,_,0,_,rfl,rfl,SqL.of (sc _ _ hcl),gc 0 (by omega),_,rfl,_,rfl,_,_,rfl,rfl,cl,_,_,_,rfl,rfl,SqL.of (sc _ _ hcl),(by rw[show (0:Int)+(i:Int)+1=((i+1:Nat):Int) by omega];exact gc (i+1) (by omega)),_,_,rfl,rfl,hRr Hc (Same.refl _)⟩
   refine⟨_,rfl,cl,_,0,_,rfl,rfl,SqL.of (s5 _ _ hcl),gc 0 (by omega),(by show 1<=sizeLine;decide),fun q6 n6=>?_⟩;have s6:=Same.new (o:=.lst [V.int ((cnt p n).getD 0 0)]) n6;refine⟨a5,q6,_,_,rfl,rfl,s6 _ _ ha5,Zab,by rw[sizeLine_eq];simp;omega,fun hl nhl=>?_⟩;have ec:((YaT (p - 1)).map fun k=>(cnt p n).getD 0 0+(cnt p n).getD (k+1) 0).map V.int++[V.int ((cnt p n).getD 0 0)]=(cnt p (n+1)).map V.int:=by
    show _=(Zbw (cnt p n)).map V.int;unfold Zbw;rw[Yaz];congr 2;apply Yc1;intro j;rw[Yam,Yam];by_cases hj:j<p - 1
    ·rw[Ydq hj,List.getElem?_tail,Yaa (by omega)];simp only[Yfd];rw[show (cnt p n).getD (j+1) 0=(cnt p n)[j+1]'(by omega) by rw[Yau,Yaa (by omega)];rfl]
    ·rw[YbV (by simp;omega),YbV (by simp;omega)];rfl
   rw[ec];generalize upd H5 q6 (.lst [V.int ((cnt p n).getD 0 0)])=H6 at s6 nhl ⊢;have s7:=Same.new (o:=.lst ((cnt p (n+1)).map V.int)) nhl;have e7:upd H6 hl (.lst ((cnt p (n+1)).map V.int)) hl=some (.lst ((cnt p (n+1)).map V.int)):=Zab;generalize upd H6 hl (.lst ((cnt p (n+1)).map V.int))=H7 at s7 e7 ⊢;have s57:=(s5.trans s6).trans s7;have hcl7:=s57 _ _ hcl;have sx7:=sx.trans s57;have hlt:=Zkg p2 n;dsimp only;refine cutG (a:=tIfS _ _ _) (fun σ' H'=>∃ (fu':Int) (n':Nat) (lv:Int) (hl':Addr),σ'=[some (.int p),some (.int rows),some (.int fu'),some (.int mo),some (.ref cl),some (.int lv),some (.ref hl')]/\lv+1=n'/\H' hl'=some (.lst ((cnt p n').map V.int))/\tot p n'<=B/\0<=fu'/\(rows - tot p n').toNat+fu'.toNat<(rows - tot p n).toNat+fu.toNat/\(fu0=0->fu'=0/\∀ j:Nat,j<n'->tot p j<rows)/\Same H H') (fun R' hR=>?_) ?_
   ·refine⟨_,rfl,cl,_,rfl,SqL.of hcl7,_,rfl,_,_,rfl,rfl,_,rfl,ite2 (fun hge=>?_) fun hlt2=>?_⟩
    ·have hge:(tot p n:Int) ≥ rows:=of_decide_eq_true hge;have hfp:0<fu:=by
      rw[decide_eq_false (show ¬ tot p n<rows by omega),Bool.false_or] at hgo;exact of_decide_eq_true hgo
     refine⟨_,rfl,_,_,rfl,rfl,_,rfl,hl,_,rfl,SqL.of e7,_,rfl,_,_,rfl,rfl,_,rfl,ite2 (fun _=>?_) fun hle=>?_⟩
     ·exact⟨_,rfl,_,rfl,_,_,rfl,rfl,hR _ _ ⟨0,n,_,cl,rfl,by omega,hcl7,hb,by omega,by omega,fun h=>by (have:=(hmn h).1;omega),sx7⟩⟩
     ·have hle:¬ tot p (n+1) > mo:=fun z=>hle (decide_eq_true z);exact hR _ _ ⟨_,n+1,_,hl,rfl,by omega,e7,by omega,by omega,by omega,fun h=>by (have:=(hmn h).1;omega),sx7⟩
    ·have hlt2:¬ tot p n ≥ rows:=fun z=>hlt2 (decide_eq_true z);have h7:=Zhm p2 p7 n;exact hR _ _ ⟨fu,n+1,_,hl,rfl,by omega,e7,by omega,hf,by omega,fun h=>⟨(hmn h).1,fun j hj=>by (rcases (show j<n∨j=n by omega) with h2 | rfl;exact (hmn h).2 j h2;omega)⟩,sx7⟩
   rintro σ H8 ⟨fu',n',lv,hl',rfl,hlv,hhl,hb',hf',hm',hmn',sx8⟩;refine⟨_,rfl,_,rfl,_,_,rfl,rfl,?_⟩;exact⟨_,n',hl',fu',_,rfl,hm',by rw[<- hlv];rfl,hhl,hb',hf',hmn',sx8⟩
  ·have hst:¬ (tot p n<rows)/\¬ fu > 0:=by
    constructor
    ·intro z;exact hst (by rw[decide_eq_true z];rfl)
    ·intro z;exact hst (by rw[decide_eq_true z,Bool.or_true])
   exact⟨_,rfl,k n _ (by omega) hb (fun h=>(hmn h).2) sx⟩
end
end Fk38
namespace Fk38
open PySem L2 Lv
section
variable {P:Program}{w:World}{K:Yac}{mg:Str->Option Value}{base:Heap}
theorem scLeastP:FnScope ["numbers","many","places"] ["numbers","many"] (Zad Zcw):=⟨rfl,rfl,rfl,by decide +kernel,rfl,by decide +kernel,by decide +kernel⟩
theorem ZiQ (xs:List V) (c:Nat):cutV xs none (some (c:Int))=xs.take c:=by
 unfold cutV;show (xs.drop 0).take (HT.sIx xs.length xs.length (some (c:Int)) - 0)=_;rw[HT.sIx_nat,Nat.sub_zero,List.drop_zero];by_cases h:c<=xs.length
 ·rw[Ycw h]
 ·rw[YdP (by omega),YaS,Ya6 (by omega)]
theorem Zj0 {N:List (List Int)}{i j:Nat}{xs:List Int} (h:N[i]?=some xs) (hj:j<=xs.length):(N.take i).flatten.length+j<=N.flatten.length:=by
 have a:=Yae.mp h;have e1:N=N.take i++xs::N.drop (i+1):=by
  have:N.drop i=xs::N.drop (i+1):=by rw[Yej a.1,a.2]
  rw[<- this,YaI]
 conv=>rhs;rw[e1]
 rw[Yb2,Yai,Ybd,Yai];omega
theorem Zh3 {f:Addr}{fd:FuncData} (F:Fun K "least_places" "least_places" Zcw f fd) (T:Txt mg) (Te:mg "enumerate"=none):FnOk P w K mg base CX0 1 f fd ["numbers","many"] Zd2:=by
 refine F.ok scLeastP (fun vs H Q E h=>?_) (fun cdv A outer s H vs Q E hr h=>?_)
 ·obtain⟨a,rs,N,m,rfl,_⟩:=h;rfl
 ·obtain⟨a,rs,N,m,rfl,hA,hT,hN,hF,k⟩:=h;refine⟨_,Zas (Zjr (i:=2) scLeastP.nd rfl rfl (own:=["reel","on_reel","place","number"]) (js:=[]) (fr:=[2,3]) (CompOk.bare (by decide +kernel)) rfl (ZcU rfl Te (Zaa (pv 0) Zac)) (Zg5 (i:=0) (k:=1) (K:=K)) (Zg4 (i:=2) (k:=3) (K:=K))
    (fun _ _ _ _ _=>ZbI K rfl (Zat (Zaq (i:=0) (by show (["reel","on_reel","place","number"]:List Str).Nodup;decide +kernel) rfl (YaQ rfl) (.inr rfl)) (Zat (Zaq (i:=1) (by show (["reel","on_reel","place","number"]:List Str).Nodup;decide +kernel) rfl (YaQ rfl) (.inr rfl)) Zbb))) (fun _ _ _ _ _=>ZaW) (fun _ _ _ _ _=>ZhP K rfl Te (Zaa (pv 1) Zac))
    (fun _ _ _ _ _=>ZbI K rfl (Zat (Zaq (i:=2) (by show (["reel","on_reel","place","number"]:List Str).Nodup;decide +kernel) rfl (YaQ rfl) (.inr rfl)) (Zat (Zaq (i:=3) (by show (["reel","on_reel","place","number"]:List Str).Nodup;decide +kernel) rfl (YaQ rfl) (.inr rfl)) Zbb))) (fun _ _ _ _ _=>ZaW) (fun _ _ _ _ _=>ZbZ (Zaa (pv 3) (Zaa (pv 0) (Zaa (pv 2) Zac)))))
   (Zao (Zay (Zcn ZfE (Zai Zdm rfl T.sorted ZcW (Zaa (pv 2) Zac)) Zc9 (ZcA (pv 1))))),?_⟩
  have hz:100000<sizeLine:=by decide
  refine⟨_,rfl,a,false,rfl,⟨_,SqT.of hA⟩,?_⟩;refine ZfT (b:=false) (xs:=rs.map V.ref) (fun acc i H2=>Same H H2/\∃ ps,H2 acc=some (.lst (ps.map V.ref))/\(∀ p∈ps,p≠acc)/\TuM H2 ps (trip 0 (N.take i))) (fun acc h0=>⟨Same.new h0,[],Zab,(fun p hp=>nomatch hp),TuM.nil⟩) (fun acc i H2 h0 _ p=>SqT.of (p.1 _ _ hA)) ?_ ?_
  ·rintro acc i x q H2 h0 hx ⟨s2,ps,hacc,hne,hpr⟩ hq;obtain⟨r,hr',rfl⟩:=Zdg hx;have hi:=(Yae.mp hr').1
   obtain⟨xs,e2⟩:∃ xs,N[i]?=some xs:=⟨_,Yaa (by rw[<- hT.1];exact hi)⟩
   have hrow:=hT.2 i r xs hr' e2;have s3:Same H2 (upd H2 q (.tup [.int i,.ref r])):=Same.new hq;have hq3:upd H2 q (.tup [.int i,.ref r]) q=some (.tup [.int i,.ref r]):=Zab;generalize upd H2 q (.tup [.int i,.ref r])=H3 at s3 hq3 ⊢;have s03:=s2.trans s3;refine⟨q,_,rfl,SqT.of hq3,rfl,_,_,rfl,_,_,rfl,rfl,?_⟩;refine⟨_,rfl,r,false,rfl,⟨_,SqT.of (s03 _ _ hrow)⟩,?_⟩;refine ZjU (b:=false) (xs:=xs.map V.int) (fun j H4=>Same H H4/\∃ ps,H4 acc=some (.lst (ps.map V.ref))/\(∀ p∈ps,p≠acc)/\TuM H4 ps (trip 0 (N.take i)++ZbC i (xs.take j))) ⟨s03,ps,s3 _ _ hacc,hne,by simpa[ZbC] using hpr.same s3⟩ (fun j H4 _ p=>SqT.of (p.1 _ _ hrow)) ?_ ?_
   ·rintro j y u H4 hy ⟨s4,ps,hac4,hne4,hpr4⟩ nu;obtain⟨z,hz',rfl⟩:=Zbf hy;have hj:=(Yae.mp hz').1
    have hle:=Zj0 e2 (Ybj hj);have hpl:ps.length=(N.take i).flatten.length+j:=by
     rw[hpr4.len,Yai,Zbr,ZeG,Yax];omega
    have su:Same H4 (upd H4 u (.tup [.int j,.int z])):=Same.new nu;have hu3:upd H4 u (.tup [.int j,.int z]) u=some (.tup [.int j,.int z]):=Zab;generalize upd H4 u (.tup [.int j,.int z])=H4' at su hu3 ⊢
    replace hac4:=su _ _ hac4
    replace hpr4:=hpr4.same su
    replace s4:=s4.trans su
    refine⟨u,_,rfl,SqT.of hu3,rfl,_,_,rfl,_,_,rfl,rfl,?_⟩;refine⟨_,rfl,_,rfl,_,rfl,(by show 3<=sizeLine;decide),fun t ht=>?_⟩;have hta:t≠acc:=Ybn (Zag hac4 ht);have s45:Same H4' (upd H4' t (.tup [.int z,.int i,.int j])):=Same.new ht;have ht5:upd H4' t (.tup [.int z,.int i,.int j]) t=some (.tup (([z,(i:Int),(j:Int)]:List Int).map V.int)):=Zab;generalize upd H4' t (.tup [.int z,.int i,.int j])=H5 at s45 ht5 ⊢;refine⟨_,s45 _ _ hac4,by rw[Yab];omega,by rw[Yab];exact hj,(s4.trans s45).put h0,ps++[t],by rw[Zab,Yaz];rfl,fun p hp=>?_,?_⟩
    ·rcases Yak.mp hp with hp | hp
     ·exact hne4 p hp
     ·rw[YaG.mp hp];exact hta
    ·have:=(hpr4.same s45).snoc ht5 (by simp);rw[YaH,<- ZgE hz'] at this;refine this.keep fun p hp=>Zah ?_;rcases Yak.mp hp with hp | hp
     ·exact hne4 p hp
     ·rw[YaG.mp hp];exact hta
   ·rintro H4 ⟨s4,ps,hac4,hne4,hpr4⟩;rw[Yab,YaS,<- Zhk e2] at hpr4;exact⟨by rw[Yab];exact hi,s4,ps,hac4,hne4,hpr4⟩
  rintro acc H2 h0 ⟨s2,ps,hacc,hne,hpr⟩;have e:(rs.map V.ref).length=N.length:=by rw[Yab,hT.1]
  rw[e,YaS] at hpr;have hks:∀ p∈ps,kf H2 p≠[]/\H2 p=some (.tup ((kf H2 p).map V.int)):=by
   intro p hp;obtain⟨k',hk,e⟩:=hpr.1 p hp;rw[Ze1 e];exact⟨hk,e⟩
  refine⟨_,rfl,acc,ps,kf H2,rfl,SqL.of hacc,hks,fun l qs nl pm up=>?_⟩;have s23:Same H2 (upd H2 l (.lst (qs.map V.ref))):=Same.new nl;have hl3:upd H2 l (.lst (qs.map V.ref)) l=some (.lst (qs.map V.ref)):=Zab;generalize upd H2 l (.lst (qs.map V.ref))=H3 at s23 hl3 ⊢;have s03:=s2.trans s23;refine⟨_,rfl,(m:Int),rfl,l,_,rfl,SqL.of hl3,fun l2 nl2=>?_⟩;rw[ZiQ,<- Ydw];have s34:Same H3 (upd H3 l2 (.lst ((qs.take m).map V.ref))):=Same.new nl2;have hq2:TuM H2 qs (qs.map (kf H2)):=⟨fun p hp=>hpr.1 p (pm.mem_iff.mp hp),rfl⟩
  refine k l2 qs (qs.map (kf H2)) _ (s03.free nl2) Zab (hq2.same (s23.trans s34)) ?_ (Ya5.mpr up) (s03.trans s34);rw[<- hpr.2];exact pm.map _
theorem scPlc72:FnScope ["reels","rows","draws","places","reel","some","found","k","at"] ["reels","rows","draws"] (Zad Zc6):=⟨rfl,rfl,rfl,by decide +kernel,rfl,by decide +kernel,by decide +kernel⟩
theorem Zha {ps:List Addr} (h:1<=ps.length):atI (ps.map V.ref) (-1)=some (.ref (ps[ps.length - 1]'(by omega))):=by
 obtain⟨ys,y,rfl⟩:∃ ys y,ps=ys++[y]:=⟨ps.dropLast,ps.getLast (fun e=>by rw[e] at h;simp at h),(YdR _).symm⟩
 rw[Yaz];have:=Zkb (ys.map V.ref) (V.ref y);simpa using this
def Zfy (K:Yac):Sp:=fun vs H Q _=>∃ (rl dl:Addr) (rs:List Addr) (N:List (List Int)) (rows:Nat) (ds:List Int),vs=[.ref rl,.int rows,.ref dl]/\H rl=some (.lst (rs.map V.ref))/\LLs H rs N/\N.length<=7/\N.flatten.length<=4000/\rows<=N.flatten.length/\rows<=ds.length/\H dl=some (.lst (ds.map V.int))/\∀ l (qs:List Addr) (ks:List (List Int)) H',H l=none->H' l=some (.lst (qs.map V.ref))->TuM H' qs ks->ks.Nodup->(∀ k∈ks,InN N k)->ks.length=rows->Same H H'->Q (.ref l) H'
theorem ZjD {f:Addr}{fd:FuncData} (F:Fun K "_law_placing" "_law_placing" Zc6 f fd) (T:Txt mg) (Te:mg "enumerate"=none):FnOk P w K mg base CX0 1 f fd ["reels","rows","draws"] (Zfy K):=by
 refine okW F scPlc72 (fun vs H Q E h=>?_) (fun cdv A outer s H vs Q E hr h=>?_)
 ·obtain⟨rl,dl,rs,N,rows,ds,rfl,_⟩:=h;rfl
 ·obtain⟨rl,dl,rs,N,rows,ds,rfl,hrl,hLL,hN7,hN4,hr,hrd,hd,k⟩:=h;refine⟨_,(Zaf (ws (Zap (i:=3) scPlc72.nd rfl (YaQ rfl) (ZaM Zac)))
   (Zaf (ws (ZbY Ybv rfl (ZcU rfl Te (Zaa (pv 0) Zac)) (ZeR rfl (Zat (Zaq (i:=4) scPlc72.nd rfl (Ydc rfl)) (Zat (Zaq (i:=5) scPlc72.nd rfl (YaQ rfl)) Zbb)))
   (WSs.out (Zaw (ws (ZaN (Zdr Ya1 YdV YdU ZeW (pv 3) (Zaa (Za8 (own:=["place"]) (js:=[4]) (CompOk.by (sc:=Zad Zc6) (N:=["reels","rows","draws","places","reel","some","found","k","at"]) rfl rfl (by decide +kernel)) rfl (ZaS rfl T.range (Zaa (Zai Zan rfl T.len Ya7 (Zaa (pv 5) Zac)) Zac)) ZaO (fun _ _ _ _ _=>(Zaq (i:=0) (by show (["place","reel"]:List Str).Nodup;decide +kernel) rfl (YaQ rfl) (.inr rfl))) (fun _ _ _ _ _=>ZaW) (fun _ _ _ _ _=>(ZbZ (Zaa (pv 1) (Zaa (pv 0) Zac))))) Zac))))))))
   (Zaf (ws (Zap (i:=6) scPlc72.nd rfl (YaQ rfl) (ZaM Zac)))
   (Zaf (ws (ZbY Ybv rfl (ZaS rfl T.range (Zaa (pv 1) Zac)) (Zaq (i:=7) scPlc72.nd rfl (YaQ rfl))
   (WSs.out (Zaf (ws (Zap (i:=8) scPlc72.nd rfl (YaQ rfl) (Zak ZaU (ZaB ZaA (pv 2) (pv 7) (fun _ _=>rfl)) (Zai Zan rfl T.len Ya7 (Zaa (pv 3) Zac)))))
    (Zaf (ws (ZaN (Zdr Ya1 YbH YbG Zba (pv 6) (Zaa (ZaB ZaA (pv 3) (pv 8) (fun _ _=>rfl)) Zac))))
    (Zaf (ws (Zkq (ZaB ZaA (pv 3) (Zjw Zf1 Zae) (fun _ _=>rfl)) (Zkr (pv 3) (pv 8) Zf8)))
    (Zaw (ws (ZaN (Zma Ya1 PySem.F.slot_list_pop PySem.F.type_list_pop Zmh (pv 3)))))))))))
   (Zaw (ws (Zay (pv 6)))))))),?_⟩
  have hz:20000<sizeLine:=by decide
  refine⟨YaR _,fun pl npl=>?_⟩;have s1:Same H (upd H pl (.lst [])):=Same.new npl;have e1:upd H pl (.lst []) pl=some (.lst (([]:List Addr).map V.ref)):=Zab;generalize upd H pl (.lst [])=H1 at s1 e1 ⊢;refine⟨_,rfl,rl,true,rfl,⟨_,SqL.of (s1 _ _ hrl)⟩,?_⟩;have hlN:∀ i,i<=N.length->(plcs N i).length<=4000:=fun i hi=>by
   rw[Zec N i hi];refine Ybx ?_ hN4;rw[YeY];have:(N.map Ycp).sum=((N.take i).map Ycp).sum+((N.drop i).map Ycp).sum:=by
    rw[<- List.sum_append_nat,<- Yaz,YaI]
   omega
  refine ZiF (b:=true) (K:=K) (a:=rl) (xs:=rs.map V.ref) (fun i σ Hx=>∃ (qs:List Addr) (o4 o5 o6 o7 o8:Option V),σ=[some (.ref rl),some (.int rows),some (.ref dl),some (.ref pl),o4,o5,o6,o7,o8]/\Hx pl=some (.lst (qs.map V.ref))/\TuM Hx qs (plcs N i)/\Same H Hx) ⟨[],none,none,none,none,none,rfl,e1,TuM.nil,s1⟩ (fun i σ Hx _ ⟨_,_,_,_,_,_,_,_,_,sx⟩=>SqL.of (sx _ _ hrl)) ?_ ?_
  ·rintro i x q σ Hx hx ⟨qs,o4,o5,o6,o7,o8,rfl,hpl,hTu,sx⟩ hq;obtain⟨r,hr',rfl⟩:=Zbx hx;have hi:i<N.length:=by rw[<- hLL.1];exact (Yae.mp hr').1
   have s3:Same Hx (upd Hx q (.tup [.int i,.ref r])):=Same.new hq;have hq3:upd Hx q (.tup [.int i,.ref r]) q=some (.tup [.int i,.ref r]):=Zab;generalize upd Hx q (.tup [.int i,.ref r])=H3 at s3 hq3 ⊢;have hpl3:=s3 _ _ hpl;have hTu3:=hTu.same s3;have sx3:=sx.trans s3;have hrN:=sx3 _ _ (hLL.2 i r N[i] hr' (Yaa hi));have egN:N.getD i []=N[i]:=by rw[Yau,Yaa hi];rfl
   have hNi:N[i].length<=4000:=by
    have:=hlN (i+1) (by omega);rw[Zcm,Yai,Yab,YbY,egN] at this;omega
   refine⟨q,_,rfl,SqT.of hq3,rfl,_,_,rfl,_,_,rfl,rfl,?_⟩;refine⟨_,rfl,.inl ⟨rfl,_,SqL.of hpl3⟩,_,rfl,r,_,rfl,.inl (SqL.of hrN),_,rfl,by rw[Yab];omega,by rw[Yab];omega,?_⟩;rw[Yab,YaM];refine ZiU (lo:=0) (n:=N[i].length) ((YaT N[i].length).map fun (j:Nat)=>[(i:Int),(j:Int)]) (by simp) (by omega) (fun j xs hj hx' Hc sc Rr hRr=>?_) fun a4 qs4 H4 na4 s4 ha4 hT4 _=>?_
   ·rw[Yam,Ydq hj] at hx';cases hx';exact⟨_,rfl,_,rfl,(by show 2<=sizeLine;decide),fun t nt=>hRr t _ nt (Same.new nt) (by rw[Zab,show (0:Int)+(j:Nat)=(j:Int) by omega];rfl)⟩
   have hpl4:=s4 _ _ hpl3;have sx4:=sx3.trans s4;have hl1:=hTu3.len;have hl2:=hT4.1;have hl3:=hlN i (by omega);refine⟨pl,a4,_,_,rfl,rfl,hpl4,ha4,by rw[sizeLine_eq];simp at hl2 ⊢;omega,?_⟩;refine⟨qs++qs4,_,_,_,_,_,rfl,by rw[Zab,Yaz],?_,sx4.put npl⟩;rw[Zcm,egN];refine ((hTu3.same s4).app (TuM.ofTT hT4 fun k hk=>?_)).keep fun z hz=>Zah fun e=>?_
   ·obtain⟨j,_,rfl⟩:=YaW.mp hk;exact List.cons_ne_nil _ _
   ·rcases Yak.mp hz with hz | hz
    ·obtain⟨k',_,hk'⟩:=(hTu3.same s4).1 z hz;rw[e,hpl4] at hk';cases hk'
    ·obtain⟨j,hj,rfl⟩:=Ybl hz;have:=hT4.2 j _ _ (Yaa hj) (Yaa (by rw[<- hT4.1];exact hj));rw[e,hpl4] at this;cases this
  rintro σ Hx ⟨qs,o4,o5,o6,o7,o8,rfl,hpl,hTu,sx⟩;rw[Yab,hLL.1] at hTu;have hql:qs.length=N.flatten.length:=by
   rw[hTu.len,Zec N N.length (Yag _),YaS,YeY]
  refine⟨YaR _,fun fl nfl=>?_⟩;have s2:Same Hx (upd Hx fl (.lst [])):=Same.new nfl;have e2:upd Hx fl (.lst []) fl=some (.lst (([]:List Addr).map V.ref)):=Zab;have npf:pl≠fl:=Zag hpl nfl;have hpl2:=s2 _ _ hpl;have nflH:H fl=none:=sx.free nfl;have hTu2:=hTu.same s2;have sx2:=sx.trans s2;generalize upd Hx fl (.lst [])=H2 at s2 e2 hpl2 hTu2 sx2 ⊢;refine⟨_,rfl,rows,rfl,by omega,by omega,?_⟩;rw[YaM];refine Zbn (fun i σ Hx=>∃ (ps fs:List Addr) (ks:List (List Int)) (o7 o8:Option V),σ=[some (.ref rl),some (.int rows),some (.ref dl),some (.ref pl),o4,o5,some (.ref fl),o7,o8]/\Hx pl=some (.lst (ps.map V.ref))/\Hx fl=some (.lst (fs.map V.ref))/\TuM Hx (fs++ps) ks/\ks.Nodup/\(∀ k∈ks,InN N k)/\fs.length=i/\ps.length+i=N.flatten.length/\Same H Hx) ⟨qs,[],plcs N N.length,o7,o8,rfl,hpl2,e2,hTu2,ZdJ N _,fun k hk=>Zk8 hk,rfl,by omega,sx2⟩ ?_ ?_
  ·rintro i σ Hy hi ⟨ps,fs,ks,o7,o8,rfl,hpy,hfy,hTy,hnd,hin,hfl,hpsl,sy⟩;have hdy:=sy _ _ hd;obtain⟨m,em⟩:∃ m:Nat,ds.getD i 0 % (ps.length:Int)=(m:Int)/\m<ps.length:=by
    have h1:=Ya2 (ds.getD i 0) (show (ps.length:Int)≠0 by omega);have h2:=Ybg (ds.getD i 0) (show (0:Int)<ps.length by omega);exact⟨(ds.getD i 0 % (ps.length:Int)).toNat,by omega,by omega⟩
   obtain⟨em,hm⟩:=em;have hds:atI (ds.map V.int) (i:Int)=some (.int (ds.getD i 0)):=by rw[Zex (by omega) (by omega),YaM]
   refine⟨_,rfl,_,rfl,dl,_,_,_,rfl,rfl,SqL.of hdy,(by rw[show (0:Int)+(i:Int)=(i:Int) by omega];exact hds),_,rfl,pl,_,rfl,.inl (SqL.of hpy),_,_,rfl,rfl,by show (0:Int)<((ps.map V.ref).length:Int);rw[Yab];omega,?_⟩;dsimp only;rw[Yab,em];have hpm:(ps.map V.ref)[m]?=some (.ref ps[m]):=by rw[Yam,Yaa hm];rfl
   refine⟨_,rfl,.inl ⟨rfl,_,SqL.of hfy⟩,_,rfl,_,rfl,pl,_,_,.ref ps[m],rfl,rfl,SqL.of hpy,Zbg hpm,fl,_,_,rfl,rfl,hfy,by rw[Yab];omega,?_⟩;have hpy1:upd Hy fl (.lst (fs.map V.ref++[.ref ps[m]])) pl=some (.lst (ps.map V.ref)):=by rw[Zah npf];exact hpy
   have hfy1:upd Hy fl (.lst (fs.map V.ref++[.ref ps[m]])) fl=some (.lst ((fs++[ps[m]]).map V.ref)):=by rw[Zab,Yaz];rfl
   have sy1:Same H (upd Hy fl (.lst (fs.map V.ref++[.ref ps[m]]))):=sy.put nflH;have hTy1:TuM (upd Hy fl (.lst (fs.map V.ref++[.ref ps[m]]))) (fs++ps) ks:=hTy.keep fun z hz=>Zah fun e=>by
    obtain⟨k',_,hk'⟩:=hTy.1 z hz;rw[e,hfy] at hk';cases hk'
   generalize upd Hy fl (.lst (fs.map V.ref++[.ref ps[m]]))=H5 at hpy1 hfy1 sy1 hTy1 ⊢;have hlast:ps.length - 1<ps.length:=by omega
   have hat:atI (ps.map V.ref) (-1)=some (.ref ps[ps.length - 1]):=Zha (by omega);refine⟨_,rfl,1,rfl,pl,_,_,.ref ps[ps.length - 1],rfl,rfl,SqL.of hpy1,hat,?_⟩;refine⟨_,rfl,_,rfl,pl,_,_,m,rfl,rfl,hpy1,by rw[Yab,Zit (by omega) (by omega),YaM],?_⟩;have hpy2:upd H5 pl (.lst ((ps.map V.ref).set m (.ref ps[ps.length - 1]))) pl=some (.lst ((ps.set m ps[ps.length - 1]).map V.ref)):=by rw[Zab,List.map_set]
   have hfy2:upd H5 pl (.lst ((ps.map V.ref).set m (.ref ps[ps.length - 1]))) fl=some (.lst ((fs++[ps[m]]).map V.ref)):=by rw[Zah (Ybn npf)];exact hfy1
   have sy2:Same H (upd H5 pl (.lst ((ps.map V.ref).set m (.ref ps[ps.length - 1])))):=sy1.put npl;have hTy2:TuM (upd H5 pl (.lst ((ps.map V.ref).set m (.ref ps[ps.length - 1])))) (fs++ps) ks:=hTy1.keep fun z hz=>Zah fun e=>by
    obtain⟨k',_,hk'⟩:=hTy1.1 z hz;rw[e,hpy1] at hk';cases hk'
   generalize upd H5 pl (.lst ((ps.map V.ref).set m (.ref ps[ps.length - 1])))=H6 at hpy2 hfy2 sy2 hTy2 ⊢;have hsl:(ps.set m ps[ps.length - 1]).length=ps.length:=Yd0;refine⟨_,rfl,.inl ⟨rfl,_,SqL.of hpy2⟩,pl,_,_,rfl,rfl,hpy2,Yaa (by rw[Yab,hsl];omega),?_⟩;have hperm:(fs++ps).Perm ((fs++[ps[m]])++ZgS ps m ps[ps.length - 1]):=by
    rw[YaH];exact (ZgR (Yaa hm) (Yaa hlast)).append_left fs
   obtain⟨ks',hT',hpk⟩:=TuM.perm (hTy2.keep (H':=upd H6 pl (.lst ((ps.set m ps[ps.length - 1]).map V.ref).dropLast)) fun z hz=>Zah fun e=>by
    obtain⟨k',_,hk'⟩:=hTy2.1 z hz;rw[e,hpy2] at hk';cases hk') hperm
   refine⟨ZgS ps m ps[ps.length - 1],fs++[ps[m]],ks',_,_,rfl,by rw[Zab,<- List.map_dropLast];rfl,by rw[Zah (Ybn npf)];exact hfy2,hT',hpk.nodup_iff.mp hnd,fun k hk=>hin k (hpk.mem_iff.mpr hk),by rw[Yai,hfl];rfl,by rw[ZhM];omega,sy2.put npl⟩
  ·rintro σ Hy ⟨ps,fs,ks,o7,o8,rfl,hpy,hfy,hTy,hnd,hin,hfl,hpsl,sy⟩;refine⟨_,rfl,?_⟩;have hTf:TuM Hy fs (ks.take rows):=by
    refine⟨fun p hp=>hTy.1 p (YaU _ hp),?_⟩;rw[<- hTy.2,Yaz,<- hfl,show fs.length=(fs.map (kf Hy)).length by rw[Yab],Yeg]
   have hkl:ks.length=fs.length+ps.length:=by rw[<- hTy.len,Yai]
   exact k fl fs (ks.take rows) Hy nflH hfy hTf (hnd.sublist (YdE _ _)) (fun k hk=>hin k (YbC hk)) (by rw[Yax];omega) sy
theorem scLen71:FnScope ["draws","most","way","found","k","number"] ["draws","most"] (Zad ZdE):=⟨rfl,rfl,rfl,by decide +kernel,rfl,by decide +kernel,by decide +kernel⟩
theorem at6 {P:Int->Prop}{w a b c d e g:Int} (h0:0<=w) (h6:w<6) (ha:P a) (hb:P b) (hc:P c) (hd:P d) (he:P e) (hg:P g):∃ x:Int,atI [V.int a,.int b,.int c,.int d,.int e,.int g] w=some (.int x)/\P x:=by
 rcases (show w=0∨w=1∨w=2∨w=3∨w=4∨w=5 by omega) with rfl | rfl | rfl | rfl | rfl | rfl
 ·exact⟨a,rfl,ha⟩
 ·exact⟨b,rfl,hb⟩
 ·exact⟨c,rfl,hc⟩
 ·exact⟨d,rfl,hd⟩
 ·exact⟨e,rfl,he⟩
 ·exact⟨g,rfl,hg⟩
def ZfB:Sp:=fun vs H Q _=>∃ (dl:Addr) (ds:List Int) (m:Nat),vs=[.ref dl,.int m]/\H dl=some (.lst (ds.map V.int))/\(∀ d∈ds,0<=d)/\1<=m/\m<=200/\m+2<=ds.length/\ds.length<=1000/\∀ l (ls:List Int) H',H l=none->H' l=some (.lst (ls.map V.int))->1<=ls.length->ls.length<=m->(∀ x∈ls,0<=x/\x<=1000000000000)->Same H H'->Q (.ref l) H'
theorem ZjI {f:Addr}{fd:FuncData} (F:Fun K "_law_lengths" "_law_lengths" ZdE f fd) (T:Txt mg):FnOk P w K mg base CX0 1 f fd ["draws","most"] ZfB:=by
 refine okW F scLen71 (fun vs H Q E h=>?_) (fun cdv A outer s H vs Q E hr h=>?_)
 ·obtain⟨dl,ds,m,rfl,_⟩:=h;rfl
 ·obtain⟨dl,ds,m,rfl,hd,hd0,hm1,hm2,hdl,hd10,k⟩:=h;refine⟨_,(Zaf (ws (Zap (i:=2) scLen71.nd rfl (YaQ rfl) (Zak ZaU (ZaB ZaA (pv 0) Zae (fun _ _=>rfl)) Zae)))
   (Zaf (ws (Zap (i:=3) scLen71.nd rfl (YaQ rfl) (ZaM Zac)))
   (Zaf (ws (ZbY Ybv rfl (ZaS rfl T.range (Zaa (Zak Za7 Zae (Zak ZaU (ZaB ZaA (pv 0) Zae (fun _ _=>rfl)) (pv 1))) Zac)) (Zaq (i:=4) scLen71.nd rfl (YaQ rfl))
   (WSs.out (Zaf (ws (Zap (i:=5) scLen71.nd rfl (YaQ rfl) (ZaB ZaA (pv 0) (Zak Za7 Zae (pv 4)) (fun _ _=>rfl))))
    (Zaw (ws (ZaN (Zdr Ya1 YbH YbG Zba (pv 3) (Zaa (WE.out (ZlL ZaA (ZfY (ZaC rfl Zae (ZaC rfl (Zak ZaU (pv 5) Zae) (ZaC rfl (Zak Za7 Zae (Zak ZaU (pv 5) Zae)) (ZaC rfl (Zak ZaU (pv 5) (Zak Za7 (Zak ZcJ Zae Zae) Zae)) (ZaC rfl (Zak Zdb (Zak ZaU (pv 5) Zae) (Zak ZcJ Zae Zae)) (ZaC rfl (Zak Zdb (pv 4) (pv 4)) ZfZ))))))) (we (pv 2)) (fun _ _=>rfl))) Zac)))))))))
   (Zaw (ws (Zay (pv 3))))))),?_⟩
  have hz:20000<sizeLine:=by decide
  have gd:∀ (j:Nat),j<ds.length->atI (ds.map V.int) (j:Int)=some (.int (ds.getD j 0)):=fun j hj=>by
   rw[Zex (by omega) (by omega),YaM]
  have w0:=Ya2 (ds.getD 0 0) (show (6:Int)≠0 by decide);have w6:=Ybg (ds.getD 0 0) (show (0:Int)<6 by decide);refine⟨_,rfl,dl,_,0,_,rfl,rfl,SqL.of hd,gd 0 (by omega),_,_,rfl,rfl,(by show (0:Int)<6;decide),?_⟩;obtain⟨way,ew⟩:∃ w:Int,ds.getD 0 0 % 6=w:=⟨_,rfl⟩
  rw[ew] at w0 w6;refine⟨YaR _,fun l nl=>?_⟩;have s1:Same H (upd H l (.lst [])):=Same.new nl;have e1:upd H l (.lst []) l=some (.lst (([]:List Int).map V.int)):=Zab;have nld:l≠dl:=fun z=>by rw[z,hd] at nl;cases nl
  generalize upd H l (.lst [])=H1 at s1 e1 ⊢;have m0:=Ya2 (ds.getD 1 0) (show (m:Int)≠0 by omega);have mm:=Ybg (ds.getD 1 0) (show (0:Int)<m by omega);refine⟨_,rfl,dl,_,1,_,rfl,rfl,SqL.of (s1 _ _ hd),gd 1 (by omega),_,rfl,_,_,rfl,rfl,(by show (0:Int)<m;omega),1,_,rfl,rfl,?_⟩;obtain⟨n,en⟩:∃ n:Nat,1+ds.getD 1 0 % m=(n:Int):=⟨(1+ds.getD 1 0 % m).toNat,by omega⟩
  have hn1:1<=n:=by omega
  have hnm:n<=m:=by omega
  refine⟨(n:Int),congrArg (fun z=>[V.int z]) en,by omega,by omega,?_⟩;rw[YaM];refine Zbn (fun i σ Hx=>∃ (ls:List Int) (o4 o5:Option V),σ=[some (.ref dl),some (.int m),some (.int way),some (.ref l),o4,o5]/\Hx l=some (.lst (ls.map V.int))/\ls.length=i/\(∀ x∈ls,0<=x/\x<=1000000000000)/\Same H Hx) ⟨[],_,_,by rw[<- ew];rfl,e1,rfl,by simp,s1⟩ ?_ ?_
  ·rintro i σ Hx hi ⟨ls,o4,o5,rfl,hl,hli,hb,sx⟩;have hdx:=sx _ _ hd;refine⟨_,rfl,_,rfl,2,_,rfl,rfl,dl,_,_,_,rfl,rfl,SqL.of hdx,(by rw[show (2:Int)+(0+(i:Int))=((2+i:Nat):Int) by omega];exact gd (2+i) (by omega)),?_⟩;have hx0:0<=ds.getD (2+i) 0:=by
    rw[Yau,Yaa (by omega)];exact hd0 _ (Ybp _)
   generalize ds.getD (2+i) 0=x at hx0 ⊢;have a4:=Ya2 x (show (4:Int)≠0 by decide);have b4:=Ybg x (show (0:Int)<4 by decide);have a6:=Ya2 x (show (60:Int)≠0 by decide);have b6:=Ybg x (show (0:Int)<60 by decide);have a2:=Ya2 x (show (2:Int)≠0 by decide);have b2:=Ybg x (show (0:Int)<2 by decide);have e12:(10:Int) ^ YdC 12=1000000000000:=by decide
   have a12:=Ya2 x (show (1000000000001:Int)≠0 by decide);have b12:=Ybg x (show (0:Int)<1000000000001 by decide);refine⟨_,rfl,.inl ⟨rfl,_,SqL.of hl⟩,_,rfl,_,_,rfl,rfl,(by show (0:Int)<4;decide),_,rfl,_,_,rfl,rfl,(by show (0:Int)<60;decide),1,_,rfl,rfl,_,rfl,10,12,rfl,rfl,⟨by decide,by decide,by decide⟩,_,_,rfl,rfl,_,_,rfl,rfl,(by show (0:Int)<10 ^ YdC 12+1;rw[e12];decide),_,rfl,_,_,rfl,rfl,(by show (0:Int)<2;decide),10,12,rfl,rfl,⟨by decide,by decide,by decide⟩,_,_,rfl,rfl,.inl ⟨by omega,by omega⟩,_,rfl,_,rfl,_,_,rfl,rfl,.inl ⟨by omega,by omega⟩,(by show 6<=sizeLine;decide),fun q nq=>?_⟩;obtain⟨y,hy,hyb⟩:=at6 (P:=fun z=>0<=z/\z<=1000000000000) w0 w6 (show (0:Int)<=7/\(7:Int)<=1000000000000 by decide) (show 0<=x % 4/\x % 4<=1000000000000 by omega) (show 0<=1+x % 60/\1+x % 60<=1000000000000 by omega) (show 0<=x % (10 ^ YdC 12+1)/\x % (10 ^ YdC 12+1)<=1000000000000 by rw[e12];omega) (show 0<=x % 2*10 ^ YdC 12/\x % 2*10 ^ YdC 12<=1000000000000 by rw[e12];omega) (show 0<=(0+(i:Int))*(0+(i:Int))/\(0+(i:Int))*(0+(i:Int))<=1000000000000 by
    have h1:(i:Int)*i<=200*200:=Int.mul_le_mul (by omega) (by omega) (by omega) (by omega);have h2:0<=(i:Int)*i:=Int.mul_nonneg (by omega) (by omega);rw[Int.zero_add];omega)
   have nql:l≠q:=Zag hl nq;refine⟨_,rfl,q,_,way,.int y,rfl,rfl,SqL.of Zab,hy,l,_,_,rfl,rfl,by rw[Zah nql];exact hl,by rw[Yab];omega,?_⟩;refine⟨ls++[y],_,_,rfl,by rw[Zab,Yaz];rfl,by rw[Yai,hli];rfl,fun z hz=>?_,?_⟩
   ·rcases Yak.mp hz with h | h
    ·exact hb z h
    ·rw[YaG.mp h];exact hyb
   ·exact (sx.trans (Same.new nq)).put nl
  ·rintro σ Hx ⟨ls,o4,o5,rfl,hl,hli,hb,sx⟩;exact⟨_,rfl,k l ls Hx nl hl (by omega) (by omega) hb sx⟩
end
end Fk38
namespace Fk38
open PySem L2 Lv
section
variable {P:Program}{w:World}{K:Yac}{mg:Str->Option Value}{base:Heap}
theorem Zjj:FnScope ["numbers","lengths","placing"] ["numbers","lengths","placing"] (Zad Zb6):=⟨rfl,rfl,rfl,by decide +kernel,rfl,by decide +kernel,by decide +kernel⟩
theorem SqB.sameP {b:Bool}{H H':Hp}{a:Addr}{xs:List V} (e:Same H H') (h:SqB b K H a xs):SqB b K H' a xs:=by
 cases b
 ·exact e.tup h
 ·exact e.seq h
theorem ZhZ {f:Addr}{fd:FuncData} (F:Fun K "reading_by" "reading_by" Zb6 f fd) (T:Txt mg):FnOk P w K mg base CX0 1 f fd ["numbers","lengths","placing"] (ZcR K):=by
 refine F.ok Zjj (fun vs H Q E h=>?_) (fun cdv A outer s H vs Q E hr h=>?_)
 ·obtain⟨a,ll,pl,b,rs,qs,N,ls,ks,rfl,_⟩:=h;rfl
 ·obtain⟨a,ll,pl,b,rs,qs,N,ls,ks,rfl,hA,hT,hL,hP,hM,hin,hlen,hl9,hb1,hb2,k⟩:=h;refine⟨_,Zao (Zay (Zai (Zbo rfl) rfl T.sum Zfp (Zaa (Za8 (own:=["length","reel","place"]) (js:=[0]) (CompOk.by (sc:=Zad Zb6) (N:=["numbers","lengths","placing"]) rfl rfl (by decide +kernel)) rfl (Zed rfl T.zip (Zaa (pv 1) (Zaa (pv 2) Zac))) (ZdQ (i:=0) (k:=1) (m:=2) (K:=K))
    (fun _ _ _ _ _=>ZbI K rfl (Zat (Zaq (i:=0) (by show (["length","reel","place","numbers"]:List Str).Nodup;decide +kernel) rfl (YaQ rfl) (.inr rfl)) (Zat (ZbI K rfl (Zat (Zaq (i:=1) (by show (["length","reel","place","numbers"]:List Str).Nodup;decide +kernel) rfl (YaQ rfl) (.inr rfl)) (Zat (Zaq (i:=2) (by show (["length","reel","place","numbers"]:List Str).Nodup;decide +kernel) rfl (YaQ rfl) (.inr rfl)) Zbb))) Zbb))) (fun _ _ _ _ _=>ZaW)
    (fun _ _ _ _ _=>Zak ZhW (pv 0) (ZaB (Zgm K) (ZaB (Zgm K) (pv 3) (pv 1) (fun _ _=>rfl)) (pv 2) (fun _ _=>rfl)))) Zac))),?_⟩
  have hz:100000<sizeLine:=by decide
  refine⟨_,rfl,_,rfl,b,true,ll,pl,rfl,⟨_,hL⟩,⟨_,SqL.of hP⟩,?_⟩;refine Zgw (b1:=b) (b2:=true) (xs:=ls.map V.int) (ys:=qs.map V.ref) (by rw[Yab,Yab,hM.len];omega) (fun acc i H2=>Same H H2/\H2 acc=some (.lst ((ZaR N (ls.take i) (ks.take i)).map V.int))) (fun acc h0=>⟨Same.new h0,Zab⟩) (fun acc i H2 h0 _ p=>⟨SqB.sameP p.1 hL,SqL.of (p.1 _ _ hP)⟩) ?_ ?_
  ·rintro acc i x y u H2 h0 hx hy ⟨s2,hacc⟩ nu;obtain⟨l,hl,rfl⟩:=Zbf hx;obtain⟨q,hq,rfl⟩:=Zdg hy;have hil:=(Yae.mp hl).1
   obtain⟨kk,hk,hqk⟩:=hM.at hq;obtain⟨r,p,xs,rfl,hr',hp⟩:=hin kk (Yaw hk);have su:Same H2 (upd H2 u (.tup [.int l,.ref q])):=Same.new nu;have hu3:upd H2 u (.tup [.int l,.ref q]) u=some (.tup [.int l,.ref q]):=Zab;generalize upd H2 u (.tup [.int l,.ref q])=H3 at su hu3 ⊢;have s3:=s2.trans su;have hq3:H3 q=some (.tup [.int (r:Int),.int (p:Int)]):=s3 _ _ hqk;have hrl:=(Yae.mp hr').1
   obtain⟨ra,hra⟩:∃ ra,rs[r]?=some ra:=⟨_,Yaa (by rw[hT.1];exact hrl)⟩
   have hrow:=s3 _ _ (hT.2 r ra xs hra hr');have hnum:numV N [(r:Int),(p:Int)]=xs[p]:=by
    unfold numV;simp[Yau,hr',hp]
   refine⟨u,_,rfl,SqT.of hu3,rfl,_,_,rfl,_,_,rfl,q,_,rfl,SqT.of hq3,rfl,_,_,rfl,_,_,rfl,rfl,rfl,?_⟩;refine⟨_,rfl,_,rfl,_,rfl,a,_,(r:Int),.ref ra,rfl,rfl,SqT.of (s3 _ _ hA),Zbg (by rw[Yam,hra];rfl),_,rfl,ra,_,(p:Int),.int xs[p],rfl,rfl,SqT.of hrow,Zbg (by rw[Yam,Yaa hp];rfl),?_⟩;refine⟨l,xs[p],rfl,rfl,⟨8000,8000,hb1 l (Yaw hl),hb2 xs (Yaw hr') _ (Ybp hp),by decide⟩,?_⟩;refine⟨_,su _ _ hacc,?_,by rw[Yab];exact hil,s3.put h0,?_⟩
   ·rw[Yab];unfold ZaR;rw[Ydp,Yax,Yax];omega
   ·rw[Zab,ZgQ hl hk,Yaz,hnum];rfl
  rintro acc H2 h0 ⟨s2,hacc⟩;rw[Yab,YaS,hlen,YaS] at hacc;exact⟨acc,_,rfl,SqL.of hacc,k H2 s2⟩
theorem Zl0:FnScope ["p","n","lengths","placing"] ["p","n","lengths","placing"] (Zad ZgN):=⟨rfl,rfl,rfl,by decide +kernel,rfl,by decide +kernel,by decide +kernel⟩
def Zht (K:Yac):Sp:=fun vs H Q _=>∃ (p n:Nat) (ll pl:Addr) (b:Bool) (qs:List Addr) (ls:List Int) (ks:List (List Int)),vs=[.int p,.int n,.ref ll,.ref pl]/\2<=p/\p<=7/\n<=300/\tot p n<=4000/\SqB b K H ll (ls.map V.int)/\H pl=some (.lst (qs.map V.ref))/\TuM H qs ks/\(∀ k∈ks,InN (num p n) k)/\(ls.length=ks.length/\ls.length<=100000)/\(∀ l∈ls,Ya3 l<=8000)/\∀ H',Same H H'->Q (.int (ZaR (num p n) ls ks).sum) H'
theorem Zli {f f1 f2:Addr}{fd d1 d2:FuncData} (F:Fun K "placing_reading" "placing_reading" ZgN f fd) (T:Txt mg) (CR:Cal P w K mg base 1 "reading_by" ["numbers","lengths","placing"] (ZcR K) f1 d1) (CN:Cal P w K mg base 6 "level_numbers" ["p","n"] Zfz f2 d2):FnOk P w K mg base CX0 7 f fd ["p","n","lengths","placing"] (Zht K):=by
 refine F.ok Zl0 (fun vs H Q E h=>?_) (fun cdv A outer s H vs Q E hr h=>?_)
 ·obtain⟨p,n,ll,pl,b,qs,ls,ks,rfl,_⟩:=h;rfl
 ·obtain⟨p,n,ll,pl,b,qs,ls,ks,rfl,p2,p7,hn,h4,hL,hpl,hM,hin,hlen0,hb,k⟩:=h;have hr1:Room 1 _:=hr.mono (by decide);have hr6:Room 6 _:=hr.mono (by decide);refine⟨_,(Zao (Zay (Zar CR hr1 rfl (Zaa (Zar CN hr6 rfl (Zaa (pv 0) (Zaa (pv 1) Zac))) (Zaa (pv 2) (Zaa (pv 3) Zac)))))),?_⟩;refine⟨_,rfl,_,rfl,p,n,rfl,p2,p7,hn,h4,fun na ns H1 nna hna hNs s1=>?_⟩;refine⟨_,rfl,_,rfl,na,ll,pl,b,ns,qs,num p n,ls,ks,rfl,hna,hNs,SqB.sameP s1 hL,s1 _ _ hpl,hM.same s1,hin,hlen0.1,hlen0.2,hb,fun xs hx z hz=>?_,fun H2 s2=>k H2 (s1.trans s2)⟩
  ·have:=Zfo p n xs hx z hz;exact Zbp (by omega) (by omega)
end
end Fk38
namespace Fk38
open PySem L2 Lv
section
variable {P:Program}{w:World}{K:Yac}{mg:Str->Option Value}{base:Heap}
theorem Zk0:FnScope ["n","last"] ["n","last"] (Zad ZcH):=⟨rfl,rfl,rfl,by decide +kernel,rfl,by decide +kernel,by decide +kernel⟩
theorem ZjH {f fW da:Addr}{fd dW:FuncData} (F:FunD K "check_level" "check_level" ZcH f da fd) (T:Txt mg) (CW:Cal P w K mg base 1 "is_whole" ["thing"] Zb4 fW dW) :
  FnOk P w K mg base CX0 2 f fd ["n","last"] Zd0:=by
 refine F.ok Zk0 (fun vs H Q E h=>?_) (fun cdv A outer s H vs Q E hr h=>?_)
 ·obtain⟨i,m,rfl,_⟩:=h;rfl
 ·obtain⟨i,m,rfl,h1,h2,k⟩:=h;refine⟨_,Zao (Zdq (PW.pt (Zb9 (Za9 (Zbm (Zar CW hr rfl (Zaa (pv 0) Zac))))
   (ZbG (Za9 (ZcS Zdt Zdt Zae (pv 0) (pv 1)))))) ZaH Zbt),?_⟩
  refine⟨_,rfl,i,rfl,true,rfl,iteF ?_⟩;refine⟨_,rfl,0,i,rfl,rfl,_,rfl,?_⟩;rw[decide_eq_true h1];refine iteT ⟨_,rfl,i,m,rfl,rfl,_,rfl,?_⟩;rw[decide_eq_true h2];exact iteF k
theorem Zk1:FnScope ["p"] ["p"] (Zad ZdF):=⟨rfl,rfl,rfl,by decide +kernel,rfl,by decide +kernel,by decide +kernel⟩
theorem ZjK {f:Addr}{fd:FuncData} (F:Fun K "first_counts" "first_counts" ZdF f fd) (T:Txt mg):FnOk P w K mg base CX0 1 f fd ["p"] ZfC:=by
 refine F.ok Zk1 (fun vs H Q E h=>?_) (fun cdv A outer s H vs Q E hr h=>?_)
 ·obtain⟨p,rfl,_⟩:=h;rfl
 ·obtain⟨p,rfl,h1,h2,k⟩:=h;refine⟨_,Zao (Zay (ZaT ZaP rfl T.tuple ZbN (Zaa (Zak Zb0 (ZaM (Zaa Zae Zac)) (Zak Zgf (ZaM (Zaa Zae Zac)) (Zak ZbA (pv 0) Zae))) Zac))),?_⟩;refine⟨(by show 1<=sizeLine;decide),fun p1 e1=>⟨(by show 1<=sizeLine;decide),fun p2 e2=>⟨_,rfl,_,_,rfl,rfl,?_⟩⟩⟩;have z2:(upd (upd H p1 (.lst [.int 1])) p2 (.lst [.int 0])) p1=some (.lst [.int 1]):=by rw[Zah (Zag Zab e2)];exact Zab
  refine⟨p2,(p:Int) - 1,_,rfl,rfl,Zab,by omega,by omega,?_,fun p3 e3=>?_⟩
  ·exact Ybj (ZaL (by show 1*((p:Int) - 1).toNat<=1000;omega))
  have z3:=(Same.new (o:=.lst (Yan ((p:Int) - 1).toNat [V.int 0]).flatten) e3) p1 _ z2;have ez:(Yan ((p:Int) - 1).toNat [V.int 0]).flatten=Yan (p - 1) (V.int 0):=by
   rw[show ((p:Int) - 1).toNat=p - 1 by omega];exact Ycy
  rw[ez] at z3 ⊢;refine⟨p1,p3,_,_,rfl,rfl,z3,Zab,?_,fun p4 e4=>?_⟩
  ·exact Ybj (ZaL (by rw[YbJ];show 1+(p - 1)<=1000;omega))
  refine⟨p4,_,rfl,.inl ⟨SqL.of Zab,fun l hl=>?_⟩⟩;have s4:=(((Same.new (o:=.lst [.int 1]) e1).trans (Same.new (o:=.lst [.int 0]) e2)).trans (Same.new (o:=.lst (Yan (p - 1) (V.int 0))) e3)).trans (Same.new (o:=.lst ([.int 1]++Yan (p - 1) (V.int 0))) e4);refine k l _ (s4.free hl) ?_ (s4.trans (Same.new hl));rw[Zab];simp[Zcs]
theorem scNext:FnScope ["counts","first"] ["counts"] (Zad ZfF):=⟨rfl,rfl,rfl,by decide +kernel,rfl,by decide +kernel,by decide +kernel⟩
theorem Zlj {f:Addr}{fd:FuncData} (F:Fun K "next_counts" "next_counts" ZfF f fd) (T:Txt mg):FnOk P w K mg base CX0 1 f fd ["counts"] (Zhu K):=by
 refine F.ok scNext (fun vs H Q E h=>?_) (fun cdv A outer s H vs Q E hr h=>?_)
 ·obtain⟨a,c,rfl,_⟩:=h;rfl
 ·obtain⟨a,c,rfl,hA,h1,h2,k⟩:=h;refine⟨_,Zas (Zap (i:=1) scNext.nd rfl (Ydc rfl) (ZaB Za2 (pv 0) Zae (fun _ _=>rfl)))
   (Zao (Zay (ZaT ZaP rfl T.tuple ZbN (Zaa (Zak Zb0
    (Za8 (own:=["count"]) (js:=[1]) (CompOk.by (sc:=Zad ZfF) (N:=["counts","first"]) rfl rfl (by decide +kernel)) rfl (ZhO (Zcn Zkj (pv 0) (ZcA Zae) Zc9)) ZaO
     (fun _ _ _ _ _=>Zaq (i:=0) (by show (["count","first"]:List Str).Nodup;decide +kernel) rfl (YaQ rfl) (.inr rfl)) (fun _ _ _ _ _=>ZaW) (fun _ _ _ _ _=>Zak Za7 (pv 1) (pv 0)))
    (ZaM (Zaa (pv 1) Zac))) Zac)))),?_⟩
  obtain⟨c0,cr,rfl⟩:∃ c0 cr,c=c0::cr:=by
   cases c with
   | nil=>simp at h1
   | cons x y=>exact⟨x,y,rfl⟩
  have hcr:cr.length<=6:=by simpa using h2
  refine⟨_,rfl,a,_,0,.int c0,rfl,rfl,hA,Zkc,?_⟩;refine⟨_,rfl,1,rfl,a,_,rfl,hA,?_,fun p1 e1=>⟨p1,rfl,⟨_,SqT.of Zab⟩,?_⟩⟩
  ·rintro⟨z,_⟩;have:HT.sIx ((c0::cr).map V.int).length 0 (some ((1:Nat):Int))=0:=z;rw[HT.sIx_nat] at this;simp at this
  have ecut:cutV ((c0::cr).map V.int) (some 1) none=cr.map V.int:=by
   unfold cutV;show (((c0::cr).map V.int).drop (HT.sIx ((c0::cr).map V.int).length 0 (some ((1:Nat):Int)))).take (HT.sIx ((c0::cr).map V.int).length ((c0::cr).map V.int).length none - HT.sIx ((c0::cr).map V.int).length 0 (some ((1:Nat):Int)))=_;rw[HT.sIx_nat];rw[show min 1 ((c0::cr).map V.int).length=1 by simp];show (cr.map V.int).take (((c0::cr).map V.int).length - 1)=_;rw[Ya6 (by simp)]
  rw[ecut];refine Zes (xs:=cr.map V.int) (fun acc i H2=>Same (upd H p1 (.tup (cr.map V.int))) H2/\H2 acc=some (.lst (((cr.take i).map (c0+·)).map V.int))) (fun acc h0=>⟨Same.new h0,Zab⟩) (fun acc i H2 h0 _ p=>p.1.tup (SqT.of Zab)) ?_ ?_
  ·rintro acc i x H2 h0 hx ⟨s2,hacc⟩;obtain⟨z,hz,rfl⟩:=Zbf hx;have hi:=(Yae.mp hz).1
   refine⟨_,rfl,_,rfl,_,_,rfl,rfl,_,hacc,?_,by rw[Yab];exact hi,s2.put h0,?_⟩
   ·exact ZaL (by simp;omega)
   ·rw[Zab,Yba,hz];simp
  ·rintro acc H2 h0 ⟨s2,hacc⟩;rw[Yab,YaS] at hacc;refine⟨_,rfl,(by show 1<=sizeLine;decide),fun p2 e2=>?_⟩;refine⟨acc,p2,_,_,rfl,rfl,(Same.new e2) acc _ hacc,Zab,?_,fun p3 e3=>⟨p3,_,rfl,.inl ⟨SqL.of Zab,fun l hl=>?_⟩⟩⟩
   ·exact Ybj (ZaL (by simp;omega))
   have s3:=(((Same.new (o:=.tup (cr.map V.int)) e1).trans s2).trans (Same.new (o:=.lst [.int c0]) e2)).trans (Same.new (o:=.lst (((cr.map (c0+·)).map V.int)++[.int c0])) e3);refine k l _ (s3.free hl) ?_ (s3.trans (Same.new hl));rw[Zab];simp[Zbw]
theorem scCounts:FnScope ["p","n","counts","level"] ["p","n"] (Zad Zb8):=⟨rfl,rfl,rfl,by decide +kernel,rfl,by decide +kernel,by decide +kernel⟩
theorem Zh6 {f fA fB fC fD:Addr}{fd dA dB dC dD:FuncData} (F:Fun K "level_counts" "level_counts" Zb8 f fd) (T:Txt mg) (CA:Cal P w K mg base 2 "check_ways" ["p"] Zhr fA dA) (CB:CalD P w K mg base 2 "check_level" ["n","last"] [.int 300] Zd0 fB dB) (CC:Cal P w K mg base 1 "first_counts" ["p"] ZfC fC dC) (CD:Cal P w K mg base 1 "next_counts" ["counts"] (Zhu K) fD dD) :
  FnOk P w K mg base CX0 3 f fd ["p","n"] Zd6:=by
 refine F.ok scCounts (fun vs H Q E h=>?_) (fun cdv A outer s H vs Q E hr h=>?_)
 ·obtain⟨p,n,rfl,_⟩:=h;rfl
 ·obtain⟨p,n,rfl,h1,h2,h3,k⟩:=h;have hr1:Room 1 _:=hr.mono (by decide);refine⟨_,Zas (ZaN (Zar CA hr rfl (Zaa (pv 0) Zac))) (Zas (ZaN (Zlb CB hr rfl (Zaa (pv 1) Zac)))
   (Zas (Zap (i:=2) scCounts.nd rfl (YaQ rfl) (Zar CC hr1 rfl (Zaa (pv 0) Zac)))
   (Zas (ZbY Ybv rfl (ZaS rfl T.range (Zaa (pv 1) Zac)) (Zaq (i:=3) scCounts.nd rfl (YaQ rfl))
    (Zao (Zap (i:=2) scCounts.nd rfl (YaQ rfl) (Zar CD hr1 rfl (Zaa (pv 2) Zac)))))
   (Zao (Zay (pv 2)))))),?_⟩
  refine⟨_,rfl,p,rfl,by omega,by omega,?_⟩;refine⟨_,rfl,n,300,rfl,by omega,by omega,?_⟩;refine⟨_,rfl,p,rfl,h1,h2,fun l H1 hl0 hl1 s1=>?_⟩;refine⟨_,rfl,n,rfl,by omega,by omega,Zbn (fun i σ H2=>∃ (l:Addr) (o:Option V),σ=[some (.int p),some (.int n),some (.ref l),o]/\H l=none/\H2 l=some (.tup ((cnt p i).map V.int))/\Same H H2)
   ⟨l,none,rfl,hl0,hl1,s1⟩ ?_ ?_⟩
  ·rintro i σ H2 hi ⟨l,o,rfl,hl0,hl2,s2⟩;have hlen:=Zdk (p:=p) (by omega) i;refine⟨_,rfl,l,cnt p i,rfl,SqT.of hl2,by omega,by omega,fun l3 H3 h30 h3 s3=>?_⟩;exact⟨l3,_,rfl,s2.free h30,h3,s2.trans s3⟩
  ·rintro σ H2 ⟨l,o,rfl,hl0,hl2,s2⟩;refine⟨_,rfl,k l H2 hl0 ?_ s2⟩;simpa using hl2
theorem ZhA:FnScope ["p","n"] ["p","n"] (Zad Zc5):=⟨rfl,rfl,rfl,by decide +kernel,rfl,by decide +kernel,by decide +kernel⟩
theorem Zgg {f fA:Addr}{fd dA:FuncData} (F:Fun K "level_total" "level_total" Zc5 f fd) (T:Txt mg) (CA:Cal P w K mg base 3 "level_counts" ["p","n"] Zd6 fA dA):FnOk P w K mg base CX0 4 f fd ["p","n"] Zb5:=by
 refine F.ok ZhA (fun vs H Q E h=>?_) (fun cdv A outer s H vs Q E hr h=>?_)
 ·obtain⟨p,n,rfl,_⟩:=h;rfl
 ·obtain⟨p,n,rfl,h1,h2,h3,k⟩:=h;refine⟨_,Zao (Zay (Zai (Zff rfl) rfl T.sum Zfp (Zaa (Zar CA hr rfl (Zaa (pv 0) (Zaa (pv 1) Zac))) Zac))),?_⟩;exact⟨_,rfl,_,rfl,p,n,rfl,h1,h2,h3,fun l H1 hl0 hl1 s1=>⟨l,_,rfl,SqT.of hl1,k H1 s1⟩⟩
theorem ZlZ:FnScope ["total"] ["total"] (Zad sTot):=⟨rfl,rfl,rfl,by decide +kernel,rfl,by decide +kernel,by decide +kernel⟩
theorem Zme {f:Addr}{fd:FuncData}{tM:Tok} (F:Fun K "check_total" "check_total" sTot f fd) (T:Txt mg) (hM:mg "MOST_PLACES"=some (.int 4000 tM)):FnOk P w K mg base CX0 1 f fd ["total"] ZkT:=by
 refine F.ok ZlZ (fun vs H Q E h=>?_) (fun cdv A outer s H vs Q E hr h=>?_)
 ·obtain⟨i,rfl,_⟩:=h;rfl
 ·obtain⟨i,rfl,h4,k⟩:=h;refine⟨_,Zao (Zdq (Zaz ZfL (pv 0) (Zbu rfl hM) (ZaJ _)) ZaH Zbt),?_⟩;refine⟨_,rfl,_,_,rfl,rfl,_,rfl,?_⟩;rw[decide_eq_false (by omega)];exact iteF k
theorem Zjm:FnScope ["p"] ["p"] (Zad Zcy):=⟨rfl,rfl,rfl,by decide +kernel,rfl,by decide +kernel,by decide +kernel⟩
theorem Zh5 {f:Addr}{fd:FuncData} (F:Fun K "first_numbers" "first_numbers" Zcy f fd) (T:Txt mg):FnOk P w K mg base CX0 1 f fd ["p"] Zd4:=by
 refine F.ok Zjm (fun vs H Q E h=>?_) (fun cdv A outer s H vs Q E hr h=>?_)
 ·obtain⟨p,rfl,_⟩:=h;rfl
 ·obtain⟨p,rfl,h1,h2,k⟩:=h;refine⟨_,Zao (Zay (ZaT ZaP rfl T.tuple ZbN (Zaa (Zak Zb0 (ZaM (Zaa (ZbZ (Zaa Zae Zac)) Zac)) (Zak Zgf (ZaM (Zaa (ZbZ Zac) Zac)) (Zak ZbA (pv 0) Zae))) Zac))),?_⟩;refine⟨(by show 1<=sizeLine;decide),fun q0 e0=>⟨(by show 1<=sizeLine;decide),fun p1 e1=>⟨YaR _,fun q1 f1=>⟨(by show 1<=sizeLine;decide),fun p2 e2=>⟨_,rfl,_,_,rfl,rfl,?_⟩⟩⟩⟩⟩;have t0:Same H (upd H q0 (.tup [.int 0])):=Same.new e0;have t1:=t0.trans (Same.new (o:=.lst [.ref q0]) e1);have t2:=t1.trans (Same.new (o:=.tup []) f1);have t3:=t2.trans (Same.new (o:=.lst [.ref q1]) e2);have a0:(upd (upd (upd (upd H q0 (.tup [.int 0])) p1 (.lst [.ref q0])) q1 (.tup [])) p2 (.lst [.ref q1])) q0=some (.tup [.int 0]):=((Same.new e1).trans ((Same.new f1).trans (Same.new e2))) q0 _ Zab;have a1:(upd (upd (upd (upd H q0 (.tup [.int 0])) p1 (.lst [.ref q0])) q1 (.tup [])) p2 (.lst [.ref q1])) p1=some (.lst [.ref q0]):=((Same.new f1).trans (Same.new e2)) p1 _ Zab;have a2:(upd (upd (upd (upd H q0 (.tup [.int 0])) p1 (.lst [.ref q0])) q1 (.tup [])) p2 (.lst [.ref q1])) q1=some (.tup []):=(Same.new e2) q1 _ Zab;have a3:(upd (upd (upd (upd H q0 (.tup [.int 0])) p1 (.lst [.ref q0])) q1 (.tup [])) p2 (.lst [.ref q1])) p2=some (.lst [.ref q1]):=Zab;generalize (upd (upd (upd (upd H q0 (.tup [.int 0])) p1 (.lst [.ref q0])) q1 (.tup [])) p2 (.lst [.ref q1]))=H1 at t3 a0 a1 a2 a3 ⊢;refine⟨p2,(p:Int) - 1,_,rfl,rfl,a3,by omega,by omega,?_,fun p3 e3=>?_⟩
  ·exact Ybj (ZaL (by show 1*((p:Int) - 1).toNat<=1000;omega))
  have ez:(Yan ((p:Int) - 1).toNat [V.ref q1]).flatten=Yan (p - 1) (V.ref q1):=by
   rw[show ((p:Int) - 1).toNat=p - 1 by omega];exact Ycy
  rw[ez];have s3:=Same.new (o:=.lst (Yan (p - 1) (V.ref q1))) e3;refine⟨p1,p3,_,_,rfl,rfl,s3 p1 _ a1,Zab,?_,fun p4 e4=>⟨p4,_,rfl,.inl ⟨SqL.of Zab,fun l hl=>?_⟩⟩⟩
  ·exact Ybj (ZaL (by rw[YbJ];show 1+(p - 1)<=1000;omega))
  have s4:=s3.trans (Same.new (o:=.lst ([.ref q0]++Yan (p - 1) (V.ref q1))) e4);have s5:=s4.trans (Same.new (o:=.tup ([.ref q0]++Yan (p - 1) (V.ref q1))) hl);have hl0:H l=none:=(t3.trans s4).free hl;refine k l (q0::Yan (p - 1) q1) _ hl0 (by rw[Zab];simp) ⟨by simp[num0],fun j r xs ha hb=>?_⟩ (t3.trans s5)
  cases j with
  | zero=>
   have:r=q0:=by simpa using ha.symm
   have:xs=[0]:=by simpa[num0] using hb.symm
   subst r xs;exact s5 q0 _ a0
  | succ j=>
   have:r=q1:=ZhF (j:=j) (by simpa using ha);have:xs=[]:=ZhF (j:=j) (by simpa[num0] using hb);subst r xs;exact s5 q1 _ a2
theorem Zga:FnScope ["p","n"] ["p","n"] (Zad Zb7):=⟨rfl,rfl,rfl,by decide +kernel,rfl,by decide +kernel,by decide +kernel⟩
theorem Zh0 {f fA fB:Addr}{fd dA dB:FuncData} (F:Fun K "check_places" "check_places" Zb7 f fd) (T:Txt mg) (CA:Cal P w K mg base 4 "level_total" ["p","n"] Zb5 fA dA) (CB:Cal P w K mg base 1 "check_total" ["total"] ZkT fB dB):FnOk P w K mg base CX0 5 f fd ["p","n"] ZdY:=by
 refine F.ok Zga (fun vs H Q E h=>?_) (fun cdv A outer s H vs Q E hr h=>?_)
 ·obtain⟨p,n,rfl,_⟩:=h;rfl
 ·obtain⟨p,n,rfl,h1,h2,h3,h4,k⟩:=h;have hr1:Room 1 _:=hr.mono (by decide);refine⟨_,Zao (ZaN (Zar CB hr1 rfl (Zaa (Zar CA hr rfl (Zaa (pv 0) (Zaa (pv 1) Zac))) Zac))),?_⟩;exact⟨_,rfl,_,rfl,p,n,rfl,h1,h2,h3,fun H1 s1=>⟨_,rfl,h4,k H1 s1⟩⟩
theorem scNextN:FnScope ["numbers","first"] ["numbers"] (Zad ZcG):=⟨rfl,rfl,rfl,by decide +kernel,rfl,by decide +kernel,by decide +kernel⟩
theorem ZjF {f:Addr}{fd:FuncData} (F:Fun K "next_numbers" "next_numbers" ZcG f fd) (T:Txt mg):FnOk P w K mg base CX0 1 f fd ["numbers"] ZdZ:=by
 refine F.ok scNextN (fun vs H Q E h=>?_) (fun cdv A outer s H vs Q E hr h=>?_)
 ·obtain⟨a,rs,N,rfl,_⟩:=h;rfl
 ·obtain⟨a,rs,N,rfl,hA,hT,h1,h2,hne,hz,k⟩:=h;refine⟨_,Zas (Zap (i:=1) scNextN.nd rfl (Ydc rfl) (ZaT ZaP rfl T.tuple ZbN (Zaa (Za8 (own:=["number"]) (js:=[]) (CompOk.by (sc:=Zad ZcG) (N:=["numbers","first"]) rfl rfl (by decide +kernel)) rfl (ZhO (ZaB Za2 (pv 0) Zae (fun _ _=>rfl))) ZaO
     (fun _ _ _ _ _=>Zaq (i:=0) (by show (["number"]:List Str).Nodup;decide +kernel) rfl (YaQ rfl) (.inr rfl)) (fun _ _ _ _ _=>ZaW) (fun _ _ _ _ _=>Zak Za7 (pv 0) Zae)) Zac)))
   (Zao (Zay (ZaT ZaP rfl T.tuple ZbN (Zaa (Zak Zb0
    (Za8 (own:=["reel"]) (js:=[1]) (CompOk.by (sc:=Zad ZcG) (N:=["numbers","first"]) rfl rfl (by decide +kernel)) rfl (ZhO (Zcn Zkj (pv 0) (ZcA Zae) Zc9)) ZaO
     (fun _ _ _ _ _=>Zaq (i:=0) (by show (["reel","first"]:List Str).Nodup;decide +kernel) rfl (YaQ rfl) (.inr rfl)) (fun _ _ _ _ _=>ZaW) (fun _ _ _ _ _=>Zak (ZjB K) (pv 1) (pv 0)))
    (ZaM (Zaa (pv 1) Zac))) Zac)))),?_⟩
  obtain⟨x0,xr,rfl⟩:∃ x0 xr,N=x0::xr:=by
   cases N with
   | nil=>simp at h1
   | cons x y=>exact⟨x,y,rfl⟩
  obtain⟨r0,rr,rfl⟩:∃ r0 rr,rs=r0::rr:=by
   cases rs with
   | nil=>have:=hT.1;simp at this
   | cons x y=>exact⟨x,y,rfl⟩
  have hr0:H r0=some (.tup (x0.map V.int)):=hT.2 0 r0 x0 rfl rfl;have hrl:rr.length=xr.length:=by have:=hT.1;simpa using this
  have hxr:xr.length<=6:=by simpa using h2
  have hx0:x0.length<=4000:=hz x0 (by simp);have ef:fstN (x0::xr)=x0.map (·+1):=rfl;refine⟨_,rfl,a,_,0,.ref r0,rfl,rfl,SqT.of hA,Zbg (j:=0) rfl,r0,rfl,⟨_,SqT.of hr0⟩,?_⟩;refine Zes (xs:=x0.map V.int) (fun acc i H2=>Same H H2/\H2 acc=some (.lst (((x0.take i).map (·+1)).map V.int))) (fun acc h0=>⟨Same.new h0,Zab⟩) (fun acc i H2 h0 _ p=>p.1.tup (SqT.of hr0)) ?_ ?_
  ·rintro acc i x H2 h0 hx ⟨s2,hacc⟩;obtain⟨z,hz',rfl⟩:=Zbf hx;have hi:=(Yae.mp hz').1
   refine⟨_,rfl,z,1,rfl,rfl,_,hacc,?_,by rw[Yab];exact hi,s2.put h0,?_⟩
   ·exact ZbF (by simp;omega)
   ·rw[Zab,Yba,hz',YbS,Yaz,Yaz];rfl
  rintro acc H2 h0 ⟨s2,hacc⟩;rw[Yab,YaS] at hacc;refine⟨acc,_,rfl,.inl ⟨SqL.of hacc,fun fl hfl=>?_⟩⟩;have s3:=s2.trans (Same.new (o:=.tup ((x0.map (·+1)).map V.int)) hfl);have hfl3:(upd H2 fl (.tup ((x0.map (·+1)).map V.int))) fl=some (.tup ((x0.map (·+1)).map V.int)):=Zab;generalize (upd H2 fl (.tup ((x0.map (·+1)).map V.int)))=H3 at s3 hfl3 ⊢;have hfl0:H fl=none:=s2.free hfl;refine⟨_,rfl,1,rfl,a,_,rfl,SqT.of (s3 a _ hA),?_,fun p1 e1=>⟨p1,rfl,⟨_,SqT.of Zab⟩,?_⟩⟩
  ·rintro⟨z,_⟩;have:HT.sIx ((r0::rr).map V.ref).length 0 (some ((1:Nat):Int))=0:=z;rw[HT.sIx_nat] at this;simp at this
  have ecut:cutV ((r0::rr).map V.ref) (some 1) none=rr.map V.ref:=by
   unfold cutV;show (((r0::rr).map V.ref).drop (HT.sIx ((r0::rr).map V.ref).length 0 (some ((1:Nat):Int)))).take (HT.sIx ((r0::rr).map V.ref).length ((r0::rr).map V.ref).length none - HT.sIx ((r0::rr).map V.ref).length 0 (some ((1:Nat):Int)))=_;rw[HT.sIx_nat];rw[show min 1 ((r0::rr).map V.ref).length=1 by simp];show (rr.map V.ref).take (((r0::rr).map V.ref).length - 1)=_;rw[Ya6 (by simp)]
  rw[ecut];have s4:=s3.trans (Same.new (o:=.tup (rr.map V.ref)) e1);have hfl4:=(Same.new (o:=.tup (rr.map V.ref)) e1) fl _ hfl3;have hp14:(upd H3 p1 (.tup (rr.map V.ref))) p1=some (.tup (rr.map V.ref)):=Zab;generalize (upd H3 p1 (.tup (rr.map V.ref)))=H4 at s4 hfl4 hp14 ⊢;have hr:∀ (j:Nat) r xs,rr[j]?=some r->xr[j]?=some xs->H r=some (.tup (xs.map V.int)):=fun j r xs a b=>hT.2 (j+1) r xs a b;have hxz:∀ xs∈xr,xs.length<=4000:=fun xs hx=>hz xs (by simp[hx]);have hx0ne:x0≠[]:=hne;refine Zes (xs:=rr.map V.ref) (fun acc i H5=>Same H4 H5/\∃ qs:List Addr,H5 acc=some (.lst (qs.map V.ref))/\TTs H5 qs ((xr.take i).map (x0.map (·+1)++·))) (fun acc h0=>⟨Same.new h0,[],Zab,rfl,fun j r xs a b=>by simp at a⟩) (fun acc i H5 h0 _ p=>p.1.tup (SqT.of hp14)) ?_ ?_
  ·rintro acc i x H5 h0 hx ⟨s5,qs,hacc,hq⟩;obtain⟨r,hr',rfl⟩:=Zbx hx;have hi:=(Yae.mp hr').1
   have hix:i<xr.length:=by omega
   have hrx:H5 r=some (.tup (xr[i].map V.int)):=(s4.trans s5) r _ (hr i r _ hr' (Yaa hix));have hfl5:=s5 fl _ hfl4;have hxi:xr[i].length<=4000:=hxz _ (Ybp hix);have hqs:qs.length<=6:=by have:=hq.1;simp at this;omega
   have e2:(xr.take (i+1)).map (x0.map (·+1)++·)=(xr.take i).map (x0.map (·+1)++·)++[x0.map (·+1)++xr[i]]:=by
    rw[Ycx hix,Yaz];rfl
   rw[e2];refine⟨_,rfl,_,rfl,fl,r,_,_,rfl,rfl,SqT.of hfl5,SqT.of hrx,by simpa using hx0ne,?_,fun hemp=>?_,fun hemp pn en=>?_⟩
   ·exact Ybj (ZbF (by simp;omega))
   ·have hemp':xr[i]=[]:=by simpa using hemp
    refine⟨_,hacc,ZbF (by simp;omega),by rw[Yab];exact hi,s5.put h0,qs++[fl],by rw[Zab];simp,?_⟩;refine (hq.lst hacc).snoc ?_;rw[hemp',YbA,Zah (by intro z;subst z;rw[hacc] at hfl5;cases hfl5)];exact hfl5
   ·have hacc6:=(Same.new (o:=.tup ((x0.map (·+1)).map V.int++xr[i].map V.int)) en) acc _ hacc;refine⟨_,hacc6,ZbF (by simp;omega),by rw[Yab];exact hi,(s5.trans (Same.new en)).put h0,qs++[pn],by rw[Zab];simp,?_⟩;refine ((hq.same (Same.new en)).lst hacc6).snoc ?_;rw[Zah (by intro z;subst z;rw[hacc] at en;cases en),Zab];simp
  ·rintro acc H5 h0 ⟨s5,qs,hacc,hq⟩;rw[Yab,hrl,YaS] at hq;have hfl5:=s5 fl _ hfl4;have hqs:qs.length<=6:=by have:=hq.1;simp at this;omega
   refine⟨_,rfl,(by show 1<=sizeLine;decide),fun p2 e2=>?_⟩;refine⟨acc,p2,_,_,rfl,rfl,(Same.new e2) acc _ hacc,Zab,?_,fun p3 e3=>⟨p3,_,rfl,.inl ⟨SqL.of Zab,fun l hl=>?_⟩⟩⟩
   ·exact Ybj (ZbF (by simp;omega))
   have sz:=((Same.new (o:=.lst [V.ref fl]) e2).trans (Same.new (o:=.lst (qs.map V.ref++[V.ref fl])) e3)).trans (Same.new (o:=.tup (qs.map V.ref++[V.ref fl])) hl);have s6:=(s4.trans s5).trans sz;refine k l (qs++[fl]) _ ?_ (by rw[Zab];simp) ?_ s6
   ·exact ((s4.trans s5).trans ((Same.new (o:=.lst [V.ref fl]) e2).trans (Same.new (o:=.lst (qs.map V.ref++[V.ref fl])) e3))).free hl
   ·exact (hq.same sz).snoc (sz fl _ hfl5)
theorem scAfter:FnScope ["p","n","following","numbers","level"] ["p","n","following"] (Zad ZdH):=⟨rfl,rfl,rfl,by decide +kernel,rfl,by decide +kernel,by decide +kernel⟩
theorem ZjM {f fA fB:Addr}{fd dA dB:FuncData} (F:Fun K "numbers_after" "numbers_after" ZdH f fd) (T:Txt mg) (CB:Cal P w K mg base 1 "first_numbers" ["p"] Zd4 fB dB) (CA:Cal P w K mg base 1 "next_numbers" ["numbers"] ZdZ fA dA):FnOk P w K mg base CX0 2 f fd ["p","n","following"] (ZfD fA):=by
 refine F.ok scAfter (fun vs H Q E h=>?_) (fun cdv A outer s H vs Q E hr h=>?_)
 ·obtain⟨p,n,rfl,_⟩:=h;rfl
 ·obtain⟨p,n,rfl,h1,h2,h3,h4,k⟩:=h;refine⟨_,Zas (Zap (i:=3) scAfter.nd rfl (YaQ rfl) (Zar CB hr rfl (Zaa (pv 0) Zac)))
   (Zas (ZbY Ybv rfl (ZaS rfl T.range (Zaa (pv 1) Zac)) (Zaq (i:=4) scAfter.nd rfl (YaQ rfl)) (Zao (Zap (i:=3) scAfter.nd rfl (YaQ rfl) (Zla 2 CA hr (Zaa (pv 3) Zac)))))
   (Zao (Zay (pv 3)))),?_⟩
  refine⟨_,rfl,p,rfl,h1,h2,fun l qs H1 hl0 hl1 hq1 s1=>?_⟩;refine⟨_,rfl,n,rfl,by omega,by omega,Zbn (fun i σ H2=>∃ (l:Addr) (qs:List Addr) (o:Option V),σ=[some (.int p),some (.int n),some (.ref fA),some (.ref l),o]/\H l=none/\H2 l=some (.tup (qs.map V.ref))/\TTs H2 qs (num p i)/\Same H H2)
   ⟨l,qs,none,rfl,hl0,hl1,hq1,s1⟩ ?_ ?_⟩
  ·rintro i σ H2 hi ⟨l,qs,o,rfl,hl0,hl2,hq,s2⟩;have hlen:=Zcb (p:=p) (by omega) i;have htot:=Zcj (p:=p) h1 (show i<=n by omega);refine⟨rfl,_,rfl,l,qs,num p i,rfl,hl2,hq,by omega,by omega,?_,fun xs hx=>?_,fun l3 qs3 H3 h30 h3 hq3 s3=>?_⟩
   ·obtain⟨a,r,e,ha,_⟩:=ZjN h1 i;rw[e];exact ha
   ·have:=Zia hx;omega
   ·exact⟨l3,qs3,_,rfl,s2.free h30,h3,hq3,s2.trans s3⟩
  ·rintro σ H2 ⟨l,qs,o,rfl,hl0,hl2,hq,s2⟩;refine⟨_,rfl,k l qs H2 hl0 hl2 ?_ s2⟩;simpa using hq
theorem ZkZ:FnScope ["p","n"] ["p","n"] (Zad ZdC):=⟨rfl,rfl,rfl,by decide +kernel,rfl,by decide +kernel,by decide +kernel⟩
theorem ZjE {f fA fB:Addr}{fd dA dB:FuncData} (F:Fun K "numbers_of" "numbers_of" ZdC f fd) (T:Txt mg) (CA:Cal P w K mg base 1 "next_numbers" ["numbers"] ZdZ fA dA) (CB:Cal P w K mg base 2 "numbers_after" ["p","n","following"] (ZfD fA) fB dB):FnOk P w K mg base CX0 3 f fd ["p","n"] Zfz:=by
 refine F.ok ZkZ (fun vs H Q E h=>?_) (fun cdv A outer s H vs Q E hr h=>?_)
 ·obtain⟨p,n,rfl,_⟩:=h;rfl
 ·obtain⟨p,n,rfl,h1,h2,h3,h4,k⟩:=h;refine⟨_,Zao (Zay (Zar CB hr rfl (Zaa (pv 0) (Zaa (pv 1) (Zaa (Zl9 CA rfl) Zac))))),?_⟩;exact⟨_,rfl,_,rfl,p,n,rfl,h1,h2,h3,h4,k⟩
theorem scLN:FnScope ["p","n"] ["p","n"] (Zad sLN):=⟨rfl,rfl,rfl,by decide +kernel,rfl,by decide +kernel,by decide +kernel⟩
theorem ZmT {f fA fB:Addr}{fd dA dB:FuncData} (F:Fun K "level_numbers" "level_numbers" sLN f fd) (T:Txt mg) (CA:Cal P w K mg base 5 "check_places" ["p","n"] ZdY fA dA) (CB:Cal P w K mg base 3 "numbers_of" ["p","n"] Zfz fB dB):FnOk P w K mg base CX0 6 f fd ["p","n"] Zfz:=by
 refine F.ok scLN (fun vs H Q E h=>?_) (fun cdv A outer s H vs Q E hr h=>?_)
 ·obtain⟨p,n,rfl,_⟩:=h;rfl
 ·obtain⟨p,n,rfl,h1,h2,h3,h4,k⟩:=h;have hr2:Room 3 _:=hr.mono (by decide);refine⟨_,Zas (ZaN (Zar CA hr rfl (Zaa (pv 0) (Zaa (pv 1) Zac)))) (Zao (Zay (Zar CB hr2 rfl (Zaa (pv 0) (Zaa (pv 1) Zac))))),?_⟩;refine⟨_,rfl,_,rfl,p,n,rfl,h1,h2,h3,h4,fun H1 s1=>?_⟩;exact⟨_,rfl,_,rfl,p,n,rfl,h1,h2,h3,h4,fun l qs H2 hl0 hl hq s2=>k l qs H2 (s1.free hl0) hl hq (s1.trans s2)⟩
theorem scMixed:FnScope ["cell","k","prime","part"] ["cell","k"] (Zad ZdD):=⟨rfl,rfl,rfl,by decide +kernel,rfl,by decide +kernel,by decide +kernel⟩
theorem ix7 {d:Int} (h0:0<=d) (h1:d<7):∃ v:Int,atI [V.int 2147483647,.int 2147483629,.int 2147483587,.int 2147483579,.int 2147483563,.int 2147483549,.int 2147483543] d=some (.int v)/\0<v/\v<=2147483647:=by
 have:d=0∨d=1∨d=2∨d=3∨d=4∨d=5∨d=6:=by omega
 rcases this with rfl | rfl | rfl | rfl | rfl | rfl | rfl
 all_goals exact⟨_,rfl,by decide,by decide⟩
theorem ZjG {f:Addr}{fd:FuncData} (F:Fun K "_law_mixed" "_law_mixed" ZdD f fd) (T:Txt mg):FnOk P w K mg base CX0 1 f fd ["cell","k"] ZfA:=by
 refine F.ok scMixed (fun vs H Q E h=>?_) (fun cdv A outer s H vs Q E hr h=>?_)
 ·obtain⟨c,k,rfl,_⟩:=h;rfl
 ·obtain⟨c,kk,rfl,hk,k⟩:=h;refine⟨_,Zas (Zap (i:=2) scMixed.nd rfl (YaQ rfl) (ZaB ZaA (ZaM (Zaa Zae (Zaa Zae (Zaa Zae (Zaa Zae (Zaa Zae (Zaa Zae (Zaa Zae Zac)))))))) (Zak ZaU (pv 1) Zae) (fun _ _=>rfl)))
   (Zas (Zap (i:=3) scMixed.nd rfl (YaQ rfl) (Zak ZaU (Zak Za7 (Zak Za7 (Zak Zdb (Zak ZaU (pv 0) Zae) Zae) (Zak Zdb Zae (pv 1))) Zae) (pv 2)))
   (Zas (Zap (i:=3) scMixed.nd rfl (YaQ rfl) (Zak ZaU (Zak ZcJ (pv 3) Zae) Zae))
   (Zao (Zay (Zak Zlf (Zak ZaU (Zak Zdb (Zak Za7 (pv 3) (Zak Zdb Zae (pv 1))) Zae) Zae) Zae))))),?_⟩
  refine⟨(by show 7<=sizeLine;decide),fun q hq=>⟨_,rfl,_,_,rfl,rfl,(by show (0:Int)<7;decide),?_⟩⟩;obtain⟨v,ev,v0,v1⟩:=ix7 (Ya2 (kk:Int) (show (7:Int)≠0 by decide)) (Ybg (kk:Int) (show (0:Int)<7 by decide));refine⟨q,_,_,_,rfl,rfl,SqL.of Zab,ev,?_⟩;refine⟨_,rfl,_,_,rfl,rfl,(by show (0:Int)<1000000000000000009;decide),_,_,rfl,rfl,.inr ⟨by decide,by decide⟩,_,rfl,_,_,rfl,rfl,.inl ⟨by decide,by decide⟩,_,_,rfl,rfl,_,_,rfl,rfl,_,rfl,_,v,rfl,rfl,v0,?_⟩;have m0:=Ya2 (c % 1000000000000000009*40692+6361*(kk:Int)+77) (show v≠0 by omega);have m1:=Ybg (c % 1000000000000000009*40692+6361*(kk:Int)+77) v0;refine⟨_,rfl,_,5,rfl,rfl,⟨by decide,by decide,?_⟩,_,_,rfl,rfl,(by show (0:Int)<2305843009213693951;decide),?_⟩
  ·generalize (c % 1000000000000000009*40692+6361*(kk:Int)+77) % v=y at m0 m1;omega
  refine⟨_,rfl,_,rfl,_,_,rfl,rfl,.inl ⟨by decide,by decide⟩,_,_,rfl,rfl,_,_,rfl,rfl,.inr ⟨by decide,by decide⟩,_,_,rfl,rfl,(by show (0:Int)<2305843009213693921;decide),_,_,rfl,rfl,⟨by decide,by decide⟩,?_⟩;refine k _ _ ?_ (Same.new hq);exact Int.ediv_nonneg (Ya2 _ (by decide)) (by decide)
end
end Fk38
namespace Fk38
open PySem L2 Lv
section
variable {P:Program}{w:World}{K:Yac}{mg:Str->Option Value}{base:Heap}
theorem Zdp:FnScope ["p","n","lengths"] ["p","n","lengths"] (Zad ZaF):=⟨rfl,rfl,rfl,by decide +kernel,rfl,by decide +kernel,by decide +kernel⟩
def ZkU (K:Yac):Sp:=fun vs H Q _=>∃ (p n:Nat) (ll:Addr) (b:Bool) (ls:List Int),vs=[.int p,.int n,.ref ll]/\2<=p/\p<=7/\n<=300/\tot p n<=4000/\H ll=some (if b then .lst (ls.map V.int) else .tup (ls.map V.int))/\(ls.length:Int)<=tot p n/\(∀ l∈ls,Ya3 l<=8000) /\
 ∀ (t pl:Addr) (qs:List Addr) (ks lf lp:List (List Int)) H',H pl=none->H' t=some (.tup [.int (ZaR (num p n) ls ks).sum,.ref pl])->H' pl=some (.lst (qs.map V.ref))->TuM H' qs ks->(∀ k∈ks,InN (num p n) k)->ZcM ls (num p n) ks lf lp->Same H H'->Q (.ref t) H'
theorem Zmf {f f1 f2 f3:Addr}{fd d1 d2 d3:FuncData} (F:Fun K "least_placing" "least_placing" ZaF f fd) (T:Txt mg) (CT:Cal P w K mg base 4 "level_total" ["p","n"] Zb5 f1 d1) (CN:Cal P w K mg base 6 "level_numbers" ["p","n"] Zfz f2 d2) (CL:Cal P w K mg base 2 "least_by" ["numbers","lengths"] (ZbE K) f3 d3):FnOk P w K mg base CX0 7 f fd ["p","n","lengths"] (ZkU K):=by
 refine okW F Zdp (fun vs H Q E h=>?_) (fun cdv A outer s H vs Q E hr h=>?_)
 ·obtain⟨p,n,ll,b,ls,rfl,_⟩:=h;rfl
 ·obtain⟨p,n,ll,b,ls,rfl,p2,p7,hn,h4,hL,hl,hb,k⟩:=h;have hr2:Room 2 _:=hr.mono (by decide);have hr4:Room 4 _:=hr.mono (by decide);have hr6:Room 6 _:=hr.mono (by decide);refine⟨_,(Zaf (ZbW (Zaz ZgU (Zar CT hr4 rfl (Zaa (pv 0) (Zaa (pv 1) Zac))) (Zai Zan rfl T.len Ya7 (Zaa (pv 2) Zac)) (ZaJ _))
   (wss ZaH)
   ZaQ)
   (Zaw (ws (Zay (Zar CL hr2 rfl (Zaa (Zar CN hr6 rfl (Zaa (pv 0) (Zaa (pv 1) Zac))) (Zaa (pv 2) Zac))))))),?_⟩
  have hsq:∀ {H':Hp},Same H H'->SqB b K H' ll (ls.map V.int):=fun {H'} s=>by
   have h:=s _ _ hL;cases b
   ·exact SqT.of h
   ·exact SqL.of h
  have hsr:∀ {H':Hp},Same H H'->SqL K H' ll (ls.map V.int)∨SqT K H' ll (ls.map V.int):=fun {H'} s=>by
   have h:=s _ _ hL;cases b
   ·exact .inr (SqT.of h)
   ·exact .inl (SqL.of h)
  have hnf:=Zeh p n;refine⟨_,rfl,_,rfl,p,n,rfl,p2,p7,hn,fun H1 s1=>?_⟩;refine⟨_,rfl,ll,_,rfl,hsr s1,_,_,rfl,rfl,_,rfl,?_⟩;rw[Yab,show decide ((cnt p n).sum<(ls.length:Int))=false from decide_eq_false (show ¬ tot p n<(ls.length:Int) by omega)];refine iteF ?_;refine⟨_,rfl,_,rfl,p,n,rfl,p2,p7,hn,h4,fun a rs H2 na ha hTT s2=>?_⟩;have s02:=s1.trans s2;refine⟨_,rfl,a,ll,b,rs,num p n,ls,rfl,ha,hTT,by rw[Zcb (by omega)];omega,by omega,hsq s02,by omega,hb,fun xs hx z hz=>?_,fun t pl qs ks lf lp H' nt ht npl hpl hM hin hst s'=>k t pl qs ks lf lp H' (s02.free npl) ht hpl hM hin hst (s02.trans s')⟩;have:=Zfo p n xs hx z hz;exact Zbp (by omega) (by omega)
end
end Fk38
namespace Fk38
open PySem L2 Lv
section
variable {P:Program}{w:World}{K:Yac}{mg:Str->Option Value}{base:Heap}
theorem ZkX:FnScope ["thing"] ["thing"] (Zad ZdB):=⟨rfl,rfl,rfl,by decide +kernel,rfl,by decide +kernel,by decide +kernel⟩
theorem ZeU {f:Addr}{fd:FuncData} (F:Fun K "is_whole" "is_whole" ZdB f fd) (T:Txt mg):FnOk P w K mg base CX0 1 f fd ["thing"] (ZcQ K):=by
 refine F.ok ZkX (fun vs H Q E h=>?_) (fun cdv A outer s H vs Q E hr h=>?_)
 ·obtain⟨x,T,rfl,_⟩:=h;rfl
 ·obtain⟨x,Tx,rfl,⟨ty,hT⟩,k⟩:=h;refine⟨_,Zao (Zay (ZhU (Zai ZaZ rfl T.isinstance Zau (Zaa (pv 0) (Zaa (ZeS rfl T.int Zka) Zac)))
   (ZhR (Zkt (Zai ZaZ rfl T.isinstance Zau (Zaa (pv 0) (Zaa (ZeS rfl T.bool ZkH) Zac))))))),?_⟩
  refine⟨_,rfl,x,"int",_,_,rfl,ty,Zg3 hT,_,rfl,?_⟩;by_cases e1:Tx="int"
  ·subst e1;exact iteT ⟨_,rfl,x,"bool",_,_,rfl,ty,Zde hT,_,rfl,by simpa using k⟩
  ·by_cases e2:Tx="bool"
   ·subst e2;exact iteT ⟨_,rfl,x,"bool",_,_,rfl,ty,Zde hT,_,rfl,by simpa using k⟩
   ·have e:(decide (Tx="int") || decide (Tx="bool"))=false:=by simp[e1,e2]
    rw[decide_eq_false e1] at k;rw[e];exact iteF k
theorem ZkY:FnScope ["p"] ["p"] (Zad ZeN):=⟨rfl,rfl,rfl,by decide +kernel,rfl,by decide +kernel,by decide +kernel⟩
theorem ZhX {f fW:Addr}{fd dW:FuncData}{t2 t7:Tok}{C:Addr} (F:Fun K "check_ways" "check_ways" ZeN f fd) (T:Txt mg) (mW:mg "NoWays"=some (.ref C)) (hz:excAll K C=true) (hL:mg "LEAST_WAYS"=some (.int 2 t2)) (hM:mg "MOST_WAYS"=some (.int 7 t7)) (CW:Cal P w K mg base 1 "is_whole" ["thing"] (ZcQ K) fW dW) :
  FnOk P w K mg base (CX1 P w) 2 f fd ["p"] (Zhx K 2 7 C):=by
 refine F.okE ZkY (fun vs H Q E h=>?_) (fun cdv A outer s H vs Q E hr h=>?_)
 ·obtain⟨v,Tv,rfl,_⟩:=h;rfl
 ·obtain⟨v,Tv,rfl,th,hc⟩:=h;refine⟨_,Zao (Zdq (PW.pt (Zb9 (Za9 (Zbm (Zar CW hr rfl (Zaa (pv 0) Zac))))
   (ZbG (Za9 (ZcS Zdt Zdt (Zbu rfl hL) (pv 0) (Zbu rfl hM))))))
   (Zao (ZcT Zf4 rfl mW hz (Zaa (ZfJ (.con (by decide) (.val (Zbu rfl hL) (.con (by decide) (.val (Zbu rfl hM) (.con (by decide) .nil)))))) Zac))) Zbt),?_⟩
  refine⟨_,rfl,v,Tv,rfl,th,_,rfl,?_⟩;rcases hc with ⟨i,rfl,h1,h2,k⟩ | ⟨hn | ⟨i,rfl,hni⟩,hE⟩
  ·rw[decide_eq_true th.ty_int];refine iteF ⟨_,rfl,2,i,rfl,rfl,_,rfl,?_⟩;rw[decide_eq_true h1];refine iteT ⟨i,7,rfl,rfl,_,rfl,?_⟩;rw[decide_eq_true h2];exact iteF k
  ·rw[decide_eq_false hn];exact iteT (iteT ⟨2,rfl,by decide,by decide,7,rfl,by decide,by decide,fun x=>⟨by show 1<=1000;decide,hE⟩⟩)
  ·rw[decide_eq_true th.ty_int];refine iteF ⟨_,rfl,2,i,rfl,rfl,_,rfl,?_⟩;by_cases h1:(2:Int)<=i
   ·rw[decide_eq_true h1];refine iteT ⟨i,7,rfl,rfl,_,rfl,?_⟩;rw[decide_eq_false (by omega)];exact iteT ⟨2,rfl,by decide,by decide,7,rfl,by decide,by decide,fun x=>⟨by show 1<=1000;decide,hE⟩⟩
   ·rw[decide_eq_false h1];exact iteF ⟨_,rfl,iteT ⟨2,rfl,by decide,by decide,7,rfl,by decide,by decide,fun x=>⟨by show 1<=1000;decide,hE⟩⟩⟩
theorem Zjk:FnScope ["n","last"] ["n","last"] (Zad ZcH):=⟨rfl,rfl,rfl,by decide +kernel,rfl,by decide +kernel,by decide +kernel⟩
def Zhv (K:Yac) (hi:Int) (C:Addr):Sp:=fun vs H Q E=>∃ (v:V) (T:String),vs=[v,.int hi]/\(hi=300∨hi=100)/\Thing K H v T/\((∃ i,v=.int i/\0<=i/\i<=hi/\Q .non H)∨(NotIn 0 hi v T/\E (.ref C) none H))
theorem ZlM {hi:Int} (h:hi=300∨hi=100):hi.natAbs.log2<1920/\(YbZ (toString hi)).length<=1000:=by
 rcases h with rfl | rfl
 ·exact⟨by decide,by decide⟩
 ·exact⟨by decide,by decide⟩
theorem ZgZ {f fW da:Addr}{fd dW:FuncData}{hi:Int} (F:FunD K "check_level" "check_level" ZcH f da fd) (T:Txt mg) {C:Addr} (mX:mg "NoLevel"=some (.ref C)) (hz:excAll K C=true) (CW:Cal P w K mg base 1 "is_whole" ["thing"] (ZcQ K) fW dW) :
  FnOk P w K mg base (CX1 P w) 2 f fd ["n","last"] (Zhv K hi C):=by
 refine F.okE Zjk (fun vs H Q E h=>?_) (fun cdv A outer s H vs Q E hr h=>?_)
 ·obtain⟨v,Tv,rfl,_⟩:=h;rfl
 ·obtain⟨v,Tv,rfl,hh,th,hc⟩:=h;obtain⟨x1,x2⟩:=ZlM hh;refine⟨_,Zao (Zdq (PW.pt (Zb9 (Za9 (Zbm (Zar CW hr rfl (Zaa (pv 0) Zac))))
   (ZbG (Za9 (ZcS Zdt Zdt Zae (pv 0) (pv 1))))))
   (Zao (ZcT Zf4 rfl mX hz (Zaa (ZfJ (.con (by decide) (.val (pv 1) .nil))) Zac))) Zbt),?_⟩
  refine⟨_,rfl,v,Tv,rfl,th,_,rfl,?_⟩;rcases hc with ⟨i,rfl,h1,h2,k⟩ | ⟨hn | ⟨i,rfl,hni⟩,hE⟩
  ·rw[decide_eq_true th.ty_int];refine iteF ⟨_,rfl,0,i,rfl,rfl,_,rfl,?_⟩;rw[decide_eq_true h1];refine iteT ⟨_,rfl,i,hi,rfl,rfl,_,rfl,?_⟩;rw[decide_eq_true h2];exact iteF k
  ·rw[decide_eq_false hn];exact iteT (iteT ⟨_,rfl,hi,rfl,x1,x2,fun x=>⟨by show 1<=1000;decide,hE⟩⟩)
  ·rw[decide_eq_true th.ty_int];refine iteF ⟨_,rfl,0,i,rfl,rfl,_,rfl,?_⟩;by_cases h1:(0:Int)<=i
   ·rw[decide_eq_true h1];refine iteT ⟨_,rfl,i,hi,rfl,rfl,_,rfl,?_⟩;rw[decide_eq_false (by omega)];exact iteT ⟨_,rfl,hi,rfl,x1,x2,fun x=>⟨by show 1<=1000;decide,hE⟩⟩
   ·rw[decide_eq_false h1];exact iteF ⟨_,rfl,iteT ⟨_,rfl,hi,rfl,x1,x2,fun x=>⟨by show 1<=1000;decide,hE⟩⟩⟩
def spWL (K:Yac) (cW cL:Addr):Sp:=fun vs H _ E=>∃ (v u:V) (T:String),vs=[v,u]/\Thing K H v T/\((NotIn 2 7 v T/\E (.ref cW) none H)∨∃ (p:Int) (S:String),v=.int p/\2<=p/\p<=7/\Thing K H u S/\NotIn 0 300 u S/\E (.ref cL) none H)
theorem Zg1 {f f1 f2:Addr}{fd d1 d2:FuncData}{cW cL:Addr} (F:Fun K "level_counts" "level_counts" Zb8 f fd) (CW:CalE P w K mg base 2 "check_ways" ["p"] [] (Zhx K 2 7 cW) f1 d1) (CV:CalE P w K mg base 2 "check_level" ["n","last"] [.int 300] (Zhv K 300 cL) f2 d2):FnOk P w K mg base (CX1 P w) 3 f fd ["p","n"] (spWL K cW cL):=by
 refine F.okE scCounts (fun vs H Q E h=>?_) (fun cdv A outer s H vs Q E hr h=>?_)
 ·obtain⟨v,u,Tv,rfl,_⟩:=h;rfl
 ·obtain⟨v,u,Tv,rfl,th,hc⟩:=h;refine⟨_,Zas (ZaN (Zbi CW hr Zbv rfl (Zaa (pv 0) Zac))) (Zas (ZaN (Zbi CV hr Zbv rfl (Zaa (pv 1) Zac))) ZaH),?_⟩;rcases hc with ⟨hn,hE⟩ | ⟨p,S,rfl,p2,p7,th2,hn,hE⟩
  ·exact⟨_,rfl,v,Tv,rfl,th,.inr ⟨hn,hE⟩⟩
  ·exact⟨_,rfl,.int p,Tv,rfl,th,.inl ⟨p,rfl,p2,p7,_,rfl,u,S,rfl,.inl rfl,th2,.inr ⟨hn,hE⟩⟩⟩
theorem ZhY {f fA:Addr}{fd dA:FuncData}{cW cL:Addr} (F:Fun K "level_total" "level_total" Zc5 f fd) (T:Txt mg) (CA:CalE P w K mg base 3 "level_counts" ["p","n"] [] (spWL K cW cL) fA dA):FnOk P w K mg base (CX1 P w) 4 f fd ["p","n"] (spWL K cW cL):=by
 refine F.okE ZhA (fun vs H Q E h=>?_) (fun cdv A outer s H vs Q E hr h=>?_)
 ·obtain⟨v,u,Tv,rfl,_⟩:=h;rfl
 ·obtain⟨v,u,Tv,rfl,th,hc⟩:=h;refine⟨_,Zao (Zay (Zai (Zff rfl) rfl T.sum Zfp (Zaa (Zbi CA hr Zbv rfl (Zaa (pv 0) (Zaa (pv 1) Zac))) Zac))),?_⟩;exact⟨_,rfl,_,rfl,v,u,Tv,rfl,th,hc⟩
def Zhs (cM:Addr):Sp:=fun vs H _ E=>∃ i:Int,vs=[.int i]/\4000<i/\E (.ref cM) none H
theorem ZjC {f:Addr}{fd:FuncData}{tM:Tok} (F:Fun K "check_total" "check_total" sTot f fd) {C:Addr} (mX:mg "TooMany"=some (.ref C)) (zM:excAll K C=true) (hM:mg "MOST_PLACES"=some (.int 4000 tM)):FnOk P w K mg base (CX1 P w) 1 f fd ["total"] (Zhs C):=by
 refine F.okE ZlZ (fun vs H Q E h=>?_) (fun cdv A outer s H vs Q E hr h=>?_)
 ·obtain⟨i,rfl,_⟩:=h;rfl
 ·obtain⟨i,rfl,h4,hE⟩:=h;refine⟨_,Zao (Zdq (Zaz ZfL (pv 0) (Zbu rfl hM) (ZaJ _)) (Zao (ZcT Zf4 rfl mX zM (Zaa (ZfJ (.con (by decide) (.val (Zbu rfl hM) (.con (by decide) .nil)))) Zac))) Zbt),?_⟩;refine⟨_,rfl,_,_,rfl,rfl,_,rfl,?_⟩;rw[decide_eq_true (by omega)];exact iteT ⟨4000,rfl,by decide,by decide,fun x=>⟨by show 1<=1000;decide,hE⟩⟩
def ZgI (K:Yac) (cW cL cM:Addr):Sp:=fun vs H _ E=>∃ (v u:V) (T:String),vs=[v,u]/\Thing K H v T/\((NotIn 2 7 v T/\E (.ref cW) none H)∨∃ p:Nat,v=.int p/\2<=p/\p<=7/\((∃ S,Thing K H u S/\NotIn 0 300 u S/\E (.ref cL) none H)∨∃ n:Nat,u=.int n/\n<=300/\4000<tot p n/\∀ H',Same H H'->E (.ref cM) none H'))
theorem ZgX {f fA fB:Addr}{fd dA dB:FuncData}{cW cL cM:Addr} (F:Fun K "check_places" "check_places" Zb7 f fd) (CA:CalE P w K mg base 4 "level_total" ["p","n"] [] (fun vs H Q E=>Zb5 vs H Q E∨spWL K cW cL vs H Q E) fA dA) (CB:CalE P w K mg base 1 "check_total" ["total"] [] (Zhs cM) fB dB):FnOk P w K mg base (CX1 P w) 5 f fd ["p","n"] (ZgI K cW cL cM):=by
 refine F.okE Zga (fun vs H Q E h=>?_) (fun cdv A outer s H vs Q E hr h=>?_)
 ·obtain⟨v,u,Tv,rfl,_⟩:=h;rfl
 ·obtain⟨v,u,Tv,rfl,th,hc⟩:=h;have hr1:Room 1 _:=hr.mono (by decide);refine⟨_,Zao (ZaN (Zbi CB hr1 Zbv rfl (Zaa (Zbi CA hr Zbv rfl (Zaa (pv 0) (Zaa (pv 1) Zac))) Zac))),?_⟩;rcases hc with ⟨hn,hE⟩ | ⟨p,rfl,p2,p7,⟨S,thu,hnu,hE⟩ | ⟨n,rfl,hn,ht,hE⟩⟩
  ·exact⟨_,rfl,_,rfl,.inr ⟨v,u,Tv,rfl,th,.inl ⟨hn,hE⟩⟩⟩
  ·exact⟨_,rfl,_,rfl,.inr ⟨.int p,u,Tv,rfl,th,.inr ⟨p,S,rfl,by omega,by omega,thu,hnu,hE⟩⟩⟩
  ·exact⟨_,rfl,_,rfl,.inl ⟨p,n,rfl,p2,p7,hn,fun H1 s1=>⟨_,rfl,ht,hE H1 s1⟩⟩⟩
theorem Zmg {f fA:Addr}{fd dA:FuncData}{cW cL cM:Addr} (F:Fun K "level_numbers" "level_numbers" sLN f fd) (CA:CalE P w K mg base 5 "check_places" ["p","n"] [] (ZgI K cW cL cM) fA dA):FnOk P w K mg base (CX1 P w) 6 f fd ["p","n"] (ZgI K cW cL cM):=by
 refine F.okE scLN (fun vs H Q E h=>?_) (fun cdv A outer s H vs Q E hr h=>?_)
 ·obtain⟨v,u,Tv,rfl,_⟩:=h;rfl
 ·obtain⟨v,u,Tv,rfl,th,hc⟩:=h;refine⟨_,Zas (ZaN (Zbi CA hr Zbv rfl (Zaa (pv 0) (Zaa (pv 1) Zac)))) ZaH,?_⟩;refine⟨_,rfl,_,rfl,v,u,Tv,rfl,th,?_⟩;rcases hc with ⟨hn,hE⟩ | ⟨p,rfl,p2,p7,⟨S,thu,hnu,hE⟩ | ⟨n,rfl,hn,ht,hE⟩⟩
  ·exact .inl ⟨hn,hE⟩
  ·exact .inr ⟨p,rfl,p2,p7,.inl ⟨S,thu,hnu,hE⟩⟩
  ·exact .inr ⟨p,rfl,p2,p7,.inr ⟨n,rfl,hn,ht,hE⟩⟩
theorem ZmN:FnScope ["p","n","lengths"] ["p","n","lengths"] (Zad ZaF):=⟨rfl,rfl,rfl,by decide +kernel,rfl,by decide +kernel,by decide +kernel⟩
def Zhw (K:Yac) (cW cL cF cM:Addr):Sp:=fun vs H _ E=>∃ (v u:V) (T:String) (ll:Addr) (ls:List Int) (b:Bool),vs=[v,u,.ref ll]/\H ll=some (if b then .lst (ls.map V.int) else .tup (ls.map V.int))/\ls.length<=4000/\Thing K H v T/\((NotIn 2 7 v T/\E (.ref cW) none H)∨∃ p:Nat,v=.int p/\2<=p/\p<=7/\((∃ S,Thing K H u S/\NotIn 0 300 u S/\E (.ref cL) none H)∨∃ n:Nat,u=.int n/\n<=300/\((tot p n<ls.length/\∀ H',Same H H'->E (.ref cF) none H')∨(4000<tot p n/\∀ H',Same H H'->E (.ref cM) none H'))))
theorem Zlk {f fA fB:Addr}{fd dA dB:FuncData}{cW cL cF cM:Addr} (F:Fun K "least_placing" "least_placing" ZaF f fd) (T:Txt mg) (mF:mg "TooFew"=some (.ref cF)) (hz:excAll K cF=true) (CA:CalE P w K mg base 4 "level_total" ["p","n"] [] (fun vs H Q E=>Zb5 vs H Q E∨spWL K cW cL vs H Q E) fA dA) (CB:CalE P w K mg base 6 "level_numbers" ["p","n"] [] (ZgI K cW cL cM) fB dB) {f3:Addr}{d3:FuncData} (CL:CalE P w K mg base 2 "least_by" ["numbers","lengths"] [] (ZbE K) f3 d3):FnOk P w K mg base (CX1 P w) 7 f fd ["p","n","lengths"] (Zhw K cW cL cF cM):=by
 refine F.okE ZmN (fun vs H Q E h=>?_) (fun cdv A outer s H vs Q E hr h=>?_)
 ·obtain⟨v,u,Tv,ll,ls,b,rfl,_⟩:=h;rfl
 ·obtain⟨v,u,Tv,ll,ls,b,rfl,hL,hl4,th,hc⟩:=h;have hr2:Room 2 _:=hr.mono (by decide);have hr4:Room 4 _:=hr.mono (by decide);have hr6:Room 6 _:=hr.mono (by decide);have sqr:∀ {H':Hp},H' ll=some (if b then .lst (ls.map V.int) else .tup (ls.map V.int))->SqL K H' ll (ls.map V.int)∨SqT K H' ll (ls.map V.int):=fun {H'} h=>by
   cases b
   ·exact .inr (SqT.of h)
   ·exact .inl (SqL.of h)
  refine⟨_,Zas (Zdq (Zaz ZgU (Zbi CA hr4 Zbv rfl (Zaa (pv 0) (Zaa (pv 1) Zac))) (Zai Zan rfl T.len Ya7 (Zaa (pv 2) Zac)) (ZaJ _))
   (Zao (ZcT Zf4 rfl mF hz (Zaa Zbh Zac))) Zbt)
   (Zao (Zay (Zbi CL hr2 Zbv rfl (Zaa (Zbi CB hr6 Zbv rfl (Zaa (pv 0) (Zaa (pv 1) Zac))) (Zaa (pv 2) Zac))))),?_⟩
  rcases hc with ⟨hn,hE⟩ | ⟨p,rfl,p2,p7,⟨S,thu,hnu,hE⟩ | ⟨n,rfl,hn,⟨ht,hE⟩ | ⟨ht,hE⟩⟩⟩
  ·exact⟨_,rfl,_,rfl,.inr ⟨v,u,Tv,rfl,th,.inl ⟨hn,hE⟩⟩⟩
  ·exact⟨_,rfl,_,rfl,.inr ⟨.int p,u,Tv,rfl,th,.inr ⟨p,S,rfl,by omega,by omega,thu,hnu,hE⟩⟩⟩
  ·refine⟨_,rfl,_,rfl,.inl ⟨p,n,rfl,p2,p7,hn,fun H1 s1=>?_⟩⟩;refine⟨_,rfl,ll,_,rfl,sqr (s1 _ _ hL),_,_,rfl,rfl,_,rfl,?_⟩;rw[Yab,show decide ((cnt p n).sum<(ls.length:Int))=true from decide_eq_true ht];exact iteT ⟨by decide,hE H1 s1⟩
  ·refine⟨_,rfl,_,rfl,.inl ⟨p,n,rfl,p2,p7,hn,fun H1 s1=>?_⟩⟩;refine⟨_,rfl,ll,_,rfl,sqr (s1 _ _ hL),_,_,rfl,rfl,_,rfl,?_⟩;rw[Yab,show decide ((cnt p n).sum<(ls.length:Int))=false from decide_eq_false (show ¬ tot p n<(ls.length:Int) by omega)];exact iteF ⟨_,rfl,_,rfl,.int p,.int n,_,rfl,th.same s1,.inr ⟨p,rfl,p2,p7,.inr ⟨n,rfl,hn,ht,fun H' s'=>hE H' (s1.trans s')⟩⟩⟩
end
end Fk38
namespace Fk38
open PySem L2 Lv
section
variable {P:Program}{w:World}{K:Yac}{mg:Str->Option Value}{base:Heap}
theorem scLawKind:FnScope ["p","n","lengths","caught","e","marks"] ["p","n","lengths"] (Zad ZbR):=⟨rfl,rfl,rfl,by decide +kernel,rfl,by decide +kernel,by decide +kernel⟩
def Zfr (K:Yac) (R9:Addr) (all:List Addr) (cW cL cF cM C:Addr) (j:Nat):Prop:=j<4/\ExcTab K R9 C all/\Yby K (.ref C) (.ref cF)=some (decide (j=0))/\Yby K (.ref C) (.ref cM)=some (decide (j=1))/\Yby K (.ref C) (.ref cW)=some (decide (j=2))/\Yby K (.ref C) (.ref cL)=some (decide (j=3))
def ZcF (j:Nat):Str:=match j with | 0=>"few" | 1=>"many" | 2=>"ways" | _=>"level"
def Zd3 (K:Yac):Sp:=fun vs H Q _=>∃ (v u:V) (T:String) (ll:Addr) (ls:List Int) (b:Bool) (j:Nat),vs=[v,u,.ref ll]/\H ll=some (if b then .lst (ls.map V.int) else .tup (ls.map V.int))/\ls.length<=4000/\Thing K H v T/\((NotIn 2 7 v T/\j=2)∨∃ p:Nat,v=.int p/\2<=p/\p<=7/\((∃ S,Thing K H u S/\NotIn 0 300 u S/\j=3)∨∃ n:Nat,u=.int n/\n<=300/\((tot p n<ls.length/\j=0)∨(4000<tot p n/\j=1))))/\∀ H',Same H H'->Q (.str (ZcF j)) H'
theorem Zh4 {f:Addr}{fd:FuncData} (F:Fun K "_law_kind" "_law_kind" ZbR f fd) (T:Txt mg) (Tv:mg "ValueError"=none) {R9 cW cL cF cM:Addr} (mR:mg "ReelError"=some (.ref R9)) (mW:mg "NoWays"=some (.ref cW)) (mL:mg "NoLevel"=some (.ref cL)) (mF:mg "TooFew"=some (.ref cF)) (mM:mg "TooMany"=some (.ref cM)) (tW:ExcTab K R9 cW [cW,cL,cF,cM]) (tL:ExcTab K R9 cL [cW,cL,cF,cM]) (tF:ExcTab K R9 cF [cW,cL,cF,cM]) (tM:ExcTab K R9 cM [cW,cL,cF,cM]) (nd:([cW,cL,cF,cM]:List Addr).Nodup) {fB:Addr}{dB:FuncData} (CL:CalE P w K mg base 7 "least_placing" ["p","n","lengths"] [] (Zhw K cW cL cF cM) fB dB):FnOk P w K mg base CX0 8 f fd ["p","n","lengths"] (Zd3 K):=by
 refine okW F scLawKind (fun vs H Q E h=>?_) (fun cdv A outer s H vs Q E hr h=>?_)
 ·obtain⟨v,u,Tv2,ll,ls,b,j,rfl,_⟩:=h;rfl
 ·obtain⟨v,u,Tv2,ll,ls,b,j,rfl,hL,hl4,th,hc,k⟩:=h;have hr7:Room 7 _:=hr.mono (by decide);refine⟨_,(Zaf (ws (Zap (i:=3) scLawKind.nd rfl (YaQ rfl) ZhS))
   (Zaf (ws (Zl7 (i:=4) scLawKind.nd rfl rfl rfl mR (fun Ex pn' xe' hx=>(WSs.out (Zaw (ws (ZaN (Zbi CL hr7 hx rfl (Zaa (pv 0) (Zaa (pv 1) (Zaa (pv 2) Zac)))))))))
   (fun ea=>(WSs.out (Zaw (ws (Zap (i:=3) scLawKind.nd rfl (YaQ rfl) (pv 4))))))))
   (Zaf (Zke (i:=5) scLawKind.nd rfl (YaQ rfl) (ZfY (ZaC rfl (Zai (Za5 K) rfl T.isinstance Zau (Zaa (pv 3) (Zaa (Zee rfl mF) Zac))) (ZaC rfl (Zai (Za5 K) rfl T.isinstance Zau (Zaa (pv 3) (Zaa (Zee rfl mM) Zac))) (ZaC rfl (Zai (Za5 K) rfl T.isinstance Zau (Zaa (pv 3) (Zaa (Zee rfl mW) Zac))) ZfZ)))))
   (Zaf (ws (ZaN (Zdr Ya1 YbH YbG Zba (pv 5) (Zaa (Zai (Za5 K) rfl T.isinstance Zau (Zaa (pv 3) (Zaa (Zee rfl mL) Zac))) Zac))))
   (Zaf (ZbW (PW.pt (Zb9 (Zaz ZfL (Zdr Ya1 PySem.F.slot_list_count PySem.F.type_list_count Zid (pv 5) (Zaa Zeg Zac)) Zae (ZaJ _)) (ZbG (PW.pt (Zkp (Zl6 (Zld (pv 3))) (ZhI (Za9 (Zbm (Zai (Za5 K) rfl T.isinstance Zau (Zaa (pv 3) (Zaa (ZeS rfl Tv Zfq) Zac)))))))))))
   (Zaw (ws (Zay Zbh)))
   ZaQ)
   (Zaf (ZbW (Zaz ZeT Zeg (pv 5) rfl)
   (Zaw (ws (Zay Zbh)))
   ZaQ)
   (Zaw (ZlK (ZlL ZaA (ZfY (ZaC rfl Zbh (ZaC rfl Zbh (ZaC rfl Zbh (ZaC rfl Zbh ZfZ))))) (we (Zdr Ya1 PySem.F.slot_list_index PySem.F.type_list_index Zic (pv 5) (Zaa Zeg Zac))) (fun _ _=>rfl)))))))))),?_⟩
  have nd':=nd;simp only[Yb7,Yah,Ybb,or_false,not_or,YcW,and_true,not_false_eq_true] at nd';obtain⟨⟨nWL,nWF,nWM⟩,⟨nLF,nLM⟩,nFM⟩:=nd';have kF:Zfr K R9 [cW,cL,cF,cM] cW cL cF cM cF 0:=⟨by decide,tF,tF.yes (by simp),tF.no (by simp) (Ybn nFM),tF.no (by simp) nWF,tF.no (by simp) nLF⟩
  have kM:Zfr K R9 [cW,cL,cF,cM] cW cL cF cM cM 1:=⟨by decide,tM,tM.no (by simp) nFM,tM.yes (by simp),tM.no (by simp) nWM,tM.no (by simp) nLM⟩
  have kW:Zfr K R9 [cW,cL,cF,cM] cW cL cF cM cW 2:=⟨by decide,tW,tW.no (by simp) (Ybn nWF),tW.no (by simp) (Ybn nWM),tW.yes (by simp),tW.no (by simp) (Ybn nWL)⟩
  have kL:Zfr K R9 [cW,cL,cF,cM] cW cL cF cM cL 3:=⟨by decide,tL,tL.no (by simp) (Ybn nLF),tL.no (by simp) (Ybn nLM),tL.no (by simp) nWL,tL.yes (by simp)⟩
  refine cut2 (fun σ' H'=>∃ (ea C:Addr),σ'=[none,none,none,some (.ref ea),none,none]/\H' ea=some (ZcP ea C)/\Zfr K R9 [cW,cL,cF,cM] cW cL cF cM C j/\Same H H') (fun R' hR=>?_) ?_
  ·refine⟨_,rfl,_,rfl,_,rfl,v,u,Tv2,ll,ls,b,rfl,hL,hl4,th,?_⟩;rcases hc with ⟨hn,ej⟩ | ⟨p,rfl,p2,p7,⟨S,thu,hnu,ej⟩ | ⟨n,rfl,hn,⟨ht,ej⟩ | ⟨ht,ej⟩⟩⟩
   ·subst ej;exact .inl ⟨hn,cW,rfl,tW.exm,fun ea hea=>⟨_,rfl,hR _ _ ⟨ea,cW,rfl,Zab,kW,Same.new hea⟩⟩⟩
   ·subst ej;exact .inr ⟨p,rfl,p2,p7,.inl ⟨S,thu,hnu,cL,rfl,tL.exm,fun ea hea=>⟨_,rfl,hR _ _ ⟨ea,cL,rfl,Zab,kL,Same.new hea⟩⟩⟩⟩
   ·subst ej;exact .inr ⟨p,rfl,p2,p7,.inr ⟨n,rfl,hn,.inl ⟨ht,fun H1 s1=>⟨cF,rfl,tF.exm,fun ea hea=>⟨_,rfl,hR _ _ ⟨ea,cF,rfl,Zab,kF,s1.trans (Same.new hea)⟩⟩⟩⟩⟩⟩
   ·subst ej;exact .inr ⟨p,rfl,p2,p7,.inr ⟨n,rfl,hn,.inr ⟨ht,fun H1 s1=>⟨cM,rfl,tM.exm,fun ea hea=>⟨_,rfl,hR _ _ ⟨ea,cM,rfl,Zab,kM,s1.trans (Same.new hea)⟩⟩⟩⟩⟩⟩
  rintro σ H0 ⟨ea,C,rfl,hE,⟨j4,tab,kf,km,kw,kl⟩,s0⟩;refine⟨_,rfl,ea,C,_,_,_,rfl,hE,tab.ok,.inr ⟨_,rfl,rfl⟩,kf,_,rfl,ea,C,_,_,_,rfl,hE,tab.ok,.inr ⟨_,rfl,rfl⟩,km,_,rfl,ea,C,_,_,_,rfl,hE,tab.ok,.inr ⟨_,rfl,rfl⟩,kw,(by show 3<=sizeLine;decide),fun l nl=>?_⟩;have s1:Same H0 (upd H0 l (.lst [.bl (decide (j=0)),.bl (decide (j=1)),.bl (decide (j=2))])):=Same.new nl;have e1:upd H0 l (.lst [.bl (decide (j=0)),.bl (decide (j=1)),.bl (decide (j=2))]) l=some (.lst [.bl (decide (j=0)),.bl (decide (j=1)),.bl (decide (j=2))]):=Zab;have lea:ea≠l:=Zag hE nl;generalize upd H0 l (.lst [.bl (decide (j=0)),.bl (decide (j=1)),.bl (decide (j=2))])=H1 at s1 e1 ⊢;refine⟨_,rfl,.inl ⟨rfl,_,SqL.of e1⟩,_,rfl,ea,C,_,_,_,rfl,s1 _ _ hE,tab.ok,.inr ⟨_,rfl,rfl⟩,kl,l,_,_,rfl,rfl,e1,(by show 3<sizeLine;decide),?_⟩;have e4:upd H1 l (.lst ([.bl (decide (j=0)),.bl (decide (j=1)),.bl (decide (j=2))]++[.bl (decide (j=3))])) l=some (.lst (([decide (j=0),decide (j=1),decide (j=2),decide (j=3)]:List Bool).map V.bl)):=Zab;have hE4:upd H1 l (.lst ([.bl (decide (j=0)),.bl (decide (j=1)),.bl (decide (j=2))]++[.bl (decide (j=3))])) ea=some (ZcP ea C):=by rw[Zah lea];exact s1 _ _ hE
  have s3:Same H0 (upd H1 l (.lst ([.bl (decide (j=0)),.bl (decide (j=1)),.bl (decide (j=2))]++[.bl (decide (j=3))]))):=s1.put nl;generalize upd H1 l (.lst ([.bl (decide (j=0)),.bl (decide (j=1)),.bl (decide (j=2))]++[.bl (decide (j=3))]))=H4 at e4 hE4 s3 ⊢;have ec:(([decide (j=0),decide (j=1),decide (j=2),decide (j=3)]:List Bool).count true)=1:=by
   rcases (show j=0∨j=1∨j=2∨j=3 by omega) with rfl | rfl | rfl | rfl <;> rfl
  have ei:(([decide (j=0),decide (j=1),decide (j=2),decide (j=3)]:List Bool).idxOf true)=j:=by
   rcases (show j=0∨j=1∨j=2∨j=3 by omega) with rfl | rfl | rfl | rfl <;> rfl
  have em:true∈([decide (j=0),decide (j=1),decide (j=2),decide (j=3)]:List Bool):=by
   rcases (show j=0∨j=1∨j=2∨j=3 by omega) with rfl | rfl | rfl | rfl <;> decide
  refine⟨_,rfl,.inl ⟨rfl,_,SqL.of e4⟩,l,_,true,rfl,rfl,SqL.of e4,_,_,rfl,rfl,_,rfl,?_⟩;rw[ec];refine iteF ⟨_,rfl,true,rfl,iteT ⟨_,rfl,ea,C,_,_,true,rfl,hE4,tab.ok,.inl ⟨rfl,rfl⟩,tab.isV,true,rfl,iteF ?_⟩⟩;refine⟨_,rfl,l,_,rfl,.inl (SqL.of e4),rfl,?_,?_⟩
  ·rcases (show j=0∨j=1∨j=2∨j=3 by omega) with rfl | rfl | rfl | rfl <;> rfl
  have ein:inV (V.bl true) (([decide (j=0),decide (j=1),decide (j=2),decide (j=3)]:List Bool).map V.bl)=true:=by
   rcases (show j=0∨j=1∨j=2∨j=3 by omega) with rfl | rfl | rfl | rfl <;> rfl
  rw[ein];refine⟨_,rfl,iteF ?_⟩;refine⟨(by show 4<=sizeLine;decide),fun lw nw=>?_⟩;have s5:Same H4 (upd H4 lw (.lst [.str "few",.str "many",.str "ways",.str "level"])):=Same.new nw;have e5:upd H4 lw (.lst [.str "few",.str "many",.str "ways",.str "level"]) lw=some (.lst [.str "few",.str "many",.str "ways",.str "level"]):=Zab;generalize upd H4 lw (.lst [.str "few",.str "many",.str "ways",.str "level"])=H5 at s5 e5 ⊢;refine⟨_,rfl,.inl ⟨rfl,_,SqL.of (s5 _ _ e4)⟩,l,_,true,rfl,rfl,SqL.of (s5 _ _ e4),em,?_⟩;rw[ei];refine⟨lw,_,_,.str (ZcF j),rfl,rfl,SqL.of e5,?_,k H5 ((s0.trans s3).trans s5)⟩;refine Zbg ?_;rcases (show j=0∨j=1∨j=2∨j=3 by omega) with rfl | rfl | rfl | rfl <;> rfl
end
end Fk38
namespace Fk38
open PySem L2 Lv
section
variable {P:Program}{w:World}{K:Yac}{mg:Str->Option Value}{base:Heap}
theorem scLawNoNumber:FnScope ["least","most","way","some"] ["least","most","way"] (Zad Za0):=⟨rfl,rfl,rfl,by decide +kernel,rfl,by decide +kernel,by decide +kernel⟩
theorem ZmU {K:Yac}{H:Hp}{q1 q2 q3:Addr}{far i lo hi:Int} (h1:H q1=some (.lst [.int 3])) (h2:H q2=some (.tup [.int 3])) (h3:H q3=some (.dK [])) (i0:0<=i) (i1:i<10) (a0:0<=lo) (a1:lo<=7) (a2:lo<=hi) (hf:hi<far) :
  ∃ v T,atI [V.int (lo - 1),.int (hi+1),.bl true,.non,.str "3",.ref q1,.ref q2,.int far,.int (-7),.ref q3] i=some v/\Thing K H v T/\NotIn lo hi v T:=by
 rcases (show i=0∨i=1∨i=2∨i=3∨i=4∨i=5∨i=6∨i=7∨i=8∨i=9 by omega) with rfl | rfl | rfl | rfl | rfl | rfl | rfl | rfl | rfl | rfl
 ·exact⟨_,"int",rfl,⟨.int _,by decide⟩,.inr ⟨_,rfl,by omega⟩⟩
 ·exact⟨_,"int",rfl,⟨.int _,by decide⟩,.inr ⟨_,rfl,by omega⟩⟩
 ·exact⟨_,"bool",rfl,⟨.bl _,by decide⟩,.inl (by decide)⟩
 ·exact⟨_,"NoneType",rfl,⟨.non,by decide⟩,.inl (by decide)⟩
 ·exact⟨_,"str",rfl,⟨.str _,by decide⟩,.inl (by decide)⟩
 ·exact⟨_,"list",rfl,⟨.lst h1,by decide⟩,.inl (by decide)⟩
 ·exact⟨_,"tuple",rfl,⟨.tup h2,by decide⟩,.inl (by decide)⟩
 ·exact⟨_,"int",rfl,⟨.int _,by decide⟩,.inr ⟨_,rfl,by omega⟩⟩
 ·exact⟨_,"int",rfl,⟨.int _,by decide⟩,.inr ⟨_,rfl,by omega⟩⟩
 ·exact⟨_,"dict",rfl,⟨.dK h3,by decide⟩,.inl (by decide)⟩
def Zc2 (K:Yac):Sp:=fun vs H Q _=>∃ (lo hi way:Int),vs=[.int lo,.int hi,.int way]/\0<=lo/\lo<=7/\lo<=hi/\∀ (v:V) (T:String) H',Same H H'->Thing K H' v T->NotIn lo hi v T->Q v H'
theorem ZgY {f:Addr}{fd:FuncData} (F:Fun K "_law_no_number" "_law_no_number" Za0 f fd) (T:Txt mg):FnOk P w K mg base CX0 1 f fd ["least","most","way"] (Zc2 K):=by
 refine okW F scLawNoNumber (fun vs H Q E h=>?_) (fun cdv A outer s H vs Q E hr h=>?_)
 ·obtain⟨lo,hi,way,rfl,_⟩:=h;rfl
 ·obtain⟨lo,hi,way,rfl,h0,h1,h2,k⟩:=h;refine⟨_,(Zaf (Zke (i:=3) scLawNoNumber.nd rfl (YaQ rfl) (ZfY (ZaC rfl (Zak ZbA (pv 0) Zae) (ZaC rfl (Zak Za7 (pv 1) Zae) (ZaC rfl Zeg (ZaC rfl ZhS (ZaC rfl Zbh (ZaC rfl (ZaM (Zaa Zae Zac)) (ZaC rfl (ZbZ (Zaa Zae Zac)) (ZaC rfl (Zak Za7 (Zak Za7 (pv 1) Zae) (Zak ZcJ Zae Zae)) (ZaC rfl (Zjw Zf1 Zae) (ZaC rfl Zjx ZfZ))))))))))))
   (Zaw (ws (Zay (ZaB ZaA (pv 3) (Zak ZaU (pv 2) Zae) (fun _ _=>rfl)))))),?_⟩
  have hzz:100<sizeLine:=by decide
  refine⟨_,rfl,_,_,rfl,rfl,_,rfl,_,_,rfl,rfl,(by show 1<=sizeLine;decide),fun q2 n2=>?_⟩;have s18:Same H (upd H q2 (.lst [.int 3])):=Same.new n2;have e18:upd H q2 (.lst [.int 3]) q2=some (.lst [.int 3]):=Zab;generalize upd H q2 (.lst [.int 3])=H18 at s18 e18 ⊢;refine⟨(by show 1<=sizeLine;decide),fun q3 n3=>?_⟩;have s19:Same H18 (upd H18 q3 (.tup [.int 3])):=Same.new n3;have e19:upd H18 q3 (.tup [.int 3]) q3=some (.tup [.int 3]):=Zab;generalize upd H18 q3 (.tup [.int 3])=H19 at s19 e19 ⊢;refine⟨_,rfl,_,_,rfl,rfl,10,30,rfl,rfl,⟨by decide,by decide,by decide⟩,_,_,rfl,rfl,7,rfl,fun q4 n4=>?_⟩;have s20:Same H19 (upd H19 q4 (.dK [])):=Same.new n4;have e20:upd H19 q4 (.dK []) q4=some (.dK []):=Zab;generalize upd H19 q4 (.dK [])=H20 at s20 e20 ⊢;refine⟨(by show 10<=sizeLine;decide),fun l9 nl9=>?_⟩;have s21:∀ o,Same H20 (upd H20 l9 o):=fun o=>Same.new nl9;have w0:=Ya2 way (show (10:Int)≠0 by decide);have w1:=Ybg way (show (0:Int)<10 by decide);have hfar:hi<hi+1+(10:Int) ^ (30:Int).toNat:=by
   have:(0:Int)<(10:Int) ^ (30:Int).toNat:=by decide
   omega
  have s22:=s21 (.lst [V.int (lo - 1),.int (hi+1),.bl true,.non,.str "3",.ref q2,.ref q3,.int (hi+1+(10:Int) ^ (30:Int).toNat),.int (-7),.ref q4]);have e22:upd H20 l9 (.lst [V.int (lo - 1),.int (hi+1),.bl true,.non,.str "3",.ref q2,.ref q3,.int (hi+1+(10:Int) ^ (30:Int).toNat),.int (-7),.ref q4]) l9=some (.lst [V.int (lo - 1),.int (hi+1),.bl true,.non,.str "3",.ref q2,.ref q3,.int (hi+1+(10:Int) ^ (30:Int).toNat),.int (-7),.ref q4]):=Zab;obtain⟨v,Tv,ev,th,hn⟩:=ZmU (K:=K) (i:=way % 10) (far:=hi+1+(10:Int) ^ (30:Int).toNat) (lo:=lo) (hi:=hi) (s22 _ _ (s20 _ _ (s19 _ _ e18))) (s22 _ _ (s20 _ _ e19)) (s22 _ _ e20) w0 w1 h0 h1 h2 hfar;refine⟨_,rfl,_,rfl,_,_,rfl,rfl,(by show (0:Int)<10;decide),l9,_,_,v,rfl,rfl,SqL.of e22,ev,?_⟩;exact k v Tv _ (((s18.trans s19).trans s20).trans s22) th hn
end
end Fk38
namespace Fk38
open PySem L2 Lv
section
variable {P:Program}{w:World}{K:Yac}{mg:Str->Option Value}{base:Heap}
theorem ZhB:FnScope ["thing","reels"] ["thing","reels"] (Zad ZbQ):=⟨rfl,rfl,rfl,by decide +kernel,rfl,by decide +kernel,by decide +kernel⟩
def Zc3:Sp:=fun vs H Q _=>∃ (q rl:Addr) (rs:List Addr) (N:List (List Int)) (k:List Int),vs=[.ref q,.ref rl]/\H rl=some (.lst (rs.map V.ref))/\LLs H rs N/\H q=some (.tup (k.map V.int))/\InN N k/\Q (.bl true) H
theorem Zg0 {f f1:Addr}{fd d1:FuncData} (F:Fun K "_law_pair" "_law_pair" ZbQ f fd) (T:Txt mg) (CW:Cal P w K mg base 1 "_law_whole" ["thing"] Zb4 f1 d1):FnOk P w K mg base CX0 2 f fd ["thing","reels"] Zc3:=by
 refine okW F ZhB (fun vs H Q E h=>?_) (fun cdv A outer s H vs Q E hr h=>?_)
 ·obtain⟨q,rl,rs,N,k,rfl,_⟩:=h;rfl
 ·obtain⟨q,rl,rs,N,k,rfl,hR,hLL,hq,hin,kk⟩:=h;have hr1:Room 1 _:=hr.mono (by decide);refine⟨_,(Zaf (ZbW (PW.pt (Zb9 (Za9 (Zbm (Zai ZaZ rfl T.isinstance Zau (Zaa (pv 0) (Zaa (ZeS rfl T.tuple ZbN) Zac))))) (Zb9 (Zaz Zds (Zai Zan rfl T.len Ya7 (Zaa (pv 0) Zac)) Zae (ZaJ _)) (Zb9 (Za9 (Zbm (Zar CW hr1 rfl (Zaa (ZaB Za2 (pv 0) Zae (fun _ _=>rfl)) Zac)))) (ZbG (Za9 (Zbm (Zar CW hr1 rfl (Zaa (ZaB Za2 (pv 0) Zae (fun _ _=>rfl)) Zac)))))))))
   (Zaw (ws (Zay Zeg)))
   ZaQ)
   (Zaw (ws (Zay (ZhU (Zef Zdt ZgU Zae (ZaB Za2 (pv 0) Zae (fun _ _=>rfl)) (Zai Zan rfl T.len Ya7 (Zaa (pv 1) Zac))) (ZhR (Zef Zdt ZgU Zae (ZaB Za2 (pv 0) Zae (fun _ _=>rfl)) (Zai Zan rfl T.len Ya7 (Zaa (ZaB ZaA (pv 1) (ZaB Za2 (pv 0) Zae (fun _ _=>rfl)) (fun _ _=>rfl)) Zac))))))))),?_⟩
  obtain⟨r,p,xs,rfl,hr',hp⟩:=hin;have hrl:=(Yae.mp hr').1
  obtain⟨ra,hra⟩:∃ ra,rs[r]?=some ra:=⟨_,Yaa (by rw[hLL.1];exact hrl)⟩
  have hrow:=hLL.2 r ra xs hra hr';refine⟨_,rfl,.ref q,"tuple",_,true,rfl,.tup hq,ZbJ,true,rfl,iteF ?_⟩;refine⟨_,rfl,q,_,rfl,.inr (SqT.of hq),?_⟩;refine⟨rfl,false,by rfl,iteF ?_⟩;refine⟨_,rfl,q,_,0,.int (r:Int),rfl,rfl,SqT.of hq,rfl,(r:Int),rfl,true,rfl,iteF ?_⟩;refine⟨_,rfl,q,_,1,.int (p:Int),rfl,rfl,SqT.of hq,rfl,(p:Int),rfl,true,rfl,iteF ?_⟩;refine⟨_,rfl,q,_,0,.int (r:Int),rfl,rfl,SqT.of hq,rfl,0,(r:Int),rfl,rfl,_,rfl,?_⟩;rw[decide_eq_true (show (0:Int)<=(r:Int) by omega)];refine iteT ⟨_,rfl,rl,_,rfl,.inl (SqL.of hR),(r:Int),_,rfl,rfl,?_⟩;rw[Yab,hLL.1];refine⟨_,rfl,?_⟩;rw[decide_eq_true (show (r:Int)<N.length by omega)];refine iteT ?_;refine⟨_,rfl,q,_,1,.int (p:Int),rfl,rfl,SqT.of hq,rfl,0,(p:Int),rfl,rfl,_,rfl,?_⟩;rw[decide_eq_true (show (0:Int)<=(p:Int) by omega)];refine iteT ⟨_,rfl,_,rfl,q,_,0,.int (r:Int),rfl,rfl,SqT.of hq,rfl,rl,_,(r:Int),.ref ra,rfl,rfl,SqL.of hR,Zbg (by rw[Yam,hra];rfl),ra,_,rfl,.inl (SqL.of hrow),(p:Int),_,rfl,rfl,?_⟩;rw[Yab];show Q (.bl (decide ((p:Int)<xs.length))) H;rw[decide_eq_true (show (p:Int)<xs.length by omega)];exact kk
end
end Fk38
namespace Fk38
open PySem L2 Lv
section
variable {P:Program}{w:World}{K:Yac}{mg:Str->Option Value}{base:Heap}
theorem scLawRight:FnScope ["reels","lengths","told","read","numbers","some","longest","due"] ["reels","lengths","told"] (Zad Za3):=⟨rfl,rfl,rfl,by decide +kernel,rfl,by decide +kernel,by decide +kernel⟩
def Zc0 (K:Yac):Sp:=fun vs H Q _=>∃ (p n:Nat) (rl ll t pl:Addr) (rs qs:List Addr) (ls:List Int) (ks:List (List Int)),vs=[.ref rl,.ref ll,.ref t]/\2<=p/\p<=7/\tot p n<=4000/\H rl=some (.lst (rs.map V.ref))/\LLs H rs (num p n)/\H ll=some (.lst (ls.map V.int))/\ls.length<=500/\(∀ l∈ls,0<=l/\l<=1000000000000)/\H t=some (.tup [.int (ZaR (num p n) ls ks).sum,.ref pl])/\H pl=some (.lst (qs.map V.ref))/\TTs H qs ks/\(∀ k∈ks,InN (num p n) k)/\ks.Nodup/\ls.length=ks.length/\ls.length<=(num p n).flatten.length/\(ZaR (num p n) ls ks).sum=rdF ls (num p n)/\∀ H',Same H H'->Q (.bl true) H'
theorem ZgV {f f1 f2:Addr}{fd d1 d2:FuncData} (F:Fun K "_law_right" "_law_right" Za3 f fd) (T:Txt mg) (Tset:mg "set"=none) (CW:Cal P w K mg base 1 "_law_whole" ["thing"] Zb4 f1 d1) (CP:Cal P w K mg base 2 "_law_pair" ["thing","reels"] Zc3 f2 d2):FnOk P w K mg base CX0 3 f fd ["reels","lengths","told"] (Zc0 K):=by
 refine okW F scLawRight (fun vs H Q E h=>?_) (fun cdv A outer s H vs Q E hr h=>?_)
 ·obtain⟨p,n,rl,ll,t,pl,rs,qs,ls,ks,rfl,_⟩:=h;rfl
 ·obtain⟨p,n,rl,ll,t,pl,rs,qs,ls,ks,rfl,p2,p7,h4,hR,hLL,hL,hl5,hlb,ht,hpl,hQ,hin,hnd,hl,hfit,hrd,kk⟩:=h;have hr1:Room 1 _:=hr.mono (by decide);have hr2:Room 2 _:=hr.mono (by decide);have hu8:_+8<cLine:=YcU (Ye8 (by decide:8<=64) _) hr.units;refine⟨_,(Zaf (ZbW (PW.pt (Zb9 (Za9 (Zbm (Zai ZaZ rfl T.isinstance Zau (Zaa (pv 2) (Zaa (ZeS rfl T.tuple ZbN) Zac))))) (Zb9 (Zaz Zds (Zai Zan rfl T.len Ya7 (Zaa (pv 2) Zac)) Zae (ZaJ _)) (Zb9 (Za9 (Zbm (Zar CW hr1 rfl (Zaa (ZaB Za2 (pv 2) Zae (fun _ _=>rfl)) Zac)))) (ZbG (Za9 (Zbm (Zai ZaZ rfl T.isinstance Zau (Zaa (ZaB Za2 (pv 2) Zae (fun _ _=>rfl)) (Zaa (ZeS rfl T.list ZkG) Zac))))))))))
   (Zaw (ws (Zay Zeg)))
   ZaQ)
   (Zaf (ZbW (PW.pt (Zb9 (Zaz Zds (Zai Zan rfl T.len Ya7 (Zaa (ZaB Za2 (pv 2) Zae (fun _ _=>rfl)) Zac)) (Zai Zan rfl T.len Ya7 (Zaa (pv 1) Zac)) (ZaJ _)) (ZbG (Za9 (Zbm (Zai (Zj7 rfl) rfl T.all Zm8 (Zaa (Za8 (own:=["pair"]) (js:=[0]) (CompOk.by (sc:=Zad Za3) (N:=["reels","lengths","told","read","numbers","some","longest","due"]) rfl rfl (by decide +kernel)) rfl (ZfH (ZaB Za2 (pv 2) Zae (fun _ _=>rfl))) ZaO (fun _ _ _ _ _=>(Zaq (i:=0) (by show (["pair","reels"]:List Str).Nodup;decide +kernel) rfl (YaQ rfl) (.inr rfl))) (fun _ _ _ _ _=>ZaW) (fun _ _ _ _ _=>(Zar CP hr2 rfl (Zaa (pv 0) (Zaa (pv 1) Zac))))) Zac)))))))
   (Zaw (ws (Zay Zeg)))
   ZaQ)
   (Zaf (ZbW (Zaz Zds (Zai Zi3 rfl T.len Ya7 (Zaa (ZaT (Zi2 rfl hu8) rfl Tset Zm7 (Zaa (ZaB Za2 (pv 2) Zae (fun _ _=>rfl)) Zac)) Zac)) (Zai Zan rfl T.len Ya7 (Zaa (ZaB Za2 (pv 2) Zae (fun _ _=>rfl)) Zac)) (ZaJ _))
   (Zaw (ws (Zay Zeg)))
   ZaQ)
   (Zaf (ws (Zap (i:=3) scLawRight.nd rfl (YaQ rfl) (Zai (Zbo rfl) rfl T.sum Zfp (Zaa (Za8 (own:=["length","reel","place"]) (js:=[0]) (CompOk.by (sc:=Zad Za3) (N:=["reels","lengths","told","read","numbers","some","longest","due"]) rfl rfl (by decide +kernel)) rfl (Zed rfl T.zip (Zaa (pv 1) (Zaa (ZaB Za2 (pv 2) Zae (fun _ _=>rfl)) Zac))) (ZdQ (i:=0) (k:=1) (m:=2) (K:=K)) (fun _ _ _ _ _=>(ZbI K rfl (Zat (Zaq (i:=0) (by show (["length","reel","place","reels"]:List Str).Nodup;decide +kernel) rfl (YaQ rfl) (.inr rfl)) (Zat (ZbI K rfl (Zat (Zaq (i:=1) (by show (["length","reel","place","reels"]:List Str).Nodup;decide +kernel) rfl (YaQ rfl) (.inr rfl)) (Zat (Zaq (i:=2) (by show (["length","reel","place","reels"]:List Str).Nodup;decide +kernel) rfl (YaQ rfl) (.inr rfl)) Zbb))) Zbb)))) (fun _ _ _ _ _=>ZaW) (fun _ _ _ _ _=>(Zak ZhW (pv 0) (ZaB (Zcr K) (ZaB (Zcr K) (pv 3) (pv 1) (fun _ _=>rfl)) (pv 2) (fun _ _=>rfl))))) Zac))))
   (Zaf (ws (Zap (i:=4) scLawRight.nd rfl (YaQ rfl) (ZaM Zac)))
   (Zaf (ws (ZbY Ybv rfl (Zk9 (pv 0)) (Zaq (i:=5) scLawRight.nd rfl (YaQ rfl))
   (WSs.out (Zaw (ws (ZaN (Zdr Ya1 YdV YdU ZeW (pv 4) (Zaa (pv 5) Zac))))))))
   (Zaf (ws (Zap (i:=6) scLawRight.nd rfl (YaQ rfl) (Zl8 (Zai ZdU rfl T.sorted ZcW (Zaa (pv 1) Zac)) (ZcA (Zjw Zf1 Zae)))))
   (Zaf (ws (Zap (i:=7) scLawRight.nd rfl (YaQ rfl) (Zai (Zbo rfl) rfl T.sum Zfp (Zaa (Za8 (own:=["length","number"]) (js:=[]) (CompOk.by (sc:=Zad Za3) (N:=["reels","lengths","told","read","numbers","some","longest","due"]) rfl rfl (by decide +kernel)) rfl (Zed rfl T.zip (Zaa (pv 6) (Zaa (Zai ZdU rfl T.sorted ZcW (Zaa (pv 4) Zac)) Zac))) (Ze5 (i:=0) (k:=1) (K:=K)) (fun _ _ _ _ _=>(ZbI K rfl (Zat (Zaq (i:=0) (by show (["length","number"]:List Str).Nodup;decide +kernel) rfl (YaQ rfl) (.inr rfl)) (Zat (Zaq (i:=1) (by show (["length","number"]:List Str).Nodup;decide +kernel) rfl (YaQ rfl) (.inr rfl)) Zbb)))) (fun _ _ _ _ _=>ZaW) (fun _ _ _ _ _=>(Zak Zdb (pv 0) (pv 1)))) Zac))))
   (Zaw (ws (Zay (Zef ZjA ZjA (ZaB Za2 (pv 2) Zae (fun _ _=>rfl)) (pv 3) (pv 7))))))))))))),?_⟩
  have hz:100000<sizeLine:=by decide
  have hql:qs.length=ks.length:=hQ.1;have hn19:=Zlq p2 p7 h4;have hnf:=Zeh p n;have hNl:=Zcb (p:=p) (by omega) n;have hbits:∀ l∈ls,Ya3 l<=8000:=fun l hl=>Zbp (by have:=hlb l hl;omega) (by have:=hlb l hl;omega);have hrv:(ZaR (num p n) ls ks).length=ks.length:=by
   unfold ZaR;rw[Ydp,hl,Nat.min_self]
  refine⟨_,rfl,.ref t,"tuple",_,true,rfl,.tup ht,ZbJ,true,rfl,iteF ?_⟩;refine⟨_,rfl,t,_,rfl,.inr (SqT.of ht),?_⟩;refine⟨rfl,false,by rfl,iteF ?_⟩;refine⟨_,rfl,t,_,0,.int _,rfl,rfl,SqT.of ht,rfl,_,rfl,true,rfl,iteF ?_⟩;refine⟨_,rfl,t,_,1,.ref pl,rfl,rfl,SqT.of ht,rfl,.ref pl,"list",_,true,rfl,.lst hpl,Zel,true,rfl,iteF ?_⟩;refine⟨_,rfl,t,_,1,.ref pl,rfl,rfl,SqT.of ht,rfl,pl,_,rfl,.inl (SqL.of hpl),_,rfl,ll,_,rfl,.inl (SqL.of hL),?_⟩;refine⟨rfl,false,by rw[Yab,Yab,hql,hl];simp,iteF ?_⟩;refine⟨_,rfl,t,_,1,.ref pl,rfl,rfl,SqT.of ht,rfl,pl,true,rfl,⟨_,SqL.of hpl⟩,?_⟩;refine Zfd (b:=true) ((Yan ks.length true).map V.bl) (SqL.of hpl) (by rw[Yab,Yab,YbJ,hql]) (by rw[Yab,hql];omega) (fun i x y hx hy Hc sc Rr hRr=>?_) fun acc G n3 s4 hacc=>?_
  ·obtain⟨q,hq,rfl⟩:=Zbx hx;have hiq:=(Yae.mp hq).1
   rw[Yam,Yb1,if_pos (by omega)] at hy;cases hy;have hk:ks[i]?=some ks[i]:=Yaa (by omega);exact⟨_,rfl,_,rfl,q,rl,rs,_,ks[i],rfl,sc _ _ hR,hLL.same sc,sc _ _ (hQ.2 i q _ hq hk),hin _ (Ybp _),hRr Hc (Same.refl _)⟩
  refine⟨acc,Yan ks.length true,rfl,SqL.of hacc,?_⟩;rw[show (Yan ks.length true).all id=true by rw[Ycj];exact fun b hb=>(YcR.mp hb).2];refine⟨true,rfl,iteF ?_⟩;have hpl4:=s4 _ _ hpl;have ht4:=s4 _ _ ht;have hQ4:=hQ.same s4;refine⟨_,rfl,t,_,1,.ref pl,rfl,rfl,SqT.of ht4,rfl,pl,true,qs,ks,rfl,SqL.of hpl4,hQ4,by omega,fun l L nl hLn hmem=>?_⟩;have s5:=Same.new (o:=SetN l L.length) nl;refine⟨l,L.length,rfl,Zab,_,rfl,t,_,1,.ref pl,rfl,rfl,SqT.of (s5 _ _ ht4),rfl,pl,_,rfl,.inl (SqL.of (s5 _ _ hpl4)),?_⟩;refine⟨rfl,false,by rw[((Yec hLn hnd).mpr hmem).length_eq,Yab,hql];simp,iteF ?_⟩;generalize upd G l (SetN l L.length)=H5 at s5 ⊢;have s35:=s4.trans s5;have hL5:=s35 _ _ hL;have hpl5:=s5 _ _ hpl4;have ht5:=s5 _ _ ht4;have hQ5:=hQ4.same s5;refine⟨_,rfl,_,rfl,t,_,1,.ref pl,rfl,rfl,SqT.of ht5,rfl,true,true,ll,pl,rfl,⟨_,SqL.of hL5⟩,⟨_,SqL.of hpl5⟩,?_⟩;refine ZiS ((ZaR (num p n) ls ks).map V.int) (show SqB true K H5 ll (ls.map V.int) from SqL.of hL5) (show SqB true K H5 pl (qs.map V.ref) from SqL.of hpl5) (by rw[Yab,Yab];omega) (by rw[Yab,Yab];omega) (by rw[Yab];omega) (fun i x y z hx hy hz pp Hc sc hp Rr hRr=>?_) fun acc G n3 s6 hacc=>?_
  ·obtain⟨l,hl',rfl⟩:=Zbf hx;obtain⟨q,hq,rfl⟩:=Zbx hy;obtain⟨z',hz',rfl⟩:=Zbf hz;have hi:=(Yae.mp hq).1
   have hk:ks[i]?=some ks[i]:=Yaa (by omega);obtain⟨r,pp2,xs,ek,hr',hp'⟩:=hin _ (Ybp (l:=ks) (n:=i) (by omega));have hqk:=sc _ _ (hQ5.2 i q _ hq hk);unfold ZaR at hz';rw[Ydg,hl',hk] at hz';cases hz';rw[ek] at hqk;have hnum:numV (num p n) ks[i]=xs[pp2]:=by
    rw[ek];unfold numV;simp[Yau,hr',hp']
   rw[hnum] at hRr;have hrl:=(Yae.mp hr').1
   obtain⟨ra,hra⟩:∃ ra,rs[r]?=some ra:=⟨_,Yaa (by rw[hLL.1];exact hrl)⟩
   have hrow:=sc _ _ (s35 _ _ (hLL.2 r ra xs hra hr'));refine⟨pp,_,rfl,SqT.of hp,rfl,_,_,rfl,_,_,rfl,q,_,rfl,SqT.of hqk,rfl,_,_,rfl,_,_,rfl,rfl,rfl,?_⟩;refine⟨_,rfl,_,rfl,_,rfl,rl,_,(r:Int),.ref ra,rfl,rfl,SqL.of (sc _ _ (s35 _ _ hR)),Zbg (by rw[Yam,hra];rfl),_,rfl,ra,_,(pp2:Int),.int xs[pp2],rfl,rfl,SqL.of hrow,Zbg (by rw[Yam,Yaa hp'];rfl),?_⟩;refine⟨l,xs[pp2],rfl,rfl,⟨8000,8000,hbits l (Yaw hl'),?_,by decide⟩,hRr Hc (Same.refl _)⟩;have:=Zfo p n xs (Yaw hr') _ (Ybp hp');exact Zbp (by omega) (by omega)
  refine⟨acc,_,rfl,SqL.of hacc,?_⟩;have s36:=s35.trans s6;refine⟨YaR _,fun nl hnl=>?_⟩;have sn:Same G (upd G nl (.lst [])):=Same.new hnl;have hR6:=s36 _ _ hR;refine⟨_,rfl,rl,rfl,⟨_,SqL.of (sn _ _ hR6)⟩,?_⟩;refine ZjY (xs:=rs.map V.ref) (fun j σ Hy=>∃ o5:Option V,σ=[some (.ref rl),some (.ref ll),some (.ref t),some (.int (ZaR (num p n) ls ks).sum),some (.ref nl),o5,none,none]/\Hy nl=some (.lst (((num p n).take j).flatten.map V.int))/\Same G Hy) ⟨none,rfl,Zab,sn⟩ (fun j σ Hy _ ⟨_,_,_,sy⟩=>SqL.of (sy _ _ hR6)) ?_ ?_
  ·rintro j x σ Hy hx ⟨o5,rfl,hny,sy⟩;obtain⟨q,hq,rfl⟩:=Zdg hx;have hj:=(Yae.mp hq).1
   obtain⟨xs,hxs⟩:∃ xs,(num p n)[j]?=some xs:=⟨_,Yaa (by rw[<- hLL.1];exact hj)⟩
   have hrow:=(s36.trans sy) _ _ (hLL.2 j q xs hq hxs);have hfj:=Zg6 hxs;have hl4:((num p n).take (j+1)).flatten.length<=(num p n).flatten.length:=by
    conv=>rhs;rw[<- YaI (j+1) (num p n),Yb2,Yai]
    omega
   rw[hfj,Yai] at hl4;refine⟨_,rfl,.inl ⟨rfl,_,SqL.of hny⟩,_,rfl,nl,q,_,_,rfl,rfl,hny,hrow,by rw[Yab,Yab];omega,_,rfl,?_,sy.put hnl⟩;rw[Zab,hfj,Yaz]
  rintro σ H7 ⟨o5,rfl,hny,s7⟩;rw[Yab,hLL.1,YaS] at hny;have s37:=s36.trans s7;refine⟨_,rfl,ll,ls,rfl,SqL.of (s37 _ _ hL),fun a0 ms0 na0 pms0 ums0=>?_⟩;have sA:=Same.new (o:=.lst (ms0.map V.int)) na0;have eA:upd H7 a0 (.lst (ms0.map V.int)) a0=some (.lst (ms0.map V.int)):=Zab;generalize upd H7 a0 (.lst (ms0.map V.int))=HA at sA eA ⊢;refine⟨1,rfl,-1,rfl,rfl,a0,_,rfl,SqL.of eA,fun fl nfl=>?_⟩;rw[<- List.map_reverse];have pfs:ms0.reverse.Perm ls:=(YcA ms0).trans pms0;have ufs:ms0.reverse.Pairwise (· ≥ ·):=YcD.mpr ums0;have efs:=Zgp pfs ufs;have lfs:=pfs.length_eq;generalize ms0.reverse=fs at pfs efs lfs nfl ⊢;have sB:=Same.new (o:=.lst (fs.map V.int)) nfl;have eB:upd HA fl (.lst (fs.map V.int)) fl=some (.lst (fs.map V.int)):=Zab;generalize upd HA fl (.lst (fs.map V.int))=HB at sB eB ⊢;have hnB:=sB _ _ (sA _ _ hny);refine⟨_,rfl,_,rfl,nl,(num p n).flatten,rfl,SqL.of hnB,fun sl ms nsl pms ums=>?_⟩;have lms:ms.length=(num p n).flatten.length:=pms.length_eq;have s5':Same HB (upd HB sl (.lst (ms.map V.int))):=Same.new nsl;have hsl:upd HB sl (.lst (ms.map V.int)) sl=some (.lst (ms.map V.int)):=Zab;have hfl5:=s5' _ _ eB;generalize upd HB sl (.lst (ms.map V.int))=H8 at s5' hsl hfl5 ⊢;have s38:=((s37.trans sA).trans sB).trans s5';refine⟨true,true,fl,sl,rfl,⟨_,SqL.of hfl5⟩,⟨_,SqL.of hsl⟩,?_⟩;refine Zgw (b1:=true) (b2:=true) (xs:=fs.map V.int) (ys:=ms.map V.int) (by rw[Yab,Yab];omega) (fun acc i H2=>Same H8 H2/\H2 acc=some (.lst (((YbI (·*·) fs ms).take i).map V.int))) (fun acc h0=>⟨Same.new h0,Zab⟩) (fun acc i H2 h0 _ p=>⟨SqL.of (p.1 _ _ hfl5),SqL.of (p.1 _ _ hsl)⟩) ?_ ?_
  ·rintro acc i x y u H2 h0 hx hy ⟨s2,hacc⟩ nu;obtain⟨z1,hz1,rfl⟩:=Zbf hx;obtain⟨z2,hz2,rfl⟩:=Zbf hy;have hi:=(Yae.mp hz1).1
   have hb:0<=z2/\z2<=n:=by
    obtain⟨xs,hxs,hzx⟩:=Yfp.mp (pms.mem_iff.mp (Yaw hz2));exact Zfo p n xs hxs z2 hzx
   have su:Same H2 (upd H2 u (.tup [.int z1,.int z2])):=Same.new nu;refine⟨u,_,rfl,SqT.of Zab,rfl,_,_,rfl,_,_,rfl,rfl,_,rfl,_,rfl,_,_,rfl,rfl,.inr ⟨by omega,by omega⟩,_,su _ _ hacc,?_,by rw[Yab];exact hi,(s2.trans su).put h0,?_⟩
   ·rw[Yab,Yax];omega
   ·rw[Zab,Zjb hz1 hz2,Yaz];rfl
  rintro acc9 H9 h09 ⟨s9,hacc9⟩;rw[Yab,Ya6 (by rw[Ydp];omega)] at hacc9;refine⟨acc9,_,rfl,SqL.of hacc9,?_⟩;have s39:=s38.trans s9;have hdue:(YbI (·*·) fs ms).sum=(ZaR (num p n) ls ks).sum:=by
   rw[hrd];unfold rdF;rw[<- ZfO pms ums,<- efs,List.zipWith_comm_of_comm YeU]
  rw[hdue];refine⟨_,rfl,t,_,0,.int (ZaR (num p n) ls ks).sum,rfl,rfl,SqT.of (s39 _ _ ht),rfl,_,rfl,rfl,?_⟩;refine⟨_,rfl,?_⟩;rw[decide_eq_true rfl];refine iteT ⟨_,rfl,rfl,?_⟩;rw[decide_eq_true rfl];exact kk _ s39
end
end Fk38
namespace Lv
open PySem L2
def vec (L:Nat) (g:Nat->Int):List Int:=(YaT L).map g
def arr (L:Nat) (xs:List Int):List Int:=vec L fun m=>cn xs (m:Int)
end Lv
namespace Lv
open PySem L2
end Lv
namespace Lv
open PySem L2
def nfR (ks:List (Int × Int)) (i:Nat) (x:Int):List Bool:=(YaT x.toNat).map fun (j:Nat)=>decide (((i:Int),(j:Int))∈ks)
def nf (ks:List (Int × Int)):Nat->List Int->List (List Bool)
 | _,[]=>[]
 | i,x::c=>nfR ks i x::nf ks (i+1) c
end Lv
namespace Lv
open PySem L2
end Lv
namespace Lv
open PySem L2
section
variable {S:Nat->List (List Int)}
def gS (S:Nat->List (List Int)) (r:Int) (n:Nat):Option Int:=Zmn (S n).flatten r
structure Lvs (S:Nat->List (List Int)):Prop where
 bd:∀ n:Nat,Bd n (S n)
 ne:∀ n,(S n).flatten≠[]
 up:∀ n,∀ b∈(S (n+1)).flatten,∃ y∈(S n).flatten,y<=b
end
end Lv
namespace Lv
open PySem L2
end Lv
namespace Lv
open PySem L2
structure Fil (S:Nat->List (List Int)) (p:Int):Prop where
 lv:Lvs S
 kr:∀ M n,n<=M->kr p M (S n).flatten<=p ^ M
 z:(S 0).flatten.length=1
 one:∀ n,∀ y∈(S (n+1)).flatten,1<=y
structure Bst (S:Nat->List (List Int)) (N:Nat) (r:Int) (q:Int × Nat):Prop where
 lt:q.2<N
 eq:gS S r q.2=some q.1
 le:∀ n v,n<N->gS S r n=some v->q.1<=v
 first:∀ n v,n<q.2->gS S r n=some v->q.1<v
end Lv
namespace Lv
open PySem L2
def fst1 (p r:Int):Int:=2+(r - 2) % (p - 1)
structure Od (p r:Nat) (left:List Int) (read:Int) (k x y:Nat) (w e:Int):Prop where
 is:left=Yan x ((p:Int) ^ k)++w::Yan y ((p:Int) ^ (k+1))
 lo:(p:Int) ^ k<=w
 hi:w<=(p:Int) ^ (k+1)
 all:(x:Int)*(p:Int) ^ k+w+(y:Int)*(p:Int) ^ (k+1)=r
 full:∃ j:Nat,x+y=j*(p - 1)
 rd:read=(x:Int)*(p:Int) ^ k*k+(y:Int)*(p:Int) ^ (k+1)*(k+1)+(w*k+e)
 kr:(p:Int)*(w - e)+e+((p:Int) - fst1 p r)=(p:Int) ^ (k+1)
end Lv
namespace Lv
open PySem L2
end Lv
namespace Lv
open PySem L2
def BstJ (S:Nat->List (List Int)) (L:Nat) (j:Int) (v:Int):Prop:=(v = -1/\∀ n,n<L->gS S j n=none)∨(0<=v/\(∃ n,n<L/\gS S j n=some v)/\∀ n u,n<L->gS S j n=some u->v<=u)
structure BestF (S:Nat->List (List Int)) (L most:Nat) (F:List Int):Prop where
 len:F.length=most+1
 at_:∀ j:Nat,1<=j->j<=most->BstJ S L j (F.getD j 0)
end Lv
namespace Lv
open PySem L2
end Lv
namespace Lv
open PySem L2
end Lv
namespace Lv
open PySem L2
end Lv
namespace Lv
open PySem L2
theorem leP.tr:∀ {a b c:List Int},leP a b->leP b c->leP a c
 | [],[],[],_,_=>trivial
 | [],[],_::_,_,h=>h.elim
 | [],_::_,_,h,_=>h.elim
 | _::_,[],_,h,_=>h.elim
 | _::_,_::_,[],_,h=>h.elim
 | _::_,_::_,_::_,h,g=>⟨Int.le_trans h.1 g.1,leP.tr h.2 g.2⟩
theorem Zf6:∀ (n:Nat) (z:Int) (Z:List Int),(z::Z).Pairwise (·<=·)->n<=Z.length->leP ((z::Z).take n) (Z.take n)
 | 0,_,_,_,_=>trivial
 | n+1,z,[],_,h=>by simp at h
 | n+1,z,y::Z,hs,h=>by
  have h1:=Ybe.mp hs;exact⟨h1.1 y YaC,Zf6 n y Z h1.2 (by simpa using h)⟩
theorem ZkS {A Z:List Int} (s:List.Sublist A Z):Z.Pairwise (·<=·)->leP (Z.take A.length) A:=by
 induction s with
 | slnil=>intro _;trivial
 | cons z s ih=>
  intro hs;exact leP.tr (Zf6 _ z _ hs s.length_le) (ih (Ybe.mp hs).2)
 | cons_cons z s ih=>
  intro hs;exact⟨Ycr _,ih (Ybe.mp hs).2⟩
theorem Ziw (l:List Int):(isrt l).Pairwise (·<=·):=by
 refine (Yct (fun a b c h1 h2=>?_) (fun a b=>?_) l).imp fun h=>of_decide_eq_true h
 ·have:=of_decide_eq_true h1;have:=of_decide_eq_true h2;exact decide_eq_true (by omega)
 ·by_cases h:a<=b
  ·simp[h]
  ·simp;omega
theorem ZkW {A rest Z:List Int} (h:(A++rest).Perm Z) (hA:A.Pairwise (·<=·)):leP ((isrt Z).take A.length) A:=by
 have hs:List.Sublist A (isrt (A++rest)):=List.sublist_mergeSort (fun a b c h1 h2=>by
  have:=of_decide_eq_true h1;have:=of_decide_eq_true h2;exact decide_eq_true (by omega)) (fun a b=>by
  by_cases h:a<=b
  ·simp[h]
  ·simp;omega) (hA.imp fun h=>decide_eq_true h) (List.sublist_append_left A rest)
 have e:isrt (A++rest)=isrt Z:=ZfO ((Ycm _ _).trans h) (Ziw _);rw[e] at hs;exact ZkS hs (Ziw Z)
theorem ZfW:∀ (a b:List Int),(YbI (·*·) a b).sum=dot b a
 | [],b=>by cases b <;> simp[dot]
 | _::_,[]=>by simp[dot]
 | x::a,y::b=>by rw[YeB,Ybk,ZfW a b,dot,YeU]
theorem Zgu:∀ (ls Z:List Int),dot ls (Z.take ls.length)=dot ls Z
 | [],Z=>by simp[dot]
 | _::_,[]=>by simp[dot]
 | l::ls,z::Z=>by rw[Ybc,List.take_succ_cons,dot,dot,Zgu ls Z]
theorem Zk5 (ls:List Int) (N:List (List Int)):rdF ls N=dot (ZcO ls) ((isrt N.flatten).take ls.length):=by
 unfold rdF;have:(ZcO ls).length=ls.length:=(Ycm _ _).length_eq;rw[ZfW,<- this,Zgu]
theorem ZiL:∀ {ls a b:List Int},leP a b->(∀ l∈ls,0<=l)->dot ls a<=dot ls b
 | [],a,b,_,_=>by simp[dot]
 | _::_,[],[],_,_=>by simp[dot]
 | _::_,[],_::_,h,_=>h.elim
 | _::_,_::_,[],h,_=>h.elim
 | l::ls,x::a,y::b,h,h0=>by
  have:=ZiL (ls:=ls) h.2 fun l hl=>h0 l (Yap _ hl);have:=Int.mul_le_mul_of_nonneg_left h.1 (h0 l YaC);rw[dot,dot];omega
theorem ZkE:∀ {a b:List Int},a.length=b.length->dot a.reverse b.reverse=dot a b
 | [],[],_=>rfl
 | [],_::_,h=>by simp at h
 | _::_,[],h=>by simp at h
 | x::a,y::b,h=>by
  have hl:a.length=b.length:=by simpa using h
  rw[YbX,YbX,ZiM (by rw[Yco,Yco,hl]),ZkE hl,dot];simp[dot];omega
theorem ZlD {a b:List Int} (h:b.length=a.length):dot a.reverse b=dot a b.reverse:=by
 have:=ZkE (a:=a) (b:=b.reverse) (by rw[Yco,h])
 rwa [List.reverse_reverse] at this
theorem Zl4 {ls ns rest:List Int}{N:List (List Int)} (hl:ns.length=ls.length) (h0:∀ l∈ls,0<=l) (h:(ns++rest).Perm N.flatten):rdF ls N<=dot ls ns:=by
 have hpr:(ZcO ls).Perm ls:=Ycm _ _;have hup:(ZcO ls).reverse.Pairwise (·<=·):=by
  rw[YcD];refine (Yct (fun a b c h1 h2=>?_) (fun a b=>?_) ls).imp fun h=>of_decide_eq_true h
  ·have:=of_decide_eq_true h1;have:=of_decide_eq_true h2;exact decide_eq_true (by omega)
  ·by_cases h:b<=a
   ·simp[h]
   ·simp;omega
 obtain⟨ks,k1,k2⟩:=Zjv (((YcA _).trans hpr).symm) hl;obtain⟨ms,m1,m2,m3⟩:=Zl3 (ZcO ls).reverse ks (by rw[(YcA _).length_eq,hpr.length_eq,k1.length_eq,hl]) hup;have hms:(ms.reverse).Perm ns:=((YcA _).trans m1).trans k1;have hms2:ms.reverse.Pairwise (·<=·):=by
  rw[YcD];exact m2
 have hsel:=ZkW ((hms.append_right rest).trans h) hms2;rw[hms.length_eq,hl] at hsel;have e:dot (ZcO ls).reverse ms=dot (ZcO ls) ms.reverse:=by
  have hlen:ms.length=(ZcO ls).length:=by rw[m1.length_eq,k1.length_eq,hl,hpr.length_eq]
  exact ZlD hlen
 rw[Zk5];have:=ZiL hsel (ls:=ZcO ls) fun l hl=>h0 l (hpr.mem_iff.mp hl);omega
end Lv
namespace Lv
open PySem L2
end Lv
namespace Lv
open PySem L2
end Lv
namespace Lv
open PySem L2 PyProof.Rows
end Lv
namespace Lv
open PySem L2 PyProof.Rows
theorem Zih {a b c:List (List Int)} (h1:a.Perm c) (h2:b.Perm c) (s1:a.Pairwise (fun p q=>lxB q p=false)) (s2:b.Pairwise (fun p q=>lxB q p=false)):a=b :=
 YcO (le:=fun p q=>lxB q p=false) (fun x y _ _ h1 h2=>Zco x y h2 h1) s1 s2 (h1.trans h2.symm)
theorem Zfw {ls:List Int}{N ks lf lp ks' lf' lp':List (List Int)} (h:ZcM ls N ks lf lp) (h':ZcM ls N ks' lf' lp') (hle:ls.length<=N.flatten.length):ks=ks':=by
 obtain⟨a1,a2,a3,a4,a5,a6⟩:=h;obtain⟨b1,b2,b3,b4,b5,b6⟩:=h';have el:=Zih a2 b2 a3 b3;have ep:=Zih a4 b4 a5 b5;subst el ep;have lll:lf.length=ls.length:=by rw[a2.length_eq,ZbH]
 have llp:lp.length=N.flatten.length:=by rw[a4.length_eq];exact Zbr N 0
 apply Yc1;intro j;by_cases hj:j<ls.length
 ·have hm:[-(ls[j]),(j:Int)]∈lf:=a2.mem_iff.mpr (Yaw (ZhK (Yaa hj)));obtain⟨t,ht,et⟩:=Ybl hm;have e1:lf[t]?=some [-(ls[j]),(j:Int)]:=by rw[Yaa ht,et]
  have e2:lp[t]?=some lp[t]:=Yaa (by omega);have q1:=a6 t _ _ e1 e2;have q2:=b6 t _ _ e1 e2;have ej:(([-(ls[j]),(j:Int)]:List Int).getD 1 0).toNat=j:=by simp
  rw[ej] at q1 q2;rw[q1,q2]
 ·rw[YbV (by omega),YbV (by omega)]
end Lv
namespace Lv
open PySem L2
theorem ZeX:∀ {N:List (List Int)}{i r j:Nat}{xs:List Int}{z:Int},N[r]?=some xs->xs[j]?=some z->[z,((i+r:Nat):Int),(j:Int)]∈trip i N
 | [],_,r,_,_,_,h,_=>by simp at h
 | ys::N,i,0,j,xs,z,h,hz=>by
  have:ys=xs:=by simpa using h
  subst this;rw[trip,Yak];refine .inl (Yaw (i:=j) ?_);unfold ZbC;rw[YcJ,hz];rfl
 | ys::N,i,r+1,j,xs,z,h,hz=>by
  rw[trip,Yak];have:=ZeX (i:=i+1) (N:=N) (r:=r) (by simpa using h) hz;rw[show i+1+r=i+(r+1) by omega] at this;exact .inr this
end Lv
namespace Lv
open PySem L2 PyProof.Rows
theorem ZhE {α:Type} [BEq α] [LawfulBEq α]:∀ {ks L:List α},ks.Nodup->(∀ k∈ks,k∈L)->∃ rest,(ks++rest).Perm L
 | [],L,_,_=>⟨L,Ycv _⟩
 | k::ks,L,hn,hs=>by
  have hk:=hs k YaC;have hp:=List.perm_cons_erase hk;have hn2:=Yb7.mp hn;obtain⟨rest,h⟩:=ZhE (L:=L.erase k) hn2.2 fun x hx=>by
   have hne:x≠k:=fun e=>hn2.1 (e ▸ hx);exact (List.mem_erase_of_ne hne).mpr (hs x (Yap _ hx))
  exact⟨rest,(h.cons k).trans hp.symm⟩
theorem ZhN {p n:Nat}{ls:List Int}{ks:List (List Int)} (hn:ks.Nodup) (hi:∀ k∈ks,InN (num p n) k) (hl:ks.length=ls.length) (h0:∀ l∈ls,0<=l):rdF ls (num p n)<=(ZaR (num p n) ls ks).sum:=by
 have hsub:∀ k∈ks,k∈(trip 0 (num p n)).map plcT:=fun k hk=>by
  obtain⟨r,j,xs,rfl,hx,hj⟩:=hi k hk;refine YaW.mpr ⟨[xs[j],(r:Int),(j:Int)],(by have:=ZeX (i:=0) hx (Yaa hj);rwa [Ybw] at this),?_⟩;simp[plcT]
 obtain⟨rest,hp⟩:=ZhE hn hsub;have h2:((trip 0 (num p n)).map plcT).map (numV (num p n))=(num p n).flatten:=by
  rw[<- ZeF (num p n) 0,Ydf];refine Ycn fun q hq=>?_;show numV (num p n) (plcT q)=_;rw[Zje hq]
 have h3:=hp.map (numV (num p n));rw[Yaz,h2] at h3;have h4:=Zl4 (ls:=ls) (by rw[Yab,hl]) h0 h3;rw[ZeP];exact h4
theorem ZlN {p:Nat} (h2:2<=p) (h7:p<=7):100000000000000000000<tot p 110:=by
 rcases (show p=2∨p=3∨p=4∨p=5∨p=6∨p=7 by omega) with rfl | rfl | rfl | rfl | rfl | rfl <;> decide +kernel
theorem Zmm {p n:Nat} (h2:2<=p) (h7:p<=7) (h:tot p n<=100000000000000000000):n<=110:=by
 have h61:=ZlN h2 h7;by_cases z:n<=110
 ·exact z
 ·have:=Zcj h2 (m:=110) (n:=n) (by omega);omega
end Lv
namespace Fk38
open PySem L2 Lv
section
variable {P:Program}{w:World}{K:Yac}{mg:Str->Option Value}{base:Heap}
theorem scLaw38:FnScope ["script","cell","draws","p","lengths","n","reels","told","kept","placing","first","no_ways","no_level"] ["script"] (Zad sLaw):=⟨rfl,rfl,rfl,by decide +kernel,rfl,by decide +kernel,by decide +kernel⟩
theorem ix38 (b:Bool):∃ v:Nat,atI [V.int 40,.int 200] (if b then 1 else 0)=some (.int v)/\1<=v/\v<=200:=by
 cases b
 ·exact⟨40,rfl,by decide,by decide⟩
 ·exact⟨200,rfl,by decide,by decide⟩
theorem iy38 (b:Bool):∃ v:Int,atI [V.int 400,.int 4000] (if b then 1 else 0)=some (.int v)/\v<=4000:=by
 cases b
 ·exact⟨400,rfl,by decide⟩
 ·exact⟨4000,rfl,by decide⟩
theorem TuM.toTT38 {H:Hp}{qs:List Addr}{ks:List (List Int)} (h:TuM H qs ks):TTs H qs ks:=by
 refine⟨h.len,fun j r xs e1 e2=>?_⟩;obtain⟨k,e3,e4⟩:=h.at e1;rw[e2] at e3;cases e3;exact e4
theorem Zc7 {H:Hp}:∀ {qs:List Addr}{ks:List (List Int)},TTs H qs ks->RdL H (qs.map V.ref) (ks.map fun k=>PyData.tuple (k.map Ydb))
 | [],[],_=>.nil
 | [],_::_,h=>absurd h.1 (by simp)
 | _::_,[],h=>absurd h.1 (by simp)
 | q::qs,k::ks,h=>.cons (.tup (h.2 0 q k rfl rfl) (Zgb k)) (Zc7 (qs:=qs) (ks:=ks) ⟨by have:=h.1;simpa using this,fun j r xs e1 e2=>h.2 (j+1) r xs e1 e2⟩)
theorem ZcY:∀ ks:List (List Int),Ybi (ks.map fun k=>PyData.tuple (k.map Ydb))<=1
 | []=>by simp[Ybi]
 | k::ks=>by
  have:=ZcY ks;simp only[YaV,Ybi,Yev,ZdP];omega
theorem ZjJ {f f1 f2 f3 f4 f5 f6 f7 f8 f9 f10:Addr}{fd d1 d2 d3 d4 d5 d6 d7 d8 d9 d10:FuncData} (F:Fun K "law" "law" sLaw f fd) (T:Txt mg) (Te:mg "enumerate"=none) (CD:Cal P w K mg base 2 "_law_draws" ["cell","many","base"] Zd5 f1 d1) (CE:Cal P w K mg base 1 "_law_lengths" ["draws","most"] ZfB f2 d2) (CV:Cal P w K mg base 1 "_law_level" ["p","rows","further","most"] (Zd1 K) f3 d3) (CO:Cal P w K mg base 1 "_law_reels" ["p","n"] (Zc1 K) f4 d4) (CB:Cal P w K mg base 7 "least_placing" ["p","n","lengths"] (ZkU K) f5 d5) (CR:Cal P w K mg base 3 "_law_right" ["reels","lengths","told"] (Zc0 K) f6 d6) (CP:Cal P w K mg base 1 "_law_placing" ["reels","rows","draws"] (Zfy K) f7 d7) (CX:Cal P w K mg base 7 "placing_reading" ["p","n","lengths","placing"] (Zht K) f8 d8) (CK:Cal P w K mg base 8 "_law_kind" ["p","n","lengths"] (Zd3 K) f9 d9) (CU:Cal P w K mg base 1 "_law_no_number" ["least","most","way"] (Zc2 K) f10 d10):FnOk P w K mg base CX0 9 f fd ["script"] (Zjh K):=by
 refine okW F scLaw38 (fun vs H Q E h=>?_) (fun cdv A outer s H vs Q E hr h=>?_)
 ·obtain⟨a,cs,rfl,_⟩:=h;rfl
 ·obtain⟨a,cs,rfl,hS,hlen,k⟩:=h;have hr1:Room 1 _:=hr.mono (by decide);have hr2:Room 2 _:=hr.mono (by decide);have hr3:Room 3 _:=hr.mono (by decide);have hr7:Room 7 _:=hr.mono (by decide);have hr8:Room 8 _:=hr.mono (by decide);have hu12:_+12<cLine:=YcU (Ye8 (by decide:12<=64) _) hr.units;refine⟨_,(Zaf (ws (ZbY Ybv rfl (ZfH (Zak Zb0 (Zcn ZfE (pv 0) Zc9 (ZcA Zae)) (ZaM (Zaa (Zai Zan rfl T.len Ya7 (Zaa (pv 0) Zac)) Zac)))) (Zaq (i:=1) scLaw38.nd rfl (YaQ rfl))
   (WSs.out (Zaf (ws (Zap (i:=2) scLaw38.nd rfl (YaQ rfl) (Zar CD hr2 rfl (Zaa (pv 1) (Zaa Zae (Zaa (Zak ZcJ Zae Zae) Zac))))))
    (Zaf (ws (Zap (i:=3) scLaw38.nd rfl (YaQ rfl) (Zak Za7 Zae (Zak ZaU (ZaB ZaA (pv 2) Zae (fun _ _=>rfl)) Zae))))
    (Zaf (ws (Zap (i:=4) scLaw38.nd rfl (YaQ rfl) (Zar CE hr1 rfl (Zaa (pv 2) (Zaa (ZaB ZaA (ZaM (Zaa Zae (Zaa Zae Zac))) (ZaT Zfi rfl T.int Zka (Zaa (ZhT ZjA (Zak ZaU (ZaB ZaA (pv 2) Zae (fun _ _=>rfl)) Zae) Zae (ZaJ _)) Zac)) (fun _ _=>rfl)) Zac)))))
    (Zaf (ws (Zap (i:=5) scLaw38.nd rfl (YaQ rfl) (Zar CV hr1 rfl (Zaa (pv 3) (Zaa (Zai Zan rfl T.len Ya7 (Zaa (pv 4) Zac)) (Zaa (Zak ZaU (ZaB ZaA (pv 2) Zae (fun _ _=>rfl)) Zae) (Zaa (ZaB ZaA (ZaM (Zaa Zae (Zaa Zae Zac))) (ZaT Zfi rfl T.int Zka (Zaa (ZhT ZjA (Zak ZaU (ZaB ZaA (pv 2) Zae (fun _ _=>rfl)) Zae) Zae (ZaJ _)) Zac)) (fun _ _=>rfl)) Zac)))))))
    (Zaf (ws (Zap (i:=6) scLaw38.nd rfl (YaQ rfl) (Zar CO hr1 rfl (Zaa (pv 3) (Zaa (pv 5) Zac)))))
    (Zaf (ws (Zap (i:=7) scLaw38.nd rfl (YaQ rfl) (Zar CB hr7 rfl (Zaa (pv 3) (Zaa (pv 5) (Zaa (pv 4) Zac))))))
    (Zaf (ZbW (Za9 (Zbm (Zar CR hr3 rfl (Zaa (pv 6) (Zaa (pv 4) (Zaa (pv 7) Zac))))))
    (wss ZaH)
    ZaQ)
    (Zaf (ws (Zap (i:=8) scLaw38.nd rfl (YaQ rfl) (ZbZ (Zaa (ZaB Za2 (pv 7) Zae (fun _ _=>rfl)) (Zaa (ZaT Zfg rfl T.list ZkG (Zaa (ZaB Za2 (pv 7) Zae (fun _ _=>rfl)) Zac)) Zac)))))
    (Zaf (ws (ZaN (Zdr Ya1 YbH YbG Zba (ZaB Za2 (pv 7) Zae (fun _ _=>rfl)) (Zaa (ZbZ (Zaa Zae (Zaa Zae Zac))) Zac))))
    (Zaf (ZbW (Zaz (Zmc hu12) (Zar CB hr7 rfl (Zaa (pv 3) (Zaa (pv 5) (Zaa (ZaT ZaP rfl T.tuple ZbN (Zaa (pv 4) Zac)) Zac)))) (pv 8) (ZaJ _))
    (wss ZaH)
    ZaQ)
    (Zaf (ws (Zap (i:=9) scLaw38.nd rfl (YaQ rfl) (Zar CP hr1 rfl (Zaa (pv 6) (Zaa (Zai Zan rfl T.len Ya7 (Zaa (pv 4) Zac)) (Zaa (Zcn ZfE (pv 2) (ZcA Zae) Zc9) Zac))))))
    (Zaf (ZbW (Zaz ZgU (Zar CX hr7 rfl (Zaa (pv 3) (Zaa (pv 5) (Zaa (pv 4) (Zaa (pv 9) Zac))))) (ZaB Za2 (pv 7) Zae (fun _ _=>rfl)) (ZaJ _))
    (wss ZaH)
    ZaQ)
    (Zaf (ws (Zap (i:=10) scLaw38.nd rfl (YaQ rfl) (Zar CV hr1 rfl (Zaa (pv 3) (Zaa (Zai Zan rfl T.len Ya7 (Zaa (pv 4) Zac)) (Zaa Zae (Zaa Zae Zac)))))))
    (Zaf (ZbW (PW.pt (Zkp (Zaz ZfL (pv 10) Zae (ZaJ _)) (ZhI (Zaz Zds (Zar CK hr8 rfl (Zaa (pv 3) (Zaa (Zak ZbA (Zak ZbA (pv 10) Zae) (Zak ZaU (ZaB ZaA (pv 2) Zae (fun _ _=>rfl)) (pv 10))) (Zaa (pv 4) Zac)))) Zbh (ZaJ _)))))
    (wss ZaH)
    ZaQ)
    (Zaf (ZbW (Zaz Zds (Zar CK hr8 rfl (Zaa (pv 3) (Zaa (Zar CV hr1 rfl (Zaa (pv 3) (Zaa Zae (Zaa (Zak ZaU (ZaB ZaA (pv 2) Zae (fun _ _=>rfl)) Zae) (Zaa (Zak ZcJ Zae Zae) Zac))))) (Zaa (pv 4) Zac)))) Zbh (ZaJ _))
    (wss ZaH)
    ZaQ)
    (Zaf (ws (Zap (i:=11) scLaw38.nd rfl (YaQ rfl) (Zar CU hr1 rfl (Zaa Zae (Zaa Zae (Zaa (ZaB ZaA (pv 2) Zae (fun _ _=>rfl)) Zac))))))
    (Zaf (ws (Zap (i:=12) scLaw38.nd rfl (YaQ rfl) (Zar CU hr1 rfl (Zaa Zae (Zaa Zae (Zaa (ZaB ZaA (pv 2) Zae (fun _ _=>rfl)) Zac))))))
    (Zaf (ZbW (PW.pt (Zb9 (Zaz Zds (Zar CK hr8 rfl (Zaa (pv 11) (Zaa Zae (Zaa (pv 4) Zac)))) Zbh (ZaJ _)) (ZbG (Zaz Zds (Zar CK hr8 rfl (Zaa (pv 11) (Zaa (pv 12) (Zaa (pv 4) Zac)))) Zbh (ZaJ _)))))
    (wss ZaH)
    ZaQ)
    (Zaw (ZbW (PW.pt (Zb9 (Zaz Zds (Zar CK hr8 rfl (Zaa (pv 3) (Zaa (pv 12) (Zaa (pv 4) Zac)))) Zbh (ZaJ _)) (ZbG (Zaz Zds (Zar CK hr8 rfl (Zaa (pv 11) (Zaa Zae (Zaa (pv 4) Zac)))) Zbh (ZaJ _)))))
    (wss ZaH)
    ZaQ)))))))))))))))))))))))
   (Zaw (ws (Zay Zeg)))),?_⟩
  have hz:20000<sizeLine:=by decide
  refine⟨_,rfl,6,rfl,a,_,rfl,hS,fun u nu=>?_⟩;rw[show (some (6:Int))=some ((6:Nat):Int) from rfl,Zj4,<- Ydw];have s0:=Same.new (o:=.lst ((cs.take 6).map V.int)) nu;have e0:upd H u (.lst ((cs.take 6).map V.int)) u=some (.lst ((cs.take 6).map V.int)):=Zab;generalize upd H u (.lst ((cs.take 6).map V.int))=H0 at s0 e0 ⊢;refine⟨_,rfl,a,_,rfl,.inl (s0.seq hS),(by show 1<=sizeLine;decide),fun q nq=>?_⟩;have s1:=Same.new (o:=.lst [V.int ((cs.map V.int).length:Nat)]) nq;refine⟨u,q,_,_,rfl,rfl,s1 _ _ e0,Zab,by rw[Yab,Yax];simp;omega,fun sl nsl=>?_⟩;have hcat:(cs.take 6).map V.int++[V.int ((cs.map V.int).length:Nat)]=(cs.take 6++[((cs.map V.int).length:Int)]).map V.int:=by rw[Yaz];rfl
  rw[hcat];generalize hcells:cs.take 6++[((cs.map V.int).length:Int)]=cells;generalize upd H0 q (.lst [V.int ((cs.map V.int).length:Nat)])=H1 at nsl;generalize hH2:upd H1 sl (.lst (cells.map V.int))=H2;have hsl:H2 sl=some (.lst (cells.map V.int)):=by rw[<- hH2];exact Zab
  refine⟨sl,true,rfl,⟨_,SqL.of hsl⟩,?_⟩;refine ZjX (b:=true) (K:=K) (a:=sl) (xs:=cells.map V.int) (fun i σ Hx=>∃ o1 o2 o3 o4 o5 o6 o7 o8 o9 oa ob oc:Option V,σ=[some (.ref a),o1,o2,o3,o4,o5,o6,o7,o8,o9,oa,ob,oc]/\Same H2 Hx) ⟨none,none,none,none,none,none,none,none,none,none,none,none,rfl,Same.refl _⟩ (fun i σ Hx _ ⟨_,_,_,_,_,_,_,_,_,_,_,_,_,sx⟩=>SqL.of (sx _ _ hsl)) ?_ ?_
  ·rintro i x σ Hx hx ⟨o1,o2,o3,o4,o5,o6,o7,o8,o9,oa,ob,oc,rfl,sx⟩;obtain⟨z,hz',rfl⟩:=Zbf hx;refine⟨_,rfl,10,15,rfl,rfl,⟨by decide,by decide,by decide⟩,z,430,_,rfl,by decide,by decide,by decide,fun dl ds H3 ndl hdl dlen d0 s3=>?_⟩;have sx3:=sx.trans s3;have gd:∀ (j:Nat),j<430->atI (ds.map V.int) (j:Int)=some (.int (ds.getD j 0)):=fun j hj=>by
    rw[Zex (by omega) (by omega),YaM]
   have m6a:=Ya2 (ds.getD 210 0) (show (6:Int)≠0 by decide);have m6b:=Ybg (ds.getD 210 0) (show (0:Int)<6 by decide);refine⟨_,rfl,dl,_,210,_,rfl,rfl,SqL.of hdl,gd 210 (by omega),_,_,rfl,rfl,(by show (0:Int)<6;decide),2,_,rfl,rfl,?_⟩;obtain⟨p,hpd⟩:∃ p:Nat,2+ds.getD 210 0 % 6=(p:Int):=⟨(2+ds.getD 210 0 % 6).toNat,by omega⟩
   have p2:2<=p:=by omega
   have p7:p<=7:=by omega
   refine⟨_,rfl,(by show 2<=sizeLine;decide),fun q1 nq1=>?_⟩;have s3a:=Same.new (o:=.lst [V.int 40,.int 200]) nq1;have e3a:upd H3 q1 (.lst [V.int 40,.int 200]) q1=some (.lst [V.int 40,.int 200]):=Zab;have hdl3:=s3a _ _ hdl;generalize upd H3 q1 (.lst [V.int 40,.int 200])=H3a at s3a e3a hdl3 ⊢;have sx3a:=sx3.trans s3a;refine⟨_,rfl,dl,_,211,_,rfl,rfl,SqL.of hdl3,gd 211 (by omega),_,_,rfl,rfl,(by show (0:Int)<8;decide),rfl,.inr ⟨_,rfl,?_⟩⟩;obtain⟨v,ev,v1,v2⟩:=ix38 (decide (V.int (ds.getD 211 0 % 8)=V.int 1));refine⟨q1,_,_,.int v,rfl,rfl,SqL.of e3a,ev,?_⟩;refine⟨dl,ds,v,rfl,hdl3,d0,v1,by omega,by omega,by omega,fun l0 ls H4 nl0 hl0 hls1 hlsv hlb s4=>?_⟩;have hls:ls.length<=200:=by omega
   clear ev v1 v2 hlsv;have sx4:=sx3a.trans s4;have hdl4:=s4 _ _ hdl3;have m4a:=Ya2 (ds.getD 212 0) (show (4:Int)≠0 by decide);refine⟨_,rfl,_,rfl,l0,_,rfl,.inl (SqL.of hl0),_,rfl,dl,_,212,_,rfl,rfl,SqL.of hdl4,gd 212 (by omega),_,_,rfl,rfl,(by show (0:Int)<4;decide),(by show 2<=sizeLine;decide),fun q2 nq2=>?_⟩;have s4a:=Same.new (o:=.lst [V.int 400,.int 4000]) nq2;have e4a:upd H4 q2 (.lst [V.int 400,.int 4000]) q2=some (.lst [V.int 400,.int 4000]):=Zab;have hdl4a:=s4a _ _ hdl4;have hl0a:=s4a _ _ hl0;generalize upd H4 q2 (.lst [V.int 400,.int 4000])=H4a at s4a e4a hdl4a hl0a ⊢;have sx4a:=sx4.trans s4a;refine⟨_,rfl,dl,_,213,_,rfl,rfl,SqL.of hdl4a,gd 213 (by omega),_,_,rfl,rfl,(by show (0:Int)<8;decide),rfl,.inr ⟨_,rfl,?_⟩⟩;obtain⟨v,ev,v2⟩:=iy38 (decide (V.int (ds.getD 213 0 % 8)=V.int 1));refine⟨q2,_,_,.int v,rfl,rfl,SqL.of e4a,ev,?_⟩;refine⟨p,(ls.length:Int),ds.getD 212 0 % 4,v,4000,by rw[<- hpd,Yab];rfl,p2,p7,by omega,by omega,m4a,v2,fun n H5 hn1 hn4 _ s5=>?_⟩;clear ev v2;have hn19:=Zlq p2 p7 hn4;have sx5:=sx4a.trans s5;refine⟨_,rfl,_,rfl,p,n,by rw[<- hpd];rfl,p2,p7,by omega,hn4,fun rl rs H6 nrl hrl hLL s6=>?_⟩;have sx6:=sx5.trans s6;have hl06:=s6 _ _ (s5 _ _ hl0a);have hdl6:=s6 _ _ (s5 _ _ hdl4a);have hfl:((num p n).flatten.length:Int)=tot p n:=Zeh p n;have hFit:ls.length<=(num p n).flatten.length:=by omega
   have hbits:∀ l∈ls,Ya3 l<=8000:=fun l hl=>Zbp (by have:=hlb l hl;omega) (by have:=hlb l hl;omega);have thp:∀ {Hz:Hp},Thing K Hz (V.int (p:Int)) "int":=⟨.int _,by decide⟩
   refine⟨_,rfl,_,rfl,_,rfl,p,n,l0,true,ls,by rw[<- hpd];rfl,p2,p7,by omega,hn4,hl06,by omega,hbits,fun t pl qs ks lf lp H7 npl ht hpl hTu hin hSt s7=>?_⟩;have hQ:=TuM.toTT38 hTu;have hnd:=ZeJ hSt hFit;have hkl:=hSt.1;have hrd:=Zjo (R:=(ZaR (num p n) ls ks).sum) ⟨ks,lf,lp,hSt,hin,rfl⟩ hFit;refine⟨_,rfl,_,rfl,_,rfl,p,n,rl,l0,t,pl,rs,qs,ls,ks,rfl,p2,p7,hn4,s7 _ _ hrl,hLL.same s7,s7 _ _ hl06,by omega,hlb,ht,hpl,hQ,hin,hnd,hkl.symm,hFit,hrd,fun H8 s8=>⟨true,rfl,iteF ?_⟩⟩;have s68:=s7.trans s8;have ht8:=s8 _ _ ht;have hpl8:=s8 _ _ hpl;generalize hRv:(ZaR (num p n) ls ks).sum=Rv at ht ht8 hrd;refine⟨_,rfl,t,_,0,.int Rv,rfl,rfl,SqT.of ht8,rfl,_,rfl,t,_,1,.ref pl,rfl,rfl,SqT.of ht8,rfl,pl,_,rfl,.inl (SqL.of hpl8),fun l2 nl2=>⟨(by show 2<=sizeLine;decide),fun b nb=>?_⟩⟩;have s9:=Same.new (o:=.lst (qs.map V.ref)) nl2;have e9:upd H8 l2 (.lst (qs.map V.ref)) l2=some (.lst (qs.map V.ref)):=Zab;have ne2:pl≠l2:=Zag hpl8 nl2;generalize upd H8 l2 (.lst (qs.map V.ref))=H9 at s9 e9 nb ⊢;have s10:=Same.new (o:=.tup [V.int Rv,.ref l2]) nb;have e10:upd H9 b (.tup [V.int Rv,.ref l2]) b=some (.tup [V.int Rv,.ref l2]):=Zab;generalize upd H9 b (.tup [V.int Rv,.ref l2])=H10 at s10 e10 ⊢;have s810:=s9.trans s10;refine⟨_,rfl,t,_,1,.ref pl,rfl,rfl,SqT.of (s810 _ _ ht8),rfl,.inl ⟨rfl,_,SqL.of (s810 _ _ hpl8)⟩,(by show 2<=sizeLine;decide),fun ap nap=>?_⟩;have s11:=Same.new (o:=.tup [V.int 0,.int 0]) nap;generalize upd H10 ap (.tup [V.int 0,.int 0])=H11 at s11 ⊢;have s811:=s810.trans s11;have hpl11:=s811 _ _ hpl8;refine⟨pl,_,_,rfl,rfl,hpl11,by rw[Yab];have:=hQ.1;omega,?_⟩;have s612:Same H6 (upd H11 pl (.lst (qs.map V.ref++[.ref ap]))):=(s68.trans s811).put npl;have ht12:upd H11 pl (.lst (qs.map V.ref++[.ref ap])) t=some (.tup [V.int Rv,.ref pl]):=by
    have h:=s811 _ _ ht8;rw[Zah (fun e=>by rw[e,hpl11] at h;cases h)];exact h
   have hb12:upd H11 pl (.lst (qs.map V.ref++[.ref ap])) b=some (.tup [V.int Rv,.ref l2]):=by
    have h:=s11 _ _ e10;rw[Zah (fun e=>by rw[e,hpl11] at h;cases h)];exact h
   have hl212:upd H11 pl (.lst (qs.map V.ref++[.ref ap])) l2=some (.lst (qs.map V.ref)):=by
    rw[Zah (Ybn ne2)];exact s11 _ _ (s10 _ _ e9)
   have hQ12:TTs (upd H11 pl (.lst (qs.map V.ref++[.ref ap]))) qs ks:=TTs.offJ ((hQ.same s8).same s811) hpl11;generalize upd H11 pl (.lst (qs.map V.ref++[.ref ap]))=H12 at s612 ht12 hb12 hl212 hQ12 ⊢;have hl012:=s612 _ _ hl06;refine⟨_,rfl,_,rfl,_,rfl,l0,_,rfl,.inl ⟨SqL.of hl012,fun kp nkp=>?_⟩⟩;have s13:=Same.new (o:=.tup (ls.map V.int)) nkp;have e13:upd H12 kp (.tup (ls.map V.int)) kp=some (.tup (ls.map V.int)):=Zab;generalize upd H12 kp (.tup (ls.map V.int))=H13 at s13 e13 ⊢;refine⟨p,n,kp,false,ls,by rw[<- hpd];rfl,p2,p7,by omega,hn4,e13,by omega,hbits,fun t' pl' qs' ks' lf' lp' H14 _ ht' hpl' hTu' hin' hSt' s14=>⟨_,rfl,?_⟩⟩;have ek:=Zfw hSt' hSt hFit;subst ek;rw[hRv] at ht';have s1214:=s13.trans s14;refine⟨t',b,.tuple [.int Rv,.list (ks'.map fun k=>.tuple (k.map Ydb))],rfl,rfl,.tup ht' (.cons (.int _) (.cons (.lst hpl' (Zc7 (TuM.toTT38 hTu'))) .nil)),.tup (s1214 _ _ hb12) (.cons (.int _) (.cons (.lst (s1214 _ _ hl212) (Zc7 (hQ12.same s1214))) .nil)),?_,_,rfl,iteF ?_⟩
   ·have:=ZcY ks';simp only[Ybi,Yev];omega
   have s614:=s612.trans s1214;have hl014:=s614 _ _ hl06;have hdl14:=s614 _ _ hdl6;refine⟨_,rfl,_,rfl,l0,_,rfl,.inl (SqL.of hl014),_,rfl,214,rfl,dl,_,rfl,SqL.of hdl14,fun q3 nq3=>?_⟩;rw[show (some (214:Int))=some ((214:Nat):Int) from rfl,Zj5,<- List.map_drop];have s15:=Same.new (o:=.lst ((ds.drop 214).map V.int)) nq3;have e15:upd H14 q3 (.lst ((ds.drop 214).map V.int)) q3=some (.lst ((ds.drop 214).map V.int)):=Zab;generalize upd H14 q3 (.lst ((ds.drop 214).map V.int))=H15 at s15 e15 ⊢;have s615:=s614.trans s15;refine⟨rl,q3,rs,num p n,ls.length,ds.drop 214,by rw[Yab];rfl,s615 _ _ hrl,hLL.same s615,by rw[Zcb (by omega)];omega,by omega,by omega,by rw[Ybm];omega,e15,fun l1 qs9 ks9 H16 nl1 hl1 hTu9 hnd9 hin9 hkl9 s16=>?_⟩;have s616:=s615.trans s16;refine⟨_,rfl,_,rfl,_,rfl,_,rfl,p,n,l0,l1,true,qs9,ls,ks9,by rw[<- hpd];rfl,p2,p7,by omega,hn4,SqL.of (s616 _ _ hl06),hl1,hTu9,hin9,⟨hkl9.symm,by omega⟩,hbits,fun H17 s17=>?_⟩;have s617:=s616.trans s17;have ht17:=s17 _ _ (s16 _ _ (s15 _ _ (s1214 _ _ ht12)));have hp9:=ZhN hnd9 hin9 hkl9 (fun l hl=>(hlb l hl).1);refine⟨_,rfl,t,_,0,.int Rv,rfl,rfl,SqT.of ht17,rfl,_,_,rfl,rfl,_,rfl,?_⟩;rw[decide_eq_false (show ¬ (ZaR (num p n) ls ks9).sum<Rv by omega)];refine iteF ?_;have hl017:=s617 _ _ hl06;have hdl17:=s617 _ _ hdl6;refine⟨_,rfl,_,rfl,l0,_,rfl,.inl (SqL.of hl017),p,(ls.length:Int),0,4000,4000,by rw[<- hpd,Yab];rfl,p2,p7,by omega,by omega,by decide,by decide,fun fi H18 hf1 hf4 hmin s18=>?_⟩;have hfi19:=Zlq p2 p7 hf4;have s618:=s617.trans s18;have hl018:=s618 _ _ hl06;have hdl18:=s618 _ _ hdl6;dsimp only;refine cut1 (a:=tIfS _ _ _) (fun σ' H'=>σ'=[some (.ref a),some (.int z),some (.ref dl),some (.int p),some (.ref l0),some (.int n),some (.ref rl),some (.ref t),some (.ref b),some (.ref l1),some (.int fi),ob,oc]/\Same H18 H') (fun R' hR=>?_) ?_
   ·refine⟨_,rfl,_,_,rfl,rfl,_,rfl,ite2 (fun hpos=>?_) (fun _=>hR _ _ ⟨by rw[<- hpd];rfl,Same.refl _⟩)⟩;have hpos:(fi:Int) > 0:=of_decide_eq_true hpos;have w0:=Ya2 (ds.getD 209 0) (show (fi:Int)≠0 by omega);have w1:=Ybg (ds.getD 209 0) (show (0:Int)<fi by omega);obtain⟨m,em⟩:∃ m:Nat,(fi:Int) - 1 - ds.getD 209 0 % fi=(m:Int):=⟨((fi:Int) - 1 - ds.getD 209 0 % fi).toNat,by omega⟩
    refine⟨_,rfl,_,rfl,_,_,rfl,rfl,_,rfl,dl,_,209,_,rfl,rfl,SqL.of hdl18,gd 209 (by omega),_,rfl,_,_,rfl,rfl,(by show (0:Int)<fi;omega),_,_,rfl,rfl,_,rfl,?_⟩;refine⟨.int p,.int m,"int",l0,ls,true,0,by rw[<- em,<- hpd];rfl,hl018,by omega,thp,.inr ⟨p,rfl,p2,p7,.inr ⟨m,rfl,by omega,.inl ⟨hmin rfl m (by omega),rfl⟩⟩⟩,fun H19 s19=>⟨rfl,false,by rw[decide_eq_true (show V.str (ZcF 0)=V.str "few" from rfl)];rfl,iteF (hR _ _ ⟨by rw[<- hpd];rfl,s19⟩)⟩⟩
   rintro σ H20 ⟨rfl,s20⟩;have s620:=s618.trans s20;have hl020:=s20 _ _ hl018;have hdl20:=s20 _ _ hdl18;have m40:=Ya2 (ds.getD 208 0) (show (40:Int)≠0 by decide);refine⟨_,rfl,_,rfl,_,rfl,dl,_,208,_,rfl,rfl,SqL.of hdl20,gd 208 (by omega),_,_,rfl,rfl,(by show (0:Int)<40;decide),10,20,rfl,rfl,⟨by decide,by decide,by decide⟩,p,4001,ds.getD 208 0 % 40,(10:Int) ^ (20:Int).toNat,100000000000000000000,rfl,p2,p7,by decide,by decide,m40,by decide,fun n8 H21 hn8 hB8 _ s21=>?_⟩;have hn110:=Zmm p2 p7 hB8;have s621:=s620.trans s21;have hl021:=s21 _ _ hl020;have hdl21:=s21 _ _ hdl20;refine⟨_,rfl,.int p,.int n8,"int",l0,ls,true,1,rfl,hl021,by omega,thp,.inr ⟨p,rfl,p2,p7,.inr ⟨n8,rfl,by omega,.inr ⟨by omega,rfl⟩⟩⟩,fun H22 s22=>⟨rfl,false,by rw[decide_eq_true (show V.str (ZcF 1)=V.str "many" from rfl)];rfl,iteF ?_⟩⟩;have hl022:=s22 _ _ hl021;have hdl22:=s22 _ _ hdl21;refine⟨_,rfl,dl,_,207,_,rfl,rfl,SqL.of hdl22,gd 207 (by omega),2,7,_,rfl,by decide,by decide,by decide,fun v1 T1 H23 s23 th1 hx1=>?_⟩;have hl023:=s23 _ _ hl022;have hdl23:=s23 _ _ hdl22;refine⟨_,rfl,dl,_,206,_,rfl,rfl,SqL.of hdl23,gd 206 (by omega),0,300,_,rfl,by decide,by decide,by decide,fun v2 T2 H24 s24 th2 hx2=>?_⟩;have hl024:=s24 _ _ hl023;have th1':=th1.same s24;refine⟨_,rfl,_,rfl,v1,.int 0,T1,l0,ls,true,2,rfl,hl024,by omega,th1',.inl ⟨hx1,rfl⟩,fun H25 s25=>⟨rfl,false,by rw[decide_eq_true (show V.str (ZcF 2)=V.str "ways" from rfl)];rfl,iteF ?_⟩⟩;have hl025:=s25 _ _ hl024;refine⟨_,rfl,_,rfl,_,rfl,v1,v2,T1,l0,ls,true,2,rfl,hl025,by omega,th1'.same s25,.inl ⟨hx1,rfl⟩,fun H26 s26=>⟨rfl,false,by rw[decide_eq_true (show V.str (ZcF 2)=V.str "ways" from rfl)];rfl,iteF ?_⟩⟩;have hl026:=s26 _ _ hl025;refine⟨_,rfl,_,rfl,_,rfl,.int p,v2,"int",l0,ls,true,3,rfl,hl026,by omega,thp,.inr ⟨p,rfl,p2,p7,.inl ⟨T2,(th2.same s25).same s26,hx2,rfl⟩⟩,fun H27 s27=>⟨rfl,false,by rw[decide_eq_true (show V.str (ZcF 3)=V.str "level" from rfl)];rfl,iteF ?_⟩⟩;have hl027:=s27 _ _ hl026;refine⟨_,rfl,_,rfl,v1,.int 300,T1,l0,ls,true,2,rfl,hl027,by omega,((th1'.same s25).same s26).same s27,.inl ⟨hx1,rfl⟩,fun H28 s28=>⟨rfl,false,by rw[decide_eq_true (show V.str (ZcF 2)=V.str "ways" from rfl)];rfl,iteF ?_⟩⟩;exact⟨_,_,_,_,_,_,_,_,_,_,_,_,rfl,(((((((sx6.trans s621).trans s22).trans s23).trans s24).trans s25).trans s26).trans s27).trans s28⟩
  ·rintro σ Hx ⟨o1,o2,o3,o4,o5,o6,o7,o8,o9,oa,ob,oc,rfl,sx⟩;exact k Hx
end
end Fk38
namespace Fk38
open PySem L2 Lv
section
variable {P:Program}{w:World}{K:Yac}{mg:Str->Option Value}{base:Heap}
theorem scLeastBy:FnScope ["numbers","lengths","longest_first","placing","length","row","number","reel","place"] ["numbers","lengths"] (Zad ZbP):=⟨rfl,rfl,rfl,by decide +kernel,rfl,by decide +kernel,by decide +kernel⟩
theorem SqB.sameL {b:Bool}{H H':Hp}{a:Addr}{xs:List V} (e:Same H H') (h:SqB b K H a xs):SqB b K H' a xs:=by
 cases b
 ·exact e.tup h
 ·exact e.seq h
theorem SqB.orL {b:Bool}{H:Hp}{a:Addr}{xs:List V} (h:SqB b K H a xs):SqL K H a xs∨SqT K H a xs:=by
 cases b
 ·exact .inr h
 ·exact .inl h
theorem Zk3 (n:Nat):(Yan n [V.non]).flatten=Yan n V.non:=by
 induction n with
 | zero=>rfl
 | succ n ih=>rw[YbP,Ybd,ih,YbP];rfl
theorem ZdK {f f1 f2:Addr}{fd d1 d2:FuncData} (F:Fun K "least_by" "least_by" ZbP f fd) (T:Txt mg) (Te:mg "enumerate"=none) (CL:Cal P w K mg base 1 "least_places" ["numbers","many"] Zd2 f1 d1) (CR:Cal P w K mg base 1 "reading_by" ["numbers","lengths","placing"] (ZcR K) f2 d2):FnOk P w K mg base CX0 2 f fd ["numbers","lengths"] (ZbE K):=by
 refine F.ok scLeastBy (fun vs H Q E h=>?_) (fun cdv A outer s H vs Q E hr h=>?_)
 ·obtain⟨a,ll,b,rs,N,ls,rfl,_⟩:=h;rfl
 ·obtain⟨a,ll,b,rs,N,ls,rfl,hA,hT,hN,hF,hL,hle,hb1,hb2,k⟩:=h;refine⟨_,Zas (Zap (i:=2) scLeastBy.nd rfl (YaQ rfl) (Zai Zdm rfl T.sorted ZcW (Zaa (Za8 (own:=["row","length"]) (js:=[]) (CompOk.bare (by decide +kernel)) rfl (ZcU rfl Te (Zaa (pv 1) Zac)) (Ze5 (i:=0) (k:=1) (K:=K))
    (fun _ _ _ _ _=>ZbI K rfl (Zat (Zaq (i:=0) (by show (["row","length"]:List Str).Nodup;decide +kernel) rfl (YaQ rfl) (.inr rfl)) (Zat (Zaq (i:=1) (by show (["row","length"]:List Str).Nodup;decide +kernel) rfl (YaQ rfl) (.inr rfl)) Zbb))) (fun _ _ _ _ _=>ZaW) (fun _ _ _ _ _=>ZbZ (Zaa (Zjw Zf1 (pv 1)) (Zaa (pv 0) Zac)))) Zac)))
   (Zas (Zap (i:=3) scLeastBy.nd rfl (YaQ rfl) (Zak Zgf (ZaM (Zaa ZhS Zac)) (Zai Zan rfl T.len Ya7 (Zaa (pv 1) Zac))))
   (Zas (ZbY Ybv rfl (Zed rfl T.zip (Zaa (pv 2) (Zaa (Zar CL hr rfl (Zaa (pv 0) (Zaa (Zai Zan rfl T.len Ya7 (Zaa (pv 1) Zac)) Zac))) Zac)))
     (ZeR rfl (Zat (ZeR rfl (Zat (Zaq (i:=4) scLeastBy.nd rfl (YaQ rfl)) (Zat (Zaq (i:=5) scLeastBy.nd rfl (YaQ rfl)) Zbb))) (Zat (ZeR rfl (Zat (Zaq (i:=6) scLeastBy.nd rfl (YaQ rfl)) (Zat (Zaq (i:=7) scLeastBy.nd rfl (YaQ rfl)) (Zat (Zaq (i:=8) scLeastBy.nd rfl (YaQ rfl)) Zbb)))) Zbb)))
    (Zao (Zkq (ZbZ (Zaa (pv 7) (Zaa (pv 8) Zac))) (Zkr (pv 3) (pv 5) Zf8))))
   (Zao (Zay (ZbZ (Zaa (Zar CR hr rfl (Zaa (pv 0) (Zaa (pv 1) (Zaa (pv 3) Zac)))) (Zaa (pv 3) Zac))))))),?_⟩
  have hz:100000<sizeLine:=by decide
  have hls:ls.length<=100000:=by omega
  refine⟨_,rfl,ll,b,rfl,⟨_,hL⟩,?_⟩;refine Zg9 (xs:=ls.map V.int) (fun acc i H2=>Same H H2/\∃ ps,H2 acc=some (.lst (ps.map V.ref))/\(∀ p∈ps,p≠acc)/\TuM H2 ps (prL (ls.take i))) (fun acc h0=>⟨Same.new h0,[],Zab,(fun p hp=>nomatch hp),TuM.nil⟩) (fun acc i H2 h0 _ p=>SqB.sameL p.1 hL) ?_ ?_
  ·rintro acc i x q H2 h0 hx ⟨s2,ps,hacc,hne,hpr⟩ hq;obtain⟨l,hl,rfl⟩:=Zbf hx;have hi:=(Yae.mp hl).1
   have s3:Same H2 (upd H2 q (.tup [.int i,.int l])):=Same.new hq;have hq3:upd H2 q (.tup [.int i,.int l]) q=some (.tup [.int i,.int l]):=Zab;generalize upd H2 q (.tup [.int i,.int l])=H3 at s3 hq3 ⊢;have hpl:ps.length=i:=by rw[hpr.len,ZbH,Yax];omega
   refine⟨q,_,rfl,SqT.of hq3,rfl,_,_,rfl,_,_,rfl,rfl,?_⟩;refine⟨_,rfl,l,rfl,_,rfl,(by show 2<=sizeLine;decide),fun t ht=>?_⟩;have hacc3:=s3 _ _ hacc;have hta:t≠acc:=Ybn (Zag hacc3 ht);have s45:Same H3 (upd H3 t (.tup [.int (-l),.int i])):=Same.new ht;have ht5:upd H3 t (.tup [.int (-l),.int i]) t=some (.tup (([-l,(i:Int)]:List Int).map V.int)):=Zab;generalize upd H3 t (.tup [.int (-l),.int i])=H5 at s45 ht5 ⊢;refine⟨_,s45 _ _ hacc3,by rw[Yab];omega,by rw[Yab];exact hi,(s2.trans (s3.trans s45)).put h0,ps++[t],by rw[Zab,Yaz];rfl,fun p hp=>?_,?_⟩
   ·rcases Yak.mp hp with hp | hp
    ·exact hne p hp
    ·rw[YaG.mp hp];exact hta
   ·have:=(hpr.same (s3.trans s45)).snoc ht5 (by simp);rw[<- Zjs hl] at this;refine this.keep fun p hp=>Zah ?_;rcases Yak.mp hp with hp | hp
    ·exact hne p hp
    ·rw[YaG.mp hp];exact hta
  rintro acc H2 h0 ⟨s2,ps,hacc,hne,hpr⟩;rw[Yab,YaS] at hpr;have hks:∀ p∈ps,kf H2 p≠[]/\H2 p=some (.tup ((kf H2 p).map V.int)):=by
   intro p hp;obtain⟨k',hk,e⟩:=hpr.1 p hp;rw[Ze1 e];exact⟨hk,e⟩
  refine⟨acc,ps,kf H2,rfl,SqL.of hacc,hks,fun fl fs nfl pm up=>?_⟩;have s23:Same H2 (upd H2 fl (.lst (fs.map V.ref))):=Same.new nfl;have hfl:upd H2 fl (.lst (fs.map V.ref)) fl=some (.lst (fs.map V.ref)):=Zab;have hlf2:TuM H2 fs (fs.map (kf H2)):=⟨fun p hp=>hpr.1 p (pm.mem_iff.mp hp),rfl⟩
  have lfp:(fs.map (kf H2)).Perm (prL ls):=by rw[<- hpr.2];exact pm.map _
  have lfs:(fs.map (kf H2)).Pairwise (fun p q=>lxB q p=false):=Ya5.mpr up;have hlf:=hlf2.same s23;generalize fs.map (kf H2)=lf at hlf lfp lfs;generalize upd H2 fl (.lst (fs.map V.ref))=H3 at s23 hfl hlf ⊢;have s03:=s2.trans s23;refine⟨(by show 1<=sizeLine;decide),fun n1 nn1=>?_⟩;have x1:upd H3 n1 (.lst [.non]) n1=some (.lst [.non]):=Zab;have u1:Same H3 (upd H3 n1 (.lst [.non])):=Same.new nn1;generalize upd H3 n1 (.lst [.non])=H4 at x1 u1 ⊢;have s04:=s03.trans u1;refine⟨_,rfl,ll,_,rfl,SqB.orL (SqB.sameL s04 hL),n1,_,_,rfl,rfl,x1,by omega,by rw[Yab];omega,by rw[Yab];show 1*_<=_;omega,fun pl npl=>?_⟩;rw[Zk3,Yab,YaM];have x2:upd H4 pl (.lst (Yan ls.length V.non)) pl=some (.lst (Yan ls.length V.non)):=Zab;have u2:Same H4 (upd H4 pl (.lst (Yan ls.length V.non))):=Same.new npl;generalize upd H4 pl (.lst (Yan ls.length V.non))=H5 at x2 u2 ⊢;have plH:H pl=none:=s04.free npl;have s05:=s04.trans u2;have s35:=u1.trans u2;refine⟨_,rfl,_,rfl,_,rfl,ll,_,rfl,SqB.orL (SqB.sameL s05 hL),?_⟩;rw[Yab];refine⟨a,rs,N,ls.length,rfl,s05 _ _ hA,hT.same s05,hN,hF,fun gl gs lp H6 ngl hgl hlp lpp lps s6=>?_⟩;have s06:=s05.trans s6;have s36:=s35.trans s6;have hpl6:=s6 _ _ x2;have gll:gs.length=N.flatten.length:=by rw[hlp.len,lpp.length_eq,Zbr]
  have fsl:fs.length=ls.length:=by rw[hlf.len,lfp.length_eq,ZbH]
  have hnd:=ZgO lfp;have hflpl:fl≠pl:=Zag (u1 _ _ hfl) npl;have hglpl:gl≠pl:=Ybn (Zag x2 ngl);refine⟨true,true,fl,gl,rfl,⟨_,SqL.of (s36 _ _ hfl)⟩,⟨_,SqL.of hgl⟩,?_⟩;refine Zlz (b1:=true) (b2:=true) (xs:=fs.map V.ref) (ys:=(gs.take ls.length).map V.ref) (by rw[Yab,Yab,Yax];omega)
   (fun t σ H7=>∃ (o4 o5 o6 o7 o8:Option V) (vs:List V),σ=[some (.ref a),some (.ref ll),some (.ref fl),some (.ref pl),o4,o5,o6,o7,o8]/\H7 pl=some (.lst vs)/\vs.length=ls.length/\(∀ b o,H6 b=some o->b≠pl->H7 b=some o) /\
    (∀ (s:Nat) f p,s<t->lf[s]?=some f->lp[s]?=some p->∃ q,vs[(f.getD 1 0).toNat]?=some (.ref q)/\H7 q=some (.tup [.int (p.getD 1 0),.int (p.getD 2 0)])/\q≠pl))
   ⟨_,_,_,_,_,_,rfl,hpl6,by rw[YbJ],fun _ _ e _=>e,fun s f p h=>absurd h (YbB _)⟩ ?_ ?_ ?_
  ·rintro i σ H7 _ ⟨_,_,_,_,_,_,_,_,_,fr,_⟩;exact⟨SqL.of (fr _ _ (s36 _ _ hfl) hflpl),SqL.of (fr _ _ hgl hglpl)⟩
  ·rintro t x y u σ H7 hx hy ⟨o4,o5,o6,o7,o8,vs,rfl,hv,hvl,fr,hdone⟩ nu;obtain⟨xa,hxa,rfl⟩:=Zdg hx;obtain⟨ya,hya,rfl⟩:=Zdg hy;have htl:=(Yae.mp hxa).1
   rw[List.getElem?_take,if_pos (by omega)] at hya;obtain⟨f,hf,hxf⟩:=hlf.at hxa;obtain⟨p,hp,hyp⟩:=hlp.at hya;have hxpl:xa≠pl:=Zag (u1 _ _ hxf) npl;have hypl:ya≠pl:=fun z=>by rw[z,hpl6] at hyp;cases hyp
   obtain⟨j,l,ef,hj⟩:=Zeb (lfp.mem_iff.mp (Yaw hf));obtain⟨r,jj,z,xs,ep,hr',hz'⟩:=Zbq (lpp.mem_iff.mp (Yaw hp));have hjl:=(Yae.mp hj).1
   have hx7:=fr _ _ (s36 _ _ hxf) hxpl;have hy7:=fr _ _ hyp hypl;have su:Same H7 (upd H7 u (.tup [.ref xa,.ref ya])):=Same.new nu;have hu3:upd H7 u (.tup [.ref xa,.ref ya]) u=some (.tup [.ref xa,.ref ya]):=Zab;generalize upd H7 u (.tup [.ref xa,.ref ya])=H8 at su hu3 ⊢;have hx8:H8 xa=some (.tup [.int (-l),.int (j:Int)]):=by have:=su _ _ hx7;rw[ef] at this;exact this
   have hy8:H8 ya=some (.tup [.int z,.int ((0+r:Nat):Int),.int (jj:Int)]):=by have:=su _ _ hy7;rw[ep] at this;exact this
   refine⟨u,_,rfl,SqT.of hu3,rfl,_,_,rfl,xa,_,rfl,SqT.of hx8,rfl,_,_,rfl,_,_,rfl,rfl,_,_,rfl,ya,_,rfl,SqT.of hy8,rfl,_,_,rfl,_,_,rfl,_,_,rfl,rfl,rfl,?_⟩;refine⟨_,rfl,_,rfl,(by show 2<=sizeLine;decide),fun q nq=>?_⟩;have hv8:=su _ _ hv;have hqpl:q≠pl:=Ybn (Zag hv8 nq);have sq:Same H8 (upd H8 q (.tup [.int ((0+r:Nat):Int),.int (jj:Int)])):=Same.new nq;have hq9:upd H8 q (.tup [.int ((0+r:Nat):Int),.int (jj:Int)]) q=some (.tup [.int ((0+r:Nat):Int),.int (jj:Int)]):=Zab;generalize upd H8 q (.tup [.int ((0+r:Nat):Int),.int (jj:Int)])=H9 at sq hq9 ⊢;refine⟨_,rfl,_,rfl,pl,vs,(j:Int),j,rfl,rfl,sq _ _ hv8,?_,?_⟩
   ·have:=Zit (n:=vs.length) (x:=(j:Int)) (by omega) (by omega)
    rwa [YaM] at this
   refine⟨_,_,_,_,_,vs.set j (.ref q),rfl,Zab,by rw[Yd0];exact hvl,fun b o e hb=>?_,fun s f' p' hs hf' hp'=>?_⟩
   ·rw[Zah hb];exact sq _ _ (su _ _ (fr b o e hb))
   ·by_cases est:s=t
    ·subst est;rw[hf] at hf';rw[hp] at hp';cases hf';cases hp';refine⟨q,?_,?_,hqpl⟩
     ·rw[ef];show (vs.set j (.ref q))[(j:Int).toNat]?=_;rw[YaM];exact Yc8 (by omega)
     ·rw[Zah hqpl,ep];exact hq9
    ·obtain⟨q',g1,g2,g3⟩:=hdone s f' p' (by omega) hf' hp';obtain⟨j',l',ef',hj'⟩:=Zeb (lfp.mem_iff.mp (Yaw hf'));have hjj:j≠j':=fun zz=>by
      have a1:(lf.map fun f=>f.getD 1 0)[s]?=some (j':Int):=by rw[Yam,hf',ef'];rfl
      have a2:(lf.map fun f=>f.getD 1 0)[t]?=some (j:Int):=by rw[Yam,hf,ef];rfl
      rw[<- zz] at a1;have b1:=Yae.mp a1;have b2:=Yae.mp a2;exact est ((Yfq hnd).mp (b1.2.trans b2.2.symm))
     refine⟨q',?_,?_,g3⟩
     ·rw[ef'] at g1 ⊢;have g1:vs[(j':Int).toNat]?=some (.ref q'):=g1;show (vs.set j (.ref q))[(j':Int).toNat]?=_;rw[YaM] at g1 ⊢;rw[YaO hjj];exact g1
     ·rw[Zah g3];exact sq _ _ (su _ _ g2)
  ·rintro σ H7 ⟨o4,o5,o6,o7,o8,vs,rfl,hv,hvl,fr,hdone⟩;rw[Yab] at hdone;have s07:Same H H7:=fun b o e=>fr b o (s06 _ _ e) (Zag e plH);have lfl:lf.length=ls.length:=by rw[lfp.length_eq,ZbH]
   have lpl:lp.length=N.flatten.length:=by rw[lpp.length_eq,Zbr]
   obtain⟨qs,ks,hvq,hM,hin⟩:=Zi7 (H:=H7) (N:=N) (vs:=vs) fun j hj=>by
    obtain⟨l,hl⟩:∃ l,ls[j]?=some l:=⟨_,Yaa (by omega)⟩
    obtain⟨s,hs⟩:=YbU.mp (lfp.mem_iff.mpr (Yaw (ZhK hl)));have hsl:=(Yae.mp hs).1
    obtain⟨p,hp⟩:∃ p,lp[s]?=some p:=⟨_,Yaa (by omega)⟩
    obtain⟨q,g1,g2,g3⟩:=hdone s _ p (by omega) hs hp;obtain⟨r,jj,z,xs,ep,hr',hz'⟩:=Zbq (lpp.mem_iff.mp (Yaw hp));refine⟨q,[p.getD 1 0,p.getD 2 0],?_,g2,r,jj,xs,by rw[ep,Ybw];rfl,hr',(Yae.mp hz').1⟩;have g1:vs[(j:Int).toNat]?=some (.ref q):=g1
    rwa [YaM] at g1
   have ksl:ks.length=ls.length:=by rw[<- hM.len,<- hvl,hvq,Yab]
   rw[hvq] at hv;refine⟨_,rfl,_,rfl,_,rfl,a,ll,pl,b,rs,qs,N,ls,ks,rfl,s07 _ _ hA,hT.same s07,SqB.sameL s07 hL,hv,hM,hin,ksl.symm,hls,hb1,hb2,fun H8 s8=>?_⟩;refine⟨_,rfl,(by show 2<=sizeLine;decide),fun tt ntt=>?_⟩;have s9:Same H8 (upd H8 tt (.tup [.int (ZaR N ls ks).sum,.ref pl])):=Same.new ntt;have s79:=s8.trans s9;refine k tt pl qs ks lf lp _ ((s07.trans s8).free ntt) Zab plH (s79 _ _ hv) (hM.same s79) hin ⟨ksl,lfp,lfs,lpp,lps,fun t f p hf hp=>?_⟩ (s07.trans s79);have htl:=(Yae.mp hf).1
   obtain⟨q,g1,g2,g3⟩:=hdone t f p (by omega) hf hp;rw[hvq,Yam] at g1
   cases eq:qs[(f.getD 1 0).toNat]? with
   | none=>rw[eq] at g1;cases g1
   | some q2=>
    rw[eq] at g1;cases g1;obtain⟨kk,h1,h2⟩:=hM.at eq;have e1:=Ze1 h2;have e2:=Ze1 (k:=[p.getD 1 0,p.getD 2 0]) g2;rw[h1,<- e1,e2]
end
end Fk38
namespace Fk38
open PySem L2 Lv
section
variable {P:Program}{w:World}{K:Yac}{mg:Str->Option Value}{base:Heap}
theorem ZlY:FnScope ["p"] ["p"] (Zad ZeN):=⟨rfl,rfl,rfl,by decide +kernel,rfl,by decide +kernel,by decide +kernel⟩
theorem Zlh {f fW:Addr}{fd dW:FuncData}{t2 t7:Tok} (F:Fun K "check_ways" "check_ways" ZeN f fd) (T:Txt mg) (hL:mg "LEAST_WAYS"=some (.int 2 t2)) (hM:mg "MOST_WAYS"=some (.int 7 t7)) (CW:Cal P w K mg base 1 "is_whole" ["thing"] Zb4 fW dW) :
  FnOk P w K mg base CX0 2 f fd ["p"] Zhr:=by
 refine F.ok ZlY (fun vs H Q E h=>?_) (fun cdv A outer s H vs Q E hr h=>?_)
 ·obtain⟨i,rfl,_⟩:=h;rfl
 ·obtain⟨i,rfl,h1,h2,k⟩:=h;refine⟨_,Zao (Zdq (PW.pt (Zb9 (Za9 (Zbm (Zar CW hr rfl (Zaa (pv 0) Zac))))
   (ZbG (Za9 (ZcS Zdt Zdt (Zbu rfl hL) (pv 0) (Zbu rfl hM)))))) ZaH Zbt),?_⟩
  refine⟨_,rfl,i,rfl,true,rfl,iteF ?_⟩;refine⟨_,rfl,2,i,rfl,rfl,_,rfl,?_⟩;rw[decide_eq_true h1];refine iteT ⟨i,7,rfl,rfl,_,rfl,?_⟩;rw[decide_eq_true h2];exact iteF k
theorem Zjl:FnScope ["thing"] ["thing"] (Zad Zcx):=⟨rfl,rfl,rfl,by decide +kernel,rfl,by decide +kernel,by decide +kernel⟩
theorem Zh1 {f:Addr}{fd:FuncData} (F:Fun K "_law_whole" "_law_whole" Zcx f fd) (T:Txt mg):FnOk P w K mg base CX0 1 f fd ["thing"] Zb4:=by
 refine F.ok Zjl (fun vs H Q E h=>?_) (fun cdv A outer s H vs Q E hr h=>?_)
 ·obtain⟨i,rfl,_⟩:=h;rfl
 ·obtain⟨i,rfl,k⟩:=h;refine⟨_,Zao (Zay (ZhU (Zai ZaZ rfl T.isinstance Zau (Zaa (pv 0) (Zaa (ZeS rfl T.int Zka) Zac)))
   (ZhR (Zkt (Zai ZaZ rfl T.isinstance Zau (Zaa (pv 0) (Zaa (ZeS rfl T.bool ZkH) Zac))))))),?_⟩
  refine⟨_,rfl,.int i,"int",_,true,rfl,.int i,ZfN,true,rfl,iteT ?_⟩;exact⟨_,rfl,.int i,"bool",_,false,rfl,.int i,Ze0,false,rfl,k⟩
end
end Fk38
namespace Fk38
open PySem L2 Lv
theorem len1 {P:List Value->Prop} (us:List Value) (hl:us.length=1) (h:∀ a0:Value,P [a0]):P us:=by
 match us,hl with
 | [a0],_=>exact h a0
theorem len2 {P:List Value->Prop} (us:List Value) (hl:us.length=2) (h:∀ a0 a1:Value,P [a0,a1]):P us:=by
 match us,hl with
 | [a0,a1],_=>exact h a0 a1
theorem len3 {P:List Value->Prop} (us:List Value) (hl:us.length=3) (h:∀ a0 a1 a2:Value,P [a0,a1,a2]):P us:=by
 match us,hl with
 | [a0,a1,a2],_=>exact h a0 a1 a2
theorem len4 {P:List Value->Prop} (us:List Value) (hl:us.length=4) (h:∀ a0 a1 a2 a3:Value,P [a0,a1,a2,a3]):P us:=by
 match us,hl with
 | [a0,a1,a2,a3],_=>exact h a0 a1 a2 a3
theorem all_mk {l:YdH}{w:World}{K:Yac}{h:Heap}{mg:Str->Option Value}{fa f0 f1 f2 f3 f4 f5 f6 f7 f8 f9 f10 f11 f12 f13 f14 f15 f16 f17 f18 f19 f20 f21 f22 f23 f24 f25 f26 f27 f28 f29 f30:Addr}{tk0 tk1 tk2:Tok} (X:K.In h) (G:h.Ns mainGlobals mg) (hfa:mg "law"=some (.ref fa))
  {od0 an0 od1 an1 od2 an2 od3 an3 od4 an4 od5 an5 od6 an6 od7 an7 od8 an8 od9 an9 od10 an10 od11 an11 od12 an12 od13 an13 od14 an14 od15 an15 od16 an16 od17 an17 od18 an18 od19 an19 od20 an20 od21 an21 od22 an22 od23 an23 od24 an24 od25 an25 od26 an26 od27 an27 od28 an28 od29 an29 od30 an30:Option Addr}{sl0 sl1 sl2 sl3 sl4 sl5 sl6 sl7 sl8 sl9 sl10 sl11 sl12 sl13 sl14 sl15 sl16 sl17 sl18 sl19 sl20 sl21 sl22 sl23 sl24 sl25 sl26 sl27 sl28 sl29 sl30:Array (Option Value)}{oc0 kV0 dc0 pm0 cd0 ct0 oc1 kV1 dc1 pm1 cd1 ct1 oc2 kV2 dc2 pm2 cd2 ct2 oc3 kV3 dc3 pm3 cd3 ct3 oc4 kV4 dc4 pm4 cd4 ct4 oc5 kV5 dc5 pm5 cd5 ct5 oc6 kV6 dc6 pm6 cd6 ct6 oc7 kV7 dc7 pm7 cd7 ct7 oc8 kV8 dc8 pm8 cd8 ct8 oc9 kV9 dc9 pm9 cd9 ct9 oc10 kV10 dc10 pm10 cd10 ct10 oc11 kV11 dc11 pm11 cd11 ct11 oc12 kV12 dc12 pm12 cd12 ct12 oc13 kV13 dc13 pm13 cd13 ct13 oc14 kV14 dc14 pm14 cd14 ct14 oc15 kV15 dc15 pm15 cd15 ct15 oc16 kV16 dc16 pm16 cd16 ct16 oc17 kV17 dc17 pm17 cd17 ct17 oc18 kV18 dc18 pm18 cd18 ct18 oc19 kV19 dc19 pm19 cd19 ct19 oc20 kV20 dc20 pm20 cd20 ct20 oc21 kV21 dc21 pm21 cd21 ct21 oc22 kV22 dc22 pm22 cd22 ct22 oc23 kV23 dc23 pm23 cd23 ct23 oc24 kV24 dc24 pm24 cd24 ct24 oc25 kV25 dc25 pm25 cd25 ct25 oc26 kV26 dc26 pm26 cd26 ct26 oc27 kV27 dc27 pm27 cd27 ct27 oc28 kV28 dc28 pm28 cd28 ct28 oc29 kV29 dc29 pm29 cd29 ct29 oc30 kV30 dc30 pm30 cd30 ct30:Value}
  {da2:Addr}{doc2:Value}{dod2:Option Addr}{dn2:Nat}{dsl2:Array (Option Value)}{dt2_0:Tok}
  (a0:Yaq K mainGlobals "is_whole"=some (some (.ref f0))) (l0:K.lookup f0=some ⟨oc0,od0,.func (YaE "is_whole" "is_whole" (Zam ZdB) (Zaj ZdB) (Zad ZdB) .none kV0 dc0 pm0 an0 cd0 ct0),sl0⟩) (c0:YaD K cd0 "is_whole"=true) (k0:Yav K (.ref f0)=true)
  (a1:Yaq K mainGlobals "check_ways"=some (some (.ref f1))) (l1:K.lookup f1=some ⟨oc1,od1,.func (YaE "check_ways" "check_ways" (Zam ZeN) (Zaj ZeN) (Zad ZeN) .none kV1 dc1 pm1 an1 cd1 ct1),sl1⟩) (c1:YaD K cd1 "check_ways"=true) (k1:Yav K (.ref f1)=true)
  (a2:Yaq K mainGlobals "check_level"=some (some (.ref f2))) (l2:K.lookup f2=some ⟨oc2,od2,.func (YaE "check_level" "check_level" (Zam ZcH) (Zaj ZcH) (Zad ZcH) (.ref da2) kV2 dc2 pm2 an2 cd2 ct2),sl2⟩) (c2:YaD K cd2 "check_level"=true) (k2:Yav K (.ref f2)=true)
  (d2:K.lookup da2=some ⟨doc2,dod2,.seq #[.int 300 dt2_0] dn2,dsl2⟩)
  (a3:Yaq K mainGlobals "first_counts"=some (some (.ref f3))) (l3:K.lookup f3=some ⟨oc3,od3,.func (YaE "first_counts" "first_counts" (Zam ZdF) (Zaj ZdF) (Zad ZdF) .none kV3 dc3 pm3 an3 cd3 ct3),sl3⟩) (c3:YaD K cd3 "first_counts"=true) (k3:Yav K (.ref f3)=true)
  (a4:Yaq K mainGlobals "next_counts"=some (some (.ref f4))) (l4:K.lookup f4=some ⟨oc4,od4,.func (YaE "next_counts" "next_counts" (Zam ZfF) (Zaj ZfF) (Zad ZfF) .none kV4 dc4 pm4 an4 cd4 ct4),sl4⟩) (c4:YaD K cd4 "next_counts"=true) (k4:Yav K (.ref f4)=true)
  (a5:Yaq K mainGlobals "level_counts"=some (some (.ref f5))) (l5:K.lookup f5=some ⟨oc5,od5,.func (YaE "level_counts" "level_counts" (Zam Zb8) (Zaj Zb8) (Zad Zb8) .none kV5 dc5 pm5 an5 cd5 ct5),sl5⟩) (c5:YaD K cd5 "level_counts"=true) (k5:Yav K (.ref f5)=true)
  (a6:Yaq K mainGlobals "level_total"=some (some (.ref f6))) (l6:K.lookup f6=some ⟨oc6,od6,.func (YaE "level_total" "level_total" (Zam Zc5) (Zaj Zc5) (Zad Zc5) .none kV6 dc6 pm6 an6 cd6 ct6),sl6⟩) (c6:YaD K cd6 "level_total"=true) (k6:Yav K (.ref f6)=true)
  (a7:Yaq K mainGlobals "check_total"=some (some (.ref f7))) (l7:K.lookup f7=some ⟨oc7,od7,.func (YaE "check_total" "check_total" (Zam sTot) (Zaj sTot) (Zad sTot) .none kV7 dc7 pm7 an7 cd7 ct7),sl7⟩) (c7:YaD K cd7 "check_total"=true) (k7:Yav K (.ref f7)=true)
  (a8:Yaq K mainGlobals "check_places"=some (some (.ref f8))) (l8:K.lookup f8=some ⟨oc8,od8,.func (YaE "check_places" "check_places" (Zam Zb7) (Zaj Zb7) (Zad Zb7) .none kV8 dc8 pm8 an8 cd8 ct8),sl8⟩) (c8:YaD K cd8 "check_places"=true) (k8:Yav K (.ref f8)=true)
  (a9:Yaq K mainGlobals "first_numbers"=some (some (.ref f9))) (l9:K.lookup f9=some ⟨oc9,od9,.func (YaE "first_numbers" "first_numbers" (Zam Zcy) (Zaj Zcy) (Zad Zcy) .none kV9 dc9 pm9 an9 cd9 ct9),sl9⟩) (c9:YaD K cd9 "first_numbers"=true) (k9:Yav K (.ref f9)=true)
  (a10:Yaq K mainGlobals "next_numbers"=some (some (.ref f10))) (l10:K.lookup f10=some ⟨oc10,od10,.func (YaE "next_numbers" "next_numbers" (Zam ZcG) (Zaj ZcG) (Zad ZcG) .none kV10 dc10 pm10 an10 cd10 ct10),sl10⟩) (c10:YaD K cd10 "next_numbers"=true) (k10:Yav K (.ref f10)=true)
  (a11:Yaq K mainGlobals "numbers_after"=some (some (.ref f11))) (l11:K.lookup f11=some ⟨oc11,od11,.func (YaE "numbers_after" "numbers_after" (Zam ZdH) (Zaj ZdH) (Zad ZdH) .none kV11 dc11 pm11 an11 cd11 ct11),sl11⟩) (c11:YaD K cd11 "numbers_after"=true) (k11:Yav K (.ref f11)=true)
  (a12:Yaq K mainGlobals "numbers_of"=some (some (.ref f12))) (l12:K.lookup f12=some ⟨oc12,od12,.func (YaE "numbers_of" "numbers_of" (Zam ZdC) (Zaj ZdC) (Zad ZdC) .none kV12 dc12 pm12 an12 cd12 ct12),sl12⟩) (c12:YaD K cd12 "numbers_of"=true) (k12:Yav K (.ref f12)=true)
  (a13:Yaq K mainGlobals "level_numbers"=some (some (.ref f13))) (l13:K.lookup f13=some ⟨oc13,od13,.func (YaE "level_numbers" "level_numbers" (Zam sLN) (Zaj sLN) (Zad sLN) .none kV13 dc13 pm13 an13 cd13 ct13),sl13⟩) (c13:YaD K cd13 "level_numbers"=true) (k13:Yav K (.ref f13)=true)
  (a14:Yaq K mainGlobals "least_places"=some (some (.ref f14))) (l14:K.lookup f14=some ⟨oc14,od14,.func (YaE "least_places" "least_places" (Zam Zcw) (Zaj Zcw) (Zad Zcw) .none kV14 dc14 pm14 an14 cd14 ct14),sl14⟩) (c14:YaD K cd14 "least_places"=true) (k14:Yav K (.ref f14)=true)
  (a15:Yaq K mainGlobals "reading_by"=some (some (.ref f15))) (l15:K.lookup f15=some ⟨oc15,od15,.func (YaE "reading_by" "reading_by" (Zam Zb6) (Zaj Zb6) (Zad Zb6) .none kV15 dc15 pm15 an15 cd15 ct15),sl15⟩) (c15:YaD K cd15 "reading_by"=true) (k15:Yav K (.ref f15)=true)
  (a16:Yaq K mainGlobals "least_by"=some (some (.ref f16))) (l16:K.lookup f16=some ⟨oc16,od16,.func (YaE "least_by" "least_by" (Zam ZbP) (Zaj ZbP) (Zad ZbP) .none kV16 dc16 pm16 an16 cd16 ct16),sl16⟩) (c16:YaD K cd16 "least_by"=true) (k16:Yav K (.ref f16)=true)
  (a17:Yaq K mainGlobals "placing_reading"=some (some (.ref f17))) (l17:K.lookup f17=some ⟨oc17,od17,.func (YaE "placing_reading" "placing_reading" (Zam ZgN) (Zaj ZgN) (Zad ZgN) .none kV17 dc17 pm17 an17 cd17 ct17),sl17⟩) (c17:YaD K cd17 "placing_reading"=true) (k17:Yav K (.ref f17)=true)
  (a18:Yaq K mainGlobals "least_placing"=some (some (.ref f18))) (l18:K.lookup f18=some ⟨oc18,od18,.func (YaE "least_placing" "least_placing" (Zam ZaF) (Zaj ZaF) (Zad ZaF) .none kV18 dc18 pm18 an18 cd18 ct18),sl18⟩) (c18:YaD K cd18 "least_placing"=true) (k18:Yav K (.ref f18)=true)
  (a19:Yaq K mainGlobals "_law_mixed"=some (some (.ref f19))) (l19:K.lookup f19=some ⟨oc19,od19,.func (YaE "_law_mixed" "_law_mixed" (Zam ZdD) (Zaj ZdD) (Zad ZdD) .none kV19 dc19 pm19 an19 cd19 ct19),sl19⟩) (c19:YaD K cd19 "_law_mixed"=true) (k19:Yav K (.ref f19)=true)
  (a20:Yaq K mainGlobals "_law_draws"=some (some (.ref f20))) (l20:K.lookup f20=some ⟨oc20,od20,.func (YaE "_law_draws" "_law_draws" (Zam ZdG) (Zaj ZdG) (Zad ZdG) .none kV20 dc20 pm20 an20 cd20 ct20),sl20⟩) (c20:YaD K cd20 "_law_draws"=true) (k20:Yav K (.ref f20)=true)
  (a21:Yaq K mainGlobals "_law_reels"=some (some (.ref f21))) (l21:K.lookup f21=some ⟨oc21,od21,.func (YaE "_law_reels" "_law_reels" (Zam Zbd) (Zaj Zbd) (Zad Zbd) .none kV21 dc21 pm21 an21 cd21 ct21),sl21⟩) (c21:YaD K cd21 "_law_reels"=true) (k21:Yav K (.ref f21)=true)
  (a22:Yaq K mainGlobals "_law_level"=some (some (.ref f22))) (l22:K.lookup f22=some ⟨oc22,od22,.func (YaE "_law_level" "_law_level" (Zam Zbs) (Zaj Zbs) (Zad Zbs) .none kV22 dc22 pm22 an22 cd22 ct22),sl22⟩) (c22:YaD K cd22 "_law_level"=true) (k22:Yav K (.ref f22)=true)
  (a23:Yaq K mainGlobals "_law_lengths"=some (some (.ref f23))) (l23:K.lookup f23=some ⟨oc23,od23,.func (YaE "_law_lengths" "_law_lengths" (Zam ZdE) (Zaj ZdE) (Zad ZdE) .none kV23 dc23 pm23 an23 cd23 ct23),sl23⟩) (c23:YaD K cd23 "_law_lengths"=true) (k23:Yav K (.ref f23)=true)
  (a24:Yaq K mainGlobals "_law_placing"=some (some (.ref f24))) (l24:K.lookup f24=some ⟨oc24,od24,.func (YaE "_law_placing" "_law_placing" (Zam Zc6) (Zaj Zc6) (Zad Zc6) .none kV24 dc24 pm24 an24 cd24 ct24),sl24⟩) (c24:YaD K cd24 "_law_placing"=true) (k24:Yav K (.ref f24)=true)
  (a25:Yaq K mainGlobals "_law_whole"=some (some (.ref f25))) (l25:K.lookup f25=some ⟨oc25,od25,.func (YaE "_law_whole" "_law_whole" (Zam Zcx) (Zaj Zcx) (Zad Zcx) .none kV25 dc25 pm25 an25 cd25 ct25),sl25⟩) (c25:YaD K cd25 "_law_whole"=true) (k25:Yav K (.ref f25)=true)
  (a26:Yaq K mainGlobals "_law_pair"=some (some (.ref f26))) (l26:K.lookup f26=some ⟨oc26,od26,.func (YaE "_law_pair" "_law_pair" (Zam ZbQ) (Zaj ZbQ) (Zad ZbQ) .none kV26 dc26 pm26 an26 cd26 ct26),sl26⟩) (c26:YaD K cd26 "_law_pair"=true) (k26:Yav K (.ref f26)=true)
  (a27:Yaq K mainGlobals "_law_right"=some (some (.ref f27))) (l27:K.lookup f27=some ⟨oc27,od27,.func (YaE "_law_right" "_law_right" (Zam Za3) (Zaj Za3) (Zad Za3) .none kV27 dc27 pm27 an27 cd27 ct27),sl27⟩) (c27:YaD K cd27 "_law_right"=true) (k27:Yav K (.ref f27)=true)
  (a28:Yaq K mainGlobals "_law_kind"=some (some (.ref f28))) (l28:K.lookup f28=some ⟨oc28,od28,.func (YaE "_law_kind" "_law_kind" (Zam ZbR) (Zaj ZbR) (Zad ZbR) .none kV28 dc28 pm28 an28 cd28 ct28),sl28⟩) (c28:YaD K cd28 "_law_kind"=true) (k28:Yav K (.ref f28)=true)
  (a29:Yaq K mainGlobals "_law_no_number"=some (some (.ref f29))) (l29:K.lookup f29=some ⟨oc29,od29,.func (YaE "_law_no_number" "_law_no_number" (Zam Za0) (Zaj Za0) (Zad Za0) .none kV29 dc29 pm29 an29 cd29 ct29),sl29⟩) (c29:YaD K cd29 "_law_no_number"=true) (k29:Yav K (.ref f29)=true)
  (a30:Yaq K mainGlobals "law"=some (some (.ref f30))) (l30:K.lookup f30=some ⟨oc30,od30,.func (YaE "law" "law" (Zam sLaw) (Zaj sLaw) (Zad sLaw) .none kV30 dc30 pm30 an30 cd30 ct30),sl30⟩) (c30:YaD K cd30 "law"=true) (k30:Yav K (.ref f30)=true)
  (y0:Yaq K mainGlobals "LEAST_WAYS"=some (some (.int 2 tk0)))
  (y1:Yaq K mainGlobals "MOST_WAYS"=some (some (.int 7 tk1)))
  (y2:Yaq K mainGlobals "MOST_PLACES"=some (some (.int 4000 tk2)))
  {ecReelError ecNoWays ecNoLevel ecTooMany ecTooFew:Addr} (exReelError:Yaq K mainGlobals "ReelError"=some (some (.ref ecReelError))) (exNoWays:Yaq K mainGlobals "NoWays"=some (some (.ref ecNoWays))) (exNoLevel:Yaq K mainGlobals "NoLevel"=some (some (.ref ecNoLevel))) (exTooMany:Yaq K mainGlobals "TooMany"=some (some (.ref ecTooMany))) (exTooFew:Yaq K mainGlobals "TooFew"=some (some (.ref ecTooFew)))
  (exnd:([ecNoWays,ecNoLevel,ecTooFew,ecTooMany]:List Addr).Nodup) (etNoWays:ZdR K ecReelError ecNoWays [ecNoWays,ecNoLevel,ecTooFew,ecTooMany]=true) (etNoLevel:ZdR K ecReelError ecNoLevel [ecNoWays,ecNoLevel,ecTooFew,ecTooMany]=true) (etTooFew:ZdR K ecReelError ecTooFew [ecNoWays,ecNoLevel,ecTooFew,ecTooMany]=true) (etTooMany:ZdR K ecReelError ecTooMany [ecNoWays,ecNoLevel,ecTooFew,ecTooMany]=true)
  (z0:Yaq K mainGlobals "isinstance"=some none) (z1:Yaq K mainGlobals "int"=some none) (z2:Yaq K mainGlobals "bool"=some none) (z3:Yaq K mainGlobals "list"=some none) (z4:Yaq K mainGlobals "tuple"=some none) (z5:Yaq K mainGlobals "min"=some none) (z6:Yaq K mainGlobals "max"=some none) (z7:Yaq K mainGlobals "len"=some none) (z8:Yaq K mainGlobals "range"=some none) (z9:Yaq K mainGlobals "all"=some none) (z10:Yaq K mainGlobals "sum"=some none) (z11:Yaq K mainGlobals "sorted"=some none) (z12:Yaq K mainGlobals "zip"=some none) (zenumerate:Yaq K mainGlobals "enumerate"=some none) (zset:Yaq K mainGlobals "set"=some none) (zValueError:Yaq K mainGlobals "ValueError"=some none) :
  ∃ fd:FuncData,(∀ (s:Shared) (v:Value),BindsTo s fd ⟨[v],[]⟩ [("script",v)])/\∀ base:Heap,K.In base->base.Ns mainGlobals mg->FnOk l.prog w K mg base CX0 9 fa fd ["script"] (Zjh K):=by
 have e:=hfa.symm.trans (Yfl X G a30);cases e;have T:Txt mg:=⟨YaJ X G z0,YaJ X G z1,YaJ X G z2,YaJ X G z3,YaJ X G z4,YaJ X G z5,YaJ X G z6,YaJ X G z7,YaJ X G z8,YaJ X G z9,YaJ X G z10,YaJ X G z11,YaJ X G z12⟩
 have F0:=ZaD (st:=ZdB) l0 c0 k0;have b0:=F0.binds (ps:=["thing"]) fun _ _ _ _ _ _ us hl=>@len1 (fun us=>bindArgs _ ⟨us,[]⟩=pure (Ybs _ us)) us hl fun _=>rfl;have F1:=ZaD (st:=ZeN) l1 c1 k1;have b1:=F1.binds (ps:=["p"]) fun _ _ _ _ _ _ us hl=>@len1 (fun us=>bindArgs _ ⟨us,[]⟩=pure (Ybs _ us)) us hl fun _=>rfl;have F2:=Zly (st:=ZcH) l2 c2 k2;have b2:=F2.binds (ps:=["n","last"]) d2 rfl [.int 300 dt2_0] ["n"] rfl fun _ _ _ _ _ _ us hl=>match us,hl with | [_],_=>⟨_,rfl,rfl⟩
 have F3:=ZaD (st:=ZdF) l3 c3 k3;have b3:=F3.binds (ps:=["p"]) fun _ _ _ _ _ _ us hl=>@len1 (fun us=>bindArgs _ ⟨us,[]⟩=pure (Ybs _ us)) us hl fun _=>rfl;have F4:=ZaD (st:=ZfF) l4 c4 k4;have b4:=F4.binds (ps:=["counts"]) fun _ _ _ _ _ _ us hl=>@len1 (fun us=>bindArgs _ ⟨us,[]⟩=pure (Ybs _ us)) us hl fun _=>rfl;have F5:=ZaD (st:=Zb8) l5 c5 k5;have b5:=F5.binds (ps:=["p","n"]) fun _ _ _ _ _ _ us hl=>@len2 (fun us=>bindArgs _ ⟨us,[]⟩=pure (Ybs _ us)) us hl fun _ _=>rfl;have F6:=ZaD (st:=Zc5) l6 c6 k6;have b6:=F6.binds (ps:=["p","n"]) fun _ _ _ _ _ _ us hl=>@len2 (fun us=>bindArgs _ ⟨us,[]⟩=pure (Ybs _ us)) us hl fun _ _=>rfl;have F7:=ZaD (st:=sTot) l7 c7 k7;have b7:=F7.binds (ps:=["total"]) fun _ _ _ _ _ _ us hl=>@len1 (fun us=>bindArgs _ ⟨us,[]⟩=pure (Ybs _ us)) us hl fun _=>rfl;have F8:=ZaD (st:=Zb7) l8 c8 k8;have b8:=F8.binds (ps:=["p","n"]) fun _ _ _ _ _ _ us hl=>@len2 (fun us=>bindArgs _ ⟨us,[]⟩=pure (Ybs _ us)) us hl fun _ _=>rfl;have F9:=ZaD (st:=Zcy) l9 c9 k9;have b9:=F9.binds (ps:=["p"]) fun _ _ _ _ _ _ us hl=>@len1 (fun us=>bindArgs _ ⟨us,[]⟩=pure (Ybs _ us)) us hl fun _=>rfl;have F10:=ZaD (st:=ZcG) l10 c10 k10;have b10:=F10.binds (ps:=["numbers"]) fun _ _ _ _ _ _ us hl=>@len1 (fun us=>bindArgs _ ⟨us,[]⟩=pure (Ybs _ us)) us hl fun _=>rfl;have F11:=ZaD (st:=ZdH) l11 c11 k11;have b11:=F11.binds (ps:=["p","n","following"]) fun _ _ _ _ _ _ us hl=>@len3 (fun us=>bindArgs _ ⟨us,[]⟩=pure (Ybs _ us)) us hl fun _ _ _=>rfl;have F12:=ZaD (st:=ZdC) l12 c12 k12;have b12:=F12.binds (ps:=["p","n"]) fun _ _ _ _ _ _ us hl=>@len2 (fun us=>bindArgs _ ⟨us,[]⟩=pure (Ybs _ us)) us hl fun _ _=>rfl;have F13:=ZaD (st:=sLN) l13 c13 k13;have b13:=F13.binds (ps:=["p","n"]) fun _ _ _ _ _ _ us hl=>@len2 (fun us=>bindArgs _ ⟨us,[]⟩=pure (Ybs _ us)) us hl fun _ _=>rfl;have F14:=ZaD (st:=Zcw) l14 c14 k14;have b14:=F14.binds (ps:=["numbers","many"]) fun _ _ _ _ _ _ us hl=>@len2 (fun us=>bindArgs _ ⟨us,[]⟩=pure (Ybs _ us)) us hl fun _ _=>rfl;have F15:=ZaD (st:=Zb6) l15 c15 k15;have b15:=F15.binds (ps:=["numbers","lengths","placing"]) fun _ _ _ _ _ _ us hl=>@len3 (fun us=>bindArgs _ ⟨us,[]⟩=pure (Ybs _ us)) us hl fun _ _ _=>rfl;have F16:=ZaD (st:=ZbP) l16 c16 k16;have b16:=F16.binds (ps:=["numbers","lengths"]) fun _ _ _ _ _ _ us hl=>@len2 (fun us=>bindArgs _ ⟨us,[]⟩=pure (Ybs _ us)) us hl fun _ _=>rfl;have F17:=ZaD (st:=ZgN) l17 c17 k17;have b17:=F17.binds (ps:=["p","n","lengths","placing"]) fun _ _ _ _ _ _ us hl=>@len4 (fun us=>bindArgs _ ⟨us,[]⟩=pure (Ybs _ us)) us hl fun _ _ _ _=>rfl;have F18:=ZaD (st:=ZaF) l18 c18 k18;have b18:=F18.binds (ps:=["p","n","lengths"]) fun _ _ _ _ _ _ us hl=>@len3 (fun us=>bindArgs _ ⟨us,[]⟩=pure (Ybs _ us)) us hl fun _ _ _=>rfl;have F19:=ZaD (st:=ZdD) l19 c19 k19;have b19:=F19.binds (ps:=["cell","k"]) fun _ _ _ _ _ _ us hl=>@len2 (fun us=>bindArgs _ ⟨us,[]⟩=pure (Ybs _ us)) us hl fun _ _=>rfl;have F20:=ZaD (st:=ZdG) l20 c20 k20;have b20:=F20.binds (ps:=["cell","many","base"]) fun _ _ _ _ _ _ us hl=>@len3 (fun us=>bindArgs _ ⟨us,[]⟩=pure (Ybs _ us)) us hl fun _ _ _=>rfl;have F21:=ZaD (st:=Zbd) l21 c21 k21;have b21:=F21.binds (ps:=["p","n"]) fun _ _ _ _ _ _ us hl=>@len2 (fun us=>bindArgs _ ⟨us,[]⟩=pure (Ybs _ us)) us hl fun _ _=>rfl;have F22:=ZaD (st:=Zbs) l22 c22 k22;have b22:=F22.binds (ps:=["p","rows","further","most"]) fun _ _ _ _ _ _ us hl=>@len4 (fun us=>bindArgs _ ⟨us,[]⟩=pure (Ybs _ us)) us hl fun _ _ _ _=>rfl;have F23:=ZaD (st:=ZdE) l23 c23 k23;have b23:=F23.binds (ps:=["draws","most"]) fun _ _ _ _ _ _ us hl=>@len2 (fun us=>bindArgs _ ⟨us,[]⟩=pure (Ybs _ us)) us hl fun _ _=>rfl;have F24:=ZaD (st:=Zc6) l24 c24 k24;have b24:=F24.binds (ps:=["reels","rows","draws"]) fun _ _ _ _ _ _ us hl=>@len3 (fun us=>bindArgs _ ⟨us,[]⟩=pure (Ybs _ us)) us hl fun _ _ _=>rfl;have F25:=ZaD (st:=Zcx) l25 c25 k25;have b25:=F25.binds (ps:=["thing"]) fun _ _ _ _ _ _ us hl=>@len1 (fun us=>bindArgs _ ⟨us,[]⟩=pure (Ybs _ us)) us hl fun _=>rfl;have F26:=ZaD (st:=ZbQ) l26 c26 k26;have b26:=F26.binds (ps:=["thing","reels"]) fun _ _ _ _ _ _ us hl=>@len2 (fun us=>bindArgs _ ⟨us,[]⟩=pure (Ybs _ us)) us hl fun _ _=>rfl;have F27:=ZaD (st:=Za3) l27 c27 k27;have b27:=F27.binds (ps:=["reels","lengths","told"]) fun _ _ _ _ _ _ us hl=>@len3 (fun us=>bindArgs _ ⟨us,[]⟩=pure (Ybs _ us)) us hl fun _ _ _=>rfl;have F28:=ZaD (st:=ZbR) l28 c28 k28;have b28:=F28.binds (ps:=["p","n","lengths"]) fun _ _ _ _ _ _ us hl=>@len3 (fun us=>bindArgs _ ⟨us,[]⟩=pure (Ybs _ us)) us hl fun _ _ _=>rfl;have F29:=ZaD (st:=Za0) l29 c29 k29;have b29:=F29.binds (ps:=["least","most","way"]) fun _ _ _ _ _ _ us hl=>@len3 (fun us=>bindArgs _ ⟨us,[]⟩=pure (Ybs _ us)) us hl fun _ _ _=>rfl;have F30:=ZaD (st:=sLaw) l30 c30 k30;refine⟨YaE "law" "law" (Zam sLaw) (Zaj sLaw) (Zad sLaw) .none kV30 dc30 pm30 an30 cd30 ct30,fun s v=>.of_eq rfl,fun base _ _=>?_⟩;have m:=fun {x:Str}{v:Value} (a:Yaq K mainGlobals x=some (some v))=>Yfl X G a;have mLEAST_WAYS:=m y0;have mMOST_WAYS:=m y1;have mMOST_PLACES:=m y2;have mReelError:=m exReelError;have mNoWays:=m exNoWays;have mNoLevel:=m exNoLevel;have mTooMany:=m exTooMany;have mTooFew:=m exTooFew;have tabNoWays:ExcTab K ecReelError ecNoWays [ecNoWays,ecNoLevel,ecTooFew,ecTooMany]:=ExcTab.of etNoWays;have tabNoLevel:ExcTab K ecReelError ecNoLevel [ecNoWays,ecNoLevel,ecTooFew,ecTooMany]:=ExcTab.of etNoLevel;have tabTooFew:ExcTab K ecReelError ecTooFew [ecNoWays,ecNoLevel,ecTooFew,ecTooMany]:=ExcTab.of etTooFew;have tabTooMany:ExcTab K ecReelError ecTooMany [ecNoWays,ecNoLevel,ecTooFew,ecTooMany]:=ExcTab.of etTooMany;have Cis_whole:Cal l.prog w K mg base 1 "is_whole" ["thing"] (ZcQ K) _ _:=⟨ZeU F0 T,m a0,k0,b0⟩
 have Cwhole:Cal l.prog w K mg base 1 "is_whole" ["thing"] Zb4 _ _:=⟨(ZeU F0 T).imp (fun vs H Q E ⟨i,e,q⟩=>⟨.int i,"int",e,⟨.int i,by decide⟩,q⟩),m a0,k0,b0⟩
 have Cways:Cal l.prog w K mg base 2 "check_ways" ["p"] Zhr _ _:=⟨Zlh F1 T mLEAST_WAYS mMOST_WAYS Cwhole,m a1,k1,b1⟩
 have CwaysE:CalE l.prog w K mg base 2 "check_ways" ["p"] [] (Zhx K 2 7 ecNoWays) _ _:=⟨ZhX F1 T mNoWays tabNoWays.ok mLEAST_WAYS mMOST_WAYS Cis_whole,m a1,k1,[],b1,.nil⟩
 have Ccheck_level:CalD l.prog w K mg base 2 "check_level" ["n","last"] [.int 300] Zd0 _ _:=⟨ZjH F2 T Cwhole,m a2,k2,⟨_,b2,.cons ⟨_,rfl⟩ (.nil)⟩⟩
 have ClvlE:CalE l.prog w K mg base 2 "check_level" ["n","last"] [.int 300] (Zhv K 300 ecNoLevel) _ _:=⟨ZgZ F2 T mNoLevel tabNoLevel.ok Cis_whole,m a2,k2,_,b2,.cons ⟨_,rfl⟩ (.nil)⟩
 have Cfirst_counts:Cal l.prog w K mg base 1 "first_counts" ["p"] ZfC _ _:=⟨ZjK F3 T,m a3,k3,b3⟩
 have Cnext_counts:Cal l.prog w K mg base 1 "next_counts" ["counts"] (Zhu K) _ _:=⟨Zlj F4 T,m a4,k4,b4⟩
 have Clevel_counts:Cal l.prog w K mg base 3 "level_counts" ["p","n"] Zd6 _ _:=⟨Zh6 F5 T Cways Ccheck_level Cfirst_counts Cnext_counts,m a5,k5,b5⟩
 have ClcB:CalE l.prog w K mg base 3 "level_counts" ["p","n"] [] (spWL K ecNoWays ecNoLevel) _ _:=⟨Zg1 F5 CwaysE ClvlE,m a5,k5,[],b5,.nil⟩
 have Clevel_total:Cal l.prog w K mg base 4 "level_total" ["p","n"] Zb5 _ _:=⟨Zgg F6 T Clevel_counts,m a6,k6,b6⟩
 have Clt:CalE l.prog w K mg base 4 "level_total" ["p","n"] [] (fun vs H Q E=>Zb5 vs H Q E∨spWL K ecNoWays ecNoLevel vs H Q E) _ _:=⟨FnOk.or (FnOk.toE (Zgg F6 T Clevel_counts)) (ZhY F6 T ClcB),m a6,k6,[],b6,.nil⟩
 have Ccheck_total:Cal l.prog w K mg base 1 "check_total" ["total"] ZkT _ _:=⟨Zme F7 T mMOST_PLACES,m a7,k7,b7⟩
 have CtotE:CalE l.prog w K mg base 1 "check_total" ["total"] [] (Zhs ecTooMany) _ _:=⟨ZjC F7 mTooMany tabTooMany.ok mMOST_PLACES,m a7,k7,[],b7,.nil⟩
 have Ccheck_places:Cal l.prog w K mg base 5 "check_places" ["p","n"] ZdY _ _:=⟨Zh0 F8 T Clevel_total Ccheck_total,m a8,k8,b8⟩
 have CplE:CalE l.prog w K mg base 5 "check_places" ["p","n"] [] (ZgI K ecNoWays ecNoLevel ecTooMany) _ _:=⟨ZgX F8 Clt CtotE,m a8,k8,[],b8,.nil⟩
 have Cfirst_numbers:Cal l.prog w K mg base 1 "first_numbers" ["p"] Zd4 _ _:=⟨Zh5 F9 T,m a9,k9,b9⟩
 have Cnext_numbers:Cal l.prog w K mg base 1 "next_numbers" ["numbers"] ZdZ _ _:=⟨ZjF F10 T,m a10,k10,b10⟩
 have Cnumbers_after:Cal l.prog w K mg base 2 "numbers_after" ["p","n","following"] (ZfD _) _ _:=⟨ZjM F11 T Cfirst_numbers Cnext_numbers,m a11,k11,b11⟩
 have Cnumbers_of:Cal l.prog w K mg base 3 "numbers_of" ["p","n"] Zfz _ _:=⟨ZjE F12 T Cnext_numbers Cnumbers_after,m a12,k12,b12⟩
 have Clevel_numbers:Cal l.prog w K mg base 6 "level_numbers" ["p","n"] Zfz _ _:=⟨ZmT F13 T Ccheck_places Cnumbers_of,m a13,k13,b13⟩
 have ClnE:CalE l.prog w K mg base 6 "level_numbers" ["p","n"] [] (ZgI K ecNoWays ecNoLevel ecTooMany) _ _:=⟨Zmg F13 CplE,m a13,k13,[],b13,.nil⟩
 have Cleast_places:Cal l.prog w K mg base 1 "least_places" ["numbers","many"] Zd2 _ _:=⟨Zh3 F14 T (YaJ X G zenumerate),m a14,k14,b14⟩
 have Creading_by:Cal l.prog w K mg base 1 "reading_by" ["numbers","lengths","placing"] (ZcR K) _ _:=⟨ZhZ F15 T,m a15,k15,b15⟩
 have Cleast_by:Cal l.prog w K mg base 2 "least_by" ["numbers","lengths"] (ZbE K) _ _:=⟨ZdK F16 T (YaJ X G zenumerate) Cleast_places Creading_by,m a16,k16,b16⟩
 have ClbE:CalE l.prog w K mg base 2 "least_by" ["numbers","lengths"] [] (ZbE K) _ _:=⟨FnOk.toE (ZdK F16 T (YaJ X G zenumerate) Cleast_places Creading_by),m a16,k16,[],b16,.nil⟩
 have Cplacing_reading:Cal l.prog w K mg base 7 "placing_reading" ["p","n","lengths","placing"] (Zht K) _ _:=⟨Zli F17 T Creading_by Clevel_numbers,m a17,k17,b17⟩
 have Cleast_placing:Cal l.prog w K mg base 7 "least_placing" ["p","n","lengths"] (ZkU K) _ _:=⟨Zmf F18 T Clevel_total Clevel_numbers Cleast_by,m a18,k18,b18⟩
 have Clp:CalE l.prog w K mg base 7 "least_placing" ["p","n","lengths"] [] (Zhw K ecNoWays ecNoLevel ecTooFew ecTooMany) _ _:=⟨Zlk F18 T mTooFew tabTooFew.ok Clt ClnE ClbE,m a18,k18,[],b18,.nil⟩
 have C_law_mixed:Cal l.prog w K mg base 1 "_law_mixed" ["cell","k"] ZfA _ _:=⟨ZjG F19 T,m a19,k19,b19⟩
 have C_law_draws:Cal l.prog w K mg base 2 "_law_draws" ["cell","many","base"] Zd5 _ _:=⟨ZjL F20 T C_law_mixed,m a20,k20,b20⟩
 have C_law_reels:Cal l.prog w K mg base 1 "_law_reels" ["p","n"] (Zc1 K) _ _:=⟨ZgW F21 T,m a21,k21,b21⟩
 have C_law_level:Cal l.prog w K mg base 1 "_law_level" ["p","rows","further","most"] (Zd1 K) _ _:=⟨Zh2 F22 T,m a22,k22,b22⟩
 have C_law_lengths:Cal l.prog w K mg base 1 "_law_lengths" ["draws","most"] ZfB _ _:=⟨ZjI F23 T,m a23,k23,b23⟩
 have C_law_placing:Cal l.prog w K mg base 1 "_law_placing" ["reels","rows","draws"] (Zfy K) _ _:=⟨ZjD F24 T (YaJ X G zenumerate),m a24,k24,b24⟩
 have C_law_whole:Cal l.prog w K mg base 1 "_law_whole" ["thing"] Zb4 _ _:=⟨Zh1 F25 T,m a25,k25,b25⟩
 have C_law_pair:Cal l.prog w K mg base 2 "_law_pair" ["thing","reels"] Zc3 _ _:=⟨Zg0 F26 T C_law_whole,m a26,k26,b26⟩
 have C_law_right:Cal l.prog w K mg base 3 "_law_right" ["reels","lengths","told"] (Zc0 K) _ _:=⟨ZgV F27 T (YaJ X G zset) C_law_whole C_law_pair,m a27,k27,b27⟩
 have C_law_kind:Cal l.prog w K mg base 8 "_law_kind" ["p","n","lengths"] (Zd3 K) _ _:=⟨Zh4 F28 T (YaJ X G zValueError) mReelError mNoWays mNoLevel mTooFew mTooMany tabNoWays tabNoLevel tabTooFew tabTooMany exnd Clp,m a28,k28,b28⟩
 have C_law_no_number:Cal l.prog w K mg base 1 "_law_no_number" ["least","most","way"] (Zc2 K) _ _:=⟨ZgY F29 T,m a29,k29,b29⟩
 exact ZjJ F30 T (YaJ X G zenumerate) C_law_draws C_law_lengths C_law_level C_law_reels Cleast_placing C_law_right C_law_placing Cplacing_reading C_law_kind C_law_no_number
theorem walk {l:YdH}{q:Program}{loose:List Str}{XP:(Str->Option Value)->Heap->Prop}{YP:World->Heap->Prop}{d:DefRec}{K:Params->Yac} (hn:l.most=some 63) (hdf:d.params.defaults=[])
  (hY:∀ (w:World) (h:Heap),YP w h->(K w.params).In h)
  (F:∀ (w:World) (mg:Str->Option Value) (fa:Addr) (h:Heap),(K w.params).In h->h.Ns mainGlobals mg->mg d.name=some (.ref fa) ->
   ∃ fd:FuncData,(∀ (s:Shared) (u:Value),BindsTo s fd ⟨[u],[]⟩ [("script",u)])/\∀ base:Heap,(K w.params).In base->base.Ns mainGlobals mg->FnOk l.prog w (K w.params) mg base CX0 9 fa fd ["script"] (Zjh (K w.params))) :
  Yfm q loose XP YP l.row.toRowW d [] (fun f vs=>Ye4 f vs) :=
 L2.walk_of (n:=63) (k:=9) (x:="script") (CX:=fun _=>CX0) (sp:=fun w=>Zjh (K w.params)) hn (by decide) hdf ⟨rfl,by decide,by decide,rfl⟩ hY F (fun _ _ a ns hl _ hS=>⟨a,ns,rfl,hS,hl,fun _=>rfl⟩) fun _ _ _ _ _ z=>z
end Fk38
def PySem.W.Fast.tw12103742246309128650 : Unit := ()
def PySem.W.Fast.tw14507844314839298912 : Unit := ()
def PySem.W.Fast.tw11371532593425066962 : Unit := ()
def PySem.W.Fast.tw15456232412564800783 : Unit := ()
def PySem.W.Fast.tw4946414945111741931 : Unit := ()
def PySem.W.Fast.tw14464069648016514612 : Unit := ()
def PySem.W.Fast.tw4987404954667486560 : Unit := ()
def PySem.W.Fast.tw5124012427147532579 : Unit := ()
def PySem.W.Fast.tw18415458945339208182 : Unit := ()
def PySem.W.Fast.tw7238156848547065175 : Unit := ()
def PySem.W.Fast.tw12580193941817608812 : Unit := ()
def PySem.W.Fast.tw1087988225048088551 : Unit := ()
def PySem.W.Fast.tw15009735793326465272 : Unit := ()
def PySem.W.Fast.tw3824556196482832383 : Unit := ()
def PySem.W.Fast.tw15188863794955906804 : Unit := ()
def PySem.W.Fast.tw9433885230863231554 : Unit := ()
def PySem.W.Fast.tw17269701561501701500 : Unit := ()
def PySem.W.Fast.tw16282579793375187655 : Unit := ()
def PySem.W.Fast.tw15241740796275591425 : Unit := ()
def PySem.W.Fast.tw4487278525501785751 : Unit := ()
def PySem.W.Fast.tw6450080810384802245 : Unit := ()
def PySem.W.Fast.tw17997929503997768770 : Unit := ()
def PySem.W.Fast.tw10930090137974741683 : Unit := ()
def PySem.W.Fast.tw9721746948117738917 : Unit := ()
def PySem.W.Fast.tw10972050183671292485 : Unit := ()
def PySem.W.Fast.tw16933256253526887545 : Unit := ()
def PySem.W.Fast.tw2629563689444545958 : Unit := ()
def PySem.W.Fast.tw3912740013381794278 : Unit := ()
def PySem.W.Fast.tw3258735762936901933 : Unit := ()
def PySem.W.Fast.tw15327472630265453054 : Unit := ()
def PySem.W.Fast.tw545341985132006329 : Unit := ()
def PySem.W.Fast.tw6517855135109719152 : Unit := ()
def PySem.W.Fast.tw2134942896131233247 : Unit := ()
def PySem.W.Fast.tw9735996628523090560 : Unit := ()
def PySem.W.Fast.tw12798664636674473075 : Unit := ()
def PySem.W.Fast.tw6510430840688464634 : Unit := ()
def PySem.W.Fast.tw5414597852418927488 : Unit := ()
def PySem.W.Fast.tw16449808461686314480 : Unit := ()
def PySem.W.Fast.tw11623904197322379846 : Unit := ()
def PySem.W.Fast.tw3697124781524049005 : Unit := ()
def PySem.W.Fast.tw13558696593934090277 : Unit := ()
def PySem.W.Fast.tw13531318338398228982 : Unit := ()
def PySem.W.Fast.tw9182049380668367311 : Unit := ()
def PySem.W.Fast.tw10266063424988710452 : Unit := ()
def PySem.W.Fast.tw11658962531231669520 : Unit := ()
def PySem.W.Fast.tw15270285013802863438 : Unit := ()
def PySem.W.Fast.tw869560228305984530 : Unit := ()
def PySem.W.Fast.tw936287382276328691 : Unit := ()
def PySem.W.Fast.tw18108460938214953863 : Unit := ()
def PySem.W.Fast.tw8051529984469111835 : Unit := ()
def PySem.W.Fast.tw11325916852058862970 : Unit := ()
def PySem.W.Fast.tw10322489583313282399 : Unit := ()
def PySem.W.Fast.tw14168828827450769218 : Unit := ()
def PySem.W.Fast.tw15279036732303193881 : Unit := ()
def PySem.W.Fast.tw6256352142536169210 : Unit := ()
def PySem.W.Fast.tw17110035240045331548 : Unit := ()
def PySem.W.Fast.tw9358251322050889497 : Unit := ()
def PySem.W.Fast.tw5095535362535927671 : Unit := ()
def PySem.W.Fast.tw7442276957035306137 : Unit := ()
def PySem.W.Fast.tw4366947204058542078 : Unit := ()
def PySem.W.Fast.tw794211154570665637 : Unit := ()
def PySem.W.Fast.tw4839024279414703325 : Unit := ()
def PySem.W.Fast.tw11058328362234225902 : Unit := ()
def PySem.W.Fast.tw3725561078806657785 : Unit := ()
def PySem.W.Fast.tw4910634034956137307 : Unit := ()
def PySem.W.Fast.tw14981410362771040184 : Unit := ()
def PySem.W.Fast.tw14148419378426917630 : Unit := ()
def PySem.W.Fast.tw8863487066384495085 : Unit := ()
def PySem.W.Fast.tw13637465520926149397 : Unit := ()
def PySem.W.Fast.tw15414393301509030911 : Unit := ()
def PySem.W.Fast.tw14426367576774312545 : Unit := ()
def PySem.W.Fast.tw11330138442587571327 : Unit := ()
def PySem.W.Fast.tw2727151747802139757 : Unit := ()
def PySem.W.Fast.tw5610402323069830643 : Unit := ()
def PySem.W.Fast.tw7248051492062617729 : Unit := ()
def PySem.W.Fast.tw9265647661440032061 : Unit := ()
def PySem.W.Fast.tw6373694042754248693 : Unit := ()
def PySem.W.Fast.tw64667242992018127 : Unit := ()
def PySem.W.Fast.tw3598558505803360001 : Unit := ()
def PySem.W.Fast.tw9192948554108352232 : Unit := ()
def PySem.W.Fast.tw574112174590428425 : Unit := ()
def PySem.W.Fast.tw1592503914248524586 : Unit := ()
def PySem.W.Fast.tw5599112739650991478 : Unit := ()
def PySem.W.Fast.tw11867671761036287530 : Unit := ()
def PySem.W.Fast.tw16630732221684198018 : Unit := ()
def PySem.W.Fast.tw13005129787260928711 : Unit := ()
def PySem.W.Fast.tw1906220996330443450 : Unit := ()
def PySem.W.Fast.tw1484776868062266162 : Unit := ()
def PySem.W.Fast.tw7631308029913464222 : Unit := ()
def PySem.W.Fast.tw3837471862657358124 : Unit := ()
def PySem.W.Fast.tw17520130726913631438 : Unit := ()
def PySem.W.Fast.tw5679563004204767924 : Unit := ()
def PySem.W.Fast.tw10134546371437800447 : Unit := ()
def PySem.W.Fast.tw15945418403963542854 : Unit := ()
def PySem.W.Fast.tw13325963539416454681 : Unit := ()
def PySem.W.Fast.tw124731257275865222 : Unit := ()
def PySem.W.Fast.tw16137174137035361625 : Unit := ()
def PySem.W.Fast.tw17168185915674556116 : Unit := ()
def PySem.W.Fast.tw3106448283802420443 : Unit := ()
def PySem.W.Fast.tw5210656818882593771 : Unit := ()
def PySem.W.Fast.tw16897364984152481414 : Unit := ()
def PySem.W.Fast.tw596809999342476463 : Unit := ()
def PySem.W.Fast.tw186329620430565018 : Unit := ()
def PySem.W.Fast.tw5385475816885997059 : Unit := ()
def PySem.W.Fast.tw5014808464843344575 : Unit := ()
def PySem.W.Fast.tw5934469193531455177 : Unit := ()
def PySem.W.Fast.tw7199997928422139861 : Unit := ()
def PySem.W.Fast.tw13611758809683522367 : Unit := ()
def PySem.W.Fast.tw10565712481800453727 : Unit := ()
def PySem.W.Fast.tw8006133200623279315 : Unit := ()
def PySem.W.Fast.tw4067818135582876339 : Unit := ()
def PySem.W.Fast.tw13133900915225807965 : Unit := ()
def PySem.W.Fast.tw9681107934491916297 : Unit := ()
def PySem.W.Fast.tw10860229414647844465 : Unit := ()
def PySem.W.Fast.tw16826353286167461419 : Unit := ()
def PySem.W.Fast.tw18238058221480974746 : Unit := ()
def PySem.W.Fast.tw8728589484515914398 : Unit := ()
def PySem.W.Fast.tw4318558738276756116 : Unit := ()
def PySem.W.Fast.tw9074642117785209103 : Unit := ()
def PySem.W.Fast.tw17342947815648029520 : Unit := ()
def PySem.W.Fast.tw2482769272923650912 : Unit := ()
def PySem.W.Fast.tw4150728523549056255 : Unit := ()
def PySem.W.Fast.tw669629616996499475 : Unit := ()
def PySem.W.Fast.tw10601513343248734925 : Unit := ()
def PySem.W.Fast.tw15149024425076554438 : Unit := ()
def PySem.W.Fast.tw13317499586020955667 : Unit := ()
def PySem.W.Fast.tw12148637210065154177 : Unit := ()
def PySem.W.Fast.tw75868386498839732 : Unit := ()
def PySem.W.Fast.tw4625684276458769740 : Unit := ()
def PySem.W.Fast.tw15271491201446302364 : Unit := ()
def PySem.W.Fast.tw18156029292893965104 : Unit := ()
def PySem.W.Fast.tw10604353035097841604 : Unit := ()
def PySem.W.Fast.tw1770503665160637377 : Unit := ()
def PySem.W.Fast.tw12986600872557407760 : Unit := ()
def PySem.W.Fast.tw9042966120519875286 : Unit := ()
def PySem.W.Fast.tw2942576767763236442 : Unit := ()
def PySem.W.Fast.tw11512029525183183085 : Unit := ()
def PySem.W.Fast.tw3673263061369933630 : Unit := ()
def PySem.W.Fast.tw14485315832541217540 : Unit := ()
def PySem.W.Fast.tw14877617577969026525 : Unit := ()
def PySem.W.Fast.tw7813108158098196284 : Unit := ()
def PySem.W.Fast.tw1576029837984681143 : Unit := ()
def PySem.W.Fast.tw7754476894480645645 : Unit := ()
def PySem.W.Fast.tw5628767214348318456 : Unit := ()
def PySem.W.Fast.tw11403116220149207565 : Unit := ()
def PySem.W.Fast.tw16266179834932795447 : Unit := ()
def PySem.W.Fast.tw13827076593842193340 : Unit := ()
def PySem.W.Fast.tw312120334758460882 : Unit := ()
def PySem.W.Fast.tw11877565866942066685 : Unit := ()
def PySem.W.Fast.tw6596885068118165225 : Unit := ()
def PySem.W.Fast.tw5528843548778509478 : Unit := ()
def PySem.W.Fast.tw1087892484557183316 : Unit := ()
open PySem PySem.W PyProof.Rows
set_option maxRecDepth 100000 in
set_option maxHeartbeats 0 in
theorem PySem.Challenge.cw_fewreels_k38_least_of_a_level_holds : PySem.Challenge.rw_fewreels_k38_least_of_a_level.Holds := by
  w_on; o_law; k_head; (case hw => w_witness2)
  k_fill
  refine Fk38.walk (l := PySem.Challenge.rw_fewreels_k38_least_of_a_level) rfl rfl (fun w h Y => PySem.W.kIn_of Y) ?F
  case F =>
    intro w mg fa h KX G hmg
    refine' Fk38.all_mk KX G hmg ?a0 ?l0 ?c0 ?k0 ?a1 ?l1 ?c1 ?k1 ?a2 ?l2 ?c2 ?k2 ?d2 ?a3 ?l3 ?c3 ?k3 ?a4 ?l4 ?c4 ?k4 ?a5 ?l5 ?c5 ?k5 ?a6 ?l6 ?c6 ?k6 ?a7 ?l7 ?c7 ?k7 ?a8 ?l8 ?c8 ?k8 ?a9 ?l9 ?c9 ?k9 ?a10 ?l10 ?c10 ?k10 ?a11 ?l11 ?c11 ?k11 ?a12 ?l12 ?c12 ?k12 ?a13 ?l13 ?c13 ?k13 ?a14 ?l14 ?c14 ?k14 ?a15 ?l15 ?c15 ?k15 ?a16 ?l16 ?c16 ?k16 ?a17 ?l17 ?c17 ?k17 ?a18 ?l18 ?c18 ?k18 ?a19 ?l19 ?c19 ?k19 ?a20 ?l20 ?c20 ?k20 ?a21 ?l21 ?c21 ?k21 ?a22 ?l22 ?c22 ?k22 ?a23 ?l23 ?c23 ?k23 ?a24 ?l24 ?c24 ?k24 ?a25 ?l25 ?c25 ?k25 ?a26 ?l26 ?c26 ?k26 ?a27 ?l27 ?c27 ?k27 ?a28 ?l28 ?c28 ?k28 ?a29 ?l29 ?c29 ?k29 ?a30 ?l30 ?c30 ?k30 ?y0 ?y1 ?y2 ?exReelError ?exNoWays ?exNoLevel ?exTooMany ?exTooFew ?exnd ?etNoWays ?etNoLevel ?etTooFew ?etTooMany ?z0 ?z1 ?z2 ?z3 ?z4 ?z5 ?z6 ?z7 ?z8 ?z9 ?z10 ?z11 ?z12 ?zenumerate ?zset ?zValueError
    (case a0 => k_is); (case l0 => k_is); (case c0 => k_is); (case k0 => k_is); (case a1 => k_is); (case l1 => k_is)
    (case c1 => k_is); (case k1 => k_is); (case a2 => k_is); (case l2 => k_is); (case c2 => k_is); (case k2 => k_is)
    (case d2 => k_is); (case a3 => k_is); (case l3 => k_is); (case c3 => k_is); (case k3 => k_is); (case a4 => k_is)
    (case l4 => k_is); (case c4 => k_is); (case k4 => k_is); (case a5 => k_is); (case l5 => k_is); (case c5 => k_is)
    (case k5 => k_is); (case a6 => k_is); (case l6 => k_is); (case c6 => k_is); (case k6 => k_is); (case a7 => k_is)
    (case l7 => k_is); (case c7 => k_is); (case k7 => k_is); (case a8 => k_is); (case l8 => k_is); (case c8 => k_is)
    (case k8 => k_is); (case a9 => k_is); (case l9 => k_is); (case c9 => k_is); (case k9 => k_is); (case a10 => k_is)
    (case l10 => k_is); (case c10 => k_is); (case k10 => k_is); (case a11 => k_is); (case l11 => k_is); (case c11 => k_is)
    (case k11 => k_is); (case a12 => k_is); (case l12 => k_is); (case c12 => k_is); (case k12 => k_is); (case a13 => k_is)
    (case l13 => k_is); (case c13 => k_is); (case k13 => k_is); (case a14 => k_is); (case l14 => k_is); (case c14 => k_is)
    (case k14 => k_is); (case a15 => k_is); (case l15 => k_is); (case c15 => k_is); (case k15 => k_is); (case a16 => k_is)
    (case l16 => k_is); (case c16 => k_is); (case k16 => k_is); (case a17 => k_is); (case l17 => k_is); (case c17 => k_is)
    (case k17 => k_is); (case a18 => k_is); (case l18 => k_is); (case c18 => k_is); (case k18 => k_is); (case a19 => k_is)
    (case l19 => k_is); (case c19 => k_is); (case k19 => k_is); (case a20 => k_is); (case l20 => k_is); (case c20 => k_is)
    (case k20 => k_is); (case a21 => k_is); (case l21 => k_is); (case c21 => k_is); (case k21 => k_is); (case a22 => k_is)
    (case l22 => k_is); (case c22 => k_is); (case k22 => k_is); (case a23 => k_is); (case l23 => k_is); (case c23 => k_is)
    (case k23 => k_is); (case a24 => k_is); (case l24 => k_is); (case c24 => k_is); (case k24 => k_is); (case a25 => k_is)
    (case l25 => k_is); (case c25 => k_is); (case k25 => k_is); (case a26 => k_is); (case l26 => k_is); (case c26 => k_is)
    (case k26 => k_is); (case a27 => k_is); (case l27 => k_is); (case c27 => k_is); (case k27 => k_is); (case a28 => k_is)
    (case l28 => k_is); (case c28 => k_is); (case k28 => k_is); (case a29 => k_is); (case l29 => k_is); (case c29 => k_is)
    (case k29 => k_is); (case a30 => k_is); (case l30 => k_is); (case c30 => k_is); (case k30 => k_is); (case y0 => k_is)
    (case y1 => k_is); (case y2 => k_is); (case exReelError => k_is); (case exNoWays => k_is); (case exNoLevel => k_is); (case exTooMany => k_is)
    (case exTooFew => k_is); (case z0 => k_is); (case z1 => k_is); (case z2 => k_is); (case z3 => k_is); (case z4 => k_is)
    (case z5 => k_is); (case z6 => k_is); (case z7 => k_is); (case z8 => k_is); (case z9 => k_is); (case z10 => k_is)
    (case z11 => k_is); (case z12 => k_is); (case zenumerate => k_is); (case zset => k_is); (case zValueError => k_is)
    (case exnd => decide)
    (case etNoWays => with_unfolding_all rfl)
    (case etNoLevel => with_unfolding_all rfl)
    (case etTooFew => with_unfolding_all rfl)
    (case etTooMany => with_unfolding_all rfl)
