import PyProof.Rows.All
import Wide.All
import OpenK.AllK
import Wide.FinOn
import Lean
import PyProof.EqAt
import PyProof.EqKinds
import PyProof.TupleCall
import PyProof.NeKinds
import PyProof.Draws
import PyProof.SumWalkG
import PyProof.ListRange
import PyProof.ZipIter
import PyProof.Rows.SortRev
import KE.IntBitsLaws
import PyProof.ListMulRoad
import PyProof.TupleKey
import PyProof.ReprRoads
import PyProof.ReprLen
import PyProof.CallStr
import PyProof.Rows.RuleIs
import PyProof.StrLawsRepr
import PyProof.Rows.SortShellK
import KE.KSortTup
import PyProof.Rows.SeqMore2
import KE.KRevIter
import PyProof.RulesTry
import PyProof.StationsW
import PyProof.RulesAs
import PyProof.NsDelKeeps
import PyProof.Rows.Own
import PyProof.Rows.Catch
import KE.KTryMore
import KE.KIsNot
import OpenK.KDescr
import PyProof.ExcAttrAll.ValueError
import PyProof.FString
import PyProof.InstStoreFacts
import OpenK.KMake
import KE.KItemsList
import KE.KPairComp
import PyProof.DictWalks
import KE.KDictSum
import PyProof.Rows.TupAdd
import PyProof.FactsAll.range_2
import PyProof.RangeFor
import PyProof.Rows.StrJoin2
import PyProof.Rows.Range3
import PySem.Challenge.RW_fewreels_k58_whole_turned_as_numbered
open List renaming length_map → Yaa, getElem?_eq_some_iff → Yab, getElem?_eq_getElem → Yac, replicate → Yaf, getElem?_map → Yag, mem_of_getElem? → Yah, size_toArray → Yal, map_cons → Yam, length_append → Yan, getD_eq_getElem?_getD → Yao, mem_append → Yar, mem_append_right → Yau, mem_cons → Yay, take_length → Yaz, getElem?_append_right → YaA, mem_cons_of_mem → YaC, mem_cons_self → YaD, sum_cons → YaF, range → YaH, take_add_one → YaI, append_assoc → YaJ, getElem?_append_left → YaK, length_take → YaL, map_append → YaM, mem_singleton → YaN, take_append_drop → YaO, length_replicate → YaP, filterMap_cons → YaQ, flatten_cons → YaS, mem_map → YaU, mem_append_left → YaV, pairwise_append → YaX, length_cons → YaY, getElem?_set_ne → Ya0, getElem?_set_self → Ya5, getElem?_of_mem → Ya8, zip → Ya9, take_zero → Ybb, map_map → Ybc, mem_of_mem_take → Ybe, append_nil → Ybf, replicate_succ → Ybh, take_of_length_le → Ybk, flatten_replicate_singleton → Ybm, length_set → Ybn, flatten_append → Ybo, map_congr_left → Ybv, length_reverse → Ybw, pairwise_cons → YbA, lookup_cons → YbB, reverse_cons → YbC, getElem?_eq_none → YbE, eq_of_mem_replicate → YbF, length_drop → YbG, all_eq_true → YbH, pairwise_map → YbJ, not_mem_nil → YbK, mem_range → YbL, take_succ_eq_append_getElem → YbM, mem_of_mem_drop → YbO, nodup_cons → YbQ, length_filterMap_le → YbR, getElem?_take_of_lt → YbS, length_eq_zero_iff → YbV, getElem?_range → YbW, mem_reverse → YbX, getElem_mem → YbY, mem_filterMap → Yb3, map_nil → Yb8, pairwise_iff_getElem → Ycj, getElem?_eq_none_iff → Yck, mem_flatten → Ycl, map_reverse → Ycm, cons_append → Ycn, reverse_append → Ycr, length → Ycs, getElem?_drop → Ycw, find?_cons → Ycx, filterMap_map → Ycy, reverse_perm → YcD, getElem?_reverse → YcG, reverse_nil → YcJ, any_cons → YcM, zipWith → YcT, take_left → YcX, nodup_nil → YcY, length_range → Yc1, getElem?_replicate → Yc3, singleton_append → Yc8, perm_append_comm → Yc9, mem_filter → Yda, length_nil → Ydb, filterMap_append → Ydc, map_id → Ydg, length_flatten → Ydh, getElem_of_mem → Ydi, mem_replicate → Ydp, getElem_take → Ydu, ext_getElem? → Ydv, zipIdx_cons → YdB, any_eq_true → YdC, sum_append → YdN, of_mem_zip → YdO, nil_append → YdP, headD_cons → YdQ, forIn_cons → YdR, mem_or_eq_of_mem_set → Yd8, foldl → Yed, pairwise_singleton → Yee, mem_singleton_self → Yef, all_cons → Yeg, range_succ_eq_map → Yei, getElem_cons_drop → Yej, length_singleton → Yen, extract → Yeo, reverse_reverse → Yex, replicate_succ' → Yey, mem_iff_getElem → Yez, map_eq_cons_iff → YeA, perm_iff_count → YeC, length_zipWith → YeD, length_pos_iff → YeE, zip_cons_cons → YeL, set_cons_zero → YeM, set_cons_succ → YeN, take_reverse → YeS, getElem_drop → YeT, count_append → YeU, perm_middle → YeZ, flatten_nil → Ye0, ext_getElem → Ye1
open PySem.Heap renaming get?_push_of_some → Yad, lt_size → Yai, get?_push_size → Yav, size_push → Ybi, SameBut → YcU, IsTuple → Ydd, ExtBut → Ydj, IsList → YdT, get?_update_other → Yek, get?_update_self → Yer, get?_update_ne → YeG, size_update → Ye2
open PySem.W renaming Frag → Yae, keepIn → Yaq, nsIn → Yas, codeIn → Yat, fnOf → Yaw, mg_none_of → Ya2, kia_one → Yby, findIn → YcP, kitOne → Yc7, methodObj → Ydm, kat_nil → Ydx, instObj → Ydy, OpenLaw → Ydz, lookIn → YdG, cellsFrom_some → Yd5, callWith_K → Yel, specialIn → Yeu, kitx_list → Yev, kitx_dict → Yew, plainGet → YeB, mg_of → YeV, WalkO → YeW
open Nat renaming lt_of_lt_of_le → Yaj, le_refl → Yak, ne_of_lt → YaB, zero_le → YaT, le_of_lt → YaW, lt_irrefl → Yba, le_trans → Ybj, lt_or_ge → Ybp, ne_of_gt → Ybx, zero_add → YbU, lt_succ_self → Yb1, lt_succ_of_lt → YcE, le_succ → YcF, add_sub_cancel_left → Yc5, lt_of_le_of_lt → Ydq, eq_zero_or_pos → Ydr, mod_eq_of_lt → YdH, max_eq_right → YdI, le_of_not_lt → YdJ, add_lt_add_left → YeK, lt_or_eq_of_le → YeQ, mod_lt → YeX, lt_trichotomy → YeY
open Array renaming getElem?_toList → Yap, length_toList → YaZ, getD_eq_getD_getElem? → Ya1, toList_append → Ya7, toList_reverse → Ycf, getElem?_eq_getElem → Ych, toList_push → YcC, toList_extract → YcK, toList_setIfInBounds → YdV, perm_iff_toList_perm → YdW, getElem?_eq_some_iff → YdX
open Option.some renaming inj → Yax
open Bool renaming false_ne_true → YaE, false_eq_true → YaR, and_eq_true → YbZ, eq_iff_iff → Ycb, not_true → YcN
open Or renaming inl → YaG, inr → Yc2
open PySem.Builtin.SmallTypes renaming nextOf → Ya3, ownedTupleIsFree → YbD, ownedTupleHandOut → YcQ
open PySem.PassesOwn renaming never → Ya4
open ForInStep renaming yield → Ya6, done → Ycd
open PySem.Value renaming ref → Ybd, none → Ycp, type → YcZ, str → YdE, int → YdF, bool → Yd4
open Int renaming toNat_natCast → Ybg, emod_lt_of_pos → Yb6, zero_add → Ycc, le_refl → Ycv, eq_ofNat_of_zero_le → Ycz, emod_nonneg → YcA, toNat → Ydt, add_zero → YdD, fdiv_eq_ediv_of_nonneg → Yd9
open Ne renaming symm → Ybl
open Sum renaming inl → Ybq, inr → YdY
open PySem renaming boot_len → Ybr, mem_of_lookup → Ybt, call → YeH
open PySem.Obj renaming mapSeq → Ybs, data_mapFields → YeP
open PySem.PyData renaming canLayAll0 → Ybu, depthAll → YbN, int → YcB, canLay0 → Yde, none → Yem
open Option renaming toList_some → Ybz, map_some → YcL, none → YdA, isSome_iff_exists → Yd3, getD_none → YeJ
open PySem.Builtin.Int renaming intBits → YbI
open PySem.NameKind renaming free → YbP, cell → YeR
open PyProof.Rows renaming callWith_type1 → YbT, envOfC → Yb7, slot_tuple_getitem → Ycq
open True renaming intro → Yb0
open List.Perm renaming append_left → Yb2, append_right → Yc0, trans → Yds, append → Yep, refl → YeF
open PySem.Builtin.Slice renaming slicePlaces → Yb4, sliceAdjust → YcI, sliceApplied → Ydk
open PyProof.Rows.KeyOrd renaming kle_refl → Yb5, kle_of_klt → Yb9, kle_trans → YcH, kle_antisymm → Yeq
open PySem.Builtin.Tuple renaming tupleExact → Yca
open PySem.Builtin.List renaming listTooLong → Yce, listExtendWith → Ydl
open PySem.AutoSeq1 renaming wpAny_loadPart' → Ycg
open PySem.Shared renaming heap → Yci
open List.Pairwise renaming nil → Yco
open False renaming elim → Yct
open PySem.F renaming plainAttrs_list → Ycu, type_list_append → YcR, slot_list_append → YcS, slot_dict_get → Yc4, args_tuple_add_2 → YdM, slot_dict_items → YdZ, plainAttrs_dict → Yd0, entry_tuple_add → Yd1, args_dict_get_3 → Yd2, slot_tuple_add → Yd6, entry_dict_get → Yd7
open PySem.Str renaming empty → YcO, ofString → YcW
open PySem.Calls renaming call_function_entry → YcV, callWith_builtin → Yc6, spliced_cons → Ydn, Name_function_global → YdU, evalArgs_plain → Yet, spliced_nil → YeO
open PySem.Paired renaming length → Ydf
open PyProof.Rows.SortSt renaming mk' → Ydo
open Sum.inl renaming inj → Ydw
open PySem.Heap.IsSliceOf renaming new → YdK
open PySem.SeqAt renaming eqv_refl → YdL
open PySem.Heap.SameBut renaming update → YdS
open PySem.Heap.IsTuple renaming push → Yea
open PySem.SeqAt.EqAt renaming str_int → Yeb, int_str → Yec, int_int → Yes
open PySem.Heap.IsList renaming push → Yeh
open Prod renaming ext → YeI
set_option Elab.async false
set_option linter.all false
set_option maxRecDepth 100000
namespace L2
open PySem PySem.Spec PyProof.Rows
abbrev Key:=Sum Int Str
def Zf7:Key->Value->Bool
 | .inl k,v=>Value.isInt k v
 | .inr x,v=>Value.isStrOf x v
def keyH (w:World):Key->Int
 | .inl k=>hashInt k
 | .inr x=>hashStr w x
theorem ZaG:∀ {k:Key}{v:Value},Zf7 k v=true->(∃ i t,k=Ybq i/\v=YdF i t)∨(∃ x t,k=YdY x/\v=YdE x t)
 | .inl i,v,h=>by
  obtain⟨t,e⟩:=Value.isInt_shape (k:=i) (v:=v) h;exact .inl ⟨i,t,rfl,e⟩
 | .inr x,v,h=>by
  obtain⟨t,e⟩:=Value.isStrOf_shape (x:=x) (v:=v) h;exact .inr ⟨x,t,rfl,e⟩
theorem ZiL (i:Int) (t:Tok):Zf7 (.inl i) (.int i t)=true:=by simp[Zf7,Value.isInt]
theorem ZiK (x:Str) (t:Tok):Zf7 (.inr x) (.str x t)=true:=by simp[Zf7,Value.isStrOf]
theorem Znm (a b:Int):decide ((Ybq a:Key)=Ybq b)=(a == b):=by
 by_cases e:a=b
 ·subst e;simp
 ·have h:¬ (Ybq a:Key)=Ybq b:=fun q=>e (Ydw q);rw[decide_eq_false h];exact (beq_eq_false_iff_ne.mpr e).symm
theorem Znj (a b:Str):decide ((YdY a:Key)=YdY b)=decide (a=b):=by
 by_cases e:a=b
 ·subst e;simp
 ·have h:¬ (YdY a:Key)=YdY b:=fun q=>e (Sum.inr.inj q);rw[decide_eq_false h,decide_eq_false e]
theorem Znl (a:Int) (b:Str):decide ((Ybq a:Key)=YdY b)=false:=decide_eq_false (fun q=>nomatch q)
theorem Znk (a:Str) (b:Int):decide ((YdY a:Key)=Ybq b)=false:=decide_eq_false (fun q=>nomatch q)
def ZaB (prog:Program) (w:World):PySem.KeyKind prog w Key where
 is:=Zf7
 hash:=keyH w
 inj:=fun v a b ha hb=>by
  rcases ZaG ha with ⟨i,t,rfl,rfl⟩ | ⟨x,t,rfl,rfl⟩
  ·rcases ZaG hb with ⟨j,u,rfl,e⟩ | ⟨y,u,rfl,e⟩
   ·injection e with e1 _;rw[e1]
   ·exact nomatch e
  ·rcases ZaG hb with ⟨j,u,rfl,e⟩ | ⟨y,u,rfl,e⟩
   ·exact nomatch e
   ·injection e with e1 _;rw[e1]
 byValue:=fun k v h=>by
  rcases ZaG h with ⟨i,t,rfl,rfl⟩ | ⟨x,t,rfl,rfl⟩ <;> rfl
 pyHash:=fun hv h=>by
  rcases ZaG hv with ⟨i,t,rfl,rfl⟩ | ⟨x,t,rfl,rfl⟩
  ·exact wpAny_pyHash_int h
  ·exact wpAny_pyHash_str h
 eqBool:=fun hu hv h=>by
  rcases ZaG hu with ⟨i,t,rfl,rfl⟩ | ⟨x,t,rfl,rfl⟩
  ·rcases ZaG hv with ⟨j,u,rfl,rfl⟩ | ⟨y,u,rfl,rfl⟩
   ·rw[Znm] at h;exact wpAny_eqBool_int h
   ·rw[Znl] at h;exact Yec i t y u _ _ _ _ h
  ·rcases ZaG hv with ⟨j,u,rfl,rfl⟩ | ⟨y,u,rfl,rfl⟩
   ·rw[Znk] at h;exact Yeb x t j u _ _ _ _ h
   ·rw[Znj] at h;exact wpAny_eqBool_str h
 «strs»:=fun k x t v h=>by
  rcases ZaG h with ⟨i,u,rfl,e⟩ | ⟨y,u,rfl,e⟩
  ·exact nomatch e
  ·injection e with e1 _;subst e1;cases v <;> rfl
theorem Zhg (prog:Program) (w:World) (k:Key) (v:Value):(ZaB prog w).is k v=Zf7 k v:=rfl
theorem Zf5 (prog:Program) (w:World) (i:Int) (t:Tok):(ZaB prog w).is (.inl i) (.int i t)=true:=ZiL i t
theorem Zf4 (prog:Program) (w:World) (x:Str) (t:Tok):(ZaB prog w).is (.inr x) (.str x t)=true:=ZiK x t
end L2
namespace L2
open PySem PySem.Spec PyProof.Rows
inductive V where
 | non | bl (b:Bool) | int (i:Int) | str (x:Str) | byt (b:Array UInt8) | flt (b:UInt64) | ref (a:Addr) | ty (n:String)
 deriving DecidableEq
def RelV:V->Value->Prop
 | .non,u=>u=Ycp
 | .bl b,u=>u=Yd4 b
 | .int i,u=>∃ t,u=YdF i t
 | .str x,u=>∃ t,u=YdE x t
 | .byt b,u=>∃ t,u=Value.bytes b t
 | .flt b,u=>∃ t,u=Value.float b t
 | .ref a,u=>u=Ybd a
 | .ty n,u=>u=YcZ n
abbrev Vals:List V->List Value->Prop:=Paired RelV
theorem Vals.length {xs:List V}{us:List Value} (r:Vals xs us):xs.length=us.length:=Ydf r
theorem Vals.get:∀ {xs:List V}{us:List Value}{i:Nat}{x:V},Vals xs us->xs[i]?=some x->∃ u,us[i]?=some u/\RelV x u
 | _,_,_,_,.nil,e=>by simp at e
 | _,_,0,_,.cons r _,e=>by simp at e;subst e;exact⟨_,rfl,r⟩
 | _,_,i+1,x,.cons _ t,e=>by
  obtain⟨u,h1,h2⟩:=Vals.get (i:=i) (x:=x) t (by simpa using e);exact⟨u,by simpa using h1,h2⟩
theorem Vals.set {x:V}{u:Value} (r:RelV x u):∀ {xs:List V}{us:List Value} (i:Nat),Vals xs us->Vals (xs.set i x) (us.set i u)
 | _,_,_,.nil=>.nil
 | _,_,0,.cons _ t=>.cons r t
 | _,_,i+1,.cons q t=>.cons q (Vals.set r i t)
theorem Vals.append:∀ {xs ys:List V}{us ws:List Value},Vals xs us->Vals ys ws->Vals (xs++ys) (us++ws)
 | _,_,_,_,.nil,s=>s
 | _,_,_,_,.cons r t,s=>.cons r (Vals.append t s)
theorem Vals.take:∀ {xs:List V}{us:List Value} (n:Nat),Vals xs us->Vals (xs.take n) (us.take n)
 | _,_,0,_=>.nil
 | _,_,_+1,.nil=>.nil
 | _,_,n+1,.cons r t=>.cons r (Vals.take n t)
theorem Vals.drop:∀ {xs:List V}{us:List Value} (n:Nat),Vals xs us->Vals (xs.drop n) (us.drop n)
 | _,_,0,r=>r
 | _,_,_+1,.nil=>.nil
 | _,_,n+1,.cons _ t=>Vals.drop n t
theorem Vals.none_of:∀ {xs:List V}{us:List Value}{i:Nat},Vals xs us->xs[i]?=none->us[i]?=none:=fun {xs us i} r e=>by
 have h1:=r.length;have h2:xs.length<=i:=Yck.mp e;exact Yck.mpr (by omega)
def RelO:Option V->Option Value->Prop
 | some v,some u=>RelV v u
 | none,none=>True
 | _,_=>False
def KV {κ:Type}:List (κ × V)->List (κ × Value)->Prop:=Paired fun (p:κ × V) (q:κ × Value)=>p.1=q.1/\RelV p.2 q.2
def kV:Key->V
 | .inl i=>.int i
 | .inr x=>.str x
inductive HO where
 | lst (xs:List V)
 | tup (xs:List V)
 | dK (kvs:List (Key × V)) | dT (kvs:List (List Key × V))
 | set (S:Int->Bool) (n:Nat)
 | ins (C dx:Addr) (fs:List (Str × V))
 | own (x:Addr)
 | xd (fs:List (Str × V))
 | met (f x:Addr)
 | rng (lo hi:Int)
 | frz (o:Obj) (u:HO)
 | tbl (ps:Array Value)
 | ext (φ:Heap->Prop)
abbrev Hp:=Addr->Option HO
def upd (H:Hp) (a:Addr) (o:HO):Hp:=fun b=>if b=a then some o else H b
theorem Zaa {H:Hp}{a:Addr}{o:HO}:upd H a o a=some o:=by unfold upd;rw[if_pos rfl]
theorem upd_ne {H:Hp}{a b:Addr}{o:HO} (h:b≠a):upd H a o b=H b:=by unfold upd;rw[if_neg h]
theorem Zlj {H:Hp}{a:Addr}{o u:HO}:upd (upd H a o) a u=upd H a u:=by
 funext b;unfold upd;split <;> rfl
theorem Ziw {H:Hp}{a b:Addr}{o u:HO} (h:H a=some o) (h':H b=some u) (d:o≠u):a≠b:=by
 intro e;subst e;rw[h] at h';exact d (Yax h')
theorem Zae {H:Hp}{a b:Addr}{o:HO} (h:H a=some o) (h':H b=none):a≠b:=by
 intro e;subst e;rw[h] at h';cases h'
def IsTupD (h:Heap) (a:Addr) (items:Array Value):Prop:=∃ o,h.get? a=some o/\o.cls=.type "tuple"/\o.dict=none/\∃ n,o.data=.seq items n
theorem IsTupD.tup {h:Heap}{a:Addr}{items:Array Value} (x:IsTupD h a items):IsTup h a items:=let ⟨o,e,c,_,d⟩:=x;⟨o,e,c,d⟩
theorem IsTupD.new (h:Heap) (items:Array Value):IsTupD (h.push { cls:=.type "tuple",data:=.seq items }) h.objs.size items:=⟨_,Yav _ rfl,rfl,rfl,_,rfl⟩
section
variable (P:Program) (w:World)
def ObjOk (H:Hp) (h:Heap) (a:Addr):HO->Prop
 | .lst xs=>xs.length<=sizeLine/\∃ (its:List Value) (n:Nat),Vals xs its/\h.get? a=some { cls:=.type "list",data:=.seq its.toArray n }
 | .tup xs=>xs.length<=sizeLine/\∃ its:List Value,Vals xs its/\IsTupD h a its.toArray
 | .dK kvs=>kvs.length<=sizeLine/\(a == sysModules)=false/\∃ vs,KV kvs vs/\h.DictOf (ZaB P w) a vs
 | .dT kvs=>kvs.length<=sizeLine/\(a == sysModules)=false/\∃ xs:List (List Key × Addr × Value),
   Paired (fun (p:List Key × V) (q:List Key × Addr × Value)=>p.1=q.1/\H q.2.1=some (.tup (p.1.map kV))/\RelV p.2 q.2.2) kvs xs /\
   ∃ o es ep,h.get? a=some o/\o.ExactDict/\o.data=.dict es ep/\es.toList=xs.map (entryOfKey (tupleKind (ZaB P w)))/\(xs.map (·.1)).Nodup
 | .set S n=>h.SetOf (intKind P w) a S n
 | .ins C dx fs=>H dx=some (.own a)/\fs.length<=1000/\dx≠a/\h.get? a=some (Ydy C dx) /\
   ∃ mA,h.Ns1 dx mA/\(∀ f,RelO (fs.lookup f) (mA f))/\PySem.Within mA (fs.map (·.1))
 | .own _=>∃ o,h.get? a=some o
 | .xd fs=>∃ mA,h.Ns1 a mA/\∀ f,RelO (fs.lookup f) (mA f)
 | .rng lo hi=>∃ t u v,h.get? a=some { cls:=.type "range",data:=.fields #[.int lo t,.int hi u,.int 1 v] }
 | .frz o u=>h.get? a=some o/\ObjOk H h a u
 | .tbl ps=>h.get? a=some { cls:=.none,data:=.fields ps }
 | .met f x=>h.get? a=some (Ydm (.ref f) (.ref x))
 | .ext φ=>φ h/\(∃ o,h.get? a=some o)/\∀ h1 h2:Heap,φ h1->(∀ o,h1.get? a=some o->h2.get? a=some o)->φ h2
def HOk (H:Hp) (h:Heap):Prop:=∀ a o,H a=some o->ObjOk P w H h a o
end
section
variable {P:Program}{w:World}{H H':Hp}{h h':Heap}{a:Addr}{o:HO}
theorem ObjOk.lt (x:ObjOk P w H h a o):a<h.objs.size:=by
 cases o with
 | lst xs=>obtain⟨_,_,_,_,e⟩:=x;exact Yai e
 | tup xs=>obtain⟨_,_,_,p⟩:=x;exact p.tup.lt
 | dK kvs=>obtain⟨_,_,_,_,o,_,_,e,_⟩:=x;exact Yai e
 | dT kvs=>obtain⟨_,_,_,_,o,_,_,e,_⟩:=x;exact Yai e
 | set S n=>obtain⟨o,_,_,_,e,_⟩:=x;exact Yai e
 | ins C dx fs=>obtain⟨_,_,_,e,_⟩:=x;exact Yai e
 | own y=>obtain⟨_,e⟩:=x;exact Yai e
 | xd fs=>obtain⟨_,⟨_,_,_,e,_⟩,_⟩:=x;exact Yai e
 | rng lo hi=>obtain⟨_,_,_,e⟩:=x;exact Yai e
 | frz ob u=>obtain⟨e,_⟩:=x;exact Yai e
 | tbl ps=>exact Yai (show h.get? a=some _ from x)
 | met f y=>exact Yai (show h.get? a=some _ from x)
 | ext φ=>obtain⟨_,⟨_,e⟩,_⟩:=x;exact Yai e
theorem Paired.mapP {α β:Type}{F G:α->β->Prop}:∀ {l₁:List α}{l₂:List β},Paired F l₁ l₂->(∀ a b,F a b->G a b)->Paired G l₁ l₂
 | _,_,.nil,_=>.nil
 | _,_,.cons r t,f=>.cons (f _ _ r) (Paired.mapP t f)
theorem ObjOk.stay (x:ObjOk P w H h a o) (k:∀ b u,(b=a∨H b=some (.own a))->h.get? b=some u->h'.get? b=some u)
  (ho:∀ b,H b=some (.own a)->H' b=some (.own a)) (ht:∀ b xs,H b=some (.tup xs)->H' b=some (.tup xs)):ObjOk P w H' h' a o:=by
 induction o with
 | lst xs=>obtain⟨z,its,n,r,e⟩:=x;exact⟨z,its,n,r,k _ _ (.inl rfl) e⟩
 | tup xs=>obtain⟨z,its,r,ob,e,c⟩:=x;exact⟨z,its,r,ob,k _ _ (.inl rfl) e,c⟩
 | dK kvs=>obtain⟨z,y,vs,r,ob,es,ep,e,c⟩:=x;exact⟨z,y,vs,r,ob,es,ep,k _ _ (.inl rfl) e,c⟩
 | dT kvs=>
  obtain⟨z,y,xs,r,ob,es,ep,e,c⟩:=x;exact⟨z,y,xs,Paired.mapP r fun p q z=>⟨z.1,ht _ _ z.2.1,z.2.2⟩,ob,es,ep,k _ _ (.inl rfl) e,c⟩
 | set S n=>obtain⟨ob,es,ep,t,e,c⟩:=x;exact⟨ob,es,ep,t,k _ _ (.inl rfl) e,c⟩
 | ins C dx fs=>
  obtain⟨d,z,ne,e,mA,⟨od,es,ep,e2,c⟩,r⟩:=x;exact⟨ho _ d,z,ne,k _ _ (.inl rfl) e,mA,⟨od,es,ep,k _ _ (.inr d) e2,c⟩,r⟩
 | own y=>obtain⟨ob,e⟩:=x;exact⟨ob,k _ _ (.inl rfl) e⟩
 | xd fs=>obtain⟨mA,⟨od,es,ep,e,c⟩,r⟩:=x;exact⟨mA,⟨od,es,ep,k _ _ (.inl rfl) e,c⟩,r⟩
 | rng lo hi=>obtain⟨t,u,v,e⟩:=x;exact⟨t,u,v,k _ _ (.inl rfl) e⟩
 | frz ob u ih=>obtain⟨e,q⟩:=x;exact⟨k _ _ (.inl rfl) e,ih q⟩
 | tbl ps=>
  have e:h.get? a=some { cls:=.none,data:=.fields ps }:=x;show h'.get? a=some { cls:=.none,data:=.fields ps };exact k a _ (.inl rfl) e
 | met f y=>
  have e:h.get? a=some (Ydm (.ref f) (.ref y)):=x;show h'.get? a=some (Ydm (.ref f) (.ref y));exact k a _ (.inl rfl) e
 | ext φ=>obtain⟨p,⟨o,e⟩,st⟩:=x;exact⟨st _ _ p fun o q=>k _ _ (.inl rfl) q,⟨o,k _ _ (.inl rfl) e⟩,st⟩
theorem HOk.lt (x:HOk P w H h) (e:H a=some o):a<h.objs.size:=(x a o e).lt
theorem HOk.fresh (x:HOk P w H h) (e:h.objs.size<=a):H a=none:=by
 cases q:H a with
 | none=>rfl
 | some u=>exact absurd (Yaj (x.lt q) e) (Yba _)
theorem HOk.kept (x:HOk P w H h) (k:∀ b u,h.get? b=some u->h'.get? b=some u):HOk P w H h':=fun a o e=>
 (x a o e).stay (fun b u _ q=>k b u q) (fun _ q=>q) fun _ _ q=>q
theorem HOk.laid (x:HOk P w H h) (k:∀ b u,h.get? b=some u->h'.get? b=some u) (hp:h.objs.size<=a) (new:ObjOk P w (upd H a o) h' a o):HOk P w (upd H a o) h':=fun b u e=>by
 have hn:=x.fresh hp;by_cases hb:b=a
 ·subst hb;rw[Zaa] at e;cases e;exact new
 ·rw[upd_ne hb] at e;exact (x b u e).stay (fun c v _ q=>k c v q) (fun c q=>by rw[upd_ne (Zae q hn)];exact q) fun c xs q=>by rw[upd_ne (Zae q hn)];exact q
end
def Rd (H:Hp) (a:Addr) (u:HO):Prop:=H a=some u∨∃ o,H a=some (.frz o u)
theorem Rd.ok {P:Program}{w:World}{H:Hp}{h:Heap}{a:Addr}{u:HO} (r:Rd H a u) (x:HOk P w H h):ObjOk P w H h a u:=by
 rcases r with r | ⟨o,r⟩
 ·exact x a u r
 ·obtain⟨_,q⟩:=x a _ r;exact q
def Mut:Option HO->Prop
 | some (.lst _)=>True
 | some (.dK _)=>True
 | some (.dT _)=>True
 | some (.set _ _)=>True
 | some (.ins _ _ _)=>True
 | some (.ext _)=>True
 | _=>False
section
variable {P:Program}{w:World}{H:Hp}{h h':Heap}{x e:Addr}{o':HO}
theorem HOk.write (ok:HOk P w H h) (mu:Mut (H x)) (he:e=x∨H e=some (.own x)) (k:∀ b u,b≠e->h.get? b=some u->h'.get? b=some u) (heo:∃ u,h'.get? e=some u)
  (new:ObjOk P w (upd H x o') h' x o'):HOk P w (upd H x o') h':=fun b u q=>by
 have nown:∀ c y,H c=some (.own y)->c≠x:=fun c y r z=>by subst z;rw[r] at mu;exact mu
 have ntup:∀ c xs,H c=some (.tup xs)->c≠x:=fun c xs r z=>by subst z;rw[r] at mu;exact mu
 by_cases hb:b=x
 ·subst hb;rw[Zaa] at q;cases q;exact new
 ·rw[upd_ne hb] at q;by_cases hbe:b=e
  ·have q':H b=some (.own x):=by
    rcases he with z | z
    ·exact absurd (hbe.trans z) hb
    ·rw[hbe];exact z
   rw[q] at q';cases q';obtain⟨v,hv⟩:=heo;exact⟨v,by rw[hbe];exact hv⟩
  ·refine (ok b u q).stay (fun c v hc r=>k c v ?_ r) (fun c r=>by rw[upd_ne (nown c b r)];exact r) fun c xs r=>by rw[upd_ne (ntup c xs r)];exact r
   rcases hc with rfl | hc
   ·exact hbe
   ·rintro rfl;rcases he with z | z
    ·exact nown c b hc z
    ·rw[hc] at z;cases z;exact hb rfl
end
structure Un (fs ex:List Addr) (H H':Hp) (h h':Heap):Prop where
 keep:∀ b o,h.get? b=some o->H b=none->b ∉ fs->b ∉ ex->h'.get? b=some o
 slot:∀ b o,h.get? b=some o->H b=none->b∈fs->b ∉ ex->∃ sl,h'.get? b=some { o with slots:=sl }
 free:∀ b o,h.get? b=some o->H b=none->b ∉ ex->H' b=none
 there:∀ b o,h.get? b=some o->b ∉ ex->∃ o',h'.get? b=some o'
 tups:∀ b xs,H b=some (.tup xs)->H' b=some (.tup xs)
 frzs:∀ b o u,H b=some (.frz o u)->H' b=some (.frz o u)
 tbls:∀ b ps,H b=some (.tbl ps)->∃ more,H' b=some (.tbl (ps++more))
section
variable {fs fs' ex ex':List Addr}{H H1 H2:Hp}{h h1 h2 h':Heap}{a x e:Addr}{o:HO}
theorem Un.any (u:Un fs ex H H1 h h1) {b:Addr}{ob:Obj} (q:h.get? b=some ob) (n:H b=none) (hx:b ∉ ex):∃ sl,h1.get? b=some { ob with slots:=sl }:=by
 by_cases hb:b∈fs
 ·exact u.slot b ob q n hb hx
 ·exact⟨ob.slots,u.keep b ob q n hb hx⟩
theorem Un.kept (k:∀ b u,h.get? b=some u->h'.get? b=some u):Un fs ex H H h h' :=
 ⟨fun b ob q _ _ _=>k b ob q,fun b ob q _ _ _=>⟨ob.slots,k b ob q⟩,fun _ _ _ n _=>n,fun b ob q _=>⟨ob,k b ob q⟩,fun _ _ q=>q,fun _ _ _ q=>q,fun _ ps q=>⟨#[],by rw[q];simp⟩⟩
theorem Un.refl:Un fs ex H H h h:=Un.kept fun _ _ q=>q
theorem Un.laid (k:∀ b u,h.get? b=some u->h'.get? b=some u) (hp:h.objs.size<=a) (hn:H a=none):Un fs ex H (upd H a o) h h' where
 keep:=fun b u q _ _ _=>k b u q
 slot:=fun b u q _ _ _=>⟨u.slots,k b u q⟩
 free:=fun b u q n _=>by rw[upd_ne (YaB (Yaj (Yai q) hp))];exact n
 there:=fun b u q _=>⟨u,k b u q⟩
 tups:=fun b xs q=>by rw[upd_ne (Zae q hn)];exact q
 frzs:=fun b u xs q=>by rw[upd_ne (Zae q hn)];exact q
 tbls:=fun b ps q=>⟨#[],by rw[upd_ne (Zae q hn),q];simp⟩
theorem Un.write (mu:Mut (H x)) (he:e=x∨H e=some (.own x)) (k:∀ b u,b≠e->h.get? b=some u->h'.get? b=some u) (heo:∃ u,h'.get? e=some u):Un fs ex H (upd H x o) h h':=by
 have hx:∀ b,H b=none->b≠x:=fun b n z=>by subst z;rw[n] at mu;exact mu
 have hb:∀ b,H b=none->b≠e:=fun b n z=>by
  subst z;rcases he with r | r
  ·exact hx b n r
  ·rw[n] at r;cases r
 have hm:∀ b u,H b=some u->¬ Mut (some u)->b≠x:=fun b u q nm z=>by subst z;rw[q] at mu;exact nm mu
 refine⟨fun b u q n _ _=>k b u (hb b n) q,fun b u q n _ _=>⟨u.slots,k b u (hb b n) q⟩,fun b u q n _=>by rw[upd_ne (hx b n)];exact n,fun b u q _=>?_,
  fun b xs q=>by rw[upd_ne (hm b _ q fun z=>z)];exact q,fun b u xs q=>by rw[upd_ne (hm b _ q fun z=>z)];exact q,fun b ps q=>⟨#[],by rw[upd_ne (hm b _ q fun z=>z),q];simp⟩⟩
 by_cases hbe:b=e
 ·subst hbe;exact heo
 ·exact⟨u,k b u hbe q⟩
end
def trk (h:Heap) (H:Hp):List Addr:=(YaH h.objs.size).filter fun a=>(H a).isSome
def hidT (h:Heap) (H:Hp):Heap:=PySem.W.hideAll h (trk h H)
theorem ZiW (h:Heap) (H:Hp):(hidT h H).objs.size=h.objs.size:=PySem.W.hideAll_size _ _
theorem Zkx {h:Heap}{H:Hp}{b:Addr}{o:Obj} (e:h.get? b=some o) (n:H b=none):(hidT h H).get? b=some o :=
 PySem.W.hideAll_get _ e fun hm=>by
  have q:(H b).isSome=true:=(Yda.mp hm).2
  rw[n] at q;simp at q
theorem Zl6 {h:Heap}{H:Hp}{b:Addr}{o:Obj} (e:(hidT h H).get? b=some o):h.get? b=some o/\H b=none:=by
 have e':h.get? b=some o:=PySem.W.of_hideAll (trk h H) e;refine⟨e',?_⟩
 cases q:H b with
 | none=>rfl
 | some x=>
  have hm:b∈trk h H:=Yda.mpr ⟨YbL.mpr (Yai e'),by simp[q]⟩;have z:(hidT h H).get? b=none:=PySem.W.hideAll_none (trk h H) hm;rw[z] at e;cases e
def Zms (g h:Heap) (L:Addr):List (Addr × Obj):=(YaH h.objs.size).filterMap fun a=>if a=L∨(g.get? a).isSome=true then none else (h.get? a).map fun o=>(a,o)
def rest (g h:Heap) (L d:Addr):List (Addr × Obj):=(Zms g h L).filter fun p=>decide (p.1≠d)
end L2
namespace L2
open PySem PySem.Spec PyProof.Rows
structure Mod (K:Yae) (mg:Str->Option Value) (base:Heap):Prop where
 kin:K.In base
 glob:base.Ns mainGlobals mg
 blt:∃ mb,base.Ns builtinsNs mb/\∀ x:Str,x≠"__name__"->mb x=bootBuiltins x
 nolimit:base.NoLimit
structure Cx where
 prog:Program
 w:World
 K:Yae
 mg:Str->Option Value
 base:Heap
 A:Around
 N:List Str
 s₀:Shared
 H₀:Hp
 env:Env
 outer:List Env
 stack:List Env
 ex:List Addr
 fn:Str->Bool
 calm:Bool
 pn:List (Addr × Obj)
 xe:Value->Shared->Prop
def frs (l:List Env):List Addr:=l.filterMap (·.frame)
abbrev Cx.fs (X:Cx):List Addr:=frs X.outer
def Vis (sc:Scope) (x:Str):Prop:=sc.names.lookup x=some .local ∨ sc.names.lookup x=some .cell∨sc.names.lookup x=some .free
def Loc (sc:Scope) (x:Str):Prop:=sc.names.lookup x=some .local ∨ sc.names.lookup x=some .cell
def Look (env:Env) (h:Heap) (m:Str->Option Value) (x:Str) (u:Value):Prop :=
 (env.kindOf x=some .local /\ m x=some u)∨((env.kindOf x=some .cell∨env.kindOf x=some .free)/\∃ c,env.cells.lookup x=some c/\h.IsCell c (some u))
structure Cx.Ok (X:Cx):Prop where
 mod:Mod X.K X.mg X.base
 kind:X.env.scope.kind=.function
 glob:X.env.globals=mainGlobals
 blt:X.env.builtins=builtinsNs
 above:X.s₀.heap.objs.size<=X.env.locals
 inj:∀ x y c,X.env.cells.lookup x=some c->X.env.cells.lookup y=some c->x=y
 has:∀ x,(X.env.kindOf x=some .cell∨X.env.kindOf x=some .free)->∃ c,X.env.cells.lookup x=some c
 cab:∀ x c,X.fn x=true->X.env.cells.lookup x=some c->X.s₀.heap.objs.size<=c
 hd:X.calm=true->X.A.handled=none
 frames:X.A.frames=some X.stack
 stk:X.stack=X.outer∨(X.stack=X.env::X.outer/\X.env.frame=some X.env.locals)
 exf:∀ b∈X.ex,b≠X.env.locals/\∀ x c,X.env.cells.lookup x=some c->c≠b
 bs:∀ b o,X.base.get? b=some o->X.s₀.heap.get? b=some o/\X.H₀ b=none
 bsz:X.base.objs.size<=X.s₀.heap.objs.size
 noex:∀ b o,X.base.get? b=some o->b ∉ X.ex
 exfs:∀ b∈X.ex,b ∉ X.fs
 funs:X.s₀.heap.FunFrames X.base X.outer
 frf:∀ b∈X.fs,X.H₀ b=none
structure Inv (X:Cx) (pins:List (Addr × Obj)) (σ:List (Option V)) (H:Hp) (s:Shared):Prop where
 ok:X.Ok
 os:s.os=X.s₀.os
 bare:AllBare s.gens
 base:Un X.fs X.ex X.H₀ H X.s₀.heap s.heap
 loc:∃ m,s.heap.Ns X.env.locals m/\∀ (i:Nat) (x:Str) (v:V),X.N[i]?=some x->σ[i]?=some (some v)->Vis X.env.scope x->∃ u,RelV v u/\Look X.env s.heap m x u
 cell:∀ x c,X.env.cells.lookup x=some c->∃ v,s.heap.IsCell c v
 free:H X.env.locals=none
 freeC:∀ x c,X.env.cells.lookup x=some c->H c=none
 pin:∀ p∈X.pn++pins,s.heap.get? p.1=some p.2/\H p.1=none/\p.1≠X.env.locals/\p.1 ∉ X.fs/\∀ v,p.2.data≠.cell v
 hok:HOk X.prog X.w H s.heap
 len:σ.length=X.N.length
section
variable {X:Cx}{pins:List (Addr × Obj)}{σ:List (Option V)}{H H':Hp}{s:Shared}{h':Heap}
theorem Cx.Ok.nofr (ok:X.Ok) {b:Addr}{o:Obj} (e:X.base.get? b=some o):b ∉ X.fs:=fun hb=>by
 have:=(ok.funs.mem hb).1
 rw[e] at this;cases this
theorem Inv.bs (I:Inv X pins σ H s):∀ b o,X.base.get? b=some o->s.heap.get? b=some o/\H b=none:=fun b o e=>
 ⟨I.base.keep b o (I.ok.bs b o e).1 (I.ok.bs b o e).2 (I.ok.nofr e) (I.ok.noex b o e),I.base.free b o (I.ok.bs b o e).1 (I.ok.bs b o e).2 (I.ok.noex b o e)⟩
theorem Inv.bk (I:Inv X pins σ H s):∀ b o,X.base.get? b=some o->s.heap.get? b=some o:=fun b o e=>(I.bs b o e).1
theorem Inv.mod (I:Inv X pins σ H s):Mod X.K X.mg X.base:=I.ok.mod
theorem Inv.kIn (I:Inv X pins σ H s):X.K.In s.heap:=I.ok.mod.kin.keeps I.bk
theorem Inv.lt (I:Inv X pins σ H s):X.env.locals<s.heap.objs.size:=let ⟨_,hn,_⟩:=I.loc;hn.lt
theorem Inv.sz (I:Inv X pins σ H s):X.s₀.heap.objs.size<=s.heap.objs.size:=Ybj I.ok.above (YaW I.lt)
theorem Inv.nofs (I:Inv X pins σ H s) {a:Addr} (h:s.heap.objs.size<=a):a ∉ X.fs:=fun hb=>by
 obtain⟨_,o,ho,_⟩:=I.ok.funs.mem hb;exact absurd (Yaj (Yai ho) (Ybj I.sz h)) (Yba _)
theorem Inv.cne (I:Inv X pins σ H s):∀ x c,X.env.cells.lookup x=some c->c≠X.env.locals:=fun x c e z=>by
 obtain⟨v,o,ho,hd⟩:=I.cell x c e;obtain⟨m,⟨o',es,ep,ho',hd',_⟩,_⟩:=I.loc;rw[z,ho'] at ho;cases ho;rw[hd'] at hd;cases hd
theorem Inv.funs (I:Inv X pins σ H s):s.heap.FunFrames X.base X.outer:=by
 have all:∀ (l:List Env),(∀ b∈frs l,b∈X.fs)->X.s₀.heap.FunFrames X.base l->s.heap.FunFrames X.base l:=by
  intro l
  induction l with
  | nil=>intro _ _;trivial
  | cons env r ih=>
   intro hs hl;obtain⟨hk,⟨L,o,hf,hn,ho,hd⟩,hr⟩:=hl;have hL:L∈X.fs:=hs L (by unfold frs;rw[YaQ,hf];exact YaD);obtain⟨sl,e⟩:=I.base.slot L o ho (I.ok.frf L hL) hL fun z=>I.ok.exfs L z hL;exact⟨hk,⟨L,_,hf,hn,e,hd⟩,ih (fun b hb=>hs b (by unfold frs;rw[YaQ,hf];exact YaC _ hb)) hr⟩
 exact all X.outer (fun _ hb=>hb) I.ok.funs
theorem Inv.stack (I:Inv X pins σ H s):s.heap.FunFrames X.base X.stack:=by
 rcases I.ok.stk with e | ⟨e,hf⟩
 ·rw[e];exact I.funs
 ·rw[e];obtain⟨m,hn,_⟩:=I.loc;refine .cons (by rw[I.ok.kind];decide) hf hn ?_ I.funs;exact Heap.get?_none_of_le (Ybj I.ok.bsz I.ok.above)
theorem Inv.stkSub (I:Inv X pins σ H s):∀ b∈frs X.stack,b∈X.env.locals::X.fs:=fun b hb=>by
 rcases I.ok.stk with e | ⟨e,hf⟩
 ·rw[e] at hb;exact YaC _ hb
 ·rw[e] at hb;unfold frs at hb;rw[YaQ,hf] at hb;exact hb
theorem Inv.stkFree (I:Inv X pins σ H s):∀ b∈frs X.stack,H b=none:=fun b hb=>by
 rcases Yay.mp (I.stkSub b hb) with e | hb
 ·rw[e];exact I.free
 ·obtain⟨_,o,ho,_⟩:=I.ok.funs.mem hb;exact I.base.free b o ho (I.ok.frf b hb) fun z=>I.ok.exfs b z hb
theorem Inv.step {g':Array GenState}{t':Nat}{d':Drawn}{ch:List Addr} (I:Inv X pins σ H s)
  (hch:∀ b∈ch,(b∈X.ex∨X.s₀.heap.objs.size<=b)/\b≠X.env.locals/\(∀ x c,X.env.cells.lookup x=some c->c≠b)/\∀ p∈X.pn++pins,p.1≠b)
  (keep:∀ b o,b≠X.env.locals->b ∉ X.fs->b ∉ ch->s.heap.get? b=some o->H b=none->h'.get? b=some o)
  (slot:∀ b o,b≠X.env.locals->b∈X.fs->b ∉ ch->s.heap.get? b=some o->H b=none->∃ sl,h'.get? b=some { o with slots:=sl }) (free:∀ b o,b ∉ ch->s.heap.get? b=some o->H b=none->H' b=none)
  (there:∀ b o,b ∉ ch->s.heap.get? b=some o->∃ o',h'.get? b=some o')
  (tups:∀ b xs,H b=some (.tup xs)->H' b=some (.tup xs)) (frzs:∀ b o u,H b=some (.frz o u)->H' b=some (.frz o u)) (tbls:∀ b ps,H b=some (.tbl ps)->∃ more,H' b=some (.tbl (ps++more)))
  (ns:∀ m,s.heap.Ns X.env.locals m->h'.Ns X.env.locals m) (hok:HOk X.prog X.w H' h') (hg:AllBare g') :
  Inv X pins σ H' { s with heap:=h',gens:=g',drawn:=d',toks:=t' }:=by
 have neL:∀ b o,X.s₀.heap.get? b=some o->b≠X.env.locals:=fun b o e=>YaB (Yaj (Yai e) I.ok.above);have neC:∀ b o,X.s₀.heap.get? b=some o->b ∉ X.ex->b ∉ ch:=fun b o e hx hb=>by
  rcases (hch b hb).1 with z | z
  ·exact hx z
  ·exact absurd (Yaj (Yai e) z) (Yba _)
 have cellK:∀ x c,X.env.cells.lookup x=some c->∀ v,s.heap.IsCell c v->h'.IsCell c v:=fun x c e v ⟨o,ho,hd⟩=>by
  have nch:c ∉ ch:=fun z=>(hch c z).2.2.1 x c e rfl;by_cases hc:c∈X.fs
  ·obtain⟨sl,q⟩:=slot c o (I.cne x c e) hc nch ho (I.freeC x c e);exact⟨_,q,hd⟩
  ·exact⟨o,keep c o (I.cne x c e) hc nch ho (I.freeC x c e),hd⟩
 refine⟨I.ok,I.os,hg,⟨fun b o e n hb hx=>?_,fun b o e n hb hx=>?_,fun b o e n hx=>?_,fun b o e hx=>?_,fun b xs e=>tups b xs (I.base.tups b xs e),fun b o xs e=>frzs b o xs (I.base.frzs b o xs e),fun b ps e=>?_⟩,?_,fun x c e=>?_,?_,fun x c e=>?_,fun p hp=>?_,hok,I.len⟩
 ·exact keep b o (neL b o e) hb (neC b o e hx) (I.base.keep b o e n hb hx) (I.base.free b o e n hx)
 ·obtain⟨sl,e1⟩:=I.base.slot b o e n hb hx;obtain⟨sl',e2⟩:=slot b _ (neL b o e) hb (neC b o e hx) e1 (I.base.free b o e n hx);exact⟨sl',e2⟩
 ·obtain⟨o',e1⟩:=I.base.there b o e hx;exact free b o' (neC b o e hx) e1 (I.base.free b o e n hx)
 ·obtain⟨o',e1⟩:=I.base.there b o e hx;exact there b o' (neC b o e hx) e1
 ·obtain⟨m1,e1⟩:=I.base.tbls b ps e;obtain⟨m2,e2⟩:=tbls b _ e1;exact⟨m1++m2,by rw[e2,Array.append_assoc]⟩
 ·obtain⟨m,hn,hl⟩:=I.loc;refine⟨m,ns m hn,fun i x v e1 e2 e3=>?_⟩;obtain⟨u,r,l⟩:=hl i x v e1 e2 e3;refine⟨u,r,?_⟩;rcases l with l | ⟨k,c,e,z⟩
  ·exact .inl l
  ·exact .inr ⟨k,c,e,cellK x c e _ z⟩
 ·obtain⟨v,z⟩:=I.cell x c e;exact⟨v,cellK x c e v z⟩
 ·obtain⟨m,⟨o,_,_,ho,_⟩,_⟩:=I.loc;exact free _ o (fun z=>(hch _ z).2.1 rfl) ho I.free
 ·obtain⟨v,o,ho,hd⟩:=I.cell x c e;exact free c o (fun z=>(hch c z).2.2.1 x c e rfl) ho (I.freeC x c e)
 ·obtain⟨e,n,ne,nf,d⟩:=I.pin p hp;have nch:p.1 ∉ ch:=fun z=>(hch p.1 z).2.2.2 p hp rfl;exact⟨keep p.1 p.2 ne nf nch e n,free p.1 p.2 nch e n,ne,nf,d⟩
theorem Inv.un {t':Nat} (I:Inv X pins σ H s) (u:Un X.fs [] H H' s.heap h') (hok:HOk X.prog X.w H' h'):Inv X pins σ H' { s with heap:=h',toks:=t' }:=by
 obtain⟨m,⟨o,es,ep,ho,r⟩,_⟩:=id I.loc;obtain⟨sl,hL⟩:=u.any ho I.free (by simp);exact I.step (g':=s.gens) (d':=s.drawn) (ch:=[]) (fun _ z=>nomatch z) (fun b o _ hb _ e n=>u.keep b o e n hb (by simp)) (fun b o _ hb _ e n=>u.slot b o e n hb (by simp)) (fun b o _ e n=>u.free b o e n (by simp)) (fun b o _ e=>u.there b o e (by simp)) u.tups u.frzs u.tbls (fun m' hm=>by
  obtain⟨o',es',ep',ho',r'⟩:=hm;rw[ho] at ho';cases ho';exact⟨_,es',ep',hL,r'⟩) hok I.bare
theorem Inv.call {g':Array GenState}{t':Nat}{d':Drawn}{ch:List Addr} (I:Inv X pins σ H s) (u:Un (frs X.stack) ch H H' s.heap h') (hok:HOk X.prog X.w H' h') (hg:AllBare g')
  (hch:∀ b∈ch,(b∈X.ex∨X.s₀.heap.objs.size<=b)/\b≠X.env.locals/\(∀ x c,X.env.cells.lookup x=some c->c≠b)/\∀ p∈X.pn++pins,p.1≠b) :
  Inv X pins σ H' { s with heap:=h',gens:=g',drawn:=d',toks:=t' }:=by
 obtain⟨m,⟨o,es,ep,ho,r⟩,_⟩:=id I.loc;obtain⟨sl,hL⟩:=u.any ho I.free fun z=>(hch _ z).2.1 rfl;exact I.step (ch:=ch) hch (fun b o hL hb hc e n=>u.keep b o e n (fun z=>(Yay.mp (I.stkSub b z)).elim hL hb) hc) (fun b o _ _ hc e n=>u.any e n hc) (fun b o hc e n=>u.free b o e n hc) (fun b o hc e=>u.there b o e hc) u.tups u.frzs u.tbls (fun m' hm=>by
  obtain⟨o',es',ep',ho',r'⟩:=hm;rw[ho] at ho';cases ho';exact⟨_,es',ep',hL,r'⟩) hok hg
theorem Inv.turned {t':Nat}{it:Addr} (I:Inv X pins σ H s) (k:∀ b o,b≠it->s.heap.get? b=some o->h'.get? b=some o) (hn:H it=none) (hL:it≠X.env.locals)
  (h1:it∈X.ex∨X.s₀.heap.objs.size<=it) (h2:∀ x c,X.env.cells.lookup x=some c->c≠it) (h3:∀ p∈X.pn++pins,p.1≠it):Inv X pins σ H { s with heap:=h',toks:=t' }:=by
 have nit:∀ b u,H b=some u->b≠it:=fun b u e z=>by rw[z,hn] at e;cases e
 refine I.step (g':=s.gens) (d':=s.drawn) (ch:=[it]) (fun b hb=>?_) (fun b o _ _ hc e _=>k b o (fun z=>hc (by simp[z])) e) (fun b o _ _ hc e _=>⟨o.slots,k b o (fun z=>hc (by simp[z])) e⟩) (fun _ _ _ _ n=>n)
  (fun b o hc e=>⟨o,k b o (fun z=>hc (by simp[z])) e⟩) (fun _ _ e=>e) (fun _ _ _ e=>e) (fun b ps e=>⟨#[],by rw[e];simp⟩) (fun m hm=>?_) (fun b u e=>?_) I.bare
 ·have e:b=it:=by simpa using hb
  subst e;exact⟨h1,hL,h2,h3⟩
 ·obtain⟨o,es,ep,ho,r⟩:=hm;exact⟨o,es,ep,k _ o (Ybl hL) ho,r⟩
 ·refine (I.hok b u e).stay (fun c v hc q=>k c v ?_ q) (fun _ q=>q) fun _ _ q=>q;rcases hc with z | z
  ·rw[z];exact nit b u e
  ·exact nit c _ z
theorem Inv.tok (I:Inv X pins σ H s) (t:Nat):Inv X pins σ H { s with toks:=t }:=I.un (h':=s.heap) (t':=t) Un.refl I.hok
theorem Inv.kept {t':Nat} (I:Inv X pins σ H s) (k:∀ b u,s.heap.get? b=some u->h'.get? b=some u):Inv X pins σ H { s with heap:=h',toks:=t' }:=I.un (Un.kept k) (I.hok.kept k)
theorem Inv.laid {a:Addr}{o:HO}{t':Nat} (I:Inv X pins σ H s) (k:∀ b u,s.heap.get? b=some u->h'.get? b=some u) (hp:s.heap.objs.size<=a) (new:ObjOk X.prog X.w (upd H a o) h' a o) :
  Inv X pins σ (upd H a o) { s with heap:=h',toks:=t' }:=I.un (Un.laid k hp (I.hok.fresh hp)) (I.hok.laid k hp new)
theorem Inv.write {x e:Addr}{o:HO}{t':Nat} (I:Inv X pins σ H s) (mu:Mut (H x)) (he:e=x∨H e=some (.own x)) (k:∀ b u,b≠e->s.heap.get? b=some u->h'.get? b=some u) (heo:∃ u,h'.get? e=some u)
  (new:ObjOk X.prog X.w (upd H x o) h' x o):Inv X pins σ (upd H x o) { s with heap:=h',toks:=t' }:=I.un (Un.write mu he k heo) (I.hok.write mu he k heo new)
theorem Inv.weak {σ':List (Option V)} (I:Inv X pins σ H s) (hl:σ'.length=σ.length) (w:∀ (i:Nat) v,σ'[i]?=some (some v)->σ[i]?=some (some v)):Inv X pins σ' H s :=
 ⟨I.ok,I.os,I.bare,I.base,let ⟨m,hn,hl'⟩:=I.loc;⟨m,hn,fun i x v e1 e2 e3=>hl' i x v e1 (w i v e2) e3⟩,I.cell,I.free,I.freeC,I.pin,I.hok,hl.trans I.len⟩
theorem Inv.pins_of {pins':List (Addr × Obj)} (I:Inv X pins σ H s) (h:∀ p∈pins',s.heap.get? p.1=some p.2/\H p.1=none/\p.1≠X.env.locals/\p.1 ∉ X.fs/\∀ v,p.2.data≠.cell v):Inv X pins' σ H s :=
 ⟨I.ok,I.os,I.bare,I.base,I.loc,I.cell,I.free,I.freeC,fun p hp=>(Yar.mp hp).elim (fun z=>I.pin p (YaV _ z)) (h p),I.hok,I.len⟩
theorem ZgL {N:List Str} (hN:N.Nodup) {i j:Nat}{x:Str} (a:N[i]?=some x) (b:N[j]?=some x):i=j:=by
 obtain⟨h1,e1⟩:=Yab.mp a;obtain⟨h2,e2⟩:=Yab.mp b;exact (List.getElem_inj hN).mp (e1.trans e2.symm)
theorem Zc7 {M:Model}{A:Around}{E:Value->Shared->Prop}{i:Nat}{x:Str}{v:V}{u:Value}{Q:Unit->Shared->Prop} (I:Inv X pins σ H s) (hN:X.N.Nodup) (hi:X.N[i]?=some x) (hx:Loc X.env.scope x) (r:RelV v u)
  (h:∀ s',Inv X pins (σ.set i (some v)) H s'->(∃ a,YcU a s.heap s'.heap/\(a=X.env.locals∨X.env.cells.lookup x=some a))->Q () s') (hf:X.fn x=true∨X.env.scope.names.lookup x=some .local:=by first | exact .inl rfl | exact .inr rfl | assumption):wpAny M A (storeName X.env x u) Q E s:=by
 obtain⟨m,hn,hl⟩:=id I.loc;have hcls:(X.env.scope.kind == .class || (X.env.scope.kind == .module && X.env.locals != X.env.globals))=false:=by rw[I.ok.kind];rfl
 have hiσ:i<σ.length:=by rw[I.len];exact (Yab.mp hi).1
 have cne:=I.cne;have tracked:∀ {a:Addr}{h':Heap},(∃ o,s.heap.get? a=some o/\H a=none)->YcU a s.heap h'->HOk X.prog X.w H h':=fun {a h'} ha hs b ob e=>by
  obtain⟨_,_,hfree⟩:=ha;refine (I.hok b ob e).stay (fun c w' hc q=>(hs.2 c ?_).trans q) (fun _ q=>q) fun _ _ q=>q;rintro rfl;rcases hc with rfl | hc
  ·rw[hfree] at e;cases e
  ·rw[hfree] at hc;cases hc
 rcases hx with hk | hk
 ·refine wpAny_storeName_local hk hn (fun h' hn' hs=>?_) hcls;obtain⟨oL,_,_,hoL,_⟩:=id hn;refine h _ ⟨I.ok,I.os,I.bare,⟨fun b o e n hb hx=>?_,fun b o e n hb hx=>?_,I.base.free,fun b o e hx=>?_,I.base.tups,I.base.frzs,I.base.tbls⟩,⟨_,hn',fun j y v' e1 e2 e3=>?_⟩,fun y c e=>?_,I.free,I.freeC,fun p hp=>?_,tracked ⟨oL,hoL,I.free⟩ hs,by simpa using I.len⟩ ⟨_,hs,.inl rfl⟩
  ·exact (hs.2 b (YaB (Yaj (Yai e) I.ok.above))).trans (I.base.keep b o e n hb hx)
  ·obtain⟨sl,e1⟩:=I.base.slot b o e n hb hx;exact⟨sl,(hs.2 b (YaB (Yaj (Yai e) I.ok.above))).trans e1⟩
  ·obtain⟨o',e1⟩:=I.base.there b o e hx;exact⟨o',(hs.2 b (YaB (Yaj (Yai e) I.ok.above))).trans e1⟩
  ·by_cases hj:j=i
   ·subst hj;rw[hi] at e1;cases e1;rw[Ya5 hiσ] at e2;cases e2;exact⟨u,r,.inl ⟨hk,by simp⟩⟩
   ·rw[Ya0 (Ybl hj)] at e2;obtain⟨u',r',q⟩:=hl j y v' e1 e2 e3;refine⟨u',r',?_⟩;rcases q with ⟨k,e⟩ | ⟨k,c,e,z⟩
    ·refine .inl ⟨k,?_⟩;have:y≠x:=fun e=>hj (ZgL hN e1 (e ▸ hi));simp[this,e]
    ·exact .inr ⟨k,c,e,z.sameBut hs (cne y c e)⟩
  ·obtain⟨w',z⟩:=I.cell y c e;exact⟨w',z.sameBut hs (cne y c e)⟩
  ·obtain⟨e,n,ne,nf,d⟩:=I.pin p hp;exact⟨(hs.2 p.1 ne).trans e,n,ne,nf,d⟩
 ·have hfn:X.fn x=true:=by
   rcases hf with z | z
   ·exact z
   ·rw[z] at hk;cases hk
  obtain⟨c,hc⟩:=I.ok.has x (.inl hk);obtain⟨w',z⟩:=I.cell x c hc;refine wpAny_storeName_cell I.ok.kind hk hc z (fun h' hc' hs=>?_);obtain⟨oc,hoc,hocd⟩:=id z;refine h { s with heap:=h' } ⟨I.ok,I.os,I.bare,⟨fun b o e n hb hx=>?_,fun b o e n hb hx=>?_,I.base.free,fun b o e hx=>?_,I.base.tups,I.base.frzs,I.base.tbls⟩,⟨m,hn.sameBut hs (Ybl (cne x c hc)),fun j y v' e1 e2 e3=>?_⟩,fun y c' e=>?_,I.free,I.freeC,fun p hp=>?_,tracked ⟨oc,hoc,I.freeC x c hc⟩ hs,by simpa using I.len⟩ ⟨c,hs,.inr hc⟩
  ·exact (hs.2 b (YaB (Yaj (Yai e) (I.ok.cab x c hfn hc)))).trans (I.base.keep b o e n hb hx)
  ·obtain⟨sl,e1⟩:=I.base.slot b o e n hb hx;exact⟨sl,(hs.2 b (YaB (Yaj (Yai e) (I.ok.cab x c hfn hc)))).trans e1⟩
  ·obtain⟨o',e1⟩:=I.base.there b o e hx;exact⟨o',(hs.2 b (YaB (Yaj (Yai e) (I.ok.cab x c hfn hc)))).trans e1⟩
  ·by_cases hj:j=i
   ·subst hj;rw[hi] at e1;cases e1;rw[Ya5 hiσ] at e2;cases e2;exact⟨u,r,.inr ⟨.inl hk,c,hc,hc'⟩⟩
   ·rw[Ya0 (Ybl hj)] at e2;obtain⟨u',r',q⟩:=hl j y v' e1 e2 e3;refine⟨u',r',?_⟩;rcases q with q | ⟨k,c',e,z'⟩
    ·exact .inl q
    ·refine .inr ⟨k,c',e,z'.sameBut hs ?_⟩;rintro rfl;exact hj (ZgL hN e1 (I.ok.inj _ _ _ e hc ▸ hi))
  ·by_cases hcc:c'=c
   ·subst hcc;exact⟨_,hc'⟩
   ·obtain⟨w2,z2⟩:=I.cell y c' e;exact⟨w2,z2.sameBut hs hcc⟩
  ·obtain⟨e,n,ne,nf,d⟩:=I.pin p hp;refine⟨(hs.2 p.1 ?_).trans e,n,ne,nf,d⟩;intro q;rw[q,hoc] at e;have q':oc=p.2:=Yax e;exact d w' (by rw[<- q'];exact hocd)
theorem Zee {M:Model}{A:Around}{E:Value->Shared->Prop}{i:Nat}{x:Str}{v:V}{u:Value}{Q:Unit->Shared->Prop} (I:Inv X pins σ H s) (hN:X.N.Nodup) (hi:X.N[i]?=some x) (hx:Loc X.env.scope x) (r:RelV v u)
  (h:∀ s',Inv X pins (σ.set i (some v)) H s'->Q () s') (hf:X.fn x=true∨X.env.scope.names.lookup x=some .local:=by first | exact .inl rfl | exact .inr rfl | assumption):wpAny M A (storeName X.env x u) Q E s :=
 Zc7 I hN hi hx r (fun s' I' _=>h s' I') hf
theorem Inv.call' {s':Shared}{ch:List Addr} (I:Inv X pins σ H s) (ho:s'.os=s.os) (u:Un (frs X.stack) ch H H' s.heap s'.heap) (hok:HOk X.prog X.w H' s'.heap) (hg:AllBare s'.gens)
  (hch:∀ b∈ch,(b∈X.ex∨X.s₀.heap.objs.size<=b)/\b≠X.env.locals/\(∀ x c,X.env.cells.lookup x=some c->c≠b)/\∀ p∈X.pn++pins,p.1≠b):Inv X pins σ H' s':=by
 obtain⟨h',g',d',t',o'⟩:=s';have e:o'=s.os:=ho;subst e;exact I.call (g':=g') (t':=t') (d':=d') u hok hg hch
end
abbrev XK:=Value->Option Addr->Hp->Prop
abbrev St:=List (Option V)
abbrev VK:=V->Hp->Prop
abbrev TE:=St->Hp->VK->Prop
abbrev TT:=St->Hp->(Bool->Hp->Prop)->Prop
abbrev TA:=St->Hp->(List V->Hp->Prop)->Prop
structure Ends where
 nx:St->Hp->Prop
 rt:VK
 bk:St->Hp->Prop:=fun _ _=>False
 ct:St->Hp->Prop:=fun _ _=>False
abbrev TS:=Ends->St->Hp->Prop
def EP (X:Cx) (pins:List (Addr × Obj)) (σ:St) (Q:VK) (u:Value) (s':Shared):Prop:=∃ v H',Inv X pins σ H' s'/\RelV v u/\Q v H'
def TP (X:Cx) (pins:List (Addr × Obj)) (σ:St) (Q:Bool->Hp->Prop) (b:Bool) (s':Shared):Prop:=∃ H',Inv X pins σ H' s'/\Q b H'
def AP (X:Cx) (pins:List (Addr × Obj)) (σ:St) (Q:List V->Hp->Prop) (us:List Value) (s':Shared):Prop:=∃ vs H',Inv X pins σ H' s'/\Vals vs us/\Q vs H'
def SP (X:Cx) (pins:List (Addr × Obj)) (D:Ends) (f:Flow) (s':Shared):Prop :=
 match f with
 | .next=>∃ σ' H',Inv X pins σ' H' s'/\D.nx σ' H'
 | .brk=>∃ σ' H',Inv X pins σ' H' s'/\D.bk σ' H'
 | .cont=>∃ σ' H',Inv X pins σ' H' s'/\D.ct σ' H'
 | .ret u=>∃ v σ' H',Inv X pins σ' H' s'/\RelV v u/\D.rt v H'
def PE (X:Cx) (e:Expr) (t:TE):Prop :=
 ∀ (pins:List (Addr × Obj)) (s:Shared) (σ:St) (H:Hp) (Q:VK),Inv X pins σ H s->t σ H Q->wpAny (model X.prog X.w) X.A (eval e X.env) (EP X pins σ Q) X.xe s
def PT (X:Cx) (e:Expr) (t:TT):Prop :=
 ∀ (pins:List (Addr × Obj)) (s:Shared) (σ:St) (H:Hp) (Q:Bool->Hp->Prop),Inv X pins σ H s->t σ H Q->wpAny (model X.prog X.w) X.A (isTrue e X.env (eval e X.env)) (TP X pins σ Q) X.xe s
def PW (X:Cx) (e:Expr) (t:TT):Prop :=
 ∀ (whole:Sem Value) (pins:List (Addr × Obj)) (s:Shared) (σ:St) (H:Hp) (Q:Bool->Hp->Prop),Inv X pins σ H s->t σ H Q->wpAny (model X.prog X.w) X.A (isTrue e X.env whole) (TP X pins σ Q) X.xe s
theorem PW.pt {X:Cx}{e:Expr}{t:TT} (h:PW X e t):PT X e t:=h _
def PA (X:Cx) (es:List Expr) (t:TA):Prop :=
 ∀ (pos:Pos) (pins:List (Addr × Obj)) (s:Shared) (σ:St) (H:Hp) (Q:List V->Hp->Prop),Inv X pins σ H s->t σ H Q->wpAny (model X.prog X.w) X.A (spliced (backTo pos (starEach es X.env))) (AP X pins σ Q) X.xe s
def PS (X:Cx) (st:Stmt) (t:TS):Prop :=
 ∀ (pins:List (Addr × Obj)) (s:Shared) (σ:St) (H:Hp) (D:Ends),Inv X pins σ H s->t D σ H->wpAny (model X.prog X.w) X.A (exec st X.env) (SP X pins D) X.xe s
def PSs (X:Cx) (st:List Stmt) (t:TS):Prop :=
 ∀ (pins:List (Addr × Obj)) (s:Shared) (σ:St) (H:Hp) (D:Ends),Inv X pins σ H s->t D σ H->wpAny (model X.prog X.w) X.A (execs st X.env) (SP X pins D) X.xe s
theorem thn {α:Type}{t:Sem α}{Q Q':α->Shared->Prop}{M:Model}{A:Around}{E:Value->Shared->Prop}{s:Shared} (h:wpAny M A t Q E s) (hQ:∀ a s,Q a s->Q' a s):wpAny M A t Q' E s:=wpAny_mono h hQ fun _ _ x=>x
end L2
namespace L2
open PySem PySem.Spec PyProof.Rows
section
variable {X:Cx}
def tVar (i:Nat):TE:=fun σ H Q=>∃ v,σ[i]?=some (some v)/\Q v H
def tC (v:V):TE:=fun _ H Q=>Q v H
theorem Zk2 {i:Nat}{x:Str}{pos:Pos} (hN:X.N[i]?=some x) (hv:Vis X.env.scope x) (hd:(x == ("__debug__":Str))=false:=by decide) (hcd:(x == ("__classdict__":Str))=false:=by decide):PE X (.Name x pos) (tVar i):=by
 intro pins s σ H Q I h;obtain⟨v,e,h⟩:=h;obtain⟨m,hn,hl⟩:=I.loc;obtain⟨u,r,l⟩:=hl i x v hN e hv;have fin:EP X pins σ Q u s:=⟨v,H,I,r,h⟩
 rcases l with ⟨hk,hm⟩ | ⟨hk,c,hc,hcell⟩
 ·exact wpAny_Name (wpAny_loadName_local I.ok.kind hk hn hm fin) hd
 ·rcases hk with hk | hk
  ·exact wpAny_Name (wpAny_loadName_cell I.ok.kind hk hc hcell fin) hd
  ·exact wpAny_Name (wpAny_loadName_free I.ok.kind hk hc hcell fin hcd) hd
theorem Zaf {i j pos}:PE X (.Constant (.int i) j pos) (tC (.int i)):=fun _ _ _ H _ I h=>wpAny_Constant_int ⟨.int i,H,I.tok _,⟨_,rfl⟩,h⟩
theorem Zfc {b j pos}:PE X (.Constant (.bool b) j pos) (tC (.bl b)):=fun _ _ _ H _ I h=>Constant_bool ⟨.bl b,H,I,rfl,h⟩
theorem Zfb {j pos}:PE X (.Constant .none j pos) (tC .non):=fun _ _ _ H _ I h=>Constant_none ⟨.non,H,I,rfl,h⟩
def Gl (X:Cx) (x:Str):Prop:=X.env.kindOf x=some .globalImplicit
theorem ZiG {E:Value->Shared->Prop}{pins:List (Addr × Obj)}{s:Shared}{σ:St}{H:Hp}{x:Str}{u:Value}{pos:Pos}{Q:Value->Shared->Prop} (I:Inv X pins σ H s) (hg:Gl X x) (hm:X.mg x=some u) (h:Q u s)
  (hd:(x == ("__debug__":Str))=false:=by decide):wpAny (model X.prog X.w) X.A (eval (.Name x pos) X.env) Q E s :=
 YdU I.ok.kind hg (Calls.loadGlobal_global (by rw[I.ok.glob];exact I.mod.glob.keeps I.bk) hm h) hd
theorem Zd3 {E:Value->Shared->Prop}{pins:List (Addr × Obj)}{s:Shared}{σ:St}{H:Hp}{x:Str}{u:Value}{pos:Pos}{Q:Value->Shared->Prop} (I:Inv X pins σ H s) (hg:Gl X x) (hm:X.mg x=none) (hv:bootBuiltins x=some u) (h:Q u s)
  (hn:x≠"__name__":=by decide) (hd:(x == ("__debug__":Str))=false:=by decide):wpAny (model X.prog X.w) X.A (eval (.Name x pos) X.env) Q E s:=by
 obtain⟨mb,h1,h2⟩:=I.mod.blt;exact YdU I.ok.kind hg (Calls.loadGlobal_builtin (by rw[I.ok.glob];exact I.mod.glob.keeps I.bk) hm (by rw[I.ok.blt];exact h1.keeps I.bk) ((h2 x hn).trans hv) h) hd
theorem Zig {x:Str}{v:V}{u:Value}{pos:Pos} (hg:Gl X x) (hm:X.mg x=some u) (r:RelV v u) (hd:(x == ("__debug__":Str))=false:=by decide):PE X (.Name x pos) (tC v) :=
 fun _ _ _ H _ I h=>ZiG I hg hm ⟨v,H,I,r,h⟩ hd
theorem ZlN {x:Str}{v:V}{u:Value}{pos:Pos} (hg:Gl X x) (hm:X.mg x=none) (hv:bootBuiltins x=some u) (r:RelV v u) (hn:x≠"__name__":=by decide) (hd:(x == ("__debug__":Str))=false:=by decide):PE X (.Name x pos) (tC v) :=
 fun _ _ _ H _ I h=>Zd3 I hg hm hv ⟨v,H,I,r,h⟩ hn hd
variable {a b:Expr}{ta tb:TE}{pos:Pos}
def PC (X:Cx) (op:CmpOp) (a b:Expr) (t:TE):Prop :=
 ∀ (pins:List (Addr × Obj)) (s:Shared) (σ:St) (H:Hp) (Q:VK),Inv X pins σ H s->t σ H Q ->
  wpAny (model X.prog X.w) X.A (eval a X.env) (fun v s₁=>wpAny (model X.prog X.w) X.A (eval b X.env) (fun u s₂=>wpAny (model X.prog X.w) X.A (compareOp op v u) (EP X pins σ Q) X.xe s₂) X.xe s₁) X.xe s
theorem ZgM (b:Expr) {op:CmpOp} (h:op≠.In) (h2:op≠.NotIn):behindInMarks op b=false:=by
 have e1:(op == CmpOp.In)=false:=by cases op <;> first | rfl | exact absurd rfl h
 have e2:(op == CmpOp.NotIn)=false:=by cases op <;> first | rfl | exact absurd rfl h2
 cases b <;> simp[behindInMarks,e1,e2]
def tIsN (ta:TE):TE:=fun σ H Q=>ta σ H fun x H1=>Q (.bl (decide (x=.non))) H1
def ZnM (ta:TE):TE:=fun σ H Q=>ta σ H fun x H1=>Q (.bl (!decide (x=.non))) H1
theorem RelV.none_iff {x:V}{v:Value} (r:RelV x v):(v == Ycp)=decide (x=.non):=by
 cases x with
 | non=>cases r;rfl
 | bl _=>cases r;rfl
 | int _=>obtain⟨t,rfl⟩:=r;rfl
 | str _=>obtain⟨t,rfl⟩:=r;rfl
 | byt _=>obtain⟨t,rfl⟩:=r;rfl
 | flt _=>obtain⟨t,rfl⟩:=r;rfl
 | ref _=>cases r;rfl
 | ty _=>cases r;rfl
theorem Zk6 {j pos'} (ha:PE X a ta):PC X .Is a (.Constant .none j pos') (tIsN ta):=by
 intro pins s σ H Q I h;refine thn (ha pins s σ H _ I h) fun v s1 ⟨x,H1,I1,r1,q1⟩=>?_;exact Constant_none (is_none_gen ⟨.bl _,H1,I1,by rw[r1.none_iff];rfl,q1⟩)
theorem Zdg {j pos'} (ha:PE X a ta):PC X .IsNot a (.Constant .none j pos') (ZnM ta):=by
 intro pins s σ H Q I h;refine thn (ha pins s σ H _ I h) fun v s1 ⟨x,H1,I1,r1,q1⟩=>?_;exact Constant_none (isnot_none_gen ⟨.bl _,H1,I1,by rw[r1.none_iff];rfl,q1⟩)
def tB (t:TE):TT:=fun σ H Q=>t σ H fun x H1=>∃ c,x=.bl c/\Q c H1
theorem Zm2 {op:CmpOp}{t:TE} (h:PC X op a b t) (h1:behindInMarks op b=false:=by first | exact ZgM _ (by decide) (by decide) | rfl):PE X (.Compare a [op] [b] pos) t:=fun pins s σ H Q I hw=>wpAny_Compare1 (h pins s σ H Q I hw) h1
theorem ZdY {op:CmpOp}{t:TE} (h:PC X op a b t) (h1:behindInMarks op b=false:=by first | exact ZgM _ (by decide) (by decide) | rfl):PT X (.Compare a [op] [b] pos) (tB t):=by
 intro pins s σ H Q I hw;refine wpAny_isTrue_Compare1 (thn (h pins s σ H _ I hw) fun v s1 h1=>thn h1 fun u s2 h2=>thn h2 fun c s3 ⟨x,H1,I1,r1,q1⟩=>?_) h1;obtain⟨d,rfl,q⟩:=q1;cases r1;exact wpAny_truthy_bool ⟨H1,I1,q⟩
theorem Ze7 {e:Expr}{t:TE} (h:PE X e t) (he:∀ whole,isTrue e X.env whole=(do let v <- whole;standAt e.pos;holding [v] (truthy v)):=by intro _;rfl):PT X e (tB t):=by
 intro pins s σ H Q I hw;refine isTrue_plain (thn (h pins s σ H _ I hw) fun v s1 ⟨x,H1,I1,r1,q1⟩=>?_) (he _);obtain⟨d,rfl,q⟩:=q1;cases r1;exact wpAny_truthy_bool ⟨H1,I1,q⟩
variable {tA tB':TT}{rest:List Expr}
def tAnd (t u:TT):TT:=fun σ H Q=>t σ H fun c H1=>if c=true then u σ H1 Q else Q false H1
def tOr (t u:TT):TT:=fun σ H Q=>t σ H fun c H1=>if c=true then Q true H1 else u σ H1 Q
def tNot (t:TT):TT:=fun σ H Q=>t σ H fun c H1=>Q (!c) H1
theorem ZfZ (ha:PT X a tA):PW X (.BoolOp .And [a] pos) tA:=by
 intro wh pins s σ H Q I h;refine isTrue_and (thn (ha pins s σ H Q I h) fun c s1 e=>?_)
 cases c with
 | true=>exact isTrue_and_nil e
 | false=>exact e
theorem Zh4 (ha:PT X a tA):PW X (.BoolOp .Or [a] pos) tA:=by
 intro wh pins s σ H Q I h;refine isTrue_or (thn (ha pins s σ H Q I h) fun c s1 e=>?_)
 cases c with
 | false=>exact isTrue_or_nil e
 | true=>exact e
theorem Zh5 (ha:PT X a tA) (hb:PW X (.BoolOp .And (b::rest) pos) tB'):PW X (.BoolOp .And (a::b::rest) pos) (tAnd tA tB'):=by
 intro wh pins s σ H Q I h;refine isTrue_and (thn (ha pins s σ H _ I h) fun c s1 ⟨H1,I1,q1⟩=>?_)
 cases c with
 | true=>exact hb wh pins s1 σ H1 Q I1 q1
 | false=>exact⟨H1,I1,q1⟩
theorem ZlK (ha:PT X a tA) (hb:PW X (.BoolOp .Or (b::rest) pos) tB'):PW X (.BoolOp .Or (a::b::rest) pos) (tOr tA tB'):=by
 intro wh pins s σ H Q I h;refine isTrue_or (thn (ha pins s σ H _ I h) fun c s1 ⟨H1,I1,q1⟩=>?_)
 cases c with
 | true=>exact⟨H1,I1,q1⟩
 | false=>exact hb wh pins s1 σ H1 Q I1 q1
theorem ZdX (ha:PT X a tA):PT X (.UnaryOp .Not a pos) (tNot tA):=by
 intro pins s σ H Q I h;exact isTrue_not (ha pins s σ H (fun c H1=>Q (!c) H1) I h)
def ZnP (ta tb:TE):TE:=fun σ H Q=>ta σ H fun x H1=>∃ c,x=.bl c/\if c=true then tb σ H1 Q else Q (.bl false) H1
def ZnL (ta:TE):TE:=fun σ H Q=>ta σ H fun x H1=>∃ c,x=.bl c/\Q (.bl (!c)) H1
theorem Zk3 {op}{t:TE} (h:PE X a t):PE X (.BoolOp op [a] pos) t:=fun pins s σ H Q I hw=>BoolOp_one (h pins s σ H Q I hw)
theorem Zk5 (ha:PE X a ta) (hb:PE X (.BoolOp .And (b::rest) pos) tb):PE X (.BoolOp .And (a::b::rest) pos) (ZnP ta tb):=by
 intro pins s σ H Q I h;refine BoolOp_and (thn (ha pins s σ H _ I h) fun v s1 ⟨x,H1,I1,r1,q1⟩=>?_);obtain⟨c,rfl,q1⟩:=q1;cases r1;refine wpAny_truthy_bool ?_
 cases c with
 | true=>exact hb pins s1 σ H1 Q I1 q1
 | false=>exact⟨.bl false,H1,I1,rfl,q1⟩
theorem Zif (ha:PE X a ta):PE X (.UnaryOp .Not a pos) (ZnL ta):=by
 intro pins s σ H Q I h;refine UnaryOp_ (thn (ha pins s σ H _ I h) fun v s1 ⟨x,H1,I1,r1,q1⟩=>?_);obtain⟨c,rfl,q1⟩:=q1;cases r1;exact not_of (wpAny_truthy_bool ⟨.bl (!c),H1,I1,rfl,q1⟩)
def tIf (t:TT) (ta tb:TE):TE:=fun σ H Q=>t σ H fun c H1=>if c=true then ta σ H1 Q else tb σ H1 Q
theorem Zj2 {c:Expr} (hc:PT X c tA) (ha:PE X a ta) (hb:PE X b tb):PE X (.IfExp c a b pos) (tIf tA ta tb):=by
 intro pins s σ H Q I h;refine wpAny_IfExp (thn (hc pins s σ H _ I h) fun d s1 ⟨H1,I1,q1⟩=>?_)
 cases d with
 | true=>exact ha pins s1 σ H1 Q I1 q1
 | false=>exact hb pins s1 σ H1 Q I1 q1
end
end L2
namespace L2
open PySem PySem.Spec PyProof.Rows
def SqL (K:Yae) (H:Hp) (a:Addr) (xs:List V):Prop :=
 Rd H a (.lst xs) ∨
  ∃ (o:Obj) (its:Array Value) (n:Nat),K.lookup a=some o/\o.cls=.type "list"/\o.dict=none/\o.data=.seq its n/\its.size<=sizeLine/\Vals xs its.toList
def SqT (K:Yae) (H:Hp) (a:Addr) (xs:List V):Prop :=
 Rd H a (.tup xs) ∨
  ∃ (o:Obj) (its:Array Value) (n:Nat),K.lookup a=some o/\o.cls=.type "tuple"/\o.data=.seq its n/\its.size<=sizeLine/\Vals xs its.toList
def absV:Value->Option V
 | .none=>some .non
 | .bool b=>some (.bl b)
 | .int i _=>some (.int i)
 | .str x _=>some (.str x)
 | .bytes b _=>some (.byt b)
 | .float b _=>some (.flt b)
 | .ref a=>some (.ref a)
 | .type n=>some (.ty n)
 | _=>none
theorem RelV.abs {x:V}{u:Value} (r:RelV x u):absV u=some x:=by
 cases x with
 | non=>cases r;rfl
 | bl _=>cases r;rfl
 | int _=>obtain⟨t,rfl⟩:=r;rfl
 | str _=>obtain⟨t,rfl⟩:=r;rfl
 | byt _=>obtain⟨t,rfl⟩:=r;rfl
 | flt _=>obtain⟨t,rfl⟩:=r;rfl
 | ref _=>cases r;rfl
 | ty _=>cases r;rfl
theorem RelV.inj {x y:V}{u:Value} (r:RelV x u) (q:RelV y u):x=y:=Yax (r.abs.symm.trans q.abs)
theorem Vals.inj:∀ {xs ys:List V}{us:List Value},Vals xs us->Vals ys us->xs=ys
 | _,_,_,.nil,.nil=>rfl
 | _,_,_,.cons r t,.cons r' t'=>by rw[r.inj r',Vals.inj t t']
section
variable {X:Cx}{pins:List (Addr × Obj)}{σ:St}{H:Hp}{s:Shared}{a:Addr}{xs ys:List V}
theorem SqL.of {K:Yae} (h:H a=some (.lst xs)):SqL K H a xs:=.inl (.inl h)
theorem SqT.of {K:Yae} (h:H a=some (.tup xs)):SqT K H a xs:=.inl (.inl h)
theorem Inv.list (I:Inv X pins σ H s) (h:SqL X.K H a xs):∃ its:List Value,Vals xs its/\PlainL s.heap a its.toArray/\xs.length<=sizeLine:=by
 rcases h with h | ⟨o,its,n,hk,hc,hd,hs,hz,r⟩
 ·obtain⟨z,its,n,r,e⟩:=h.ok I.hok;exact⟨its,r,⟨_,n,e,rfl,rfl,rfl⟩,z⟩
 ·refine⟨its.toList,r,⟨o,n,I.kIn a o hk,hc,hd,by simpa using hs⟩,?_⟩;have e:=r.length;simp only[YaZ] at e;omega
theorem Inv.tuple (I:Inv X pins σ H s) (h:SqT X.K H a xs):∃ its:List Value,Vals xs its/\IsTup s.heap a its.toArray/\xs.length<=sizeLine:=by
 rcases h with h | ⟨o,its,n,hk,hc,hs,hz,r⟩
 ·obtain⟨z,its,r,p⟩:=h.ok I.hok;exact⟨its,r,p.tup,z⟩
 ·refine⟨its.toList,r,⟨o,I.kIn a o hk,hc,n,by simpa using hs⟩,?_⟩;have e:=r.length;simp only[YaZ] at e;omega
theorem Inv.list_inj (I:Inv X pins σ H s) (h:SqL X.K H a xs) (h':SqL X.K H a ys):xs=ys:=by
 obtain⟨its,r,⟨o,n,e,_,_,d⟩,_⟩:=I.list h;obtain⟨its',r',⟨o',n',e',_,_,d'⟩,_⟩:=I.list h';rw[e] at e';cases e';rw[d] at d';injection d' with d1 _;have:its=its':=by simpa using congrArg Array.toList d1
 subst this;exact r.inj r'
theorem Inv.tuple_inj (I:Inv X pins σ H s) (h:SqT X.K H a xs) (h':SqT X.K H a ys):xs=ys:=by
 obtain⟨its,r,⟨o,e,_,n,d⟩,_⟩:=I.tuple h;obtain⟨its',r',⟨o',e',_,n',d'⟩,_⟩:=I.tuple h';rw[e] at e';cases e';rw[d] at d';injection d' with d1 _;have:its=its':=by simpa using congrArg Array.toList d1
 subst this;exact r.inj r'
end
abbrev Cx.wish (X:Cx) (E:Value->Shared->Prop):Cx:={ X with xe:=E }
abbrev Cx.nox (X:Cx):Cx:=X.wish fun _ _=>False
theorem Cx.Ok.wish {X:Cx} (ok:X.Ok) (E:Value->Shared->Prop):(X.wish E).Ok :=
 ⟨ok.mod,ok.kind,ok.glob,ok.blt,ok.above,ok.inj,ok.has,ok.cab,ok.hd,ok.frames,ok.stk,ok.exf,ok.bs,ok.bsz,ok.noex,ok.exfs,ok.funs,ok.frf⟩
theorem Cx.Ok.unwish {X:Cx}{E:Value->Shared->Prop} (ok:(X.wish E).Ok):X.Ok :=
 ⟨ok.mod,ok.kind,ok.glob,ok.blt,ok.above,ok.inj,ok.has,ok.cab,ok.hd,ok.frames,ok.stk,ok.exf,ok.bs,ok.bsz,ok.noex,ok.exfs,ok.funs,ok.frf⟩
section
variable {X:Cx}{pins:List (Addr × Obj)}{σ:St}{H:Hp}{s:Shared}{E:Value->Shared->Prop}
theorem Inv.wish (I:Inv X pins σ H s) (E:Value->Shared->Prop):Inv (X.wish E) pins σ H s:=⟨I.ok.wish E,I.os,I.bare,I.base,I.loc,I.cell,I.free,I.freeC,I.pin,I.hok,I.len⟩
theorem Inv.unwish (I:Inv (X.wish E) pins σ H s):Inv X pins σ H s:=⟨I.ok.unwish,I.os,I.bare,I.base,I.loc,I.cell,I.free,I.freeC,I.pin,I.hok,I.len⟩
theorem SP.unwish {D:Ends}{f:Flow}{s':Shared} (h:SP (X.wish E) pins D f s'):SP X pins D f s':=by
 cases f with
 | next=>obtain⟨σ',H',I,q⟩:=h;exact⟨σ',H',I.unwish,q⟩
 | brk=>obtain⟨σ',H',I,q⟩:=h;exact⟨σ',H',I.unwish,q⟩
 | cont=>obtain⟨σ',H',I,q⟩:=h;exact⟨σ',H',I.unwish,q⟩
 | ret u=>obtain⟨v,σ',H',I,r,q⟩:=h;exact⟨v,σ',H',I.unwish,r,q⟩
theorem PSs.nox {st:List Stmt}{t:TS} (h:PSs X.nox st t):PSs X st t:=fun pins s σ H D I hw=>
 wpAny_mono (h pins s σ H D (I.wish _) hw) (fun _ _ q=>q.unwish) fun _ _ z=>Yct z
end
section
variable {X:Cx}{st:Stmt}{rest:List Stmt}{t u:TS}{e:Expr}{te:TE}{pos:Pos}
def ZmG:TS:=fun D σ H=>D.nx σ H
def tSeq (t u:TS):TS:=fun D σ H=>t { D with nx:=u D } σ H
theorem ZcD:PSs X [] ZmG:=fun _ _ σ H _ I h=>wpAny_execs_nil ⟨σ,H,I,h⟩
theorem Zal (h1:PS X st t) (h2:PSs X rest u):PSs X (st::rest) (tSeq t u):=by
 intro pins s σ H D I h;refine wpAny_execs_cons (thn (h1 pins s σ H { D with nx:=u D } I h) fun f s1 q=>?_)
 cases f with
 | next=>
  obtain⟨σ',H',I',q⟩:=q;exact h2 pins s1 σ' H' D I' q
 | ret v=>exact q
 | brk=>exact q
 | cont=>exact q
theorem Zaq (h1:PS X st t):PSs X [st] t:=by
 intro pins s σ H D I h;refine wpAny_execs_cons (thn (h1 pins s σ H D I h) fun f s1 q=>?_)
 cases f with
 | next=>exact wpAny_execs_nil q
 | ret v=>exact q
 | brk=>exact q
 | cont=>exact q
theorem Inv.quiet {pins:List (Addr × Obj)}{σ:St}{H:Hp}{s:Shared} (I:Inv X pins σ H s):interactive X.env=false:=by simp[interactive,I.ok.kind]
def ZnN (te:TE):TS:=fun D σ H=>te σ H fun _ H1=>D.nx σ H1
theorem Za3 (he:PE X e te) (hs:swapsWith e none pos.line X.env=pure false:=by rfl):PS X (.Expr e pos) (ZnN te):=by
 intro pins s σ H D I h;exact wpAny_Expr_any (thn (he pins s σ H _ I h) fun v s1 ⟨x,H1,I1,r1,q1⟩=>⟨σ,H1,I1,q1⟩) I.quiet hs
def tRet (te:TE):TS:=fun D σ H=>te σ H D.rt
theorem Zay (he:PE X e te):PS X (.Return (some e) pos) (tRet te):=by
 intro pins s σ H D I h;exact wpAny_Return_some (thn (he pins s σ H _ I h) fun v s1 ⟨x,H1,I1,r1,q1⟩=>⟨x,σ,H1,I1,r1,q1⟩)
def tIfS (c:TT) (t u:TS):TS:=fun D σ H=>c σ H fun b H1=>if b=true then t D σ H1 else u D σ H1
theorem Zhd {c:Expr}{a b:List Stmt}{tc:TT} (hc:PT X c tc) (ha:PSs X a t) (hb:PSs X b u):PS X (.If c a b pos) (tIfS tc t u):=by
 intro pins s σ H D I h;refine wpAny_If (thn (hc pins s σ H _ I h) fun d s1 ⟨H1,I1,q1⟩=>?_)
 cases d with
 | true=>exact ha pins s1 σ H1 D I1 q1
 | false=>exact hb pins s1 σ H1 D I1 q1
def ZmH:TS:=fun _ _ _=>False
theorem ZaT {sts:List Stmt}:PSs X sts ZmH:=fun _ _ _ _ _ _ h=>h.elim
end
abbrev TG:=V->St->Hp->(St->Hp->Prop)->Prop
abbrev TGs:=List V->St->Hp->(St->Hp->Prop)->Prop
def PG (X:Cx) (target:Expr) (t:TG):Prop :=
 ∀ (pins:List (Addr × Obj)) (s:Shared) (σ:St) (H:Hp) (v:V) (u:Value) (Q:St->Hp->Prop),Inv X pins σ H s->RelV v u->t v σ H Q ->
  wpAny (model X.prog X.w) X.A (assign target X.env u) (fun _ s'=>∃ σ' H',Inv X pins σ' H' s'/\Q σ' H') X.xe s
def PGs (X:Cx) (ts:List Expr) (t:TGs):Prop :=
 ∀ (pins:List (Addr × Obj)) (s:Shared) (σ:St) (H:Hp) (vs:List V) (us:List Value) (Q:St->Hp->Prop),Inv X pins σ H s->Vals vs us->t vs σ H Q ->
  wpAny (model X.prog X.w) X.A (assignInOrder ((assignEach ts X.env).map (·.2)) us) (fun _ s'=>∃ σ' H',Inv X pins σ' H' s'/\Q σ' H') X.xe s
abbrev TSet:=V->V->V->Hp->(Hp->Prop)->Prop
def PSet (X:Cx) (t:TSet):Prop :=
 ∀ (pins:List (Addr × Obj)) (s:Shared) (σ:St) (H:Hp) (o i v:V) (ov iv u:Value) (Q:Hp->Prop),Inv X pins σ H s->RelV o ov->RelV i iv->RelV v u->t o i v H Q ->
  wpAny (model X.prog X.w) X.A (setItem ov iv u) (fun _ s'=>∃ H',Inv X pins σ H' s'/\Q H') X.xe s
abbrev TIp:=V->V->Hp->VK->Prop
def PIp (X:Cx) (op:Operator) (t:TIp):Prop :=
 ∀ (pins:List (Addr × Obj)) (s:Shared) (σ:St) (H:Hp) (x y:V) (v u:Value) (Q:VK),Inv X pins σ H s->RelV x v->RelV y u->t x y H Q ->
  wpAny (model X.prog X.w) X.A (inplaceOp op v u) (EP X pins σ Q) X.xe s
section
variable {X:Cx}{pos:Pos}
def ZcS (i:Nat):TG:=fun v σ H Q=>Q (σ.set i (some v)) H
theorem Zah {i:Nat}{x:Str} (hN:X.N.Nodup) (hi:X.N[i]?=some x) (hx:Loc X.env.scope x) (hf:X.fn x=true∨X.env.scope.names.lookup x=some .local:=by first | exact .inl rfl | exact .inr rfl | assumption):PG X (.Name x pos) (ZcS i):=by
 intro pins s σ H v u Q I r h;exact wpAny_assign_Name (Zee I hN hi hx r (fun s' I'=>⟨_,H,I',h⟩) hf)
def gNil:TGs:=fun vs σ H Q=>vs=[]/\Q σ H
def Zmg (t:TG) (u:TGs):TGs:=fun vs σ H Q=>∃ v r,vs=v::r/\t v σ H fun σ' H'=>u r σ' H' Q
theorem Za5:PGs X [] gNil:=by
 intro pins s σ H vs us Q I r h;obtain⟨e,h⟩:=h;subst e;cases r;exact assignInOrder_nil ⟨σ,H,I,h⟩
theorem Zas {e:Expr}{es:List Expr}{t:TG}{u:TGs} (h1:PG X e t) (h2:PGs X es u)
  (hs:(assignEach (e::es) X.env).map (·.2)=assign e X.env::(assignEach es X.env).map (·.2):=by rfl):PGs X (e::es) (Zmg t u):=by
 intro pins s σ H vs us Q I r h;obtain⟨v,vr,e1,h⟩:=h;subst e1
 cases r with
 | cons r rr=>
  rw[hs];refine assignInOrder_cons (thn (h1 pins s σ H _ _ _ I r h) fun _ s1 ⟨σ1,H1,I1,q1⟩=>?_);exact h2 pins s1 σ1 H1 _ _ Q I1 rr q1
def gTup (K:Yae) (n:Nat) (t:TGs):TG:=fun v σ H Q=>∃ a xs,v=.ref a/\SqT K H a xs/\xs.length=n/\t xs σ H Q
theorem Zb2 {es:List Expr}{k:Nat}{t:TGs}{n:Nat} (hc:X.calm=true) (h:PGs X es t)
  (hn:(assignEach es X.env).length=n:=by rfl) (hst:(assignEach es X.env).findIdx? (·.1)=none:=by rfl):PG X (.Tuple es k pos) (gTup X.K n t):=by
 intro pins s σ H v u Q I r hw;obtain⟨a,xs,e1,hq,hl,hw⟩:=hw;subst e1;cases r;obtain⟨its,rv,ht,hz⟩:=I.tuple hq;refine assign_Tuple_tuple (I.ok.hd hc) ht (by simp[hn,<- hl,rv.length]) hst fun h' hx=>?_;have I1:Inv X pins σ H { s with heap:=h' }:=I.kept (t':=s.toks) fun b o e=>hx b o (YaB (Yai e)) e;exact h pins _ σ H xs _ Q I1 (by simpa using rv) hw
def gSub (to ti:TE) (t:TSet):TG:=fun v σ H Q=>to σ H fun o H1=>ti σ H1 fun i H2=>t o i v H2 fun H3=>Q σ H3
theorem ZgG {o i:Expr}{to ti:TE}{t:TSet} (ho:PE X o to) (hi:PE X i ti) (hs:PSet X t)
  (ha:∀ v,assign (.Subscript o i pos) X.env v=(do
   let ov <- holding [v] (eval o X.env)
   let iv <- holding [v,ov] (eval i X.env)
   standAt pos
   holding [v,ov,iv] (setItem ov iv v)
   release [v,ov,iv] []):=by intro _;rfl):PG X (.Subscript o i pos) (gSub to ti t):=by
 intro pins s σ H v u Q I r h;rw[ha];refine wpAny_bind (wpAny_holding (thn (ho pins s σ H _ I h) fun ov s1 ⟨x,H1,I1,r1,q1⟩=>?_));refine wpAny_bind (wpAny_holding (thn (hi pins s1 σ H1 _ I1 q1) fun iv s2 ⟨y,H2,I2,r2,q2⟩=>?_));refine wpAny_bind (wpAny_standAt (wpAny_bind (wpAny_holding (thn (hs pins s2 σ H2 x y v ov iv u _ I2 r1 r2 r q2) fun _ s3 ⟨H3,I3,q3⟩=>?_))));exact wpAny_release ⟨σ,H3,I3,q3⟩
def tAsg (te:TE) (g:TG):TS:=fun D σ H=>te σ H fun x H1=>g x σ H1 D.nx
theorem Zb1 {tg e:Expr}{te:TE}{g:TG} (he:PE X e te) (hg:PG X tg g) (hs:swapsWithSole [tg] e pos.line X.env=pure false:=by rfl) (hw:swappedStores [tg] e X.env=pure none:=by rfl)
  (h1:(assignEach [tg] X.env).map (·.2)=[assign tg X.env]:=by rfl):PS X (.Assign [tg] e pos) (tAsg te g):=by
 intro pins s σ H D I h;refine wpAny_Assign_stores (thn (he pins s σ H _ I h) fun v s1 ⟨x,H1,I1,r1,q1⟩=>?_) hs hw;rw[h1];exact thn (hg pins s1 σ H1 x v _ I1 r1 q1) fun _ s2 q=>q
theorem Zar {i:Nat}{x:Str}{e:Expr}{te:TE}{pos':Pos} (hN:X.N.Nodup) (hi:X.N[i]?=some x) (hx:Loc X.env.scope x) (he:PE X e te) (hs:swapsWith e (some (.Name x pos')) pos.line X.env=pure false:=by rfl) (hf:X.fn x=true∨X.env.scope.names.lookup x=some .local:=by first | exact .inl rfl | exact .inr rfl | assumption) :
  PS X (.Assign [.Name x pos'] e pos) (tAsg te (ZcS i)):=by
 intro pins s σ H D I h;refine wpAny_Assign_Name (thn (he pins s σ H _ I h) fun v s1 ⟨y,H1,I1,r1,q1⟩=>?_) hs;exact Zee I1 hN hi hx r1 (fun s2 I2=>⟨_,H1,I2,q1⟩) hf
def tAug (i:Nat) (te:TE) (ti:TIp):TS:=fun D σ H=>∃ x,σ[i]?=some (some x)/\te σ H fun y H1=>ti x y H1 fun z H2=>D.nx (σ.set i (some z)) H2
theorem ZkZ {i:Nat}{x:Str}{e:Expr}{te:TE}{op:Operator}{ti:TIp}{pos':Pos} (hN:X.N.Nodup) (hi:X.N[i]?=some x) (hx:Loc X.env.scope x) (he:PE X e te) (ho:PIp X op ti) (hf:X.fn x=true∨X.env.scope.names.lookup x=some .local:=by first | exact .inl rfl | exact .inr rfl | assumption) :
  PS X (.AugAssign (.Name x pos') op e pos) (tAug i te ti):=by
 intro pins s σ H D I h;obtain⟨v,e1,h⟩:=h;obtain⟨m,hn,hl⟩:=I.loc;have vis:Vis X.env.scope x:=by rcases hx with k | k;exact .inl k;exact .inr (.inl k)
 obtain⟨u,r,l⟩:=hl i x v hi e1 vis;refine wpAny_AugAssign_Name ?_;have go:wpAny (model X.prog X.w) X.A (eval e X.env) (fun w s₂=>wpAny (model X.prog X.w) X.A (inplaceOp op u w) (fun r s₃=>wpAny (model X.prog X.w) X.A (storeName X.env x r) (fun _=>SP X pins D .next) X.xe s₃) X.xe s₂) X.xe s:=by
  refine thn (he pins s σ H _ I h) fun w s1 ⟨y,H1,I1,r1,q1⟩=>?_;refine thn (ho pins s1 σ H1 v y u w _ I1 r r1 q1) fun z s2 ⟨zv,H2,I2,r2,q2⟩=>?_;exact Zee I2 hN hi hx r2 (fun s3 I3=>⟨_,H2,I3,q2⟩) hf
 rcases l with ⟨hk,hm⟩ | ⟨hk,c,hc,hcell⟩
 ·exact wpAny_loadName_local I.ok.kind hk hn hm go
 ·rcases hk with hk | hk
  ·exact wpAny_loadName_cell I.ok.kind hk hc hcell go
  ·rcases hx with k | k
   ·have:X.env.scope.names.lookup x=some .free:=hk;rw[k] at this;cases this
   ·have:X.env.scope.names.lookup x=some .free:=hk;rw[k] at this;cases this
def ipI (f:Int->Int->Int):TIp:=fun x y H Q=>∃ i j,x=.int i/\y=.int j/\Q (.int (f i j)) H
theorem Zlb:PIp X .Add (ipI fun i j=>i+j):=by
 intro pins s σ H x y v u Q I r1 r2 h;obtain⟨i,j,e1,e2,q⟩:=h;subst e1;subst e2;obtain⟨t,rfl⟩:=r1;obtain⟨t',rfl⟩:=r2;exact iadd_int ⟨.int _,H,I.tok _,⟨_,rfl⟩,q⟩
end
section
variable {X:Cx}{pos:Pos}
def ZmD (c:TT) (tb:TS):TS:=fun D σ H=>∃ W:Nat->St->Hp->Prop,(∃ m,W m σ H)/\∀ m σ H,W m σ H ->
 c σ H fun b H1=>if b=true then ∃ N:St->Hp->Prop,(∀ σ' H',N σ' H'->∃ m',m'<m/\W m' σ' H')/\tb { D with nx:=N,ct:=N,bk:=D.nx } σ H1 else D.nx σ H1
theorem ZjW {c:Expr}{body:List Stmt}{tc:TT}{tb:TS} (hp:PassesOwn (model X.prog X.w) X.A X.env X.xe) (hc:PT X c tc) (hb:PSs X body tb):PS X (.While c body [] pos) (ZmD tc tb):=by
 intro pins s σ H D I h;obtain⟨W,⟨m0,w0⟩,turn⟩:=h;refine wpAny_While (codeAny_whileLoop (fun n s'=>∃ σ' H',Inv X pins σ' H' s'/\W n σ' H') ?_ m0 ⟨σ,H,I,w0⟩);rintro n s1 ⟨σ1,H1,I1,w1⟩;refine wpAny_passesOwn hp (thn (hc pins s1 σ1 H1 _ I1 (turn n σ1 H1 w1)) fun b s2 ⟨H2,I2,q2⟩=>?_)
 cases b with
 | true=>
  obtain⟨N,hN,q2⟩:=q2;rw[if_pos rfl];refine wpAny_passesOwn hp (thn (hb pins s2 σ1 H2 _ I2 q2) fun f s3 q3=>?_)
  cases f with
  | next=>
   obtain⟨σ3,H3,I3,n3⟩:=q3;obtain⟨m',hm,w3⟩:=hN σ3 H3 n3;exact⟨m',hm,σ3,H3,I3,w3⟩
  | cont=>
   obtain⟨σ3,H3,I3,n3⟩:=q3;obtain⟨m',hm,w3⟩:=hN σ3 H3 n3;exact⟨m',hm,σ3,H3,I3,w3⟩
  | brk=>exact q3
  | ret v=>exact q3
 | false=>
  rw[if_neg YaE];exact wpAny_execs_nil ⟨σ1,H2,I2,q2⟩
end
structure It where
 go:Nat->Hp->Prop
 yld:Nat->Hp->V->Hp->Prop
 stop:Nat->Hp->Prop
def FpOk (X:Cx) (pins:List (Addr × Obj)) (H:Hp) (b:Addr):Prop :=
 H b=none/\b≠X.env.locals/\b ∉ X.fs/\(b∈X.ex∨X.s₀.heap.objs.size<=b)/\(∀ x c,X.env.cells.lookup x=some c->c≠b)/\∀ p∈X.pn++pins,p.1≠b
theorem Inv.fpOk {X:Cx}{pins:List (Addr × Obj)}{σ:St}{H H':Hp}{s:Shared}{b:Addr} (I:Inv X pins σ H s) (hb:s.heap.objs.size<=b) (hn:H' b=none):FpOk X pins H' b:=by
 refine⟨hn,Ybx (Yaj I.lt hb),I.nofs hb,.inr (Ybj I.sz hb),fun x c e z=>?_,fun p hp z=>?_⟩
 ·obtain⟨v,q⟩:=I.cell x c e;exact absurd (Yaj q.lt (by rw[z];exact hb)) (Yba _)
 ·exact absurd (Yaj (Yai (I.pin p hp).1) (by rw[z];exact hb)) (Yba _)
structure Turn (P:Program) (w:World) (K:Yae) (tg:Expr) (J:It) (fp:List Addr) (it:Addr) (tn:Nat->Heap->Prop):Prop where
 mem:it∈fp
 obj:∀ i h,tn i h->∀ b∈fp,∃ o,h.get? b=some o/\∀ v,o.data≠.cell v
 keep:∀ i h h',tn i h->(∀ b∈fp,∀ o,h.get? b=some o->h'.get? b=some o)->tn i h'
 item:∀ (X:Cx),X.prog=P->X.w=w->X.K=K->X.calm=true->∀ (i:Nat) (pins:List (Addr × Obj)) (s:Shared) (σ:St) (H:Hp) (E:Value->Shared->Prop),Inv X pins σ H s->(∀ b∈fp,FpOk X pins H b)->tn i s.heap->J.go i H ->
  wpAny (model P w) X.A (pyNext (.ref it)) (fun r s1=>∃ u,r=some u /\
   wpAny (model P w) X.A (letOwnedTupleGo tg (.ref it) u) (fun _ s2=>∃ x H',Inv X pins σ H' s2/\RelV x u/\J.yld i H x H'/\tn (i+1) s2.heap/\∀ b∈fp,H' b=none) E s1) E s
 done:∀ (X:Cx),X.prog=P->X.w=w->X.K=K->X.calm=true->∀ (i:Nat) (pins:List (Addr × Obj)) (s:Shared) (σ:St) (H:Hp) (E:Value->Shared->Prop),Inv X pins σ H s->(∀ b∈fp,FpOk X pins H b)->tn i s.heap->J.stop i H ->
  wpAny (model P w) X.A (pyNext (.ref it)) (fun r s1=>r=none/\Inv X pins σ H s1) E s
 self:∀ (A:Around) (i:Nat) (s:Shared) (Q:Value->Shared->Prop) (E:Value->Shared->Prop),tn i s.heap->Q (.ref it) s->wpAny (model P w) A (pyIter (.ref it)) Q E s
abbrev TI:=St->Hp->(It->Hp->Prop)->Prop
def PIE (X:Cx) (pins:List (Addr × Obj)) (σ:St) (tg:Expr) (R:It->Hp->Prop) (itv:Value) (s2:Shared):Prop :=
 ∃ (it:Addr) (fp:List Addr) (tn:Nat->Heap->Prop) (J:It) (H':Hp),itv=.ref it/\Inv X pins σ H' s2/\Turn X.prog X.w X.K tg J fp it tn/\tn 0 s2.heap/\(∀ b∈fp,FpOk X pins H' b)/\R J H'
def PI (X:Cx) (tg iter:Expr) (wi:TI):Prop :=
 ∀ (pins:List (Addr × Obj)) (s:Shared) (σ:St) (H:Hp) (R:It->Hp->Prop),Inv X pins σ H s->wi σ H R ->
  wpAny (model X.prog X.w) X.A (eval iter X.env) (fun v s1=>wpAny (model X.prog X.w) X.A (pyIter v) (PIE X pins σ tg R) X.xe s1) X.xe s
theorem Zmf {M:Model}{A:Around}{E:Value->Shared->Prop}{s:Shared}{tg:Expr}{it:Addr}{u:Value}{o:Obj}{n:String}{vs:Array Value}{Q:Unit->Shared->Prop} (ho:s.heap.get? it=some o) (hc:o.cls=.type n) (hd:o.data=.fields vs)
    (hn:["enumerate","zip","dict_itemiterator","dict_reverseitemiterator","odict_iterator","itertools.zip_longest","itertools.pairwise"].contains n=false) (hQ:Q () s):wpAny M A (letOwnedTupleGo tg (.ref it) u) Q E s:=by
  unfold letOwnedTupleGo;cases tg <;> first
    | exact wpAny_pure hQ
    | (cases u <;> first
        | exact wpAny_pure hQ
        | (refine wpAny_bind (wpAny_load ho ?_)
           rw[hc,hd];show wpAny M A (if (["enumerate","zip","dict_itemiterator","dict_reverseitemiterator","odict_iterator","itertools.zip_longest","itertools.pairwise"].contains n && vs[0]? == some (rawInt _))=true then _ else _) Q E s;rw[if_neg (by intro h;rw[hn,Bool.false_and] at h;cases h)];exact wpAny_pure hQ))
def Itl (K:Yae) (a:Addr):It :=
 ⟨fun i H=>∃ xs x,SqL K H a xs/\xs[i]?=some x,fun i H x H'=>H'=H/\∀ xs,SqL K H a xs->xs[i]?=some x,fun i H=>∃ xs,SqL K H a xs/\xs.length<=i⟩
def Itt (K:Yae) (a:Addr):It :=
 ⟨fun i H=>∃ xs x,SqT K H a xs/\xs[i]?=some x,fun i H x H'=>H'=H/\∀ xs,SqT K H a xs->xs[i]?=some x,fun i H=>∃ xs,SqT K H a xs/\xs.length<=i⟩
def Itr (lo:Int) (n:Nat):It:=⟨fun i _=>i<n,fun i H x H'=>H'=H/\x=.int (lo+i),fun i _=>n<=i⟩
theorem ZeZ {P:Program}{w:World}{K:Yae}{tg:Expr} (a it:Addr):Turn P w K tg (Itl K a) [it] it (fun i h=>h.IsListIter it a i) where
 mem:=by simp
 obj:=fun i h st b hb=>by
  have e:b=it:=by simpa using hb
  subst e;obtain⟨o,e,c,d⟩:=st;exact⟨o,e,fun v z=>by rw[d] at z;cases z⟩
 keep:=fun i h h' st k=>st.at fun o e=>k it (by simp) o e
 item:=by
  intro X hP hw hK hc i pins s σ H E I hf st hg;subst hP hw hK;obtain⟨xs,x,hq,hx⟩:=hg;obtain⟨its,rv,p,hz⟩:=I.list hq;obtain⟨u,hu,ru⟩:=rv.get hx;obtain⟨f0,f1,f2,f3,f4,f5⟩:=hf it (by simp);refine wpAny_pyNext_list_item st p.isList (x:=u) (by simpa using hu) fun h' st' sb=>?_;have I1:Inv X pins σ H { s with heap:=h' }:=I.turned (t':=s.toks) (fun b o hb e=>(sb.2 b hb).trans e) f0 f1 f3 f4 f5;obtain⟨o,e,c,d⟩:=id st';exact⟨u,rfl,Zmf (s:={ s with heap:=h' }) e c d (by decide) ⟨x,H,I1,ru,⟨rfl,fun ys hy=>by rw[I.list_inj hy hq];exact hx⟩,st',fun b hb=>(hf b hb).1⟩⟩
 done:=by
  intro X hP hw hK hc i pins s σ H E I hf st hg;subst hP hw hK;obtain⟨xs,hq,hx⟩:=hg;obtain⟨its,rv,p,hz⟩:=I.list hq;obtain⟨f0,f1,f2,f3,f4,f5⟩:=hf it (by simp);have hl:=rv.length;exact wpAny_pyNext_list_end (I.ok.hd hc) st p.isList (by simp;(clear f3 f2 f1 hz;omega)) fun h' eb=>⟨rfl,I.turned (t':=s.toks) (fun b o hb e=>eb b o hb e) f0 f1 f3 f4 f5⟩
 self:=fun _ _ _ _ _ st h=>wpAny_pyIter_listiter st h
theorem ZdH {P:Program}{w:World}{K:Yae}{tg:Expr} (a it:Addr):Turn P w K tg (Itt K a) [it] it (fun i h=>h.IsTupleIter it a i) where
 mem:=by simp
 obj:=fun i h st b hb=>by
  have e:b=it:=by simpa using hb
  subst e;obtain⟨o,e,c,d⟩:=st;exact⟨o,e,fun v z=>by rw[d] at z;cases z⟩
 keep:=fun i h h' st k=>st.at fun o e=>k it (by simp) o e
 item:=by
  intro X hP hw hK hc i pins s σ H E I hf st hg;subst hP hw hK;obtain⟨xs,x,hq,hx⟩:=hg;obtain⟨its,rv,p,hz⟩:=I.tuple hq;obtain⟨u,hu,ru⟩:=rv.get hx;obtain⟨f0,f1,f2,f3,f4,f5⟩:=hf it (by simp);refine wpAny_pyNext_tuple_item st (show s.heap.IsTuple a its.toArray from p) (x:=u) (by simpa using hu) fun h' st' sb=>?_;have I1:Inv X pins σ H { s with heap:=h' }:=I.turned (t':=s.toks) (fun b o hb e=>(sb.2 b hb).trans e) f0 f1 f3 f4 f5;obtain⟨o,e,c,d⟩:=id st';exact⟨u,rfl,Zmf (s:={ s with heap:=h' }) e c d (by decide) ⟨x,H,I1,ru,⟨rfl,fun ys hy=>by rw[I.tuple_inj hy hq];exact hx⟩,st',fun b hb=>(hf b hb).1⟩⟩
 done:=by
  intro X hP hw hK hc i pins s σ H E I hf st hg;subst hP hw hK;obtain⟨xs,hq,hx⟩:=hg;obtain⟨its,rv,p,hz⟩:=I.tuple hq;obtain⟨f0,f1,f2,f3,f4,f5⟩:=hf it (by simp);have hl:=rv.length;exact wpAny_pyNext_tuple_end (I.ok.hd hc) st (show s.heap.IsTuple a its.toArray from p) (by simp;(clear f3 f2 f1 hz;omega)) fun h' eb=>⟨rfl,I.turned (t':=s.toks) (fun b o hb e=>eb b o hb e) f0 f1 f3 f4 f5⟩
 self:=fun _ _ _ _ _ st h=>wpAny_pyIter_tupleiter st h
theorem Zg1 {P:Program}{w:World}{K:Yae}{tg:Expr} (it:Addr) (lo:Int) (n:Nat):Turn P w K tg (Itr lo n) [it] it (fun i h=>IsRangeIter h it (lo+(i:Nat)*1) ((n:Int) - (i:Nat)) 1) where
 mem:=by simp
 obj:=fun i h st b hb=>by
  have e:b=it:=by simpa using hb
  subst e;exact⟨_,st,fun v z=>by
   have z':Data.fields _=Data.cell v:=z;cases z'⟩
 keep:=fun i h h' st k=>k it (by simp) _ st
 item:=by
  intro X hP hw hK hc i pins s σ H E I hf st hg;subst hP hw hK;obtain⟨f0,f1,f2,f3,f4,f5⟩:=hf it (by simp);have W:=Walks.range (prog:=X.prog) (w:=X.w) (I.ok.hd hc) it lo 1 n;refine W.item i s _ _ hg st fun v h' tk hv st' kk=>?_;obtain⟨t,rfl⟩:=hv;have I1:Inv X pins σ H { s with heap:=h',toks:=tk }:=I.turned (fun b o hb e=>kk b o (by simpa using hb) e) f0 f1 f3 f4 f5;refine⟨_,rfl,Zmf (s:={ s with heap:=h',toks:=tk }) (n:="range_iterator") st' rfl rfl (by decide) ⟨.int (lo+i),H,I1,⟨t,?_⟩,⟨rfl,rfl⟩,st',fun b hb=>(hf b hb).1⟩⟩;rw[Int.mul_one]
 done:=by
  intro X hP hw hK hc i pins s σ H E I hf st hg;subst hP hw hK;obtain⟨f0,f1,f2,f3,f4,f5⟩:=hf it (by simp);exact wpAny_pyNext_range_end (I.ok.hd hc) st (by have:n<=i:=hg;(clear f3 f2 f1;omega)) fun h' eb=>⟨rfl,I.turned (t':=s.toks) (fun b o hb e=>eb b o hb e) f0 f1 f3 f4 f5⟩
 self:=fun _ _ _ _ _ st h=>wpAny_pyIter_rangeiter st h
end L2
namespace L2
open PySem PySem.Spec PyProof.Rows
section
variable {X:Cx}{tg:Expr}
def Znp (K:Yae) (tl:TE):TI:=fun σ H R=>tl σ H fun x H1=>∃ a,x=.ref a/\(∃ xs,SqL K H1 a xs)/\R (Itl K a) H1
def iTup (K:Yae) (tl:TE):TI:=fun σ H R=>tl σ H fun x H1=>∃ a,x=.ref a/\(∃ xs,SqT K H1 a xs)/\R (Itt K a) H1
theorem Za4 {l:Expr}{tl:TE} (hl:PE X l tl):PI X tg l (Znp X.K tl):=by
 intro pins s σ H R I h;refine thn (hl pins s σ H _ I h) fun v s1 ⟨x,H1,I1,r1,q1⟩=>?_;obtain⟨a,e,⟨xs,hq⟩,q⟩:=q1;subst e;cases r1;obtain⟨its,rv,p,hz⟩:=I1.list hq;refine wpAny_pyIter_list p.isList ?_;refine⟨s1.heap.objs.size,[s1.heap.objs.size],_,_,H1,rfl,I1.kept (t':=s1.toks) fun b o e=>Yad _ e,ZeZ a _,⟨_,Yav _ rfl,rfl,rfl⟩,fun b hb=>?_,q⟩;have e:b=s1.heap.objs.size:=by simpa using hb
 subst e;exact I1.fpOk (Yak _) (I1.hok.fresh (Yak _))
theorem Zia {l:Expr}{tl:TE} (hl:PE X l tl):PI X tg l (iTup X.K tl):=by
 intro pins s σ H R I h;refine thn (hl pins s σ H _ I h) fun v s1 ⟨x,H1,I1,r1,q1⟩=>?_;obtain⟨a,e,⟨xs,hq⟩,q⟩:=q1;subst e;cases r1;obtain⟨its,rv,p,hz⟩:=I1.tuple hq;refine wpAny_pyIter_tuple (show s1.heap.IsTuple a its.toArray from p) ?_;refine⟨s1.heap.objs.size,[s1.heap.objs.size],_,_,H1,rfl,I1.kept (t':=s1.toks) fun b o e=>Yad _ e,ZdH a _,⟨_,Yav _ rfl,rfl,rfl⟩,fun b hb=>?_,q⟩;have e:b=s1.heap.objs.size:=by simpa using hb
 subst e;exact I1.fpOk (Yak _) (I1.hok.fresh (Yak _))
theorem ZjS {pins:List (Addr × Obj)}{σ:St}{H:Hp}{s:Shared}{R:It->Hp->Prop}{E:Value->Shared->Prop}{lo hi:Int}{t u v:Tok}{tk:Nat} (I:Inv X pins σ H s) (h1:-(2 ^ 62)<=lo) (h2:lo<2 ^ 62) (h3:-(2 ^ 62)<=hi) (h4:hi<2 ^ 62)
  (q:R (Itr lo (hi - lo).toNat) H):wpAny (model X.prog X.w) X.A (pyIter (.ref s.heap.objs.size)) (PIE X pins σ tg R) E { s with heap:=s.heap.push { cls:=.type "range",data:=.fields #[.int lo t,.int hi u,.int 1 v] },toks:=tk }:=by
 refine wpAny_pyIter_range (IsRange.new ..) (small_one h1 h2 h3 h4) ?_;have I1:Inv X pins σ H { s with heap:=s.heap.push { cls:=.type "range",data:=.fields #[.int lo t,.int hi u,.int 1 v] },toks:=tk }:=I.kept fun b o e=>Yad _ e;refine⟨(s.heap.push { cls:=.type "range",data:=.fields #[.int lo t,.int hi u,.int 1 v] }).objs.size,[(s.heap.push { cls:=.type "range",data:=.fields #[.int lo t,.int hi u,.int 1 v] }).objs.size],_,_,H,rfl,
  I1.kept (t':=tk) fun b o e=>Yad _ e,Zg1 _ lo (hi - lo).toNat,?_,fun b hb=>?_,q⟩
 ·have e1:lo+((0:Nat):Int)*1=lo:=by simp
  have e2:(((hi - lo).toNat:Nat):Int) - ((0:Nat):Int)=Builtin.Range.rangeSize lo hi 1:=by rw[rangeSize_one];split <;> (clear e1 h4 h3 h2 h1;omega)
  show IsRangeIter _ _ (lo+((0:Nat):Int)*1) ((((hi - lo).toNat:Nat):Int) - ((0:Nat):Int)) 1;rw[e1,e2];exact Yav _ rfl
 ·have e:b=(s.heap.push { cls:=.type "range",data:=.fields #[.int lo t,.int hi u,.int 1 v] }).objs.size:=by simpa using hb
  subst e;exact I1.fpOk (Yak _) (I1.hok.fresh (Yak _))
def Zoa (ta:TA):TI:=fun σ H R=>ta σ H fun vs H1=>∃ j:Int,vs=[.int j]/\-(2 ^ 62)<=j/\j<2 ^ 62/\R (Itr 0 j.toNat) H1
theorem ZaI {a:Expr}{ta:TA}{p pos:Pos} (hg:Gl X "range") (hm:X.mg "range"=none) (ha:PA X [a] ta) (hs:starEach [a] X.env=[(false,eval a X.env)]:=by rfl):PI X tg (.Call (.Name "range" p) [a] [] pos) (Zoa ta):=by
 intro pins s σ H R I h;refine Call_ (Zd3 I hg hm boot_range (YbT (thn (ha pos pins s σ H _ I h) fun us s1 ⟨vs,H1,I1,r1,q1⟩=>?_) hs rfl));obtain⟨j,e,q1,q2,q⟩:=q1;subst e
 cases r1 with
 | cons r rr=>
  cases rr;obtain⟨t,rfl⟩:=r;exact call_range_1 (ZjS I1 (by (clear q2 q1;omega)) (by (clear q2 q1;omega)) q1 q2 (by simpa using q))
def tFor (wi:TI) (g:TG) (tb:TS):TS:=fun D σ H=>wi σ H fun J H1=>∃ W:Nat->Nat->St->Hp->Prop,(∃ m,W 0 m σ H1)/\∀ i m σ H,W i m σ H ->
 (J.stop i H/\D.nx σ H)∨(J.go i H/\∃ N:St->Hp->Prop,(∀ σ' H',N σ' H'->∃ m',m'<m/\W (i+1) m' σ' H')/\∀ x H',J.yld i H x H'->g x σ H' fun σ2 H2=>tb { D with nx:=N,ct:=N,bk:=D.nx } σ2 H2)
def ZcM (fp:List Addr) (h:Heap):List (Addr × Obj):=fp.filterMap fun b=>(h.get? b).map fun o=>(b,o)
theorem ZaL {fp:List Addr}{h:Heap}{b:Addr}{o:Obj} (hb:b∈fp) (e:h.get? b=some o):(b,o)∈ZcM fp h:=Yb3.mpr ⟨b,hb,by rw[e];rfl⟩
theorem Zis {fp:List Addr}{h:Heap}{p:Addr × Obj} (hp:p∈ZcM fp h):p.1∈fp/\h.get? p.1=some p.2:=by
 obtain⟨b,hb,e⟩:=Yb3.mp hp
 cases q:h.get? b with
 | none=>rw[q] at e;cases e
 | some o=>
  rw[q] at e;have e':(b,o)=p:=Yax e;subst e';exact⟨hb,q⟩
theorem Inv.pinned {pins:List (Addr × Obj)}{σ:St}{H:Hp}{s:Shared}{fp:List Addr} (I:Inv X pins σ H s) (hf:∀ b∈fp,FpOk X pins H b) (ho:∀ b∈fp,∃ o,s.heap.get? b=some o/\∀ v,o.data≠.cell v):Inv X (pins++ZcM fp s.heap) σ H s :=
 I.pins_of fun p hp=>(Yar.mp hp).elim (fun z=>I.pin p (Yau _ z)) fun z=>by
  obtain⟨hb,e⟩:=Zis z;obtain⟨f0,f1,f2,_⟩:=hf p.1 hb;obtain⟨o,e',d⟩:=ho p.1 hb;rw[e] at e';cases e';exact⟨e,f0,f1,f2,d⟩
theorem Inv.unpinned {pins pl:List (Addr × Obj)}{σ:St}{H:Hp}{s:Shared} (I:Inv X (pins++pl) σ H s):Inv X pins σ H s:=I.pins_of fun p hp=>I.pin p (Yau _ (YaV _ hp))
theorem Za7 {iter:Expr}{body:List Stmt}{wi:TI}{g:TG}{tb:TS}{pos:Pos} (hp:PassesOwn (model X.prog X.w) X.A X.env X.xe) (hc:X.calm=true) (hi:PI X tg iter wi) (hg:PG X tg g) (hb:PSs X body tb)
  (hs:∀ x,foldedSetIterable iter X.env x=pure x:=by intro _;rfl):PS X (.For tg iter body [] pos) (tFor wi g tb):=by
 intro pins s σ H D I h;refine wpAny_For (thn (hi pins s σ H _ I h) fun v s1 h1=>thn h1 fun itv s2 h2=>?_) hs;obtain⟨it,fp,tn,J,H2,e,I2,T,st2,f2,W,⟨m0,w0⟩,turn⟩:=h2;subst e;have stat:∀ {H':Hp},(∀ b∈fp,H' b=none)->∀ b∈fp,FpOk X pins H' b:=fun hn b hb=>⟨hn b hb,(f2 b hb).2⟩
 refine codeAny_forLoop_any (fun n s'=>∃ i σ' H',Inv X pins σ' H' s'/\tn i s'.heap/\(∀ b∈fp,H' b=none)/\W i n σ' H') ?_ m0 ⟨0,σ,H2,I2,st2,fun b hb=>(f2 b hb).1,w0⟩;rintro n s3 ⟨i,σ3,H3,I3,st3,fr3,w3⟩;rcases turn i n σ3 H3 w3 with ⟨stop,qn⟩ | ⟨go,N,hN,step⟩
 ·refine wpAny_passesOwn hp (thn (T.done X rfl rfl rfl hc i pins s3 σ3 H3 X.xe I3 (stat fr3) st3 stop) fun r s4 ⟨hr,I4⟩=>?_);subst hr;exact wpAny_execs_nil ⟨σ3,H3,I4,qn⟩
 ·refine wpAny_passesOwn hp (thn (T.item X rfl rfl rfl hc i pins s3 σ3 H3 X.xe I3 (stat fr3) st3 go) fun r s4 ⟨u,hr,h4⟩=>?_);subst hr;refine wpAny_passesOwn hp (thn h4 fun _ s5 ⟨x,H5,I5,r5,y5,st5,fr5⟩=>?_);have I5':=I5.pinned (stat fr5) (T.obj _ _ st5);refine wpAny_passesOwn hp (thn (hg _ s5 σ3 H5 x u _ I5' r5 (step x H5 y5)) fun _ s6 ⟨σ6,H6,I6,q6⟩=>?_);refine wpAny_passesOwn hp (thn (hb _ s6 σ6 H6 _ I6 q6) fun f s7 q7=>?_);have again:∀ {σ7:St}{H7:Hp},Inv X (pins++ZcM fp s5.heap) σ7 H7 s7->N σ7 H7->∃ m,m<n/\∃ i σ' H',Inv X pins σ' H' s7/\tn i s7.heap/\(∀ b∈fp,H' b=none)/\W i m σ' H':=fun {σ7 H7} I7 n7=>by
   obtain⟨m',hm,w7⟩:=hN σ7 H7 n7;refine⟨m',hm,i+1,σ7,H7,I7.unpinned,T.keep _ _ _ st5 fun b hb o e=>(I7.pin (b,o) (Yau _ (Yau _ (ZaL hb e)))).1,fun b hb=>?_,w7⟩;obtain⟨o,e,d⟩:=T.obj _ _ st5 b hb;exact (I7.pin (b,o) (Yau _ (Yau _ (ZaL hb e)))).2.1
  cases f with
  | next=>obtain⟨σ7,H7,I7,n7⟩:=q7;exact again I7 n7
  | cont=>obtain⟨σ7,H7,I7,n7⟩:=q7;exact again I7 n7
  | brk=>obtain⟨σ7,H7,I7,q7⟩:=q7;exact⟨σ7,H7,I7.unpinned,q7⟩
  | ret v=>obtain⟨x7,σ7,H7,I7,r7,q7⟩:=q7;exact⟨x7,σ7,H7,I7.unpinned,r7,q7⟩
end
theorem ZbB {K:Yae}{a:Addr}{xs:List V}{g:TG}{tb:TS}{D:Ends}{σ:St}{H:Hp} (Pv:Nat->St->Hp->Prop) (h0:Pv 0 σ H) (hl:∀ i σ H,i<=xs.length->Pv i σ H->SqL K H a xs)
  (hs:∀ i x σ H,xs[i]?=some x->Pv i σ H->g x σ H fun σ2 H2=>tb { D with nx:=Pv (i+1),ct:=Pv (i+1),bk:=D.nx } σ2 H2) (hd:∀ σ H,Pv xs.length σ H->D.nx σ H) :
  ∃ W:Nat->Nat->St->Hp->Prop,(∃ m,W 0 m σ H)/\∀ i m σ H,W i m σ H ->
   ((Itl K a).stop i H/\D.nx σ H)∨((Itl K a).go i H/\∃ N:St->Hp->Prop,(∀ σ' H',N σ' H'->∃ m',m'<m/\W (i+1) m' σ' H')/\∀ x H',(Itl K a).yld i H x H'->g x σ H' fun σ2 H2=>tb { D with nx:=N,ct:=N,bk:=D.nx } σ2 H2):=by
 refine⟨fun i m σ H=>m=xs.length - i/\i<=xs.length/\Pv i σ H,⟨xs.length,by simp,YaT _,h0⟩,?_⟩;rintro i m σ H ⟨rfl,hi,p⟩;have q:=hl i σ H hi p;by_cases hlt:i<xs.length
 ·refine .inr ⟨⟨xs,xs[i],q,by simp[hlt]⟩,Pv (i+1),fun σ' H' p'=>⟨xs.length - (i+1),by (clear hi;omega),rfl,hlt,p'⟩,fun x H' y=>?_⟩;obtain⟨e,y⟩:=y;subst e;exact hs i x σ _ (y xs q) p
 ·have e:i=xs.length:=by omega
  subst e;exact .inl ⟨⟨xs,q,Yak _⟩,hd σ H p⟩
theorem Zbl {lo:Int}{n:Nat}{g:TG}{tb:TS}{D:Ends}{σ:St}{H:Hp} (Pv:Nat->St->Hp->Prop) (h0:Pv 0 σ H)
  (hs:∀ i σ H,i<n->Pv i σ H->g (.int (lo+i)) σ H fun σ2 H2=>tb { D with nx:=Pv (i+1),ct:=Pv (i+1),bk:=D.nx } σ2 H2) (hd:∀ σ H,Pv n σ H->D.nx σ H) :
  ∃ W:Nat->Nat->St->Hp->Prop,(∃ m,W 0 m σ H)/\∀ i m σ H,W i m σ H ->
   ((Itr lo n).stop i H/\D.nx σ H)∨((Itr lo n).go i H/\∃ N:St->Hp->Prop,(∀ σ' H',N σ' H'->∃ m',m'<m/\W (i+1) m' σ' H')/\∀ x H',(Itr lo n).yld i H x H'->g x σ H' fun σ2 H2=>tb { D with nx:=N,ct:=N,bk:=D.nx } σ2 H2):=by
 refine⟨fun i m σ H=>m=n - i/\i<=n/\Pv i σ H,⟨n,by simp,YaT _,h0⟩,?_⟩;rintro i m σ H ⟨rfl,hi,p⟩;by_cases hlt:i<n
 ·refine .inr ⟨hlt,Pv (i+1),fun σ' H' p'=>⟨n - (i+1),by (clear hi;omega),rfl,hlt,p'⟩,fun x H' y=>?_⟩;obtain⟨e,y⟩:=y;subst e y;exact hs i σ _ hlt p
 ·have e:i=n:=by omega
  subst e;exact .inl ⟨Yak _,hd σ H p⟩
end L2
namespace L2
open PySem PySem.Spec PyProof.Rows
abbrev R2:=V->V->Hp->VK->Prop
def OpR (X:Cx) (f:Value->Value->Sem Value) (r:R2):Prop :=
 ∀ (pins:List (Addr × Obj)) (s:Shared) (σ:St) (H:Hp) (x y:V) (v u:Value) (Q:VK),Inv X pins σ H s->RelV x v->RelV y u->r x y H Q ->
  wpAny (model X.prog X.w) X.A (f v u) (EP X pins σ Q) X.xe s
def UnR (X:Cx) (f:Value->Sem Value) (r:V->Hp->VK->Prop):Prop :=
 ∀ (pins:List (Addr × Obj)) (s:Shared) (σ:St) (H:Hp) (x:V) (v:Value) (Q:VK),Inv X pins σ H s->RelV x v->r x H Q ->
  wpAny (model X.prog X.w) X.A (f v) (EP X pins σ Q) X.xe s
def ZbD (X:Cx) (f:Value) (r:List V->Hp->VK->Prop):Prop :=
 ∀ (pins:List (Addr × Obj)) (s:Shared) (σ:St) (H:Hp) (xs:List V) (us:List Value) (Q:VK),Inv X pins σ H s->Vals xs us->r xs H Q ->
  wpAny (model X.prog X.w) X.A (call f us) (EP X pins σ Q) X.xe s
def TruR (X:Cx) (r:V->Hp->(Bool->Hp->Prop)->Prop):Prop :=
 ∀ (pins:List (Addr × Obj)) (s:Shared) (σ:St) (H:Hp) (x:V) (v:Value) (Q:Bool->Hp->Prop),Inv X pins σ H s->RelV x v->r x H Q ->
  wpAny (model X.prog X.w) X.A (truthy v) (TP X pins σ Q) X.xe s
def tOp (r:R2) (ta tb:TE):TE:=fun σ H Q=>ta σ H fun x H1=>tb σ H1 fun y H2=>r x y H2 Q
def tUn (r:V->Hp->VK->Prop) (ta:TE):TE:=fun σ H Q=>ta σ H fun x H1=>r x H1 Q
def rI (C:Int->Int->Prop) (g:Int->Int->V):R2:=fun x y H Q=>∃ i j,x=.int i/\y=.int j/\C i j/\Q (g i j) H
def rI0 (g:Int->Int->V):R2:=fun x y H Q=>∃ i j,x=.int i/\y=.int j/\Q (g i j) H
def rU (g:Int->V):V->Hp->VK->Prop:=fun x H Q=>∃ i,x=.int i/\Q (g i) H
section
variable {X:Cx}{a b c:Expr}{ta tb tc:TE}{pos:Pos}
theorem binT (ha:PE X a ta) (hb:PE X b tb) {pins:List (Addr × Obj)}{s:Shared}{σ:St}{H:Hp}{R:V->V->Hp->Prop} (I:Inv X pins σ H s)
  (h:ta σ H fun x H1=>tb σ H1 fun y H2=>R x y H2) {Q:Value->Shared->Prop}{f:Value->Value->Sem Value}
  (hf:∀ v u s2 x y H2,Inv X pins σ H2 s2->RelV x v->RelV y u->R x y H2->wpAny (model X.prog X.w) X.A (f v u) Q X.xe s2) :
  wpAny (model X.prog X.w) X.A (eval a X.env) (fun v s₁=>wpAny (model X.prog X.w) X.A (eval b X.env) (fun u s₂=>wpAny (model X.prog X.w) X.A (f v u) Q X.xe s₂) X.xe s₁) X.xe s:=by
 refine thn (ha pins s σ H _ I h) fun v s1 ⟨x,H1,I1,r1,q1⟩=>?_;refine thn (hb pins s1 σ H1 _ I1 q1) fun u s2 ⟨y,H2,I2,r2,q2⟩=>?_;exact hf v u s2 x y H2 I2 r1 r2 q2
theorem Zau {op:Operator}{r:R2} (ho:OpR X (binaryOp op) r) (ha:PE X a ta) (hb:PE X b tb):PE X (.BinOp a op b pos) (tOp r ta tb):=by
 intro pins s σ H Q I h;exact wpAny_BinOp (binT ha hb I h fun v u s2 x y H2 I2 rx ry q=>ho pins s2 σ H2 x y v u Q I2 rx ry q)
theorem Zie {op:UnaryOp}{r:V->Hp->VK->Prop} (ho:UnR X (unaryOp op) r) (ha:PE X a ta):PE X (.UnaryOp op a pos) (tUn r ta):=by
 intro pins s σ H Q I h;exact UnaryOp_ (thn (ha pins s σ H _ I h) fun v s1 ⟨x,H1,I1,r1,q1⟩=>ho pins s1 σ H1 x v Q I1 r1 q1)
theorem opI {f:Value->Value->Sem Value}{C:Int->Int->Prop}{g:Int->Int->Int}
  (rule:∀ (i j:Int) (t u:Tok) (s:Shared) (Q:Value->Shared->Prop) (E:Value->Shared->Prop),C i j->Q (.int (g i j) s.toks) { s with toks:=s.toks+1 }->wpAny (model X.prog X.w) X.A (f (.int i t) (.int j u)) Q E s) :
  OpR X f (rI C fun i j=>.int (g i j)):=by
 intro pins s σ H x y v u Q I rx ry h;obtain⟨i,j,rfl,rfl,hc,q⟩:=h;obtain⟨t,rfl⟩:=rx;obtain⟨t',rfl⟩:=ry;exact rule i j t t' s _ _ hc ⟨.int (g i j),H,I.tok _,⟨_,rfl⟩,q⟩
theorem opI0 {f:Value->Value->Sem Value}{g:Int->Int->Int}
  (rule:∀ (i j:Int) (t u:Tok) (s:Shared) (Q:Value->Shared->Prop) (E:Value->Shared->Prop),Q (.int (g i j) s.toks) { s with toks:=s.toks+1 }->wpAny (model X.prog X.w) X.A (f (.int i t) (.int j u)) Q E s) :
  OpR X f (rI0 fun i j=>.int (g i j)):=by
 intro pins s σ H x y v u Q I rx ry h;obtain⟨i,j,rfl,rfl,q⟩:=h;obtain⟨t,rfl⟩:=rx;obtain⟨t',rfl⟩:=ry;exact rule i j t t' s _ _ ⟨.int (g i j),H,I.tok _,⟨_,rfl⟩,q⟩
theorem opB0 {f:Value->Value->Sem Value}{g:Int->Int->Bool}
  (rule:∀ (i j:Int) (t u:Tok) (s:Shared) (Q:Value->Shared->Prop) (E:Value->Shared->Prop),Q (.bool (g i j)) s->wpAny (model X.prog X.w) X.A (f (.int i t) (.int j u)) Q E s) :
  OpR X f (rI0 fun i j=>.bl (g i j)):=by
 intro pins s σ H x y v u Q I rx ry h;obtain⟨i,j,rfl,rfl,q⟩:=h;obtain⟨t,rfl⟩:=rx;obtain⟨t',rfl⟩:=ry;exact rule i j t t' s _ _ ⟨.bl (g i j),H,I,rfl,q⟩
def CDiv (i j:Int):Prop:=0<j/\j<1073741824
def CPow (i j:Int):Prop:=0<=j/\j<=1000000/\i.natAbs<2 ^ 64
def CMul (i j:Int):Prop:=(-(2 ^ 64)<i/\i<2 ^ 64)∨(-(2 ^ 64)<j/\j<2 ^ 64)
theorem CMul.ok {i j:Int} (h:CMul i j):IntMulOk i j:=by
 rcases h with ⟨h1,h2⟩ | ⟨h1,h2⟩
 ·exact .of_left (intBits_le_64 h1 h2)
 ·exact .of_right (intBits_le_64 h1 h2)
theorem Zbb:OpR X (binaryOp .Add) (rI0 fun i j=>.int (i+j)):=opI0 fun _ _ _ _ _ _ _ q=>add_int q
theorem Zcj:OpR X (binaryOp .Sub) (rI0 fun i j=>.int (i - j)):=opI0 fun _ _ _ _ _ _ _ q=>sub_int q
theorem ZgJ:OpR X (binaryOp .Mult) (rI CMul fun i j=>.int (i*j)):=opI fun _ _ _ _ _ _ _ hc q=>mul_int q hc.ok
theorem ZlS:OpR X (binaryOp .FloorDiv) (rI CDiv fun i j=>.int (i / j)):=opI fun i j _ _ _ _ _ hc q=>by
 have h1:(0:Int)<j:=hc.1;have h2:j<1073741824:=hc.2;exact floordiv_int (by (clear h2;omega)) (by rw[Yd9 i (by (clear h2;omega))];exact q) (.inl (PyProof.noPylong_small (by omega)))
theorem Zb3:OpR X (binaryOp .Mod) (rI (fun _ j=>0<j) fun i j=>.int (i % j)):=opI fun i j _ _ _ _ _ hc q=>by
 have h1:(0:Int)<j:=hc;exact mod_int' (by (clear h1;omega)) (by rw[Int.fmod_eq_emod_of_nonneg i (by (clear h1;omega))];exact q)
theorem Zd0:OpR X (binaryOp .Pow) (rI CPow fun i j=>.int (i ^ j.toNat)):=opI fun _ _ _ _ _ _ _ hc q=>pow_int_small hc.1 hc.2.1 hc.2.2 q
theorem unI {f:Value->Sem Value}{g:Int->Int}
  (rule:∀ (i:Int) (t:Tok) (s:Shared) (Q:Value->Shared->Prop) (E:Value->Shared->Prop),Q (.int (g i) s.toks) { s with toks:=s.toks+1 }->wpAny (model X.prog X.w) X.A (f (.int i t)) Q E s) :
  UnR X f (rU fun i=>.int (g i)):=by
 intro pins s σ H x v Q I rx h;obtain⟨i,rfl,q⟩:=h;obtain⟨t,rfl⟩:=rx;exact rule i t s _ _ ⟨.int (g i),H,I.tok _,⟨_,rfl⟩,q⟩
theorem ZeY:UnR X (unaryOp .USub) (rU fun i=>.int (-i)):=unI fun _ _ _ _ _ q=>neg_int q
end
def scal:V->V->Bool
 | .non,.non=>true | .non,.int _=>true | .int _,.non=>true | .non,.bl _=>true | .bl _,.non=>true | .non,.str _=>true | .str _,.non=>true
 | .int _,.int _=>true | .bl _,.bl _=>true | .str _,.str _=>true | .byt _,.byt _=>true
 | .int _,.str _=>true | .str _,.int _=>true | .bl _,.str _=>true | .str _,.bl _=>true
 | _,_=>false
def rEq:R2:=fun x y H Q=>scal x y=true/\Q (.bl (decide (x=y))) H
def rNe:R2:=fun x y H Q=>scal x y=true/\Q (.bl (!decide (x=y))) H
theorem Zjc {i j:Int}:decide (V.int i=V.int j)=(i == j):=by
 rw[Ycb];simp
theorem Zje {i j:Bool}:decide (V.bl i=V.bl j)=(i == j):=by
 rw[Ycb];simp
theorem Zjb {i j:Str}:decide (V.str i=V.str j)=(i == j):=by
 rw[Ycb];simp
theorem Zjd {i j:Array UInt8}:decide (V.byt i=V.byt j)=(i.toList == j.toList):=by
 rw[Ycb];cases i;cases j;simp
section
variable {X:Cx}{a b c:Expr}{ta tb tc:TE}{pos:Pos}
theorem ZaC {pins:List (Addr × Obj)}{σ:St}{H:Hp}{s:Shared}{Q:VK}{k k':Bool} (I:Inv X pins σ H s) (q:Q (.bl k) H) (e:k=k'):EP X pins σ Q (.bool k') s:=by
 subst e;exact⟨.bl k,H,I,rfl,q⟩
theorem Zm6:OpR X (compareOp .Eq) rEq:=by
 intro pins s σ H x y v u Q I rx ry h;obtain⟨hs,q⟩:=h
 cases x with
 | non=>
  cases rx
  cases y with
  | non=>cases ry;exact PySem.EqNone.eq_none_none (ZaC I q (by simp))
  | bl j=>cases ry;exact PySem.EqNone.eq_none_bool (ZaC I q (by simp))
  | int j=>obtain⟨t',rfl⟩:=ry;exact PySem.EqNone.eq_none_int (ZaC I q (by simp))
  | str j=>obtain⟨t',rfl⟩:=ry;exact PySem.EqNone.eq_none_str (ZaC I q (by simp))
  | _=>exact absurd (show false=true from hs) YaE
 | bl i=>
  cases rx
  cases y with
  | non=>cases ry;exact PySem.EqNone.eq_bool_none (ZaC I q (by simp))
  | bl j=>cases ry;exact eq_bool (ZaC I q Zje)
  | str j=>obtain⟨t',rfl⟩:=ry;exact PySem.EqMixed.eq_bool_str (ZaC I q (by simp))
  | _=>exact absurd (show false=true from hs) YaE
 | int i=>
  obtain⟨t,rfl⟩:=rx
  cases y with
  | non=>cases ry;exact PySem.EqNone.eq_int_none (ZaC I q (by simp))
  | int j=>obtain⟨t',rfl⟩:=ry;exact eq_int (ZaC I q Zjc)
  | str j=>obtain⟨t',rfl⟩:=ry;exact PySem.EqMixed.eq_int_str (ZaC I q (by simp))
  | _=>exact absurd (show false=true from hs) YaE
 | str i=>
  obtain⟨t,rfl⟩:=rx
  cases y with
  | non=>cases ry;exact PySem.EqNone.eq_str_none (ZaC I q (by simp))
  | bl j=>cases ry;exact PySem.EqMixed.eq_str_bool (ZaC I q (by simp))
  | int j=>obtain⟨t',rfl⟩:=ry;exact PySem.EqMixed.eq_str_int (ZaC I q (by simp))
  | str j=>obtain⟨t',rfl⟩:=ry;exact eq_str (ZaC I q Zjb)
  | _=>exact absurd (show false=true from hs) YaE
 | byt i=>
  obtain⟨t,rfl⟩:=rx
  cases y with
  | byt j=>obtain⟨t',rfl⟩:=ry;exact PySem.W.eq_bytes (ZaC I q Zjd)
  | _=>exact absurd (show false=true from hs) YaE
 | _=>cases y <;> exact absurd (show false=true from hs) YaE
theorem Zij:OpR X (compareOp .NotEq) rNe:=by
 intro pins s σ H x y v u Q I rx ry h;obtain⟨hs,q⟩:=h
 cases x with
 | non=>
  cases rx
  cases y with
  | non=>cases ry;exact PySem.EqNone.ne_none_none (ZaC I q (by simp))
  | bl j=>cases ry;exact PySem.EqNone.ne_none_bool (ZaC I q (by simp))
  | int j=>obtain⟨t',rfl⟩:=ry;exact PySem.EqNone.ne_none_int (ZaC I q (by simp))
  | str j=>obtain⟨t',rfl⟩:=ry;exact PySem.EqNone.ne_none_str (ZaC I q (by simp))
  | _=>exact absurd (show false=true from hs) YaE
 | bl i=>
  cases rx
  cases y with
  | non=>cases ry;exact PySem.EqNone.ne_bool_none (ZaC I q (by simp))
  | bl j=>cases ry;exact ne_bool (ZaC I q (congrArg not Zje))
  | str j=>obtain⟨t',rfl⟩:=ry;exact PySem.EqMixed.ne_bool_str (ZaC I q (by simp))
  | _=>exact absurd (show false=true from hs) YaE
 | int i=>
  obtain⟨t,rfl⟩:=rx
  cases y with
  | non=>cases ry;exact PySem.EqNone.ne_int_none (ZaC I q (by simp))
  | int j=>obtain⟨t',rfl⟩:=ry;exact ne_int (ZaC I q (congrArg not Zjc))
  | str j=>obtain⟨t',rfl⟩:=ry;exact PySem.EqMixed.ne_int_str (ZaC I q (by simp))
  | _=>exact absurd (show false=true from hs) YaE
 | str i=>
  obtain⟨t,rfl⟩:=rx
  cases y with
  | non=>cases ry;exact PySem.EqNone.ne_str_none (ZaC I q (by simp))
  | bl j=>cases ry;exact PySem.EqMixed.ne_str_bool (ZaC I q (by simp))
  | int j=>obtain⟨t',rfl⟩:=ry;exact PySem.EqMixed.ne_str_int (ZaC I q (by simp))
  | str j=>obtain⟨t',rfl⟩:=ry;exact ne_str (ZaC I q (congrArg not Zjb))
  | _=>exact absurd (show false=true from hs) YaE
 | byt i=>
  obtain⟨t,rfl⟩:=rx
  cases y with
  | byt j=>obtain⟨t',rfl⟩:=ry;exact PySem.W.ne_bytes (ZaC I q (congrArg not Zjd))
  | _=>exact absurd (show false=true from hs) YaE
 | _=>cases y <;> exact absurd (show false=true from hs) YaE
theorem Zj7:OpR X (compareOp .Lt) (rI0 fun i j=>.bl (decide (i<j))):=opB0 fun _ _ _ _ _ _ _ q=>lt_int q
theorem Zil:OpR X (compareOp .LtE) (rI0 fun i j=>.bl (decide (i<=j))):=opB0 fun _ _ _ _ _ _ _ q=>le_int q
theorem ZlR:OpR X (compareOp .Gt) (rI0 fun i j=>.bl (decide (j<i))):=opB0 fun _ _ _ _ _ _ _ q=>gt_int q
theorem ZaV (b:Expr) {op:CmpOp} (h:op≠.In:=by decide) (h2:op≠.NotIn:=by decide):behindInMarks op b=false:=by
 have e1:(op == CmpOp.In)=false:=by cases op <;> first | rfl | exact absurd rfl h
 have e2:(op == CmpOp.NotIn)=false:=by cases op <;> first | rfl | exact absurd rfl h2
 cases b <;> simp[behindInMarks,e1,e2]
theorem Zca {op:CmpOp}{r:R2} (ho:OpR X (compareOp op) r) (ha:PE X a ta) (hb:PE X b tb) (hm:behindInMarks op b=false):PE X (.Compare a [op] [b] pos) (tOp r ta tb):=by
 intro pins s σ H Q I h;exact wpAny_Compare1 (binT ha hb I h fun v u s2 x y H2 I2 rx ry q=>ho pins s2 σ H2 x y v u Q I2 rx ry q) hm
def ZmE (t:TE):TT:=fun σ H Q=>t σ H fun x H'=>∃ k,x=.bl k/\Q k H'
theorem ZaP {op:CmpOp}{r:R2} (ho:OpR X (compareOp op) r) (ha:PE X a ta) (hb:PE X b tb) (hm:behindInMarks op b=false):PT X (.Compare a [op] [b] pos) (ZmE (tOp r ta tb)):=by
 intro pins s σ H Q I h;refine wpAny_isTrue_Compare1 (thn (ha pins s σ H _ I h) fun v s1 ⟨x,H1,I1,r1,q1⟩=>thn (hb pins s1 σ H1 _ I1 q1) fun u s2 ⟨y,H2,I2,r2,q2⟩=>
  thn (ho pins s2 σ H2 x y v u _ I2 r1 r2 q2) fun c s3 ⟨z,H3,I3,r3,k,e,q3⟩=>?_) hm
 subst e;cases r3;exact wpAny_truthy_bool ⟨H3,I3,q3⟩
def ZmN (r r':R2) (ta tb tc:TE):TE:=fun σ H Q=>ta σ H fun x H1=>tb σ H1 fun y H2=>r x y H2 fun z H3=>∃ k,z=.bl k /\
 (if k=true then tc σ H3 fun w' H4=>r' y w' H4 Q else Q (.bl false) H3)
theorem ZgD {op op':CmpOp}{r r':R2} (ho:OpR X (compareOp op) r) (ho':OpR X (compareOp op') r') (ha:PE X a ta) (hb:PE X b tb) (hc:PE X c tc)
  (hm:lastMarks [op,op'] [b,c]=false:=by with_unfolding_all rfl):PT X (.Compare a [op,op'] [b,c] pos) (ZmE (ZmN r r' ta tb tc)):=by
 intro pins s σ H Q I h;refine isTrue_chain (thn (ha pins s σ H _ I h) fun v s1 ⟨x,H1,I1,r1,q1⟩=>test_link (thn (hb pins s1 σ H1 _ I1 q1) fun u s2 ⟨y,H2,I2,r2,q2⟩=>
  thn (ho pins s2 σ H2 x y v u _ I2 r1 r2 q2) fun d s3 ⟨z,H3,I3,r3,k,e,q3⟩=>?_)) hm
 subst e;cases r3;refine wpAny_truthy_bool ?_
 cases k with
 | false=>
  obtain⟨k',e',q'⟩:=q3;cases e';exact ite_ff ⟨H3,I3,q'⟩
 | true=>
  refine ite_tt (test_last (thn (hc pins s3 σ H3 _ I3 q3) fun w' s4 ⟨z',H4,I4,r4,q4⟩=>thn (ho' pins s4 σ H4 y z' u w' _ I4 r2 r4 q4) fun d' s5 ⟨z2,H5,I5,r5,k2,e2,q5⟩=>?_));subst e2;cases r5;exact wpAny_truthy_bool ⟨H5,I5,q5⟩
def TruV (K:Yae) (x:V) (H:Hp) (k:Bool):Prop :=
 match x with
 | .non=>k=false
 | .bl b=>k=b
 | .int i=>k=(i != 0)
 | .str y=>y.length<=sizeLine/\k=((y.length:Int) != 0)
 | .byt y=>y.size<=sizeLine/\k=((y.size:Int) != 0)
 | .ref p=>(∃ xs,SqL K H p xs/\k = !xs.isEmpty)∨(∃ xs,SqT K H p xs/\k = !xs.isEmpty)∨∃ kvs,H p=some (.dK kvs)/\k = !kvs.isEmpty
 | _=>False
theorem Zhj {κ:Type}{kvs:List (κ × V)}{vs:List (κ × Value)} (r:KV kvs vs):(!vs.isEmpty) = !kvs.isEmpty:=by
 cases r <;> rfl
theorem Zd5 {xs:List V}{its:List Value} (r:Vals xs its):(!its.toArray.isEmpty) = !xs.isEmpty:=by
 cases r <;> simp
theorem Zfg:(sizeLine:Nat)<2 ^ 63:=by rw[sizeLine_eq];decide
theorem ZmA:TruR X (fun x H Q=>∃ k,TruV X.K x H k/\Q k H):=by
 intro pins s σ H x v Q I rx h;obtain⟨k,e,q⟩:=h;have hl:=Zfg;have hs:sizeLine=16777216:=sizeLine_eq
 cases x with
 | non=>
  cases rx;have e':k=false:=e;subst e';exact truthy_none ⟨H,I,q⟩
 | bl b=>
  cases rx;have e':k=b:=e;subst e';exact wpAny_truthy_bool ⟨H,I,q⟩
 | int i=>
  obtain⟨t,rfl⟩:=rx;have e':k=(i != 0):=e;subst e';exact PySem.P.truthy_int ⟨H,I,q⟩
 | str y=>
  obtain⟨t,rfl⟩:=rx;obtain⟨hy,e'⟩:y.length<=sizeLine/\k=((y.length:Int) != 0):=e;subst e';exact PySem.P.truthy_str (by (clear hs;omega)) ⟨H,I.tok _,q⟩
 | byt y=>
  obtain⟨t,rfl⟩:=rx;obtain⟨hy,e'⟩:y.size<=sizeLine/\k=((y.size:Int) != 0):=e;subst e';exact PySem.W.truthy_bytes (by (clear hl;omega)) ⟨H,I.tok _,q⟩
 | ref p=>
  cases rx;have e':(∃ xs,SqL X.K H p xs/\k = !xs.isEmpty)∨(∃ xs,SqT X.K H p xs/\k = !xs.isEmpty)∨∃ kvs,H p=some (.dK kvs)/\k = !kvs.isEmpty:=e;rcases e' with ⟨xs,hx,e'⟩ | ⟨xs,hx,e'⟩ | ⟨kvs,hx,e'⟩
  ·subst e';obtain⟨its,r,pl,hz⟩:=I.list hx;have hlen:=r.length;exact wpAny_truthy_list pl.isList (by simp only[Yal];(clear hs;omega)) ⟨H,I.tok _,by rw[Zd5 r];exact q⟩
  ·subst e';obtain⟨its,r,pl,hz⟩:=I.tuple hx;have hlen:=r.length;exact truthy_tuple pl (by simp only[Yal];(clear hs;omega)) ⟨H,I.tok _,by rw[Zd5 r];exact q⟩
  ·subst e';obtain⟨hz,hS,vs,r,m⟩:kvs.length<=sizeLine/\(p == sysModules)=false/\∃ vs,KV kvs vs/\s.heap.DictOf (ZaB X.prog X.w) p vs:=I.hok p _ hx;have hlen:kvs.length=vs.length:=Ydf r;exact wpAny_truthy_dict hS m (by (clear hs;omega)) ⟨H,I.tok _,by rw[Zhj r];exact q⟩
 | _=>exact (show False from e).elim
theorem ZjU (ha:PE X a ta) (he:∀ whole,isTrue a X.env whole=(do let v <- whole;standAt a.pos;holding [v] (truthy v))) :
  PT X a (fun σ H Q=>ta σ H fun x H'=>∃ k,TruV X.K x H' k/\Q k H'):=by
 intro pins s σ H Q I h;exact isTrue_plain (thn (ha pins s σ H _ I h) fun v s1 ⟨x,H1,I1,r1,q1⟩=>ZmA pins s1 σ H1 x v Q I1 r1 q1) (he _)
theorem Zc3 {x:V}{us:List Value} (r:Vals [x] us):∃ u,us=[u]/\RelV x u:=by
 cases r with
 | cons r1 r2=>cases r2;exact⟨_,rfl,r1⟩
theorem ZjE {x y:V}{us:List Value} (r:Vals [x,y] us):∃ u w',us=[u,w']/\RelV x u/\RelV y w':=by
 cases r with
 | cons r1 r2=>
  cases r2 with
  | cons r3 r4=>cases r4;exact⟨_,_,rfl,r1,r3⟩
theorem Zdw (hc:X.calm=true):ZbD X (.builtin "max") (fun xs H Q=>∃ i j,xs=[.int i,.int j]/\Q (.int (if j > i then j else i)) H):=by
 intro pins s σ H xs us Q I r h;obtain⟨i,j,rfl,q⟩:=h;obtain⟨u,w',rfl,⟨t,rfl⟩,⟨t',rfl⟩⟩:=ZjE r;refine max_two_ints (I.ok.hd hc) fun h' tk k=>⟨_,H,I.kept k,?_,q⟩
 by_cases hj:j > i
 ·rw[if_pos hj,if_pos hj];exact⟨_,rfl⟩
 ·rw[if_neg hj,if_neg hj];exact⟨_,rfl⟩
theorem Zjs (hc:X.calm=true):ZbD X (.builtin "min") (fun xs H Q=>∃ i j,xs=[.int i,.int j]/\Q (.int (if j<i then j else i)) H):=by
 intro pins s σ H xs us Q I r h;obtain⟨i,j,rfl,q⟩:=h;obtain⟨u,w',rfl,⟨t,rfl⟩,⟨t',rfl⟩⟩:=ZjE r;refine min_two_ints (I.ok.hd hc) fun h' tk k=>⟨_,H,I.kept k,?_,q⟩
 by_cases hj:j<i
 ·rw[if_pos hj,if_pos hj];exact⟨_,rfl⟩
 ·rw[if_neg hj,if_neg hj];exact⟨_,rfl⟩
end
end L2
namespace L2
open PySem PySem.Spec PyProof.Rows
structure ObjM (h:Heap) (x dx C:Addr) (mA:Str->Option Value):Prop where
 obj:h.get? x=some (Ydy C dx)
 ns:h.Ns1 dx mA
 ne:dx≠x
theorem ZiC {h:Heap}{dx:Addr}{mA:Str->Option Value} (n:h.Ns1 dx mA):∃ od,h.get? dx=some od/\∀ name,YdG name od=some (mA name):=by
 obtain⟨o,es,ep,ho,hd,hk,_,hm⟩:=n;refine⟨o,ho,fun name=>?_⟩;have e:=hm name;unfold nsFind findBy at e;rw[<- Array.find?_toList] at e;unfold YdG;rw[hd];dsimp only;split
 ·rename_i y q;rw[q] at e;exact congrArg some e
 ·rename_i q;rw[q] at e;have a:es.toList.any (·.refKey)=false:=by
   rw[List.any_eq_false];intro y hy;obtain⟨z,t,hkey⟩:=hk y (Array.mem_toList_iff.mp hy);simp[DictEntry.refKey,hkey]
  have a':¬ es.toList.any (·.refKey)=true:=by rw[a];exact YaE
  rw[if_neg a'];exact congrArg some e
theorem ObjM.look {h:Heap}{x dx C:Addr}{mA:Str->Option Value} (I:ObjM h x dx C mA):∃ od,PySem.W.InstAt h x (Ydy C dx) C (some od)/\∀ name,YdG name od=some (mA name) :=
 let ⟨od,ho,hl⟩:=ZiC I.ns
 ⟨od,⟨I.obj,rfl,rfl,ho⟩,hl⟩
section
variable {prog:Program}{w:World}{A:Around}{E:Value->Shared->Prop}{s:Shared}{K:Yae}{x dx C f:Addr}{mA:Str->Option Value}{name:Str}{v:Value}
end
section
variable {P:Program}{w:World}{H H':Hp}{h h':Heap}{a C dx:Addr}{fs fs':List (Str × V)}
theorem Zme (hok:HOk P w H h) (e:H a=some (.ins C dx fs)):∃ mA,ObjM h a dx C mA/\(∀ f,RelO (fs.lookup f) (mA f))/\PySem.Within mA (fs.map (·.1))/\fs.length<=1000/\H dx=some (.own a):=by
 obtain⟨d,z,ne,ob,mA,n,r,q⟩:=(show ObjOk P w H h a (.ins C dx fs) from hok a _ e)
 exact⟨mA,⟨ob,n,ne⟩,r,q,z,d⟩
end
structure Cls (K:Yae) (C:Addr):Prop where
 pg:YeB K C YcO=true
 hd:PySem.W.hasDictIn K C=true
 po:PySem.W.plainOver K C=true
 sa:YcP K (.ref C) "__setattr__"=some (some (.builtin "object.__setattr__"))
theorem Cls.get {K:Yae}{C:Addr} (c:Cls K C) (f:Str):YeB K C f=true:=c.pg
structure Con (K:Yae) (C:Addr) (f:Str) (v:V) (u:Value):Prop where
 at_:YcP K (.ref C) f=some (some u)
 rel:RelV v u
 get:Yeu K u "__get__"=some none
 cp:PySem.W.copiedNames.contains f=false
structure Meth (K:Yae) (C:Addr) (m:Str) (f:Addr):Prop where
 at_:YcP K (.ref C) m=some (some (.ref f))
 fn:PySem.W.isFn K (.ref f)=true
 kp:Yaq K (.ref f)=true
section
variable {X:Cx}{pins:List (Addr × Obj)}{σ:St}{H:Hp}{s:Shared}{a C dx:Addr}{fs:List (Str × V)}{f:Str}{v:V}{A:Around}{E:Value->Shared->Prop}
end
section
variable {X:Cx}{o e value:Expr}{f:Str}{pos pos' tpos:Pos}{ta tv:TE}
end
section
variable {X:Cx}{pins:List (Addr × Obj)}{σ:St}{H:Hp}{s:Shared}{A:Around}{E:Value->Shared->Prop}{Q:Value->Shared->Prop}{c:Value}{b:Bool}
inductive TyOf (K:Yae) (H:Hp):V->Value->Prop where
 | non:TyOf K H .non (.type "NoneType")
 | bl (x:Bool):TyOf K H (.bl x) (.type "bool")
 | int (i:Int):TyOf K H (.int i) (.type "int")
 | str (x:Str):TyOf K H (.str x) (.type "str")
 | flt (x:UInt64):TyOf K H (.flt x) (.type "float")
 | lst {a:Addr}{xs:List V} (e:H a=some (.lst xs)):TyOf K H (.ref a) (.type "list")
 | frz {a:Addr}{o:Obj}{xs:List V} (e:H a=some (.frz o (.lst xs))):TyOf K H (.ref a) (.type "list")
 | tup {a:Addr}{xs:List V} (e:H a=some (.tup xs)):TyOf K H (.ref a) (.type "tuple")
 | dK {a:Addr}{kvs:List (Key × V)} (e:H a=some (.dK kvs)):TyOf K H (.ref a) (.type "dict")
 | dT {a:Addr}{kvs:List (List Key × V)} (e:H a=some (.dT kvs)):TyOf K H (.ref a) (.type "dict")
 | ins {a C dx:Addr}{fs:List (Str × V)} (e:H a=some (.ins C dx fs)) (cl:Cls K C) (ha:YcP K (.ref C) "__class__"=some (some (.builtin "object.__class__")))
   (hn:Yeu K (.builtin "object.__class__") "__get__"=some (some (.builtin "getset_descriptor.__get__"))) (htk:PySem.W.takesIn K (.builtin "object.__class__")=some true)
   (hm:PySem.W.mroIn K C (.type "object")=some true):TyOf K H (.ref a) (.ref C)
theorem ZiQ {x:V}{u t:Value} (I:Inv X pins σ H s) (rx:RelV x u) (ty:TyOf X.K H x t) (e:Yc7 X.K t c=some b) (h:∀ tk,Q (.bool b) { s with toks:=tk }) :
  wpAny (model X.prog X.w) A (call (.builtin "isinstance") [u,c]) Q E s:=by
 cases ty with
 | non=>cases (show u=Ycp from rx);exact Yby PySem.W.kitx_none I.kIn Yb0 e (fun z=>nomatch z) h
 | bl y=>cases (show u=Yd4 y from rx);exact Yby PySem.W.kitx_bool I.kIn Yb0 e (fun z=>nomatch z) h
 | int i=>obtain⟨t,q⟩:=(show ∃ t,u=YdF i t from rx);cases q;exact Yby PySem.W.kitx_int I.kIn Yb0 e (fun z=>nomatch z) h
 | str y=>obtain⟨t,q⟩:=(show ∃ t,u=YdE y t from rx);cases q;exact Yby PySem.W.kitx_str I.kIn Yb0 e (fun z=>nomatch z) h
 | flt y=>obtain⟨t,q⟩:=(show ∃ t,u=Value.float y t from rx);cases q;exact Yby PySem.W.kitx_float I.kIn Yb0 e (fun z=>nomatch z) h
 | @lst a xs ea=>
  cases (show u=Ybd a from rx);obtain⟨_,_,n,_,h1⟩:=(show ObjOk X.prog X.w H s.heap a (.lst xs) from I.hok a _ ea)
  exact Yby Yev I.kIn ⟨_,h1,rfl⟩ e (fun z=>nomatch z) h
 | @frz a ob xs ea=>
  cases (show u=Ybd a from rx);obtain⟨_,_,_,n,_,h1⟩:=(show ObjOk X.prog X.w H s.heap a (.frz ob (.lst xs)) from I.hok a _ ea)
  exact Yby Yev I.kIn ⟨_,h1,rfl⟩ e (fun z=>nomatch z) h
 | @tup a xs ea=>
  cases (show u=Ybd a from rx);obtain⟨_,_,_,p⟩:=(show ObjOk X.prog X.w H s.heap a (.tup xs) from I.hok a _ ea)
  obtain⟨o,h1,h2,_⟩:=p;exact Yby PySem.W.kitx_tuple I.kIn ⟨o,h1,h2⟩ e (fun z=>nomatch z) h
 | @dK a kvs ea=>
  cases (show u=Ybd a from rx);obtain⟨_,_,vs,_,p⟩:=(show ObjOk X.prog X.w H s.heap a (.dK kvs) from I.hok a _ ea)
  obtain⟨o,es,ep,h1,h2,_⟩:=p;exact Yby Yew I.kIn ⟨o,h1,h2.1⟩ e (fun z=>nomatch z) h
 | @dT a kvs ea=>
  cases (show u=Ybd a from rx);obtain⟨_,_,xs,_,o,es,ep,h1,h2,_⟩:=(show ObjOk X.prog X.w H s.heap a (.dT kvs) from I.hok a _ ea)
  exact Yby Yew I.kIn ⟨o,h1,h2.1⟩ e (fun z=>nomatch z) h
 | @ins a C dx fs ea cl ha hn htk hm=>
  cases (show u=Ybd a from rx);obtain⟨mA,O,_⟩:=Zme I.hok ea;obtain⟨od,J,_⟩:=O.look;exact Yby (PySem.W.kitx_own (cl.get _) cl.hd ha hn htk hm) I.kIn J e (fun z=>nomatch z) h
end
end L2
namespace L2
open PySem PySem.Spec PyProof.Rows
structure Room (k:Nat) (A:Around):Prop where
 hd:A.handled=none
 dp:A.depth+3*k+5<recursionLimit
 un:A.units+16*k+200<cLine
 gd:A.guards=some []
theorem Room.mono {j k:Nat}{A:Around} (r:Room k A) (h:j<=k):Room j A:=⟨r.hd,by have:=r.dp;omega,by have:=r.un;omega,r.gd⟩
theorem Room.deeper {k:Nat}{A:Around} (r:Room (k+1) A) (env:Env):Room k (A.deeper env) :=
 ⟨r.hd,by have:=r.dp;show A.depth+1+3*k+5<_;omega,by have:=r.un;show A.units+3+16*k+200<_;omega,r.gd⟩
theorem Room.depth {k:Nat}{A:Around} (r:Room k A):A.depth<recursionLimit:=by have:=r.dp;omega
theorem Room.units {k:Nat}{A:Around} (r:Room k A):A.units+64<cLine:=by have:=r.un;omega
def tNil:TA:=fun _ H Q=>Q [] H
def Zlp (ta:TE) (tr:TA):TA:=fun σ H Q=>ta σ H fun x H1=>tr σ H1 fun xs H2=>Q (x::xs) H2
section
variable {X:Cx}{e:Expr}{es:List Expr}{te:TE}{t:TA}{pos:Pos}
theorem Zad:PA X [] tNil:=fun _ _ _ _ H Q I h=>YeO ⟨[],H,I,.nil,h⟩
theorem Zab (ha:PE X e te) (hr:PA X es t) (hs:starEach (e::es) X.env=(false,eval e X.env)::starEach es X.env:=by rfl):PA X (e::es) (Zlp te t):=by
 intro pos pins s σ H Q I h;rw[hs];show wpAny _ _ (spliced ((false,eval e X.env)::backTo pos (starEach es X.env))) _ _ s;refine Ydn (thn (ha pins s σ H _ I h) fun u s1 ⟨x,H1,I1,r1,q1⟩=>?_);exact thn (hr pos pins s1 σ H1 _ I1 q1) fun us s2 ⟨xs,H2,I2,r2,q2⟩=>⟨x::xs,H2,I2,.cons r1 r2,q2⟩
def tTup (t:TA):TE:=fun σ H Q=>t σ H fun xs H1=>xs.length<=sizeLine/\∀ p,H1 p=none->Q (.ref p) (upd H1 p (.tup xs))
def tLst (t:TA):TE:=fun σ H Q=>t σ H fun xs H1=>xs.length<=sizeLine/\∀ p,H1 p=none->Q (.ref p) (upd H1 p (.lst xs))
theorem Zbo {x1} (h:PA X es t):PE X (.Tuple es x1 pos) (tTup t):=by
 intro pins s σ H Q I hq;refine wpAny_Tuple_spliced (thn (h pos pins s σ H _ I hq) fun us s1 ⟨xs,H1,I1,r,z,q⟩=>⟨by rw[<- r.length];exact z,?_⟩);have hf:H1 s1.heap.objs.size=none:=I1.hok.fresh (Yak _);refine⟨.ref s1.heap.objs.size,upd H1 s1.heap.objs.size (.tup xs),I1.laid (t':=s1.toks) (fun b u e=>Yad _ e) (Yak _) ?_,rfl,q _ hf⟩;exact⟨z,us,r,⟨_,Yav _ rfl,rfl,rfl,_,rfl⟩⟩
theorem ZaJ (h:PA X es t):PE X (.List es pos) (tLst t):=by
 intro pins s σ H Q I hq;refine wpAny_List_spliced (thn (h pos pins s σ H _ I hq) fun us s1 ⟨xs,H1,I1,r,z,q⟩=>⟨by rw[<- r.length];exact z,?_⟩);have hf:H1 s1.heap.objs.size=none:=I1.hok.fresh (Yak _);refine⟨.ref s1.heap.objs.size,upd H1 s1.heap.objs.size (.lst xs),I1.laid (t':=s1.toks) (fun b u e=>Yad _ e) (Yak _) ?_,rfl,q _ hf⟩;exact⟨z,us,0,r,Yav _ rfl⟩
end
abbrev Sp:=List V->Hp->VK->XK->Prop
abbrev CXT:=List Env->Hp->Shared->XK->Value->Shared->Prop
structure Env0 (P:Program) (w:World) (K:Yae) (mg:Str->Option Value) (base:Heap) (A:Around) (outer:List Env) (s:Shared) (H:Hp):Prop where
 frames:A.frames=some outer
 mod:Mod K mg base
 bs:∀ b o,base.get? b=some o->s.heap.get? b=some o/\H b=none
 bsz:base.objs.size<=s.heap.objs.size
 funs:s.heap.FunFrames base outer
 frf:∀ b∈frs outer,H b=none
 hok:HOk P w H s.heap
 bare:AllBare s.gens
def CE (outer:List Env) (P:Program) (w:World) (H:Hp) (s:Shared) (Q:VK) (u:Value) (s':Shared):Prop :=
 ∃ v H',s'.os=s.os/\AllBare s'.gens/\Un (frs outer) [] H H' s.heap s'.heap/\HOk P w H' s'.heap/\RelV v u/\Q v H'
def CR (CX:CXT) (outer:List Env) (P:Program) (w:World) (H:Hp) (s:Shared) (Q:VK) (E:XK) (r:Result) (s':Shared):Prop :=
 match r with
 | .ok (.ret u)=>CE outer P w H s Q u s'
 | .ok _=>False
 | .error e=>CX outer H s E e s'
structure FnOk (P:Program) (w:World) (K:Yae) (mg:Str->Option Value) (base:Heap) (CX:CXT) (k:Nat) (f:Addr) (fd:FuncData) (ps:List Str) (sp:Sp):Prop where
 len:∀ vs H Q E,sp vs H Q E->vs.length=ps.length
 run:∀ (A:Around) (outer:List Env) (s:Shared) (H:Hp) (args:Args) (us:List Value) (vs:List V) (Q:VK) (E:XK),Room k A->Env0 P w K mg base A outer s H->BindsTo s fd args (ps.zip us)->Vals vs us->sp vs H Q E ->
  codeAny (model P w) A (.call (.ref f) args) (CR CX outer P w H s Q E) s
section
variable {X:Cx}{pins:List (Addr × Obj)}{σ:St}{H:Hp}{s s':Shared}
theorem Inv.env0 (I:Inv X pins σ H s):Env0 X.prog X.w X.K X.mg X.base X.A X.stack s H :=
 ⟨I.ok.frames,I.ok.mod,I.bs,Ybj I.ok.bsz I.sz,I.stack,I.stkFree,I.hok,I.bare⟩
theorem Inv.after {Q:VK}{u:Value} (I:Inv X pins σ H s) (h:CE X.stack X.prog X.w H s Q u s'):EP X pins σ Q u s':=by
 obtain⟨v,H',os,bare,un,hok,r,q⟩:=h;obtain⟨hh,g,d,t,os'⟩:=s';obtain rfl:os'=s.os:=os;exact⟨v,H',I.call (h':=hh) (g':=g) (d':=d) (t':=t) (ch:=[]) un hok bare (fun b z=>absurd z (by simp)),r,q⟩
end
def ZjJ (sp:Sp) (dvs:List V) (E:XK) (t:TA):TE:=fun σ H Q=>t σ H fun vs H1=>sp (vs++dvs) H1 Q E
def Binds (K:Yae) (fd:FuncData) (ps:List Str) (ds:List Value):Prop :=
 ∀ (s:Shared) (us:List Value),K.In s.heap->(us++ds).length=ps.length->BindsTo s fd ⟨us,[]⟩ (ps.zip (us++ds))
theorem Binds.all {K:Yae}{fd:FuncData}{ps:List Str} (h:∀ us:List Value,us.length=ps.length->bindArgs fd ⟨us,[]⟩=pure (ps.zip us)):Binds K fd ps []:=fun s us _ hl=>by
 rw[Ybf] at hl ⊢;exact .of_eq (h us hl)
def ZjA (CX:CXT) (X:Cx) (E:XK):Prop:=∀ (pins:List (Addr × Obj)) (σ:St) (H:Hp) (s:Shared) (e:Value) (s':Shared),Inv X pins σ H s->CX X.stack H s E e s'->X.xe e s'
section
variable {X:Cx}{CX:CXT}{k:Nat}{f C:Addr}{fd:FuncData}{ps:List Str}{sp:Sp}{dvs:List V}{ds:List Value}{E:XK}{x m:Str}{p pos apos:Pos}{e o:Expr}{es:List Expr}{ta:TE}{t:TA}
theorem ZkX {pins:List (Addr × Obj)}{σ:St}{H:Hp}{s:Shared}{Q:VK}{us:List Value}{vs:List V} (F:FnOk X.prog X.w X.K X.mg X.base CX k f fd ps sp) (hr:Room k X.A) (hb:Binds X.K fd ps ds) (hd:Vals dvs ds) (hx:ZjA CX X E)
  (I:Inv X pins σ H s) (r:Vals vs us) (h:sp (vs++dvs) H Q E):wpAny (model X.prog X.w) X.A (call (.ref f) us) (EP X pins σ Q) X.xe s:=by
 have r2:Vals (vs++dvs) (us++ds):=r.append hd;have hl:(us++ds).length=ps.length:=by rw[<- r2.length];exact F.len _ _ _ _ h
 refine wpAny_call (codeAny_mono (F.run X.A X.stack s H ⟨us,[]⟩ (us++ds) (vs++dvs) Q E hr I.env0 (hb s us I.kIn hl) r2 h) fun r s' hq=>?_)
 cases r with
 | error e=>exact hx pins σ H s e s' I hq
 | ok fl=>
  cases fl with
  | ret u=>exact I.after hq
  | next=>exact Yct hq
  | brk=>exact Yct hq
  | cont=>exact Yct hq
theorem Zih (F:FnOk X.prog X.w X.K X.mg X.base CX k f fd ps sp) (hr:Room k X.A) (hg:Gl X x) (hm:X.mg x=some (.ref f)) (hk:Yaq X.K (.ref f)=true) (hb:Binds X.K fd ps ds) (hd:Vals dvs ds) (hx:ZjA CX X E)
  (ha:PA X (e::es) t) (hdb:(x == ("__debug__":Str))=false:=by decide) (he:starEach (e::es) X.env=(false,eval e X.env)::starEach es X.env:=by rfl) (hpl:(backTo pos (starEach es X.env)).any (·.1)=false:=by rfl) :
  PE X (.Call (.Name x p) (e::es) [] pos) (ZjJ sp dvs E t):=by
 intro pins s σ H Q I h;refine wpAny_Call_Name_kw (ZiG I hg hm ?_ hdb);refine Yel (h₀:=X.base) I.ok.mod.kin hk (thn (ha pos pins s σ H _ I h) fun us s1 ⟨vs,H1,I1,r,q⟩=>⟨I1.kIn,?_⟩) he hpl;exact ZkX F hr hb hd hx I1 r q
structure Mk (K:Yae) (C f:Addr):Prop where
 makes:PySem.W.makesIn K C=true
 init:YcP K (.ref C) "__init__"=some (some (.ref f))
 fn:PySem.W.isFn K (.ref f)=true
 kp:Yaq K (.ref C)=true
end
section
variable {X:Cx}{CX:CXT}{k:Nat}{f C:Addr}{fd:FuncData}{ps ks:List Str}{sp:Sp}{E:XK}{x m:Str}{p pos apos kpos:Pos}{e o:Expr}{es:List Expr}{kws:List Keyword}{te ta:TE}{t tk:TA}{nm:Option Str}
structure KBinds (K:Yae) (fd:FuncData) (ps ks:List Str) (g:List Value->List Value->List Value) (gV:List V->List V->List V):Prop where
 to:∀ (s:Shared) (us ws:List Value),K.In s.heap->(g us ws).length=ps.length->BindsTo s fd ⟨us,ks.zip ws⟩ (ps.zip (g us ws))
 rel:∀ {vs:List V}{us:List Value}{zs:List V}{ws:List Value},Vals vs us->Vals zs ws->Vals (gV vs zs) (g us ws)
variable {g:List Value->List Value->List Value}{gV:List V->List V->List V}
end
structure FnScope (N P:List Str) (sc:Scope):Prop where
 kind:sc.kind=.function
 co:sc.isCoroutine=false
 gen:sc.isGenerator=false
 nd:N.Nodup
 pre:N.take P.length=P
 par:∀ x∈P,sc.names.lookup x=some .local ∨ sc.names.lookup x=some .cell
 nofree:∀ y∈sc.names,y.2≠.free
theorem ZfA {kindOf:Str->Option NameKind}{x:Str}:∀ {binds:List (Str × Value)}{m:Str->Option Value},(∀ v,(x,v) ∉ binds)->bindL kindOf binds m x=m x
 | [],_,_=>rfl
 | (n,v)::r,m,h=>by
  unfold bindL;rw[ZfA fun w hw=>h w (YaC _ hw)];split
  ·have:x≠n:=by rintro rfl;exact h v YaD
   simp[this]
  ·rfl
theorem ZfC {kindOf:Str->Option NameKind}{x:Str}:∀ {binds:List (Str × Value)}{m:Str->Option Value},(∀ v,(x,v) ∉ binds)->bindC kindOf binds m x=m x
 | [],_,_=>rfl
 | (n,v)::r,m,h=>by
  unfold bindC;rw[ZfC fun w hw=>h w (YaC _ hw)];split
  ·rfl
  ·have:x≠n:=by rintro rfl;exact h v YaD
   simp[this]
theorem ZfB {kindOf:Str->Option NameKind}{x:Str}{v:Value}:∀ {P:List Str}{vs:List Value}{i:Nat}{m:Str->Option Value},P.Nodup->P[i]?=some x->vs[i]?=some v->kindOf x=some .local ->
  bindL kindOf (P.zip vs) m x=some v
 | [],_,_,_,_,h,_,_=>by simp at h
 | _::_,[],_,_,_,_,h,_=>by simp at h
 | p::P,w::vs,0,m,nd,h1,h2,hk=>by
  simp at h1 h2;subst h1;subst h2;show bindL kindOf ((p,w)::P.zip vs) m p=_;unfold bindL;rw[ZfA fun v hv=>(YbQ.mp nd).1 (YdO hv).1,if_pos hk];simp
 | p::P,w::vs,i+1,m,nd,h1,h2,hk=>by
  show bindL kindOf ((p,w)::P.zip vs) m x=_;unfold bindL;exact ZfB (i:=i) (YbQ.mp nd).2 (by simpa using h1) (by simpa using h2) hk
theorem ZfD {kindOf:Str->Option NameKind}{x:Str}{v:Value}:∀ {P:List Str}{vs:List Value}{i:Nat}{m:Str->Option Value},P.Nodup->P[i]?=some x->vs[i]?=some v->kindOf x≠some .local ->
  bindC kindOf (P.zip vs) m x=some v
 | [],_,_,_,_,h,_,_=>by simp at h
 | _::_,[],_,_,_,_,h,_=>by simp at h
 | p::P,w::vs,0,m,nd,h1,h2,hk=>by
  simp at h1 h2;subst h1;subst h2;show bindC kindOf ((p,w)::P.zip vs) m p=_;unfold bindC;rw[ZfC fun v hv=>(YbQ.mp nd).1 (YdO hv).1,if_neg hk];simp
 | p::P,w::vs,i+1,m,nd,h1,h2,hk=>by
  show bindC kindOf ((p,w)::P.zip vs) m x=_;unfold bindC;exact ZfD (i:=i) (YbQ.mp nd).2 (by simpa using h1) (by simpa using h2) hk
def ZdA (N:List Str) (vs:List V):St:=vs.map some++Yaf (N.length - vs.length) none
def cxOf (CX:CXT) (P:Program) (w:World) (K:Yae) (mg:Str->Option Value) (base:Heap) (N:List Str) (qual:Str) (scope:Scope) (f:Addr) (cd:Value) (A:Around) (outer:List Env) (s:Shared) (H:Hp) (E:XK):Cx where
 prog:=P
 w:=w
 K:=K
 mg:=mg
 base:=base
 A:=A.deeper (envOfC qual scope s.heap.objs.size f cd)
 N:=N
 s₀:=s
 H₀:=H
 env:=envOfC qual scope s.heap.objs.size f cd
 outer:=outer
 stack:=envOfC qual scope s.heap.objs.size f cd::outer
 ex:=[]
 calm:=true
 fn:=fun _=>true
 pn:=[]
 xe:=fun e s'=>wpAny (model P w) (A.deeper (envOfC qual scope s.heap.objs.size f cd)) (leaving (envOfC qual scope s.heap.objs.size f cd) e) (fun _ s''=>CX outer H s E e s'') (fun e' s''=>CX outer H s E e' s'') s'
theorem ZgX {sc:Scope}{n:Nat}{x:Str} (h:sc.names.lookup x=some .cell):∃ c,(cellsFrom n sc.names []).lookup x=some c:=by
 have q:=Yd5 sc.names n [] (.inl h);exact Yd3.mp q
theorem ZiR {CX:CXT}{P:Program}{w:World}{K:Yae}{mg:Str->Option Value}{base:Heap}{N ps:List Str}{qual:Str}{scope:Scope}{f:Addr}{cd:Value}{A:Around}{outer:List Env}{s s1:Shared}{H:Hp}{E:XK}{us:List Value}{vs:List V}
  (S:FnScope N ps scope) (hd:A.handled=none) (e0:Env0 P w K mg base A outer s H) (hl:vs.length=ps.length) (r:Vals vs us)
  (x:InCallC s s.heap.objs.size (bindL (envOfC qual scope s.heap.objs.size f cd).kindOf (ps.zip us) fun _=>none) (cellsFrom (s.heap.objs.size+1) scope.names []) (bindC (envOfC qual scope s.heap.objs.size f cd).kindOf (ps.zip us) fun _=>none) s1) :
  Inv (cxOf CX P w K mg base N qual scope f cd A outer s H E) [] (ZdA N vs) H s1:=by
 have hpl:ps.length<=N.length:=by have:=congrArg Ycs S.pre;rw[YaL] at this;(clear hl;omega)
 obtain⟨h1,tk,rfl,hk⟩:=x.done;have noA:∀ b:Addr,b ∉ (cxOf CX P w K mg base N qual scope f cd A outer s H E).ex:=fun b z=>absurd (show b∈([]:List Addr) from z) (by simp);refine⟨⟨e0.mod,S.kind,rfl,rfl,Yak _,fun y z c h1 h2=>?_,fun y hy=>?_,fun y c _ h=>?_,fun _=>hd,Around.frames_deeper e0.frames,.inr ⟨rfl,rfl⟩,fun b z=>absurd z (noA b),e0.bs,e0.bsz,fun b _ _=>noA b,fun b z=>absurd z (noA b),e0.funs,e0.frf⟩,
  rfl,e0.bare,Un.kept hk,⟨_,x.toInCall.ns,fun i y v h1 h2 h3=>?_⟩,fun y c h=>⟨_,x.cell y c h⟩,e0.hok.fresh (Yak _),fun y c h=>?_,fun p hp=>absurd (show p∈([]:List (Addr × Obj)) from hp) (by simp),e0.hok.kept hk,?_⟩
 ·exact name_of_addr x.apart (Ybt h1) (Ybt h2)
 ·have hy:scope.names.lookup y=some .cell∨scope.names.lookup y=some .free:=hy;rcases hy with hy | hy
  ·exact ZgX hy
  ·exact absurd rfl (S.nofree _ (Ybt hy))
 ·exact YaW (x.above y c (Ybt h))
 ·have hi:i<vs.length:=by
   unfold ZdA at h2;by_cases hi:i<vs.length
   ·exact hi
   ·rw[YaA (by simpa using hi)] at h2;rw[Yc3] at h2;split at h2 <;> cases h2
  have ha:vs[i]?=some v:=by
   unfold ZdA at h2;rw[YaK (by simpa using hi),Yag] at h2
   cases e:vs[i]? with
   | none=>rw[e] at h2;cases h2
   | some a=>rw[e] at h2;cases h2;rfl
  obtain⟨u,hu,rv⟩:=r.get ha;have hp:ps[i]?=some y:=by
   rw[<- S.pre,YbS (by (clear hpl;omega))];exact h1
  have ndP:ps.Nodup:=by rw[<- S.pre];exact S.nd.sublist (List.take_sublist _ _)
  refine⟨u,rv,?_⟩;rcases S.par y (Yah hp) with k | k
  ·exact .inl ⟨k,ZfB ndP hp hu k⟩
  ·obtain⟨c,e⟩:=ZgX (n:=s.heap.objs.size+1) k;refine .inr ⟨.inl k,c,e,?_⟩;have q:=x.cell y c e;rw[ZfD ndP hp hu (by show scope.names.lookup y≠_;rw[k];decide)] at q;exact q
 ·exact e0.hok.fresh (YaW (x.above y c (Ybt h)))
 ·unfold ZdA;show _=N.length;rw[Yan,Yaa,YaP];omega
theorem Znw {CX:CXT}{P:Program}{w:World}{K:Yae}{mg:Str->Option Value}{base:Heap}{k:Nat}{f:Addr}{name qual:Str}{params:Arguments}{body:List Stmt}{scope:Scope}{dV kV doc pm cdv ct oc:Value}{an od:Option Addr}
  {osl:Array (Option Value)}{N ps:List Str}{sp:Sp} (lk:K.lookup f=some ⟨oc,od,.func (Yaw name qual params body scope dV kV doc pm an cdv ct),osl⟩) (hcd:Yat K cdv qual=true) (S:FnScope N ps scope)
  (len:∀ vs H Q E,sp vs H Q E->vs.length=ps.length)
  (hbody:∀ (A:Around) (outer:List Env) (s:Shared) (H:Hp) (vs:List V) (Q:VK) (E:XK),Room k (A.deeper (envOfC qual scope s.heap.objs.size f cdv))->sp vs H Q E ->
   ∃ t,PSs (cxOf CX P w K mg base N qual scope f cdv A outer s H E) body t/\t { nx:=fun _ H'=>Q .non H',rt:=Q } (ZdA N vs) H) :
  FnOk P w K mg base CX (k+1) f (Yaw name qual params body scope dV kV doc pm an cdv ct) ps sp:=by
 refine⟨len,fun A outer s H args us vs Q E hr e0 hb r hsp=>?_⟩;have hl:=len _ _ _ _ hsp;have KX:K.In s.heap:=e0.mod.kin.keeps fun b o e=>(e0.bs b o e).1
 have lim:s.heap.NoLimit:=e0.mod.nolimit.keeps fun b o e=>(e0.bs b o e).1
 have hkind:∀ y∈ps.zip us,scope.names.lookup y.1=some .local ∨ (scope.names.lookup y.1=some .cell/\((cellsFrom (s.heap.objs.size+1) scope.names []).lookup y.1).isSome=true):=fun ⟨n,v⟩ hy=>by
  rcases S.par n (YdO hy).1 with q | q
  ·exact .inl q
  ·exact .inr ⟨q,Yd5 _ _ _ (.inl q)⟩
 refine codeAny_call_function hr.depth (KX _ _ lk) rfl S.co S.gen rfl (PySem.W.codeRec_of KX hcd) (hb _ _ _ _ ?_);refine wpAny_newFunctionEnv_cells S.kind hkind fun env he s1 x=>?_;subst he;refine⟨lim.keeps x.toInCall.keep,codeAny_func ?_⟩;obtain⟨t,ht,hq⟩:=hbody A outer s H vs Q E (hr.deeper _) hsp;have I:Inv (cxOf CX P w K mg base N qual scope f cdv A outer s H E) [] (ZdA N vs) H s1:=ZiR S hr.hd e0 hl r x;refine wpAny_mono (ht [] s1 (ZdA N vs) H _ I hq) (fun fl s' hs=>?_) fun e s' hs=>hs;have fin:∀ {σ':St}{H':Hp}{v:V}{u:Value},Inv (cxOf CX P w K mg base N qual scope f cdv A outer s H E) [] σ' H' s'->RelV v u->Q v H'->CE outer P w H s Q u s' :=
  fun {σ' H' v u} J rv q=>⟨v,H',J.os,J.bare,J.base,J.hok,rv,q⟩
 cases fl with
 | ret u=>
  obtain⟨v,σ',H',J,rv,q⟩:=hs;exact fin J rv q
 | next=>
  obtain⟨σ',H',J,q⟩:=hs;exact fin (v:=V.non) (u:=Ycp) J rfl q
 | brk=>
  obtain⟨_,_,_,q⟩:=hs;exact Yct q
 | cont=>
  obtain⟨_,_,_,q⟩:=hs;exact Yct q
end L2
namespace L2
open PySem PySem.Spec PyProof.Rows
section
variable {X:Cx}{x:Str}{p pos:Pos}{e:Expr}{es:List Expr}{t:TA}{id T:String}{r:List V->Hp->VK->Prop}
def tCB (r:List V->Hp->VK->Prop) (t:TA):TE:=fun σ H Q=>t σ H fun vs H1=>r vs H1 Q
theorem Zan (hc:ZbD X (.builtin id) r) (hg:Gl X x) (hm:X.mg x=none) (hv:bootBuiltins x=some (.builtin id)) (ha:PA X (e::es) t) (hn:x≠"__name__":=by decide) (hdb:(x == ("__debug__":Str))=false:=by decide)
  (he:starEach (e::es) X.env=(false,eval e X.env)::starEach es X.env:=by rfl) (hpl:(backTo pos (starEach es X.env)).any (·.1)=false:=by rfl):PE X (.Call (.Name x p) (e::es) [] pos) (tCB r t):=by
 intro pins s σ H Q I h;refine wpAny_Call_Name_kw (Zd3 I hg hm hv ?_ hn hdb);exact PyProof.Rows.callWith_builtin1 (thn (ha pos pins s σ H _ I h) fun us s1 ⟨vs,H1,I1,r1,q1⟩=>hc pins s1 σ H1 vs us Q I1 r1 q1) he hpl
theorem ZaU (hc:ZbD X (.type T) r) (hg:Gl X x) (hm:X.mg x=none) (hv:bootBuiltins x=some (.type T)) (ha:PA X (e::es) t) (hn:x≠"__name__":=by decide) (hdb:(x == ("__debug__":Str))=false:=by decide)
  (he:starEach (e::es) X.env=(false,eval e X.env)::starEach es X.env:=by rfl) (hpl:(backTo pos (starEach es X.env)).any (·.1)=false:=by rfl):PE X (.Call (.Name x p) (e::es) [] pos) (tCB r t):=by
 intro pins s σ H Q I h;refine wpAny_Call_Name_kw (Zd3 I hg hm hv ?_ hn hdb);exact YbT (thn (ha pos pins s σ H _ I h) fun us s1 ⟨vs,H1,I1,r1,q1⟩=>hc pins s1 σ H1 vs us Q I1 r1 q1) he hpl
end
end L2
namespace HT
open PySem PyProof.Rows
section
open PySem.SeqAt
open PySem.AutoSeq1 (wpAny_loadPart')
open PySem.MeetsSeq PySem.MeetsSeq2 PySem.MeetsSeq3
end
section
variable {prog:Program}{w:World}{A:Around}{E:Value->Shared->Prop}{s:Shared}
theorem cat_tup {t b:Addr}{vs ws:List Value}{Q:Value->Shared->Prop} (ht:IsTup s.heap t vs.toArray) (hb:IsTup s.heap b ws.toArray) (hv:vs≠[])
  (h1:ws=[]->Q (.ref t) s) (h2:ws≠[]->Q (.ref s.heap.objs.size) { s with heap:=s.heap.push { cls:=.type "tuple",data:=.seq (vs++ws).toArray } })
  (hsz:vs.length+ws.length<=sizeLine):wpAny (model prog w) A (binaryOp .Add (.ref t) (.ref b)) Q E s:=by
 obtain⟨⟨cls,dd,data,sl⟩,ho,hc,n,hd⟩:=id ht;obtain⟨⟨cls2,dd2,data2,sl2⟩,ho2,hc2,n2,hd2⟩:=id hb;simp only at hc hd hc2 hd2;subst hc hd hc2 hd2;have e:vs.toArray++ws.toArray=(vs++ws).toArray:=by simp
 by_cases hw:ws=[]
 ·exact concat_meets ⟨_,ho,rfl⟩ ⟨_,ho2,rfl⟩ noFill_tuple_add seq_tuple_add Yd6 Yd1 (YdM _ _)
   (tuple_addW1 t b vs.toArray ws.toArray n n2 dd dd2 sl sl2 (by simpa using hv) (by simp[hw])) ⟨ho,ho2,h1 hw⟩
 ·refine concat_meets ⟨_,ho,rfl⟩ ⟨_,ho2,rfl⟩ noFill_tuple_add seq_tuple_add Yd6 Yd1 (YdM _ _)
   (tuple_addW2 t b vs.toArray ws.toArray n n2 dd dd2 sl sl2 (by simpa using hv) (by simpa using hw) (by rw[Yal,Yal];exact hsz)) ⟨ho,ho2,?_⟩
  rw[e];exact h2 hw
def sIx (n d:Nat):Option Int->Nat
 | none=>d
 | some v=>if v<0 then (v+(n:Int)).toNat else min v.toNat n
theorem sIx_nat (n d k:Nat):sIx n d (some (k:Int))=min k n:=by
 show (if (k:Int)<0 then ((k:Int)+(n:Int)).toNat else min (k:Int).toNat n)=min k n;rw[if_neg (by omega),Ybg]
theorem ZmW (n d:Nat) (hd:d<=n) (o:Option Int):sIx n d o<=n:=by
 cases o with
 | none=>exact hd
 | some v=>
  show (if v<0 then (v+(n:Int)).toNat else min v.toNat n)<=n;by_cases hv:v<0
  ·rw[if_pos hv];(clear hd;omega)
  ·rw[if_neg hv];exact Nat.min_le_right _ _
theorem Zjp (v:Int) (n d:Nat):(if v<0 then max (v+(n:Int)) 0 else min v (n:Int))=((sIx n d (some v):Nat):Int):=by
 show (if v<0 then max (v+(n:Int)) 0 else min v (n:Int))=(((if v<0 then (v+(n:Int)).toNat else min v.toNat n):Nat):Int);by_cases hv:v<0
 ·simp only[if_pos hv];(clear hv;omega)
 ·simp only[if_neg hv];omega
theorem Zhs (lo hi:Option Int) (n:Nat):YcI lo hi 1 (n:Int)=(((sIx n 0 lo:Nat):Int),((sIx n n hi:Nat):Int)):=by
 have h1:¬ ((1:Int)<0):=by omega
 unfold YcI;simp only[h1,if_false];refine YeI ?_ ?_
 ·cases lo with
  | none=>rfl
  | some v=>exact Zjp v n 0
 ·cases hi with
  | none=>rfl
  | some v=>exact Zjp v n n
theorem Zhe (i j:Nat):Yb4 (i:Int) (j:Int) 1=j - i:=by
 unfold Yb4;have h1:(1:Int) > 0:=by omega
 simp only[h1,if_true,Int.ediv_one];split <;> (clear h1;omega)
theorem ZdM {v:Value}{o:Option Int}{Q:Option Int->Shared->Prop} (p:IsPart v o) (h:Q o s):wpAny (model prog w) A (Builtin.Slice.slicePartIndex v) Q E s:=by
 cases p with
 | none=>exact slicePart_none h
 | int i t=>exact slicePart_int h
theorem ZcR {sl:Addr}{vl vu:Value}{lo hi:Option Int}{n:Nat}{Q:Int × Int × Nat->Shared->Prop} (hs:s.heap.IsSliceOf sl vl vu .none) (pl:IsPart vl lo) (pu:IsPart vu hi)
  (h:Q (((sIx n 0 lo:Nat):Int),1,sIx n n hi - sIx n 0 lo) s):wpAny (model prog w) A (Ydk (.ref sl) (pure (n:Int))) Q E s:=by
 obtain⟨os,hos,hcs,hds⟩:=id hs;unfold Ydk Builtin.Slice.sliceFields;refine wpAny_bind (wpAny_bind (wpAny_field hos hds (x:=vl) rfl (wpAny_bind (wpAny_field hos hds (x:=vu) rfl (wpAny_bind (wpAny_field hos hds (x:=.none) rfl (wpAny_pure ?_)))))));refine wpAny_bind (slicePart_none ?_);show wpAny _ _ (if ((1:Int) == 0)=true then _ else _) _ _ s;rw[if_neg (by decide)];refine wpAny_bind (ZdM pl (wpAny_bind (ZdM pu (wpAny_bind (wpAny_pure ?_)))));show wpAny _ _ (match YcI lo hi 1 (n:Int) with | (lo,hi)=>pure (lo,(1:Int),Yb4 lo hi 1)) _ _ s;rw[Zhs lo hi n];show wpAny _ _ (pure (((sIx n 0 lo:Nat):Int),(1:Int),Yb4 ((sIx n 0 lo:Nat):Int) ((sIx n n hi:Nat):Int) 1)) _ _ s;rw[Zhe];exact wpAny_pure h
theorem ZjZ (xs:Array Value) (i k:Nat):((YaH k).filterMap fun (m:Nat)=>xs[((i:Int)+(m:Int)*1).toNat]?).toArray=((xs.toList.drop i).take k).toArray:=by
 have e:(fun (m:Nat)=>xs[((i:Int)+(m:Int)*1).toNat]?)=fun m=>xs[i+m]?:=by
  funext m
  have:((i:Int)+(m:Int)*1).toNat=i+m:=by omega
  rw[this]
 rw[e];have:=pick_run xs i k;rw[Ycy] at this;have e2:((fun x=>xs[x]?) ∘ fun x=>i+x)=fun m=>xs[i+m]?:=rfl;rw[e2] at this;rw[this]
theorem getItem_tuple_cut {t sl:Addr}{items:Array Value}{vl vu:Value}{lo hi:Option Int}{Q:Value->Shared->Prop} (ht:IsTup s.heap t items) (hs:s.heap.IsSliceOf sl vl vu .none) (pl:IsPart vl lo) (pu:IsPart vu hi)
  (hw:¬ (sIx items.size 0 lo=0/\sIx items.size items.size hi=items.size))
  (h:Q (.ref s.heap.objs.size) { s with heap:=s.heap.push { cls:=.type "tuple",data:=.seq ((items.toList.drop (sIx items.size 0 lo)).take (sIx items.size items.size hi - sIx items.size 0 lo)).toArray } })
  (hsz:items.size<=sizeLine):wpAny (model prog w) A (getItem (.ref t) (.ref sl)) Q E s:=by
 have htake:sizeOk (.seq ((items.toList.drop (sIx items.size 0 lo)).take (sIx items.size items.size hi - sIx items.size 0 lo)).toArray):=by
  show ((items.toList.drop (sIx items.size 0 lo)).take (sIx items.size items.size hi - sIx items.size 0 lo)).toArray.size<=sizeLine;rw[Yal,YaL,YbG,YaZ]
  (clear hw;omega)
 have hj:sIx items.size items.size hi<=items.size:=ZmW _ _ (Yak _) hi;obtain⟨os,hos,hcs,hds⟩:=id hs;have hTs:s.TypeIs (.ref sl) "slice":=⟨os,hos,hcs⟩
 unfold getItem
 try with_reducible refine wpAny_holding ?_
 first | refine wpAny_bind (wpAny_pure ?_) | skip
 refine wpAny_bind (wpAny_sequenceKey ht.typeIs (by decide) ?_);refine wpAny_bind (wpAny_callSpecial?_slot (name:=YcW "__getitem__") ht.typeIs Ycq
  (wpAny_call_entry Ycq ht.typeIs entry_tuple_getitem ?_ (args_tuple_getitem _ _)))
 show wpAny _ _ (Builtin.Tuple.tupleItemsOf (.ref t) >>= _) _ _ s;refine wpAny_bind (tupleItemsOf_ ht ?_);refine wpAny_bind (wpAny_typeOf hTs ?_);rw[if_pos (by decide)];refine wpAny_bind (ZcR hs pl pu ?_);have hno:¬ ((((sIx items.size 0 lo:Nat):Int) == 0 && (1:Int) == 1 && (sIx items.size items.size hi - sIx items.size 0 lo) == items.size)=true):=by
  intro q;rw[YbZ,YbZ] at q;have q1:((sIx items.size 0 lo:Nat):Int)=0:=eq_of_beq q.1.1;have q2:sIx items.size items.size hi - sIx items.size 0 lo=items.size:=eq_of_beq q.2;exact hw ⟨by (clear q2 q hj hsz hw;omega),by (clear q1 q hsz hw;omega)⟩
 show wpAny _ _ (if (((sIx items.size 0 lo:Nat):Int) == 0 && (1:Int) == 1 && (sIx items.size items.size hi - sIx items.size 0 lo) == items.size)=true then _ else _) _ _ s;rw[if_neg hno,ZjZ]
 first
  | exact wpAny_bind (m:=Yca _) (wpAny_newObj_type (wpAny_pure ⟨_,rfl,wpAny_pure h⟩) htake)
  | exact wpAny_bind (m:=Yca _) (wpAny_newObj_type (wpAny_bind (wpAny_pure (wpAny_pure ⟨_,rfl,wpAny_pure h⟩))) htake)
  | exact wpAny_bind (wpAny_bind (m:=Yca _) (wpAny_newObj_type (wpAny_pure (wpAny_pure ⟨_,rfl,wpAny_pure h⟩)) htake))
  | exact wpAny_bind (wpAny_bind (m:=Yca _) (wpAny_newObj_type (wpAny_pure ⟨_,rfl,wpAny_pure h⟩) htake))
end
end HT
namespace L2
open PySem PySem.Spec PyProof.Rows
abbrev TO:=St->Hp->(Option Int->Hp->Prop)->Prop
def PO (X:Cx) (e:Option Expr) (t:TO):Prop :=
 ∀ (pins:List (Addr × Obj)) (s:Shared) (σ:St) (H:Hp) (Q:Option Int->Hp->Prop),Inv X pins σ H s->t σ H Q ->
  wpAny (model X.prog X.w) X.A (evalPart e X.env) (fun u s'=>∃ o H',Inv X pins σ H' s'/\IsPart u o/\Q o H') X.xe s
def Zlo:TO:=fun _ H Q=>Q none H
def ZnK (t:TE):TO:=fun σ H Q=>t σ H fun x H1=>∃ i,x=.int i/\Q (some i) H1
theorem ZbW {ns:List Int}:∀ {us:List Value},Vals (ns.map V.int) us->IntsAre us ns:=by
 induction ns with
 | nil=>intro us r;rw[Yb8] at r;cases r;exact .nil
 | cons n ns ih=>
  intro us r;rw[Yam] at r
  cases r with
  | cons r1 r2=>
   obtain⟨t,e⟩:=r1;subst e;exact .cons n t (ih r2)
section
variable {X:Cx}{e:Expr}{te:TE}{lo hi:Option Expr}{tl th:TO}{pos p2:Pos}
theorem Zb9:PO X none Zlo:=by
 intro pins s σ H Q I h;rw[evalPart_none];exact wpAny_pure ⟨none,H,I,.none,h⟩
theorem Za9 (h:PE X e te):PO X (some e) (ZnK te):=by
 intro pins s σ H Q I hw;rw[evalPart_some];refine thn (h pins s σ H _ I hw) fun u s1 ⟨x,H1,I1,r1,q1⟩=>?_;obtain⟨i,rfl,q⟩:=q1;obtain⟨t,rfl⟩:=r1;exact⟨some i,H1,I1,.int i t,q⟩
def SlR (X:Cx) (r:V->Option Int->Option Int->Hp->VK->Prop):Prop :=
 ∀ (pins:List (Addr × Obj)) (s:Shared) (σ:St) (H:Hp) (x:V) (v vl vu:Value) (lo hi:Option Int) (sl:Addr) (Q:VK),Inv X pins σ H s->RelV x v->s.heap.IsSliceOf sl vl vu .none->IsPart vl lo->IsPart vu hi->r x lo hi H Q ->
  ∃ T id,typeLookup (.type T) "__getitem__"=pure (some (.builtin id))/\s.TypeIs v T/\wpAny (model X.prog X.w) X.A (getItem v (.ref sl)) (EP X pins σ Q) X.xe s
def tSl (r:V->Option Int->Option Int->Hp->VK->Prop) (te:TE) (tl th:TO):TE:=fun σ H Q=>te σ H fun x H1=>tl σ H1 fun l H2=>th σ H2 fun u H3=>r x l u H3 Q
theorem Zbz {r:V->Option Int->Option Int->Hp->VK->Prop} (hr:SlR X r) (he:PE X e te) (hl:PO X lo tl) (hu:PO X hi th):PE X (.Subscript e (.Slice lo hi none p2) pos) (tSl r te tl th):=by
 intro pins s σ H Q I h;refine Subscript_ (thn (he pins s σ H _ I h) fun v s1 ⟨x,H1,I1,r1,q1⟩=>?_);refine wpAny_Slice (thn (hl pins s1 σ H1 _ I1 q1) fun vl s2 ⟨l,H2,I2,pl,q2⟩=>thn (hu pins s2 σ H2 _ I2 q2) fun vu s3 ⟨u,H3,I3,pu,q3⟩=>?_);rw[evalPart_none];refine wpAny_pure ?_;have I4:Inv X pins σ H3 { s3 with heap:=s3.heap.push { cls:=.type "slice",data:=.fields #[vl,vu,.none] } }:=I3.kept (t':=s3.toks) fun b ob q=>Yad _ q;obtain⟨T,id,hT,ht,hg⟩:=hr pins { s3 with heap:=s3.heap.push { cls:=.type "slice",data:=.fields #[vl,vu,.none] } } σ H3 x v vl vu l u s3.heap.objs.size Q I4 r1 (YdK ..) pl pu q3;show wpAny (model X.prog X.w) X.A (subscriptTail e (.Slice lo hi none p2) v (.ref s3.heap.objs.size)) (EP X pins σ Q) X.xe { s3 with heap:=s3.heap.push { cls:=.type "slice",data:=.fields #[vl,vu,.none] } };exact tail_any (ops:=[.ref s3.heap.objs.size,v]) ht hT hg (by with_unfolding_all rfl)
def cutV (xs:List V) (lo hi:Option Int):List V:=(xs.drop (HT.sIx xs.length 0 lo)).take (HT.sIx xs.length xs.length hi - HT.sIx xs.length 0 lo)
theorem Zdt (xs:List V) (lo hi:Option Int):(cutV xs lo hi).length<=xs.length:=by
 unfold cutV;rw[YaL,YbG];omega
def rSlT (K:Yae):V->Option Int->Option Int->Hp->VK->Prop:=fun x lo hi H Q=>∃ a xs,x=.ref a/\SqT K H a xs /\
 ¬ (HT.sIx xs.length 0 lo=0/\HT.sIx xs.length xs.length hi=xs.length)/\∀ p,H p=none->Q (.ref p) (upd H p (.tup (cutV xs lo hi)))
theorem ZkV:SlR X (rSlT X.K):=by
 intro pins s σ H x v vl vu lo hi sl Q I rx hs pl pu h;obtain⟨a,xs,rfl,hx,hw,q⟩:=h;cases rx;obtain⟨its,r,ht,hz⟩:=I.tuple hx;have hlen:its.toArray.size=xs.length:=by rw[Yal];exact r.length.symm
 refine⟨"tuple",_,Ycq.lookup,ht.typeIs,?_⟩;refine HT.getItem_tuple_cut ht hs pl pu (by rw[hlen];exact hw) ?_ (by rw[hlen];exact hz);rw[hlen];refine⟨.ref s.heap.objs.size,_,I.laid (t':=s.toks) (o:=.tup (cutV xs lo hi)) (fun b ob q=>Yad _ q) (Yak _) ?_,rfl,q _ (I.hok.fresh (Yak _))⟩;exact⟨Ybj (Zdt xs lo hi) hz,_,(r.drop (HT.sIx xs.length 0 lo)).take (HT.sIx xs.length xs.length hi - HT.sIx xs.length 0 lo),IsTupD.new _ _⟩
def ZmY (K:Yae):R2:=fun x y H Q=>∃ a b xs ys,x=.ref a/\y=.ref b/\SqT K H a xs/\SqT K H b ys/\xs≠[]/\xs.length+ys.length<=sizeLine /\
 (ys=[]->Q (.ref a) H)/\(ys≠[]->∀ p,H p=none->Q (.ref p) (upd H p (.tup (xs++ys))))
theorem Vals.nil_iff {xs:List V}{us:List Value} (r:Vals xs us):us=[]↔xs=[]:=by
 cases r with
 | nil=>simp
 | cons _ _=>simp
theorem ZlT:OpR X (binaryOp .Add) (ZmY X.K):=by
 intro pins s σ H x y v u Q I rx ry h;obtain⟨a,b,xs,ys,rfl,rfl,ha,hb,hx,hz,q1,q2⟩:=h;cases rx;cases ry;obtain⟨its,r1,p1,_⟩:=I.tuple ha;obtain⟨its2,r2,p2,_⟩:=I.tuple hb;refine HT.cat_tup p1 p2 (fun z=>hx (r1.nil_iff.mp z)) (fun z=>⟨.ref a,H,I,rfl,q1 (r2.nil_iff.mp z)⟩) (fun z=>?_) (by rw[<- r1.length,<- r2.length];exact hz);refine⟨.ref s.heap.objs.size,_,I.laid (t':=s.toks) (o:=.tup (xs++ys)) (fun b ob q=>Yad _ q) (Yak _) ?_,rfl,q2 (fun w=>z (r2.nil_iff.mpr w)) _ (I.hok.fresh (Yak _))⟩;exact⟨by rw[Yan];exact hz,_,r1.append r2,IsTupD.new _ _⟩
end
end L2
namespace L2
open PySem PySem.Spec PyProof.Rows
def ixN (n:Nat) (i:Int):Option Nat:=if 0<=i then (if i<n then some i.toNat else none) else if -(n:Int)<=i then some (i+n).toNat else none
def atI {α:Type} (xs:List α) (i:Int):Option α:=(ixN xs.length i).bind fun j=>xs[j]?
theorem ZiO {n:Nat}{i:Int}{j:Nat} (h:ixN n i=some j):seqIndex? i n=some j/\j<n/\-(n:Int)<=i/\i<n:=by
 unfold ixN at h;by_cases h0:0<=i
 ·rw[if_pos h0] at h;by_cases h1:i<n
  ·rw[if_pos h1] at h;have e:i.toNat=j:=Yax h;exact⟨by rw[seqIndex_of h0 h1,e],by omega,by (clear e h1;omega),h1⟩
  ·rw[if_neg h1] at h;cases h
 ·rw[if_neg h0] at h;by_cases h1:-(n:Int)<=i
  ·rw[if_pos h1] at h;have e:(i+n).toNat=j:=Yax h;exact⟨by rw[seqIndex_neg (by (clear e h1;omega)) h1,e],by omega,h1,by (clear e h1;omega)⟩
  ·rw[if_neg h1] at h;cases h
theorem Zjx {α:Type}{xs:List α}{i:Int}{v:α} (h:atI xs i=some v):∃ j,seqIndex? i xs.length=some j/\xs[j]?=some v/\j<xs.length/\-(xs.length:Int)<=i/\i<xs.length:=by
 unfold atI at h
 cases e:ixN xs.length i with
 | none=>rw[e] at h;cases h
 | some j=>
  rw[e] at h;obtain⟨h1,h2,h3,h4⟩:=ZiO e;exact⟨j,h1,h,h2,h3,h4⟩
theorem ZaO {α:Type}{xs:List α}{j:Nat}{v:α} (h:xs[j]?=some v):atI xs (j:Int)=some v:=by
 have hj:j<xs.length:=(Yab.mp h).1
 have e:ixN xs.length (j:Int)=some j:=by
  unfold ixN;rw[if_pos (by (clear hj;omega)),if_pos (by omega)];simp
 unfold atI;rw[e];exact h
def Zjz (b:Expr):Prop:=∀ o i,subscripted b false o i=operate [o,i] (getItem o i)
def IxR (X:Cx) (r:R2):Prop :=
 ∀ (value slice:Expr) (pins:List (Addr × Obj)) (s:Shared) (σ:St) (H:Hp) (x y:V) (v u:Value) (Q:VK),Inv X pins σ H s->RelV x v->RelV y u->r x y H Q ->
  subscripted slice false v u=operate [v,u] (getItem v u)->wpAny (model X.prog X.w) X.A (subscriptTail value slice v u) (EP X pins σ Q) X.xe s
def MtR (X:Cx) (id:String) (r:V->List V->Hp->VK->Prop):Prop :=
 ∀ (pins:List (Addr × Obj)) (s:Shared) (σ:St) (H:Hp) (x:V) (xs:List V) (v:Value) (us:List Value) (Q:VK),Inv X pins σ H s->RelV x v->Vals xs us->r x xs H Q ->
  wpAny (model X.prog X.w) X.A (call (.builtin id) (v::us)) (EP X pins σ Q) X.xe s
section
variable {X:Cx}{a b:Expr}{ta tb:TE}{pos:Pos}
theorem ZaR {r:R2} (hr:IxR X r) (ha:PE X a ta) (hb:PE X b tb) (hs:Zjz b):PE X (.Subscript a b pos) (tOp r ta tb):=by
 intro pins s σ H Q I h;exact Subscript_ (binT ha hb I h fun v u s2 x y H2 I2 rx ry q=>hr a b pins s2 σ H2 x y v u Q I2 rx ry q (hs _ _))
def rIxL (K:Yae):R2:=fun x y H Q=>∃ p xs i v,x=.ref p/\y=.int i/\SqL K H p xs/\atI xs i=some v/\Q v H
def rIxT (K:Yae):R2:=fun x y H Q=>∃ p xs i v,x=.ref p/\y=.int i/\SqT K H p xs/\atI xs i=some v/\Q v H
theorem ZaA:IxR X (rIxL X.K):=by
 intro value slice pins s σ H x y v u Q I rx ry h hs;obtain⟨p,xs,i,z,rfl,rfl,hq,he,q⟩:=h;cases rx;obtain⟨t,rfl⟩:=ry;obtain⟨its,r,pl,hz⟩:=I.list hq;obtain⟨j,h1,h2,h3,h4,h5⟩:=Zjx he;obtain⟨w,ew,rw'⟩:=r.get h2;have hl:=r.length;have hn:=Zfg;have fin:EP X pins σ Q w s:=⟨z,H,I,rw',q⟩
 by_cases h0:0<=i
 ·have hj:i.toNat=j:=by
   rw[seqIndex_of h0 h5] at h1;exact Yax h1
  exact item_listR pl.isList h0 (by (clear hj h0 hl h4 h3;omega)) (by rw[hj];simpa using ew) fin hs
 ·have hj:(i+(its.toArray.size:Int)).toNat=j:=by
   rw[seqIndex_neg (by (clear hn hl h5 h4 h3 hz;omega)) h4] at h1;rw[Yal,<- hl];exact Yax h1
  exact subscriptTail_builtinR (x:=w) pl.isList.typeIs slot_list_getitem.lookup
   (wpAny_getItem_list_neg (Q:=fun r s'=>r=w/\EP X pins σ Q r s') pl.isList (by (clear hj hn hl h5 h4 h3 hz;omega)) (by rw[Yal] <;> (clear hj h0 hn h5 h3 hz;omega)) (by (clear hj h0 hl h5 h3;omega)) (by rw[hj];simpa using ew) ⟨rfl,fin⟩) hs
theorem Zdl:IxR X (rIxT X.K):=by
 intro value slice pins s σ H x y v u Q I rx ry h hs;obtain⟨p,xs,i,z,rfl,rfl,hq,he,q⟩:=h;cases rx;obtain⟨t,rfl⟩:=ry;obtain⟨its,r,pl,hz⟩:=I.tuple hq;obtain⟨j,h1,h2,h3,h4,h5⟩:=Zjx he;obtain⟨w,ew,rw'⟩:=r.get h2;have hl:=r.length;have hn:=Zfg;have fin:EP X pins σ Q w s:=⟨z,H,I,rw',q⟩
 exact subscriptTail_builtinR (x:=w) pl.typeIs slot_tuple_getitem.lookup
  (getItem_tuple (j:=j) (Q:=fun r s'=>r=w/\EP X pins σ Q r s') pl (by (clear hl h5 h3;omega)) (by (clear hl h4 h3;omega)) (by rw[Yal,<- hl];exact h1) (by simpa using ew) ⟨rfl,fin⟩) hs
theorem Zhh (its:List Value) (n j:Nat) (u:Value):Ybs (·.setIfInBounds j u) { cls:=.type "list",data:=.seq its.toArray n }={ cls:=.type "list",data:=.seq (its.set j u).toArray n }:=by
 simp[Ybs]
theorem Inv.lst {pins:List (Addr × Obj)}{σ:St}{H:Hp}{s:Shared}{p:Addr}{xs:List V} (I:Inv X pins σ H s) (h:H p=some (.lst xs)) :
  ∃ (its:List Value) (n:Nat),Vals xs its/\s.heap.get? p=some { cls:=.type "list",data:=.seq its.toArray n }/\xs.length<=sizeLine:=by
 obtain⟨z,its,n,r,e⟩:=I.hok p _ h;exact⟨its,n,r,e,z⟩
theorem Inv.lstUpd {pins:List (Addr × Obj)}{σ:St}{H:Hp}{s:Shared}{p:Addr}{xs ys:List V}{its its':List Value}{n n':Nat}{f:Obj->Obj} (I:Inv X pins σ H s) (h:H p=some (.lst xs))
  (ho:s.heap.get? p=some { cls:=.type "list",data:=.seq its.toArray n }) (hf:f { cls:=.type "list",data:=.seq its.toArray n }={ cls:=.type "list",data:=.seq its'.toArray n' }) (r:Vals ys its') (hz:ys.length<=sizeLine) (t:Nat) :
  Inv X pins σ (upd H p (.lst ys)) { s with heap:=s.heap.update p f,toks:=t }:=by
 have e:(s.heap.update p f).get? p=some { cls:=.type "list",data:=.seq its'.toArray n' }:=by
  rw[Yer f ho (by rw[hf] <;> rfl),hf]
 refine I.write (x:=p) (e:=p) (by rw[h];trivial) (.inl rfl) (fun b u hb q=>(Yek _ _ (Ybl hb)).trans q) ⟨_,e⟩ ?_;exact⟨hz,its',n',r,e⟩
def ZnV:V->V->V->Hp->(Hp->Prop)->Prop:=fun o i v H Q=>∃ p xs k j,o=.ref p/\i=.int k/\H p=some (.lst xs)/\ixN xs.length k=some j/\Q (upd H p (.lst (xs.set j v)))
theorem ZcW:PSet X ZnV:=by
 intro pins s σ H o i v ov iv u Q I ro ri rv h;obtain⟨p,xs,k,j,rfl,rfl,hp,hj,q⟩:=h;cases ro;obtain⟨t,rfl⟩:=ri;obtain⟨its,n,r,ho,hz⟩:=I.lst hp;obtain⟨h1,h2,h3,h4⟩:=ZiO hj;have hl:=r.length;have hn:=Zfg;have I':Inv X pins σ (upd H p (.lst (xs.set j v))) { s with heap:=s.heap.update p (Ybs (·.setIfInBounds j u)) } :=
  I.lstUpd hp ho (Zhh its n j u) (r.set rv j) (by rw[Ybn];exact hz) s.toks
 by_cases h0:0<=k
 ·have hk:k.toNat=j:=by
   rw[seqIndex_of h0 h4] at h1;exact Yax h1
  exact PySem.W.ki_setAt ho h0 (by (clear hk h0 hl h3 h2;omega)) (by rw[Yal,<- hl];exact h4) (by rw[hk];exact⟨_,I',q⟩)
 ·have hk:(k+(its.toArray.size:Int)).toNat=j:=by
   rw[seqIndex_neg (by (clear hn hl h4 h3 h2 hz;omega)) h3] at h1;rw[Yal,<- hl];exact Yax h1
  exact PySem.W.ki_setBack ho (by (clear hk hn hl h4 h3 h2 hz;omega)) (by rw[Yal,<- hl];exact h3) (by (clear hk h0 hl h4 h2;omega)) (by rw[hk];exact⟨_,I',q⟩)
theorem Ze3 (lo hi:Option Int) (n:Nat):(sliceBounds lo hi none n).1=((HT.sIx n 0 lo:Nat):Int)/\(sliceBounds lo hi none n).2.1=((HT.sIx n n hi:Nat):Int)/\(sliceBounds lo hi none n).2.2=1:=by
 refine⟨?_,?_,rfl⟩
 ·cases lo with
  | none=>simp[sliceBounds,HT.sIx]
  | some i=>
   simp only[sliceBounds,HT.sIx,YeJ,show (1:Int) > 0 by decide,if_true];by_cases h:i<0
   ·simp only[h,if_true] <;> omega
   ·simp only[h,if_false] <;> (clear h;omega)
 ·cases hi with
  | none=>simp[sliceBounds,HT.sIx]
  | some i=>
   simp only[sliceBounds,HT.sIx,YeJ,show (1:Int) > 0 by decide,if_true];by_cases h:i<0
   ·simp only[h,if_true] <;> omega
   ·simp only[h,if_false] <;> (clear h;omega)
theorem Zes (its:List Value) (lo hi:Option Int):slicePick its.toArray lo hi none=((its.drop (HT.sIx its.length 0 lo)).take (HT.sIx its.length its.length hi - HT.sIx its.length 0 lo)).toArray:=by
 obtain⟨h1,h2,h3⟩:=Ze3 lo hi its.toArray.size;unfold slicePick;rw[h1,h2,h3];simp only[sliceRange_one,pick_run,Yal] <;> rfl
def rSlL (K:Yae):V->Option Int->Option Int->Hp->VK->Prop:=fun x lo hi H Q=>∃ a xs,x=.ref a/\SqL K H a xs/\∀ p,H p=none->Q (.ref p) (upd H p (.lst (cutV xs lo hi)))
theorem Zet:SlR X (rSlL X.K):=by
 intro pins s σ H x v vl vu lo hi sl Q I rx hs pl pu h;obtain⟨a,xs,rfl,hx,q⟩:=h;cases rx;obtain⟨its,r,ht,hz⟩:=I.list hx;have hlen:=r.length;refine⟨"list",_,slot_list_getitem.lookup,ht.isList.typeIs,?_⟩;refine wpAny_getItem_list_slice ht.isList hs pl pu .none (by simp) ?_ (by rw[Yal] <;> omega);rw[Zes,<- hlen];refine⟨.ref s.heap.objs.size,_,I.laid (t':=s.toks) (o:=.lst (cutV xs lo hi)) (fun b ob q=>Yad _ q) (Yak _) ?_,rfl,q _ (I.hok.fresh (Yak _))⟩;exact⟨Ybj (Zdt xs lo hi) hz,_,0,(r.drop (HT.sIx xs.length 0 lo)).take (HT.sIx xs.length xs.length hi - HT.sIx xs.length 0 lo),Yav _ rfl⟩
def ZeF:V->Bool
 | .non=>true
 | .bl _=>true
 | .int _=>true
 | .str _=>true
 | _=>false
def eqV:V->V->Bool
 | .non,.non=>true
 | .bl a,.bl b=>a == b
 | .bl a,.int b=>(if a then 1 else 0) == b
 | .int a,.bl b=>a == (if b then 1 else 0)
 | .int a,.int b=>a == b
 | .str a,.str b=>a == b
 | _,_=>false
theorem ZnA {A:Around}{s:Shared}{y x:V}{u v:Value} (ry:RelV y u) (rx:RelV x v) (fy:ZeF y=true) (fx:ZeF x=true):SeqAt.EqAt A s u v (eqV y x):=by
 cases y with
 | non=>
  cases ry
  cases x with
  | non=>cases rx;exact SeqAt.EqAt.same _
  | bl b=>cases rx;exact SeqAt.EqAt.none_bool b
  | int b=>obtain⟨t,rfl⟩:=rx;exact SeqAt.EqAt.none_int b t
  | str b=>obtain⟨t,rfl⟩:=rx;exact SeqAt.EqAt.none_str b t
  | _=>exact absurd (show false=true from fx) YaE
 | bl a=>
  cases ry
  cases x with
  | non=>cases rx;exact SeqAt.EqAt.bool_none a
  | bl b=>cases rx;exact SeqAt.EqAt.bool_bool a b
  | int b=>obtain⟨t,rfl⟩:=rx;exact SeqAt.EqAt.bool_int a b t
  | str b=>obtain⟨t,rfl⟩:=rx;exact SeqAt.EqAt.bool_str a b t
  | _=>exact absurd (show false=true from fx) YaE
 | int a=>
  obtain⟨t',rfl⟩:=ry
  cases x with
  | non=>cases rx;exact SeqAt.EqAt.int_none a t'
  | bl b=>cases rx;exact SeqAt.EqAt.int_bool a t' b
  | int b=>obtain⟨t,rfl⟩:=rx;exact SeqAt.EqAt.int_int a t' b t
  | str b=>obtain⟨t,rfl⟩:=rx;exact Yec a t' b t
  | _=>exact absurd (show false=true from fx) YaE
 | str a=>
  obtain⟨t',rfl⟩:=ry
  cases x with
  | non=>cases rx;exact SeqAt.EqAt.str_none a t'
  | bl b=>cases rx;exact SeqAt.EqAt.str_bool a t' b
  | int b=>obtain⟨t,rfl⟩:=rx;exact Yeb a t' b t
  | str b=>obtain⟨t,rfl⟩:=rx;exact SeqAt.EqAt.str_str a t' b t
  | _=>exact absurd (show false=true from fx) YaE
 | _=>exact absurd (show false=true from fy) YaE
def eqU (x:V) (u:Value):Bool:=match u with
 | .none=>eqV .non x
 | .bool b=>eqV (.bl b) x
 | .int i _=>eqV (.int i) x
 | .str z _=>eqV (.str z) x
 | _=>false
theorem Zld {x y:V}{u:Value} (r:RelV y u) (f:ZeF y=true):eqU x u=eqV y x:=by
 cases y with
 | non=>cases r;rfl
 | bl b=>cases r;rfl
 | int i=>obtain⟨t,rfl⟩:=r;rfl
 | str z=>obtain⟨t,rfl⟩:=r;rfl
 | _=>exact absurd (show false=true from f) YaE
theorem Zgm {x:V}:∀ {xs:List V}{us:List Value},Vals xs us->xs.all ZeF=true->us.any (eqU x)=xs.any fun y=>eqV y x
 | _,_,.nil,_=>rfl
 | y::xs,u::us,.cons r t,f=>by
  rw[Yeg,YbZ] at f;rw[YcM,YcM,Zld r f.1,Zgm t f.2]
theorem ZeB {A:Around}{s:Shared}{x:V}{v:Value} (rx:RelV x v) (fx:ZeF x=true):∀ {xs:List V}{us:List Value},Vals xs us->xs.all ZeF=true->∀ u∈us,SeqAt.EqAt A s u v (eqU x u)
 | _,_,.nil,_=>fun u hu=>by cases hu
 | y::xs,u::us,.cons r t,f=>fun u' hu=>by
  rw[Yeg,YbZ] at f;rcases Yay.mp hu with rfl | hu
  ·rw[Zld r f.1];exact ZnA r rx f.1 fx
  ·exact ZeB rx fx t f.2 u' hu
def inV (x:V) (xs:List V):Bool:=xs.any fun y=>eqV y x
def rIn (K:Yae) (neg:Bool):R2:=fun x y H Q=>∃ p xs,y=.ref p/\(SqL K H p xs∨SqT K H p xs)/\ZeF x=true/\xs.all ZeF=true/\Q (.bl (if neg then !inV x xs else inV x xs)) H
theorem Zfd:OpR X (compareOp .In) (rIn X.K false):=by
 intro pins s σ H x y v u Q I rx ry h;obtain⟨p,xs,rfl,hq,fx,fs,q⟩:=h;cases ry;rcases hq with hq | hq
 ·obtain⟨its,r,pl,hz⟩:=I.list hq;refine SeqAt.in_listAt (eqU x) pl.isList (fun w hw=>ZeB rx fx r fs w (by simpa using hw)) ⟨.bl _,H,I,rfl,?_⟩;rw[show its.toArray.any (eqU x)=its.any (eqU x) by simp,Zgm r fs];exact q
 ·obtain⟨its,r,pl,hz⟩:=I.tuple hq;refine SeqAt.in_tupleAt (eqU x) pl (fun w hw=>ZeB rx fx r fs w (by simpa using hw)) ⟨.bl _,H,I,rfl,?_⟩;rw[show its.toArray.any (eqU x)=its.any (eqU x) by simp,Zgm r fs];exact q
theorem ZaN:ZbD X (.builtin "len") (fun xs H Q=>∃ p ys,xs=[.ref p]/\(SqL X.K H p ys∨SqT X.K H p ys)/\Q (.int ys.length) H):=by
 intro pins s σ H xs us Q I r h;obtain⟨p,ys,rfl,hq,q⟩:=h;obtain⟨u,rfl,rx⟩:=Zc3 r;cases rx;have hn:=Zfg;rcases hq with hq | hq
 ·obtain⟨its,r',pl,hz⟩:=I.list hq;have hlen:=r'.length;exact Calls.call_len_list pl.isList (by simp only[Yal] <;> omega) ⟨.int ys.length,H,I.tok _,⟨s.toks+1,by rw[Yal,hlen]⟩,q⟩
 ·obtain⟨its,r',pl,hz⟩:=I.tuple hq;have hlen:=r'.length;exact len_tuple pl (by simp only[Yal] <;> omega) ⟨.int ys.length,H,I.tok _,⟨s.toks+1,by rw[Yal,hlen]⟩,q⟩
theorem Zfy:ZbD X (.type "list") (fun xs H Q=>∃ p ys,xs=[.ref p]/\(SqL X.K H p ys∨SqT X.K H p ys)/\∀ l,H l=none->Q (.ref l) (upd H l (.lst ys))):=by
 intro pins s σ H xs us Q I r h;obtain⟨p,ys,rfl,hq,q⟩:=h;obtain⟨u,rfl,rx⟩:=Zc3 r;cases rx;have fin:∀ (its:List Value),Vals ys its->ys.length<=sizeLine->∀ (h':Heap) (c':Nat),(∀ b o',s.heap.get? b=some o'->h'.get? b=some o') ->
   h'.get? s.heap.objs.size=some { cls:=.type "list",dict:=none,data:=.seq its.toArray c',slots:=#[] }->EP X pins σ Q (.ref s.heap.objs.size) { s with heap:=h' }:=fun its r' hz h' c' kp e=>
  ⟨.ref s.heap.objs.size,_,I.laid (t':=s.toks) kp (Yak _) (show ObjOk X.prog X.w _ h' _ (.lst ys) from⟨hz,its,c',r',e⟩),rfl,q _ (I.hok.fresh (Yak _))⟩
 rcases hq with hq | hq
 ·obtain⟨its,r',pl,hz⟩:=I.list hq;have hlen:=r'.length;obtain⟨o,ho,hc,n,hd⟩:=pl.isList;exact call_list_seq p (.inl rfl) ho hc hd (fun h' c' kp e=>fin its r' hz h' c' kp e) (by simp only[Yal] <;> omega)
 ·obtain⟨its,r',pl,hz⟩:=I.tuple hq;have hlen:=r'.length;obtain⟨o,ho,hc,n,hd⟩:=pl;exact call_list_seq p (.inr rfl) ho hc hd (fun h' c' kp e=>fin its r' hz h' c' kp e) (by simp only[Yal] <;> omega)
theorem ZaE:ZbD X (.type "tuple") (fun xs H Q=>∃ p ys,xs=[.ref p]/\((SqL X.K H p ys/\∀ l,H l=none->Q (.ref l) (upd H l (.tup ys)))∨(SqT X.K H p ys/\Q (.ref p) H))):=by
 intro pins s σ H xs us Q I r h;obtain⟨p,ys,rfl,h⟩:=h;obtain⟨u,rfl,rx⟩:=Zc3 r;cases rx;rcases h with ⟨hq,q⟩ | ⟨hq,q⟩
 ·obtain⟨its,r',pl,hz⟩:=I.list hq;have hlen:=r'.length;refine call_tuple_list pl.isList (fun h' kp=>?_) (by simp only[Yal] <;> omega);have I1:Inv X pins σ H { s with heap:=h' }:=I.kept (t':=s.toks) kp;have I2:Inv X pins σ (upd H h'.objs.size (.tup ys)) { s with heap:=h'.push { cls:=.type "tuple",data:=.seq its.toArray } } :=
   I1.laid (t':=s.toks) (fun b o e=>Yad _ e) (Yak _) (show ObjOk X.prog X.w _ _ _ (.tup ys) from⟨hz,its,r',IsTupD.new _ _⟩)
  exact⟨.ref h'.objs.size,_,I2,rfl,q _ (I1.hok.fresh (Yak _))⟩
 ·obtain⟨its,r',pl,hz⟩:=I.tuple hq;exact call_tuple_same pl ⟨.ref p,H,I,rfl,q⟩
def tyV (K:Yae) (T:String) (x:V) (H:Hp):Prop:=match x with
 | .str _=>T="str"
 | .int _=>T="int"
 | .ref p=>(T="list"/\∃ xs,SqL K H p xs)∨(T="tuple"/\∃ o,K.lookup p=some o/\o.cls=.type "tuple"/\o.dict=none) ∨
   (T="dict"/\((∃ kvs,H p=some (.dK kvs))∨∃ kvs,H p=some (.dT kvs)))∨(T="set"/\∃ S n,H p=some (.set S n))
 | _=>False
theorem Zmz {pins:List (Addr × Obj)}{σ:St}{H:Hp}{s:Shared}{T:String}{x:V}{v:Value} (I:Inv X pins σ H s) (r:RelV x v) (ty:tyV X.K T x H) :
  s.TypeIs v T/\∀ a,v=.ref a->∃ ob,s.heap.get? a=some ob/\ob.dict=none:=by
 cases x with
 | str z=>
  obtain⟨t,rfl⟩:=r;cases (show T="str" from ty);exact⟨typeIs_str s z t,fun _ e=>nomatch e⟩
 | int i=>
  obtain⟨t,rfl⟩:=r;cases (show T="int" from ty);exact⟨typeIs_int s i t,fun _ e=>nomatch e⟩
 | ref p=>
  cases r;rcases ty with ⟨rfl,xs,hq⟩ | ⟨rfl,o,hk,hc,hd⟩ | ⟨rfl,hk⟩ | ⟨rfl,S,n,hk⟩
  ·obtain⟨its,_,pl,_⟩:=I.list hq;refine⟨pl.isList.typeIs,fun a e=>?_⟩;cases e;obtain⟨o,n,e,c,hd,_⟩:=pl;exact⟨o,e,hd⟩
  ·refine⟨⟨o,I.kIn p o hk,hc⟩,fun a e=>?_⟩;cases e;exact⟨o,I.kIn _ o hk,hd⟩
  ·have z:∃ o,s.heap.get? p=some o/\o.ExactDict:=by
    rcases hk with ⟨kvs,hk⟩ | ⟨kvs,hk⟩
    ·obtain⟨_,_,_,_,o,_,_,e,ex,_⟩:=I.hok p _ hk;exact⟨o,e,ex⟩
    ·obtain⟨_,_,_,_,o,_,_,e,ex,_⟩:=I.hok p _ hk;exact⟨o,e,ex⟩
   obtain⟨o,e,ex⟩:=z;refine⟨⟨o,e,ex.1⟩,fun a e2=>?_⟩;cases e2;exact⟨o,e,ex.2.1⟩
  ·obtain⟨o,_,_,_,e,ex,_⟩:=I.hok p _ hk;refine⟨⟨o,e,ex.1⟩,fun a e2=>?_⟩;cases e2;exact⟨o,e,ex.2.1⟩
 | _=>exact Yct ty
def tBM (K:Yae) (T:String) (r:V->List V->Hp->VK->Prop) (to:TE) (t:TA):TE:=fun σ H Q=>to σ H fun x H1=>tyV K T x H1/\t σ H1 fun xs H2=>r x xs H2 Q
variable {o e:Expr}{es:List Expr}{to:TE}{t:TA}{name:Str}{apos cpos:Pos}{T id:String}{r:V->List V->Hp->VK->Prop}
theorem Zj6 (pa:PlainAttrs T) (slot:Slot T name id) (hty:typeOf (.builtin id)=pure (.type "method_descriptor")) (hm:MtR X id r) (ho:PE X o to) (ha:PA X (e::es) t)
  (hbase:attributeBase o name X.env (eval o X.env)=eval o X.env:=by rfl)
  (hfew:((backTo cpos (starEach (e::es) X.env)).all (fun x=>!x.1) && (backToKw cpos (keywordEach [] X.env)).all (fun x=>x.1.isSome)
   && decide ((e::es).length+([]:List Keyword).length+(if ([]:List Keyword).isEmpty then 0 else 1)<30))=true:=by rfl)
  (hline:(apos.endLine == cpos.line)=true:=by rfl) (hs:starEach (e::es) X.env=(false,eval e X.env)::starEach es X.env:=by rfl) (hplain:(backTo cpos (starEach es X.env)).any (·.1)=false:=by rfl) :
  PE X (.Call (.Attribute o name apos) (e::es) [] cpos) (tBM X.K T r to t):=by
 intro pins s σ H Q I h;refine wpAny_Call_method_late hbase hfew hline rfl (thn (ho pins s σ H _ I h) fun v s1 ⟨x,H1,I1,r1,ty,q1⟩=>?_);obtain⟨h1,h2⟩:=Zmz I1 r1 ty;refine⟨T,id,pa,slot,hty,h1,h2,?_⟩;have hA:=ha cpos pins s1 σ H1 _ I1 q1;rw[hs] at hA ⊢;refine Yc6 (by show (false || (backTo cpos (starEach es X.env)).any (·.1))=false;rw[hplain] <;> rfl) (Yet ?_);exact thn hA fun us s2 ⟨vs,H2,I2,r2,q2⟩=>hm pins s2 σ H2 x vs v us Q I2 r1 r2 q2
end
end L2
namespace L2
open PySem PySem.Spec PyProof.Rows
def MtM (X:Cx) (id:String) (r:V->List V->Hp->VK->Prop):Prop :=
 ∀ (pins:List (Addr × Obj)) (s:Shared) (σ:St) (H:Hp) (x:V) (xs:List V) (v:Value) (us:List Value) (Q:VK),Inv X pins σ H s->RelV x v->Vals xs us->r x xs H Q ->
  wpAny (model X.prog X.w) X.A (call (.builtin id) (v::us)) (EP X pins σ Q) X.xe s
theorem Vals.one:∀ {x:V}{us:List Value},Vals [x] us->∃ u,us=[u]/\RelV x u
 | _,_,.cons r .nil=>⟨_,rfl,r⟩
theorem Vals.reverse {xs:List V}{us:List Value} (h:Vals xs us):Vals xs.reverse us.reverse:=by
 induction h with
 | nil=>exact .nil
 | cons r t ih=>rw[YbC,YbC];exact Vals.append ih (.cons r .nil)
theorem Vals.rep {xs:List V}{us:List Value} (h:Vals xs us):∀ k:Nat,Vals (Yaf k xs).flatten (Yaf k us).flatten
 | 0=>.nil
 | k+1=>by
  rw[Ybh,Ybh,YaS,YaS];exact Vals.append h (Vals.rep h k)
theorem Zfn (its:List Value):∀ (k:Nat) (acc:List Value),
  Yed (fun x1 x2=>x1++x2) acc.toArray (Yaf k its.toArray)=(acc++(Yaf k its).flatten).toArray
 | 0,acc=>by simp
 | k+1,acc=>by
  have e:acc.toArray++its.toArray=(acc++its).toArray:=by simp
  have e2:(acc++its)++(Yaf k its).flatten=acc++(Yaf (k+1) its).flatten:=by
   rw[Ybh,YaS,YaJ]
  rw[<- e2,<- Zfn its k (acc++its),<- e,Ybh,List.foldl_cons]
section
variable {X:Cx}{pins:List (Addr × Obj)}{σ:St}{H:Hp}{s:Shared}{l b:Addr}{xs ys zs:List V}
theorem Inv.lset {its its':List Value}{n:Nat}{f:Array Value->Array Value}{t':Nat} (I:Inv X pins σ H s) (hH:H l=some (.lst xs))
  (e:s.heap.get? l=some { cls:=.type "list",data:=.seq its.toArray n }) (hf:f its.toArray=its'.toArray) (hv:Vals ys its') (hz:ys.length<=sizeLine) :
  Inv X pins σ (upd H l (.lst ys)) { s with heap:=s.heap.update l (Ybs f),toks:=t' }:=by
 have q:=PySem.IsL.update e f;rw[hf] at q;refine I.write (x:=l) (e:=l) (by rw[hH];exact trivial) (.inl rfl) (fun b' u hb hu=>(Yek s.heap (Ybs f) (Ybl hb)).trans hu) ⟨_,q⟩ ?_;exact⟨hz,its',_,hv,q⟩
theorem Inv.lnew {its:List Value}{t':Nat} (I:Inv X pins σ H s) (hv:Vals ys its) (hz:ys.length<=sizeLine) :
  Inv X pins σ (upd H s.heap.objs.size (.lst ys)) { s with heap:=s.heap.push { cls:=.type "list",data:=.seq its.toArray },toks:=t' } :=
 I.laid (fun _ _ q=>Yad _ q) (Yak _) ⟨hz,its,0,hv,Yav _ rfl⟩
theorem Inv.fresh (I:Inv X pins σ H s):H s.heap.objs.size=none:=I.hok.fresh (Yak _)
theorem Inv.lstM (I:Inv X pins σ H s) (hH:H l=some (.lst xs)):xs.length<=sizeLine/\∃ (its:List Value) (n:Nat),Vals xs its/\xs.length=its.length/\s.heap.get? l=some { cls:=.type "list",data:=.seq its.toArray n }:=by
 obtain⟨z,its,n,r,e⟩:=I.hok l _ hH;exact⟨z,its,n,r,r.length,e⟩
theorem ZgK {n:Nat} (h:n<=sizeLine):Yce n=false:=by
 unfold Yce;exact decide_eq_false (by omega)
end
section
variable {X:Cx}
def ZlJ:V->List V->Hp->VK->Prop:=fun x vs H Q=>∃ l xs y,x=.ref l/\vs=[y]/\H l=some (.lst xs)/\xs.length<sizeLine/\Q .non (upd H l (.lst (xs++[y])))
theorem ZbK:MtM X "list.append" ZlJ:=by
 intro pins s σ H x vs v us Q I rx rv h;obtain⟨l,xs,y,rfl,rfl,hH,hz,q⟩:=h;cases rx;obtain⟨u,rfl,ru⟩:=rv.one;obtain⟨z,its,n,r,hl,e⟩:=I.lstM hH;refine call_meets F.slot_list_append ⟨_,e,rfl⟩ F.entry_list_append (F.args_list_append_2 _ _) (PySem.list_append l its.toArray n u (by rw[Yal];(clear z;omega))) ⟨e,?_⟩;refine⟨.non,_,I.lset (its':=its++[u]) hH e (by simp) (r.append (.cons ru .nil)) ?_,rfl,q⟩;rw[Yan,Yen]
 (clear hl z;omega)
def ZlI:V->List V->Hp->VK->Prop:=fun x vs H Q=>∃ l b xs zs,x=.ref l/\vs=[.ref b]/\H l=some (.lst xs)/\H b=some (.lst zs)/\xs.length+zs.length<=sizeLine/\Q .non (upd H l (.lst (xs++zs)))
theorem Ziy:MtM X "list.extend" ZlI:=by
 intro pins s σ H x vs v us Q I rx rv h;obtain⟨l,b,xs,zs,rfl,rfl,hH,hB,hz,q⟩:=h;cases rx;obtain⟨u,rfl,ru⟩:=rv.one;cases ru;obtain⟨z,its,n,r,hl,e⟩:=I.lstM hH;obtain⟨z2,its2,n2,r2,hl2,e2⟩:=I.lstM hB;have hsz:its.toArray.size+its2.toArray.size<=sizeLine:=by rw[Yal,Yal];(clear z2 z;omega)
 have hlong:¬ (!its.toArray.isEmpty && Yce (its.toArray.size+its2.toArray.size))=true:=by
  rw[ZgK hsz,Bool.and_false];exact YaE
 refine call_meets F.slot_list_extend ⟨_,e,rfl⟩ F.entry_list_extend (F.args_list_extend_2 _ _)
  (AutoSeq1.list_extend_list_list_0 l its.toArray n b its2.toArray n2 hlong (by rw[Yal];(clear hlong hsz hl2 z2 z;omega)) (by (clear hlong hl2 z2 hl z hz;omega))) ⟨e,e2,?_⟩
 refine⟨.non,_,I.lset (its':=its++its2) hH e (by simp) (r.append r2) ?_,rfl,q⟩;rw[Yan]
 (clear hlong hsz hl2 z2 hl z;omega)
def rCat:R2:=fun x y H Q=>∃ l b xs zs,x=.ref l/\y=.ref b/\H l=some (.lst xs)/\H b=some (.lst zs)/\xs.length+zs.length<=sizeLine/\∀ p,H p=none->Q (.ref p) (upd H p (.lst (xs++zs)))
theorem ZbF:OpR X (binaryOp .Add) rCat:=by
 intro pins s σ H x y v u Q I rx ry h;obtain⟨l,b,xs,zs,rfl,rfl,hH,hB,hz,q⟩:=h;cases rx;cases ry;obtain⟨z,its,n,r,hl,e⟩:=I.lstM hH;obtain⟨z2,its2,n2,r2,hl2,e2⟩:=I.lstM hB;refine PySem.P.add_list e e2 ?_ (by rw[Yal,Yal];(clear z2 z;omega));have ea:its.toArray++its2.toArray=(its++its2).toArray:=by simp
 rw[ea];exact⟨.ref _,_,I.lnew (t':=s.toks) (r.append r2) (by rw[Yan];(clear hl2 z2 hl z;omega)),rfl,q _ I.fresh⟩
def rRep:R2:=fun x y H Q=>∃ l k xs,x=.ref l/\y=.int k/\H l=some (.lst xs)/\-(2 ^ 63)<=k/\k<2 ^ 63/\xs.length*k.toNat<=sizeLine /\
 ∀ p,H p=none->Q (.ref p) (upd H p (.lst (Yaf k.toNat xs).flatten))
theorem Zma {α:Type} (xs:List α) (k:Nat):(Yaf k xs).flatten.length=k*xs.length:=by
 induction k with
 | zero=>simp
 | succ k ih=>rw[Ybh,YaS,Yan,ih,Nat.succ_mul,Nat.add_comm]
theorem ZdZ:OpR X (binaryOp .Mult) rRep:=by
 intro pins s σ H x y v u Q I rx ry h;obtain⟨l,k,xs,rfl,rfl,hH,h1,h2,hz,q⟩:=h;cases rx;obtain⟨t,rfl⟩:=ry;obtain⟨z,its,n,r,hl,e⟩:=I.lstM hH;have hlen:its.toArray.size*k.toNat<=sizeLine:=by rw[Yal,<- hl];exact hz
 have hcap:¬ its.toArray.size*k.toNat > (2 ^ 63 - 1) / 8:=by
  have:(sizeLine:Nat)<=(2 ^ 63 - 1) / 8:=by decide
  (clear hl z hz h2 h1;omega)
 have hfit:¬ (!Builtin.List.listFitsIndex k)=true:=by
  rw[fitsIndex_both h1 h2];exact YaE
 have hlong:¬ Yce (its.toArray.size*k.toNat)=true:=by
  rw[ZgK hlen];exact YaE
 have hnew:Yed (fun x1 x2=>x1++x2) #[] (Yaf (if its.toArray.isEmpty=true then 0 else k.toNat) its.toArray)=(Yaf k.toNat its).flatten.toArray:=by
  have f0:∀ m:Nat,Yed (fun x1 x2=>x1++x2) #[] (Yaf m its.toArray)=(Yaf m its).flatten.toArray:=fun m=>by
   have:=Zfn its m [];rw[YdP] at this;exact this
  rw[f0]
  cases its with
  | nil=>simp
  | cons a r'=>rw[if_neg (by simp)]
 refine wpAny_binaryOp_repeat_ref (T:="list") (U:="int") (by decide) ⟨_,e,rfl⟩ (fun s'=>typeIs_int s' k t) noFill_list_mul F.fills_int_mul F.slot_int_rmul repeat_list F.slot_int_index.lookup
  (call_meets F.slot_int_rmul (typeIs_int s k t) F.entry_int_rmul (F.args_int_rmul_2 _ _) (int___rmul___int_list k t l its.toArray n)
   ⟨e,rfl,⟨_,e,rfl⟩,call_meets F.slot_list_mul ⟨_,e,rfl⟩ F.entry_list_mul (F.args_list_mul_2 _ _) (AutoListH.list___mul___list_int_3 l its.toArray n k t hfit hcap hlong) ⟨e,?_⟩⟩)
 rw[hnew];exact⟨.ref _,_,I.lnew (t':=s.toks) (r.rep k.toNat) (by rw[Zma,Nat.mul_comm];exact hz),rfl,q _ I.fresh⟩
end
section
variable {prog:Program}{w:World}{A:Around}{E:Value->Shared->Prop}{s:Shared}
set_option maxRecDepth 100000 in
end
section
variable {X:Cx}
end
end L2
namespace Att
open PySem PySem.W PySem.Calls PyProof.Rows
theorem Zdn {P:Params}{h:Heap}:∀ (ns:List Int) (vs:List Value),WellAll P h vs (ns.map WData.int)->IntsAre vs ns:=by
 intro ns
 induction ns with
 | nil=>
  intro vs w;rw[Yb8] at w;cases w;exact .nil
 | cons n ns ih=>
  intro vs w;rw[Yam] at w
  cases w with
  | cons a b=>
   cases a;exact .cons _ _ (ih _ b)
theorem ZhW {l:OpenLaw}{n:Nat} (hn:l.most=some n) {P:Params}{h:Heap}{args:List WData}{vals:List Value}
  (hpre:l.row.toRowW.claim.pre args=true) (hwl:WellAll P h vals args) :
  ∃ a vs ns,vals=[Ybd a]/\args=[WData.list (ns.map WData.int)]/\h.get? a=some { cls:=.type "list",data:=.seq vs.toArray }/\IntsAre vs ns/\ns.length<=n:=by
 have hsh:WShape.hasAll [] args [.list .int]=true:=(pre_splitW hpre).1
 have hc:l.pre.holds [] { args:=args }=true:=(pre_splitW hpre).2
 obtain⟨d,r,rfl,h1,h2⟩:=hasAllW_cons hsh;obtain rfl:=hasAllW_nil h2;obtain⟨xs,rfl,h3⟩:=hasW_list h1;obtain⟨ns,rfl⟩:=items_int h3;have hlen:ns.length<=n:=by
  unfold OpenLaw.pre at hc;have h4:(WTm.not (.lt (.lit (.int (n:Int))) (.len (.arg 0)))).holds [] { args:=[.list (ns.map .int)] }=true:=by
   have h4:=(holds_andW hc).1
   rw[hn] at h4;exact h4
  have h5:=condW_of h4 (w_not (w_lt w_lit (w_len_list (w_arg rfl))));rw[Yaa] at h5;refine YdJ fun q=>?_;have q':(n:Int)<((ns.length:Nat):Int):=by omega
  first
   | (rw[decide_eq_true q'] at h5;exact absurd h5 (by decide))
   | (simp at h5;omega)
 cases hwl with
 | cons w1 w2=>
  cases w2
  cases w1 with
  | list ho hall=>exact⟨_,_,ns,rfl,rfl,ho,Zdn ns _ hall,hlen⟩
theorem Zh9 (l:OpenLaw) (args:List WData):l.row.toRowW.claim.post args (.bool true) args=true :=
 postW_of (r:=l.row.toRowW) (X:=(true == true))
  (show WShape.has [] (.bool true) .bool=true by first | rfl | decide | simp[WShape.has,WShape.arms,WShape.armsAll])
  (show (WTm.eq .res (.lit (.bool true))).value [] { args:=args,res:=some (.bool true),after:=args }=some (.bool (true == true)) from w_eq_bool (w_res rfl) w_lit) rfl
theorem attach_call {l:OpenLaw}{n:Nat}{q:Program}{loose:List Str}{XP:(Str->Option Value)->Heap->Prop}{YP:World->Heap->Prop}{d:DefRec}
  (hn:l.most=some n) (hdf:d.params.defaults=[])
  (call:∀ (w:World) (s₀ s₁:Shared) (mg mb:Str->Option Value) (fa:Addr) (o:Obj) (pm cd doc:Value) (a:Addr) (vs:List Value) (ns:List Int),
   Ground q loose [] XP w s₀ mg mb s₁.heap->YP w s₁.heap ->
   s₁.heap.get? fa=some o->o.data=.func (docDef d.name d.params d.body d.scope pm cd doc)->s₁.heap.CodeRec cd d.name->mg d.name=some (.ref fa) ->
   s₁.heap.get? a=some { cls:=.type "list",data:=.seq vs.toArray }->IntsAre vs ns->ns.length<=n->s₁.gens=#[] ->
   codeAny (model l.prog w) callerA (.call (.ref fa) ⟨[.ref a],[]⟩) (fun r s'=>r=.ok (.ret (.bool true))/\OldK s₁.heap s'.heap/\s'.os=s₁.os/\AllBare s'.gens) s₁) :
  WalkO q loose XP YP l.row.toRowW d [] (fun f vs=>YeH f vs):=by
 intro w s₀ s₁ mg mb G Y fa o pm cd doc dV kV ho hd hcd hD hmg hg args vals as hpre hlay hrd hwl hlo;obtain rfl:dV=.none:=Dflts.none hD hdf;obtain rfl:kV=.none:=Dflts.noKw hD;obtain⟨a,vs,ns,rfl,rfl,hobj,hints,hlen⟩:=ZhW hn hpre hwl;refine enter_call (codeAny_mono (call w s₀ s₁ mg mb fa o pm cd doc a vs ns G Y ho (fd_plain hd) hcd hmg hobj hints hlen hg) fun r s' hq=>?_);obtain⟨rfl,h2,h3,h4⟩:=hq;exact⟨.inl ⟨.bool true,.bool true,[],rfl,fun _=>rfl,.bool true,Zh9 l _,fun _=>⟨Yco,fun _ hm=>(nomatch hm)⟩⟩,h2,h3,h4⟩
section
variable {prog:Program}{w:World}{A:Around}{E:Value->Shared->Prop}{s:Shared}{K:Frag}
def Zoh (h:Heap) (L d:Addr):List (Addr × Obj):=(YaH h.objs.size).filterMap fun a=>if a=L∨a=d then none else (h.get? a).map fun o=>(a,o)
end
end Att
namespace L2
open PySem PySem.Spec PyProof.Rows
theorem ZeW:∀ {vs:List Value}{ns:List Int},IntsAre vs ns->Vals (ns.map V.int) vs
 | _,_,.nil=>.nil
 | _,_,.cons n t h=>.cons ⟨t,rfl⟩ (ZeW h)
def Only (H:Hp):Prop:=∀ b,H b=none∨∃ o xs,H b=some (.frz o (.lst xs))
theorem Zkv {P:Program}{w:World}{K:Yae}{mg mb:Str->Option Value}{CX:CXT}{k:Nat}{fa a:Addr}{fd:FuncData}{x:Str}{sp:Sp}{s₁:Shared}{vs:List Value}{ns:List Int}
  (KX:K.In s₁.heap) (hns:s₁.heap.Ns mainGlobals mg) (hb:s₁.heap.Ns builtinsNs mb) (hbb:∀ x:Str,x≠"__name__"->mb x=bootBuiltins x) (hlim:s₁.heap.NoLimit) (hg:s₁.gens=#[])
  (ha:s₁.heap.get? a=some { cls:=.type "list",data:=.seq vs.toArray }) (hi:IntsAre vs ns) (hl:ns.length<=sizeLine) (hr:Room k callerA)
  (F:∀ base:Heap,K.In base->base.Ns mainGlobals mg->FnOk P w K mg base CX k fa fd [x] sp) (hbind:∀ (s:Shared) (u:Value),BindsTo s fd ⟨[u],[]⟩ [(x,u)])
  (hsp:∀ H:Hp,Only H->SqL K H a (ns.map V.int)->sp [.ref a] H (fun v _=>v=.bl true) fun _ _ _=>False)
  (hCX:∀ H e s',CX [] H s₁ (fun _ _ _=>False) e s'->False) :
  codeAny (model P w) callerA (.call (.ref fa) ⟨[.ref a],[]⟩) (fun r s'=>r=.ok (.ret (.bool true))/\OldK s₁.heap s'.heap/\s'.os=s₁.os/\AllBare s'.gens) s₁:=by
 have rv:=ZeW hi;have lenV:=hi.length;have core:∀ H:Hp,Only H->SqL K H a (ns.map V.int)->HOk P w H s₁.heap->(∀ b,H b≠none->b=a)->(H a≠none->K.lookup a=none) ->
   codeAny (model P w) callerA (.call (.ref fa) ⟨[.ref a],[]⟩) (fun r s'=>r=.ok (.ret (.bool true))/\OldK s₁.heap s'.heap/\s'.os=s₁.os/\AllBare s'.gens) s₁:=by
  intro H hO hS hok hA hK;have base_of:∀ {b:Addr}{o:Obj},s₁.heap.get? b=some o->H b=none->(hidT s₁.heap H).get? b=some o:=fun e n=>Zkx e n;have noA:∀ {b:Addr}{o:Obj}{es:Array DictEntry}{ep:Nat},s₁.heap.get? b=some o->o.data=.dict es ep->H b=none:=fun {b o es ep} e d=>by
   cases q:H b with
   | none=>rfl
   | some u=>
    have e':b=a:=hA b (by rw[q];simp);subst e';rw[ha] at e;cases e;have d':Data.seq vs.toArray _=Data.dict es ep:=d;cases d'
  have nsK:∀ {b:Addr}{m:Str->Option Value},s₁.heap.Ns b m->(hidT s₁.heap H).Ns b m:=fun {b m} ⟨o,es,ep,e,d,r⟩=>⟨o,es,ep,base_of e (noA e d),d,r⟩
  have hKb:K.In (hidT s₁.heap H):=fun b o e=>base_of (KX b o e) (by
   cases q:H b with
   | none=>rfl
   | some u=>
    have e':b=a:=hA b (by rw[q];simp);subst e';rw[hK (by rw[q];simp)] at e;cases e)
  have hM:Mod K mg (hidT s₁.heap H):=⟨hKb,nsK hns,⟨mb,nsK hb,hbb⟩,let ⟨mc,h1,h2⟩:=hlim;⟨mc,nsK h1,h2⟩⟩
  have e0:Env0 P w K mg (hidT s₁.heap H) callerA [] s₁ H:=⟨rfl,hM,fun b o e=>Zl6 e,Nat.le_of_eq (ZiW _ _),trivial,fun b hb=>absurd (show b∈([]:List Addr) from hb) (by simp),hok,.of_eq hg⟩
  refine codeAny_mono ((F _ hKb (nsK hns)).run callerA [] s₁ H ⟨[.ref a],[]⟩ [.ref a] [.ref a] _ _ hr e0 (hbind s₁ (.ref a)) (.cons rfl .nil) (hsp H hO hS)) fun r s' h=>?_
  cases r with
  | error e=>exact (hCX H e s' h).elim
  | ok fl=>
   cases fl with
   | next=>exact Yct h
   | brk=>exact Yct h
   | cont=>exact Yct h
   | ret u=>
    obtain⟨v,H',os,bare,un,hok',r',q⟩:=h;have q':v=.bl true:=q;subst q';obtain rfl:u=Yd4 true:=r';refine⟨rfl,OldK.of_keep fun b o e=>?_,os,bare⟩
    cases q:H b with
    | none=>exact un.keep b o e q (by intro z;exact absurd (show b∈([]:List Addr) from z) (by simp)) (by simp)
    | some u=>
     rcases hO b with z | ⟨ob,xs,z⟩
     ·rw[q] at z;cases z
     ·have z2:=un.frzs b ob _ z;obtain⟨e1,_⟩:=hok b _ z;obtain⟨e2,_⟩:=hok' b _ z2;rw[e] at e1;cases e1;exact e2
 cases hk:K.lookup a with
 | some o=>
  have e:=KX a o hk;rw[ha] at e;cases e;refine core (fun _=>none) (fun _=>.inl rfl) (.inr ⟨_,vs.toArray,_,hk,rfl,rfl,rfl,by rw[Yal,lenV];exact hl,by simpa using rv⟩) (fun b u z=>by have z':(none:Option HO)=some u:=z;cases z') (fun b z=>absurd rfl z) fun z=>absurd rfl z
 | none=>
  refine core (fun b=>if b=a then some (.frz { cls:=.type "list",data:=.seq vs.toArray } (.lst (ns.map V.int))) else none) (fun b=>?_) (.inl (.inr ⟨{ cls:=.type "list",data:=.seq vs.toArray },if_pos rfl⟩)) (fun b u z=>?_) (fun b z=>?_) fun _=>hk
  ·by_cases hb:b=a
   ·exact .inr ⟨_,_,if_pos hb⟩
   ·exact .inl (if_neg hb)
  ·by_cases hb:b=a
   ·have z':=(if_pos hb).symm.trans z;cases z';subst hb;exact⟨ha,by rw[Yaa];exact hl,vs,_,rv,ha⟩
   ·have z':=(if_neg hb).symm.trans z;cases z'
  ·by_cases hb:b=a
   ·exact hb
   ·exact absurd (if_neg hb) z
end L2
namespace L2
open PySem PySem.Spec PyProof.Rows
theorem walk_of {l:Ydz}{n k:Nat}{q:Program}{loose:List Str}{XP:(Str->Option Value)->Heap->Prop}{YP:World->Heap->Prop}{d:DefRec}{K:Params->Yae}{CX:World->CXT}{sp:World->Sp}{x:Str}
  (hn:l.most=some n) (hn2:n<=sizeLine) (hdf:d.params.defaults=[]) (hr:Room k callerA)
  (hY:∀ (w:World) (h:Heap),YP w h->(K w.params).In h)
  (F:∀ (w:World) (mg:Str->Option Value) (fa:Addr) (h:Heap),(K w.params).In h->h.Ns mainGlobals mg->mg d.name=some (.ref fa) ->
   ∃ fd:FuncData,(∀ (s:Shared) (u:Value),BindsTo s fd ⟨[u],[]⟩ [(x,u)]) /\
    ∀ base:Heap,(K w.params).In base->base.Ns mainGlobals mg->FnOk l.prog w (K w.params) mg base (CX w) k fa fd [x] (sp w))
  (hsp:∀ (w:World) (H:Hp) (a:Addr) (ns:List Int),ns.length<=n->Only H->SqL (K w.params) H a (ns.map V.int)->sp w [.ref a] H (fun v _=>v=.bl true) fun _ _ _=>False)
  (hCX:∀ (w:World) (H:Hp) (s:Shared) (e:Value) (s':Shared),CX w [] H s (fun _ _ _=>False) e s'->False) :
  YeW q loose XP YP l.row.toRowW d [] (fun f vs=>YeH f vs):=by
 refine Att.attach_call hn hdf fun w s₀ s₁ mg mb fa o pm cd doc a vs ns G Y ho hd hcd hmg hobj hints hlen hg=>?_;have KX:=hY w _ Y;obtain⟨fd,hb,hF⟩:=F w mg fa _ KX G.T.g hmg;exact Zkv KX G.T.g G.T.b G.T.builtins G.T.nolimit hg hobj hints (Ybj hlen hn2) hr hF hb (fun H hO hS=>hsp w H a ns hlen hO hS) fun H e s'=>hCX w H s₁ e s'
end L2
namespace L2
open PySem PySem.Spec PyProof.Rows
def Zaj (s:Stmt):Arguments:=match s with
 | .FunctionDef _ a _ _ _ _ _ _ _ _=>a
 | _=>{ posonlyargs:=[],args:=[],vararg:=none,kwonlyargs:=[],kw_defaults:=[],kwarg:=none,defaults:=[] }
def Zai (s:Stmt):List Stmt:=match s with
 | .FunctionDef _ _ b _ _ _ _ _ _ _=>b
 | _=>[]
def Zac (s:Stmt):Scope:=match s with
 | .FunctionDef _ _ _ _ _ _ sc _ _ _=>sc
 | _=>{ kind:=.function,names:=[],isGenerator:=false,isCoroutine:=false }
abbrev CX0:CXT:=fun _ _ _ _ _ _=>False
abbrev E0:XK:=fun _ _ _=>False
theorem ZlO {X:Cx}:ZjA CX0 X E0:=fun _ _ _ _ _ _ _ h=>h.elim
structure Fun (K:Yae) (x qual:Str) (st:Stmt) (f:Addr) (fd:FuncData):Prop where
 ex:∃ (oc:Value) (od:Option Addr) (kV doc pm:Value) (an:Option Addr) (cdv ct:Value) (osl:Array (Option Value)),
  fd=Yaw x qual (Zaj st) (Zai st) (Zac st) .none kV doc pm an cdv ct/\K.lookup f=some ⟨oc,od,.func fd,osl⟩/\Yat K cdv qual=true
 kp:Yaq K (.ref f)=true
section
variable {P:Program}{w:World}{K:Yae}{mg:Str->Option Value}{base:Heap}
theorem Fun.ok {x qual:Str}{st:Stmt}{f:Addr}{fd:FuncData}{N ps:List Str}{k:Nat}{sp:Sp} (F:Fun K x qual st f fd) (S:FnScope N ps (Zac st)) (len:∀ vs H Q E,sp vs H Q E->vs.length=ps.length)
  (hbody:∀ (cdv:Value) (A:Around) (outer:List Env) (s:Shared) (H:Hp) (vs:List V) (Q:VK) (E:XK),Room k (A.deeper (envOfC qual (Zac st) s.heap.objs.size f cdv))->sp vs H Q E ->
   ∃ t,PSs (cxOf CX0 P w K mg base N qual (Zac st) f cdv A outer s H E).nox (Zai st) t/\t { nx:=fun _ H'=>Q .non H',rt:=Q } (ZdA N vs) H):FnOk P w K mg base CX0 (k+1) f fd ps sp:=by
 obtain⟨oc,od,kV,doc,pm,an,cdv,ct,osl,rfl,lk,hcd⟩:=F.ex;refine Znw lk hcd S len fun A outer s H vs Q E hr hsp=>?_;obtain⟨t,h,q⟩:=hbody cdv A outer s H vs Q E hr hsp;exact⟨t,h.nox,q⟩
theorem Fun.binds {x qual:Str}{st:Stmt}{f:Addr}{fd:FuncData}{ps:List Str} (F:Fun K x qual st f fd)
  (h:∀ (kV doc pm:Value) (an:Option Addr) (cdv ct:Value) (us:List Value),us.length=ps.length->bindArgs (Yaw x qual (Zaj st) (Zai st) (Zac st) .none kV doc pm an cdv ct) ⟨us,[]⟩=pure (ps.zip us)):Binds K fd ps []:=by
 obtain⟨oc,od,kV,doc,pm,an,cdv,ct,osl,rfl,lk,hcd⟩:=F.ex;exact .all (h kV doc pm an cdv ct)
theorem Zaw {x qual:Str}{st:Stmt}{f:Addr}{oc:Value}{od an:Option Addr}{osl:Array (Option Value)}{kV doc pm cdv ct:Value} (l:K.lookup f=some ⟨oc,od,.func (Yaw x qual (Zaj st) (Zai st) (Zac st) .none kV doc pm an cdv ct),osl⟩)
  (c:Yat K cdv qual=true) (k:Yaq K (.ref f)=true):Fun K x qual st f (Yaw x qual (Zaj st) (Zai st) (Zac st) .none kV doc pm an cdv ct):=⟨⟨oc,od,kV,doc,pm,an,cdv,ct,osl,rfl,l,c⟩,k⟩
end
theorem Zns {A:Around}{k:Nat} (hr:Room k A):A.units+1<cLine:=Ydq (Nat.add_le_add_left (by decide:1<=64) _) hr.units
theorem Zat {n:Nat} (h:n<=1000):n<sizeLine:=Ydq h (by decide)
section
variable {X:Cx}
theorem pv (i:Nat) {x:Str}{pos:Pos} (hN:X.N[i]?=some x:=by rfl) (hv:Vis X.env.scope x:=by first | exact YaG rfl | exact Yc2 (YaG rfl) | exact Yc2 (Yc2 rfl)) (hd:(x == ("__debug__":Str))=false:=by decide)
  (hcd:(x == ("__classdict__":Str))=false:=by decide):PE X (.Name x pos) (tVar i):=Zk2 hN hv hd hcd
end
theorem iteF {A B:Prop} (h:B):if false=true then A else B:=by
 rw[if_neg YaE];exact h
theorem iteT {A B:Prop} (h:A):if true=true then A else B:=by
 rw[if_pos rfl];exact h
theorem ite2 {c A B:Prop} [Decidable c] (h1:c->A) (h2:¬ c->B):if c then A else B:=by
 by_cases h:c
 ·rw[if_pos h];exact h1 h
 ·rw[if_neg h];exact h2 h
def Same (H H':Hp):Prop:=∀ b o,H b=some o->H' b=some o
theorem Same.refl (H:Hp):Same H H:=fun _ _ h=>h
theorem Same.trans {H H1 H2:Hp} (a:Same H H1) (b:Same H1 H2):Same H H2:=fun c o h=>b c o (a c o h)
theorem Same.free {H H':Hp} (e:Same H H') {l:Addr} (h:H' l=YdA):H l=YdA:=by
 cases q:H l with
 | none=>rfl
 | some o=>
  rw[e l o q] at h;cases h
theorem Same.seq {K:Yae}{H H':Hp}{a:Addr}{xs:List V} (e:Same H H') (h:SqL K H a xs):SqL K H' a xs:=by
 rcases h with (h | ⟨o,h⟩) | h
 ·exact .inl (.inl (e _ _ h))
 ·exact .inl (.inr ⟨o,e _ _ h⟩)
 ·exact .inr h
end L2
set_option maxHeartbeats 4000000
namespace L2
open PySem PySem.Spec PyProof.Rows
def ZbP (env:Env):List (Str × NameKind)->List (Str × Addr)->List (Str × Addr)
 | [],cs=>cs
 | (n,k)::r,cs=>ZbP env r (if k == .free then (n,(env.cells.lookup n).getD 0)::cs else cs)
abbrev clOf (scope:Scope) (env:Env):List (Str × Addr):=ZbP env scope.names []
theorem Zcr {env:Env}:∀ (names:List (Str × NameKind)) (cs:List (Str × Addr)),(∀ x∈names,x.2=.free->∃ c,env.cells.lookup x.1=some c) ->
  (forIn names cs fun (x:Str × NameKind) r=>do
   if x.2 == .free then
    let c <- cellOf env x.1
    pure (Ya6 ((x.1,c)::r))
   else pure (Ya6 r):Sem (List (Str × Addr)))=pure (ZbP env names cs)
 | [],cs,_=>rfl
 | (n,k)::r,cs,h=>by
  rw[YdR];have ih:=fun cs'=>Zcr (env:=env) r cs' fun x hx=>h x (YaC _ hx);by_cases hk:k=.free
  ·subst hk;obtain⟨c,hc⟩:=h (n,.free) YaD rfl;have hc':env.cells.lookup n=some c:=hc;have ec:cellOf env n=pure c:=by unfold cellOf;rw[hc']
   dsimp only;rw[if_pos (by rfl),ec];show (forIn r ((n,c)::cs) _:Sem _)=_;rw[ih]
   conv=>rhs;unfold ZbP
   rw[if_pos (by rfl),hc'];rfl
  ·have hb:(k == YbP)=false:=by simpa using hk
   dsimp only;rw[if_neg (by rw[hb];decide)];show (forIn r cs _:Sem _)=_;rw[ih]
   conv=>rhs;unfold ZbP
   rw[if_neg (by rw[hb];decide)]
theorem Zbu {scope:Scope}{env:Env} (h:∀ x∈scope.names,x.2=.free->∃ c,env.cells.lookup x.1=some c):closureFor scope env=pure (clOf scope env):=by
 unfold closureFor;have e:=Zcr (env:=env) scope.names [] h;simp only[bind_pure];exact e
theorem Zfx {env:Env}{x:Str}{c:Addr}:∀ (names:List (Str × NameKind)) (cs:List (Str × Addr)),(ZbP env names cs).lookup x=some c->((x,YbP)∈names/\c=(env.cells.lookup x).getD 0)∨cs.lookup x=some c
 | [],_,h=>.inr h
 | (n,k)::r,cs,h=>by
  unfold ZbP at h;rcases Zfx r _ h with ⟨h1,h2⟩ | h1
  ·exact .inl ⟨YaC _ h1,h2⟩
  ·by_cases hk:k=.free
   ·subst hk;rw[if_pos (by rfl),YbB] at h1
    cases e:x == n with
    | true=>
     rw[e] at h1;have en:x=n:=eq_of_beq e;subst en;exact .inl ⟨YaD,(Yax h1).symm⟩
    | false=>rw[e] at h1;exact .inr h1
   ·have hb:(k == YbP)=false:=by simpa using hk
    rw[if_neg (by rw[hb];decide)] at h1;exact .inr h1
theorem Zjq {env:Env}{x:Str}:∀ (names:List (Str × NameKind)) (cs:List (Str × Addr)),(∃ c,cs.lookup x=some c)->∃ c,(ZbP env names cs).lookup x=some c
 | [],_,h=>h
 | (n,k)::r,cs,h=>by
  unfold ZbP;refine Zjq r _ ?_;split
  ·rw[YbB];split
   ·exact⟨_,rfl⟩
   ·exact h
  ·exact h
theorem ZgW {env:Env}{x:Str}:∀ (names:List (Str × NameKind)) (cs:List (Str × Addr)),(x,YbP)∈names->∃ c,(ZbP env names cs).lookup x=some c
 | [],_,h=>by simp at h
 | (n,k)::r,cs,h=>by
  unfold ZbP;rcases Yay.mp h with e | h
  ·cases e;refine Zjq r _ ?_;rw[if_pos (by rfl),YbB];exact⟨(env.cells.lookup x).getD 0,by simp⟩
  ·exact ZgW r _ h
theorem Zhc {scope:Scope}{env:Env}{x:Str} (hcell:∀ y∈scope.names,y.2≠.cell) (h:(relabel scope env).names.lookup x=some .cell∨(relabel scope env).names.lookup x=some .free):(x,YbP)∈scope.names:=by
 have hm:∃ k,(x,k)∈(relabel scope env).names/\(k=.cell∨k=.free):=by
  rcases h with h | h
  ·exact⟨_,Ybt h,.inl rfl⟩
  ·exact⟨_,Ybt h,.inr rfl⟩
 obtain⟨k,hm,hk⟩:=hm;obtain⟨⟨n,k'⟩,h1,h2⟩:=YaU.mp hm;dsimp only at h2;split at h2
 ·rename_i hc;have:k'=.free:=by
   simp only[YbZ,beq_iff_eq] at hc;exact hc.1.1
  cases h2;subst this;exact h1
 ·cases h2;rcases hk with rfl | rfl
  ·exact absurd rfl (hcell _ h1)
  ·exact h1
theorem ZbJ {env:Env}{x:Str}:∀ {names:List (Str × NameKind)},names.lookup x=some .free ->
  (names.map fun (n,k)=>if (k == YbP && env.scope.kind == .function && env.kindOf n == some .cell) then (n,YeR) else (n,k)).lookup x=some .cell ∨
  (names.map fun (n,k)=>if (k == YbP && env.scope.kind == .function && env.kindOf n == some .cell) then (n,YeR) else (n,k)).lookup x=some .free
 | [],h=>by simp at h
 | (n,k)::r,h=>by
  have ih:=@ZbJ env x r;rw[Yam];dsimp only
  cases hx:x == n with
  | true=>
   simp only[YbB,hx] at h;cases h;split
   ·left;simp[YbB,hx]
   ·right;simp[YbB,hx]
  | false=>
   simp only[YbB,hx] at h;split
   ·simp only[YbB,hx];exact ih h
   ·simp only[YbB,hx];exact ih h
section
variable {prog:Program}{w:World}{A:Around}{R:Result->Shared->Prop}{s:Shared}
theorem Zcd {elt target iter:Expr}{ifs:List Expr}{scope:Scope}{pos:Pos}{it acc:Value}{env:Env} (I:Nat->Shared->Prop)
  (turn:∀ n s,I n s->wpAny (model prog w) A (pyNext it) (fun r s₁=>match r with
   | none=>R (.ok .next) s₁
   | some v=>wpAny (model prog w) A (letOwnedTupleGo target it v) (fun _ s₁'=>wpAny (model prog w) A (assign target env v) (fun _ s₂=>
     wpAny (model prog w) A (forIn ifs true fun c r=>if r=true then do let ok <- isTrue c env (eval c env);pure (Ya6 ok) else pure (Ya6 r)) (fun ok s₃=>
      if ok=true then wpAny (model prog w) A (eval elt env) (fun x s₄=>
       wpAny (model prog w) A (call (.builtin "list.append") [acc,x]) (fun _ s₅=>∃ m,m<n/\I m s₅) (fun _ _=>False) s₄) (fun _ _=>False) s₃
      else ∃ m,m<n/\I m s₃) (fun _ _=>False) s₂) (fun _ _=>False) s₁') (fun _ _=>False) s₁) (fun _ _=>False) s)
  (n:Nat) (h:I n s) :
  codeAny (model prog w) A (.compLoop (.ListComp elt [⟨target,iter,ifs,0⟩] scope pos) 0 it acc env) R s:=by
 refine codeAny_loop rfl I (fun n s hI=>?_) n h;show wpAny _ A ((compTurn (.ListComp elt [⟨target,iter,ifs,0⟩] scope pos) 0 it acc env).onRaise (fun x=>do noteFrame x env;theTreesLotGoes x)) _ _ s;refine wpAny_noted ?_;rw[compTurn_list];refine wpAny_bind (wpAny_standAt (wpAny_bind (wpAny_mono (turn n s hI) (fun r s₁ h₁=>?_) fun _ _ h'=>h'.elim)))
 cases r with
 | none=>exact wpAny_pure h₁
 | some v=>
  refine wpAny_bind (wpAny_mono h₁ (fun _ s₁' h₁=>?_) fun _ _ h'=>h'.elim);refine wpAny_bind (wpAny_mono h₁ (fun _ s₂ h₂=>wpAny_bind (wpAny_mono h₂ (fun ok s₃ h₃=>?_) fun _ _ h'=>h'.elim)) fun _ _ h'=>h'.elim)
  cases ok with
  | false=>exact wpAny_pure ⟨rfl,h₃⟩
  | true=>
   exact wpAny_bind (wpAny_bind (wpAny_mono h₃ (fun x s₄ h₄=>wpAny_bind (wpAny_mono h₄ (fun _ s₅ h₅=>wpAny_pure (wpAny_pure ⟨rfl,h₅⟩)) fun _ _ h'=>h'.elim)) fun _ _ h'=>h'.elim))
end
def PTs (X:Cx) (ifs:List Expr) (t:TT):Prop :=
 ∀ (pins:List (Addr × Obj)) (s:Shared) (σ:St) (H:Hp) (Q:Bool->Hp->Prop),Inv X pins σ H s->t σ H Q ->
  wpAny (model X.prog X.w) X.A (forIn ifs true fun c r=>if r=true then do let ok <- isTrue c X.env (eval c X.env);pure (Ya6 ok) else pure (Ya6 r)) (TP X pins σ Q) X.xe s
def ZbH:TT:=fun _ H Q=>Q true H
theorem Zav {X:Cx}:PTs X [] ZbH:=fun _ _ _ H _ I h=>wpAny_tests_nil ⟨H,I,h⟩
theorem ZcC {X:Cx}{c:Expr}{t:TT} (h:PT X c t):PTs X [c] t:=fun pins s σ H Q I q=>wpAny_tests_one (h pins s σ H Q I q)
def Cx.blk (X:Cx) (scope:Scope) (own:List Str) (js:List Nat) (s₂:Shared) (H₂:Hp) (C:Addr) (fp:List Addr) (pins:List (Addr × Obj)):Cx where
 prog:=X.prog
 w:=X.w
 K:=X.K
 mg:=X.mg
 base:=X.base
 A:=X.A
 N:=own++js.map fun j=>X.N.getD j YcO
 s₀:=s₂
 H₀:=H₂
 env:=compEnvC scope (clOf scope X.env) C X.env
 outer:=X.stack
 stack:=X.stack
 ex:=fp
 fn:=fun _=>false
 calm:=X.calm
 pn:=X.pn++pins
 xe:=fun _ _=>False
def blkσ (own:List Str) (js:List Nat) (σ:St):St:=own.map (fun _=>none)++js.map fun j=>(σ[j]?).join
section
variable {X:Cx}{pins:List (Addr × Obj)}{σ:St}{H H':Hp}{s s':Shared}{scope:Scope}{own:List Str}{js:List Nat}{C:Addr}{fp:List Addr}
structure CompOk (X:Cx) (scope:Scope) (own:List Str) (js:List Nat):Prop where
 kind:scope.kind=.function
 cell:∀ y∈scope.names,y.2≠.cell
 free:∀ y∈scope.names,y.2=.free->X.env.kindOf y.1=some .cell∨X.env.kindOf y.1=some .free
 names:∀ y∈scope.names,y.2=.local -> scope.names.lookup y.1=some .local
 out:∀ j∈js,∃ x,X.N[j]?=some x/\scope.names.lookup x=some .free
theorem CompOk.cl (c:CompOk X scope own js) (I:Inv X pins σ H s):∀ x∈scope.names,x.2=.free->∃ c,X.env.cells.lookup x.1=some c:=fun x hx hf=>I.ok.has x.1 (c.free x hx hf)
theorem CompOk.look (c:CompOk X scope own js) (I:Inv X pins σ H s) {x:Str}{a:Addr} (h:(clOf scope X.env).lookup x=some a):X.env.cells.lookup x=some a:=by
 rcases Zfx _ _ h with ⟨h1,h2⟩ | h1
 ·obtain⟨c',e⟩:=c.cl I (x,.free) h1 rfl;have e':X.env.cells.lookup x=some c':=e;rw[e'] at h2 ⊢;subst h2;rfl
 ·simp at h1
theorem Zle (c:CompOk X scope own js) (I:Inv X pins σ H s) (hC:s.heap.objs.size<=C) (hf:∀ b∈fp,FpOk X pins H b) (ho:∀ b∈fp,∃ o,s.heap.get? b=some o):(X.blk scope own js s H C fp pins).Ok where
 mod:=I.ok.mod
 kind:=c.kind
 glob:=I.ok.glob
 blt:=I.ok.blt
 above:=hC
 inj:=fun x y a h1 h2=>I.ok.inj x y a (c.look I h1) (c.look I h2)
 has:=fun x hx=>ZgW _ _ (Zhc c.cell hx)
 cab:=fun x a h=>by cases h
 hd:=I.ok.hd
 frames:=I.ok.frames
 stk:=.inl rfl
 exf:=fun b hb=>by
  obtain⟨o,e⟩:=ho b hb;exact⟨YaB (Yaj (Yai e) hC),fun x a h=>(hf b hb).2.2.2.2.1 x a (c.look I h)⟩
 bs:=I.bs
 bsz:=Ybj I.ok.bsz I.sz
 noex:=fun b o e hb=>by
  rcases (hf b hb).2.2.2.1 with z | z
  ·exact I.ok.noex b o e z
  ·exact absurd (Yaj (Yai e) (Ybj I.ok.bsz z)) (Yba _)
 exfs:=fun b hb hm=>by
  rcases Yay.mp (I.stkSub b hm) with z | z
  ·exact (hf b hb).2.1 z
  ·exact (hf b hb).2.2.1 z
 funs:=I.stack
 frf:=I.stkFree
theorem Zdz (own:List Str) (js:List Nat) (σ:St) (X:Cx):(blkσ own js σ).length=(own++js.map fun j=>X.N.getD j YcO).length:=by
 unfold blkσ;simp
theorem Zfz {acc:Addr}{m:Str->Option Value}{tk:Nat}{h':Heap} (c:CompOk X scope own js) (I:Inv X pins σ H s) (hC:s.heap.objs.size<=C) (hf:∀ b∈fp,FpOk X pins H b) (ho:∀ b∈fp,∃ o,s.heap.get? b=some o)
  (hn:h'.Ns C m) (k:∀ b u,s.heap.get? b=some u->h'.get? b=some u) (hacc:s.heap.objs.size<=acc) (haC:acc≠C) (hl:h'.get? acc=some { cls:=.type "list",data:=.seq ([]:List Value).toArray 0 }) :
  Inv (X.blk scope own js s H C fp pins) [] (blkσ own js σ) (upd H acc (.lst [])) { s with heap:=h',toks:=tk }:=by
 have ok:=Zle c I hC hf ho;have fresh:∀ {a:Addr},s.heap.objs.size<=a->H a=none:=fun h=>I.hok.fresh h;have neA:∀ b o,s.heap.get? b=some o->b≠acc:=fun b o e=>YaB (Yaj (Yai e) hacc);refine⟨ok,rfl,I.bare,Un.laid k hacc (fresh hacc),⟨m,hn,fun i x v e1 e2 e3=>?_⟩,fun x a e=>?_,?_,fun x a e=>?_,fun p hp=>?_,I.hok.laid k hacc ⟨YaT _,[],0,.nil,hl⟩,Zdz own js σ X⟩
 ·
  have hi:own.length<=i:=by
   refine YdJ fun hi=>?_;unfold blkσ at e2;rw[YaK (by simpa using hi),Yag] at e2
   cases q:own[i]? with
   | none=>rw[q] at e2;cases e2
   | some z=>rw[q] at e2;cases e2
  have e1':(js.map fun j=>X.N.getD j YcO)[i - own.length]?=some x:=by
   have e1:(own++js.map fun j=>X.N.getD j YcO)[i]?=some x:=e1
   rwa [YaA hi] at e1
  have e2':(js.map fun j=>(σ[j]?).join)[i - own.length]?=some (some v):=by
   unfold blkσ at e2;rw[YaA (by simpa using hi)] at e2;simpa using e2
  rw[Yag] at e1' e2'
  cases q:js[i - own.length]? with
  | none=>rw[q] at e1';cases e1'
  | some j=>
   rw[q] at e1' e2';obtain⟨x',hx',hfree⟩:=c.out j (Yah q);have ex:x'=x:=by
    have:X.N.getD j YcO=x:=Yax e1';rw[Yao,hx'] at this;exact this
   subst ex;have eσ:σ[j]?=some (some v):=by
    have e2'':(σ[j]?).join=some v:=Yax e2'
    cases r:σ[j]? with
    | none=>rw[r] at e2'';cases e2''
    | some z=>rw[r] at e2'';cases z with
     | none=>cases e2''
     | some y=>cases e2'';rfl
   have hmem:(x',YbP)∈scope.names:=Ybt hfree;have hkX:=c.free _ hmem rfl;have vis:Vis X.env.scope x':=by
    rcases hkX with z | z
    ·exact .inr (.inl z)
    ·exact .inr (.inr z)
   obtain⟨m0,hn0,hl0⟩:=I.loc;obtain⟨u,r,l⟩:=hl0 j x' v hx' eσ vis;refine⟨u,r,.inr ⟨ZbJ hfree,?_⟩⟩;obtain⟨a,ha⟩:=ZgW (env:=X.env) scope.names [] hmem;refine⟨a,ha,?_⟩;have haX:=c.look I ha;rcases l with ⟨z,_⟩ | ⟨_,a',ha',⟨o,ho',hd⟩⟩
   ·have z:X.env.kindOf x'=some .local:=z;rcases hkX with y | y
    ·have y:X.env.kindOf x'=some .cell:=y;rw[z] at y;cases y
    ·have y:X.env.kindOf x'=some .free:=y;rw[z] at y;cases y
   ·rw[haX] at ha';cases ha';exact⟨o,k _ o ho',hd⟩
 ·obtain⟨v,o,ho',hd⟩:=I.cell x a (c.look I e);exact⟨v,o,k _ o ho',hd⟩
 ·show upd H acc (.lst []) C=none;rw[upd_ne (Ybl haC)];exact fresh hC
 ·have e':=c.look I e;obtain⟨v,o,ho',hd⟩:=I.cell x a e';rw[upd_ne (neA a o ho')];exact I.freeC x a e'
 ·have hp:p∈X.pn++pins:=by simpa[Cx.blk] using hp
  obtain⟨e,n,ne,nf,d⟩:=I.pin p hp;refine⟨k _ _ e,by rw[upd_ne (neA _ _ e)];exact n,YaB (Yaj (Yai e) hC),fun z=>?_,d⟩;rcases Yay.mp (I.stkSub _ z) with q | q
  ·exact ne q
  ·exact nf q
theorem Zgk {τ:St}{pl:List (Addr × Obj)} (I:Inv X pins σ H s) (hf:∀ b∈fp,FpOk X pins H b) (J:Inv (X.blk scope own js s H C fp pins) pl τ H' s'):Inv X pins σ H' s' :=
 I.call' J.os J.base J.hok J.bare fun b hb=>⟨(hf b hb).2.2.2.1,(hf b hb).2.1,(hf b hb).2.2.2.2.1,(hf b hb).2.2.2.2.2⟩
theorem Inv.other {h':Heap} (I:Inv X pins σ H s) (hs:YcU C s.heap h') (hn:H C=none) (hL:C≠X.env.locals) (h1:X.s₀.heap.objs.size<=C) (h2:∀ x c,X.env.cells.lookup x=some c->c≠C) (h3:∀ p∈X.pn++pins,p.1≠C) :
  Inv X pins σ H { s with heap:=h' } :=
 I.turned (t':=s.toks) (fun b o hb e=>(hs.2 b hb).trans e) hn hL (.inr h1) h2 h3
end
def Zgn (own:List Str) (g:TG):Prop:=∀ (js:List Nat) (σ:St) (x:V) (H:Hp) (Q:St->Hp->Prop),g x (blkσ own js σ) H Q ->
 g x (blkσ own js σ) H fun τ H'=>(∀ (j:Nat) v,(blkσ own js σ)[j]?=some (some v)->τ[j]?=some (some v))/\Q τ H'
theorem ZbQ {own:List Str}{js:List Nat}{σ:St}{i:Nat}{v:V} (hi:i<own.length):(blkσ own js σ)[i]?≠some (some v):=by
 unfold blkσ;rw[YaK (by simpa using hi),Yag]
 cases own[i]? with
 | none=>intro h;cases h
 | some z=>intro h;cases h
theorem Zak {own:List Str}{i:Nat} (hi:i<own.length:=by decide):Zgn own (ZcS i):=fun js σ x H Q h=>⟨fun j v e=>by
 have hj:j≠i:=by rintro rfl;exact ZbQ hi e
 rw[Ya0 (Ybl hj)];exact e,h⟩
theorem ZbN {K:Yae}{own:List Str}{i k:Nat} (hi:i<own.length:=by decide) (hk:k<own.length:=by decide):Zgn own (gTup K 2 (Zmg (ZcS i) (Zmg (ZcS k) gNil))):=fun js σ x H Q h=>by
 obtain⟨a,xs,rfl,hq,hl,v,r,rfl,w,r',rfl,e,h⟩:=h;refine⟨a,_,rfl,hq,hl,v,_,rfl,w,r',rfl,e,fun j z e=>?_,h⟩;have hj:j≠i:=by rintro rfl;exact ZbQ hi e
 have hj':j≠k:=by rintro rfl;exact ZbQ hk e
 rw[Ya0 (Ybl hj'),Ya0 (Ybl hj)];exact e
def Za0 (own:List Str) (js:List Nat) (g:TG) (tt:TT) (te:TE) (σ:St) (J:It) (H1:Hp) (Q:VK):Prop :=
 ∀ acc,H1 acc=none->∃ (W:Nat->Hp->Prop) (n:Nat),W 0 (upd H1 acc (.lst []))/\∀ i H2,W i H2 ->
  (J.stop i H2/\Q (.ref acc) H2)∨(i<n/\J.go i H2/\∀ x H3,J.yld i H2 x H3->g x (blkσ own js σ) H3 fun τ H4=>tt τ H4 fun c H5=>
   if c=true then te τ H5 fun y H6=>∃ ys,H6 acc=some (.lst ys)/\ys.length<sizeLine/\W (i+1) (upd H6 acc (.lst (ys++[y]))) else W (i+1) H5)
def ZmM (own:List Str) (js:List Nat) (wi:TI) (g:TG) (tt:TT) (te:TE):TE:=fun σ H Q=>wi σ H fun J H1=>Za0 own js g tt te σ J H1 Q
section
variable {X:Cx}{scope:Scope}{own:List Str}{js:List Nat}{elt iter target:Expr}{ifs:List Expr}{wi:TI}{g:TG}{tt:TT}{te:TE}{pos:Pos}
theorem Zjt {pins:List (Addr × Obj)}{σ:St}{H2:Hp}{s₂:Shared}{it:Addr}{fp:List Addr}{tn:Nat->Heap->Prop}{J:It}{Q:VK}{E:Value->Shared->Prop}{RR:Value->Addr->Result->Shared->Prop}
  (c:CompOk X scope own js) (hc:X.calm=true) (hgk:Zgn own g)
  (hg:∀ s H C fp pins,PG (X.blk scope own js s H C fp pins) target g) (ht:∀ s H C fp pins,PTs (X.blk scope own js s H C fp pins) ifs tt) (he:∀ s H C fp pins,PE (X.blk scope own js s H C fp pins) elt te)
  (I:Inv X pins σ H2 s₂) (T:Turn X.prog X.w X.K target J fp it tn) (st:tn 0 s₂.heap) (hf:∀ b∈fp,FpOk X pins H2 b) (h:Za0 own js g tt te σ J H2 Q)
  (hRR:∀ acc C H' s' m,s₂.heap.objs.size<=C->H' C=none->Inv X pins σ H' s'->s'.heap.Ns C m->Q (.ref acc) H'->RR (.ref acc) C (.ok .next) s') :
  wpAny (model X.prog X.w) X.A (newList []) (fun acc s₃=>wpAny (model X.prog X.w) X.A (newFunctionEnv scope X.env.globals (clOf scope X.env) [] X.env.qual none .none (some X.env)) (fun cenv s₄=>
   codeAny (model X.prog X.w) X.A (.compStart (.ListComp elt [⟨target,iter,ifs,0⟩] scope pos) 0 (.ref it) acc { cenv with scope:=relabel scope X.env }) (RR acc cenv.locals) s₄) E s₃) E s₂:=by
 refine wpAny_newObj_type (wpAny_newFunctionEnv c.cell (by intro y hy;simp at hy) (fun h₁ hns₁ hsb₁=>?_) c.kind);dsimp only at hns₁ hsb₁ ⊢;generalize hH2:s₂.heap.push { cls:=.type "list",dict:=none,data:=.seq ([]:List Value).toArray }=G2 at hns₁ hsb₁ ⊢;have hC:G2.objs.size=s₂.heap.objs.size+1:=by rw[<- hH2,Ybi]
 have hDC:s₂.heap.objs.size≠G2.objs.size:=by rw[hC];exact YaB (Yb1 _)
 have hCle:s₂.heap.objs.size<=G2.objs.size:=by rw[hC];exact YcF _
 have old:∀ b o,s₂.heap.get? b=some o->h₁.get? b=some o:=fun b o e=>hsb₁.extBut b o (YaB (Yaj (Yai e) hCle)) (Yad _ (hH2 ▸ Yad _ e));have hacc:h₁.get? s₂.heap.objs.size=some { cls:=.type "list",data:=.seq ([]:List Value).toArray 0 }:=hsb₁.extBut _ _ hDC (Yad _ (hH2 ▸ Yav _ rfl));have ho2:∀ b∈fp,∃ o,s₂.heap.get? b=some o:=fun b hb=>let ⟨o,e,_⟩:=T.obj 0 _ st b hb;⟨o,e⟩
 have I0:∀ tk,Inv (X.blk scope own js s₂ H2 G2.objs.size fp pins) [] (blkσ own js σ) (upd H2 s₂.heap.objs.size (.lst [])) { s₂ with heap:=h₁,toks:=tk }:=fun tk=>
  Zfz c I hCle hf ho2 hns₁ old (Yak _) hDC hacc
 obtain⟨W,nn,w0,turn⟩:=h s₂.heap.objs.size (I.hok.fresh (Yak _));generalize hacc':s₂.heap.objs.size=acc at *;generalize hGC:G2.objs.size=C at *;have st1:tn 0 h₁:=T.keep 0 _ _ st fun b _ o e=>old b o e;have fOk:∀ {H':Hp},(∀ b∈fp,H' b=none)->∀ b∈fp,FpOk (X.blk scope own js s₂ H2 C fp pins) [] H' b:=fun hn b hb=>by
  obtain⟨f0,f1,f2,f3,f4,f5⟩:=hf b hb;obtain⟨o,e⟩:=ho2 b hb;refine⟨hn b hb,YaB (Yaj (Yai e) (by rw[<- hacc'] at hCle;exact hCle)),fun z=>?_,.inl hb,fun x a h=>f4 x a (c.look I h),fun p hp=>f5 p (by simpa[Cx.blk] using hp)⟩;rcases Yay.mp (I.stkSub b z) with q | q
  ·exact f1 q
  ·exact f2 q
 have loop:∀ s₃:Shared,s₃={ s₂ with heap:=h₁,toks:=s₂.toks+([]:List (Str × Value)).length } ->
   codeAny (model X.prog X.w) X.A (.compLoop (.ListComp elt [⟨target,iter,ifs,0⟩] scope pos) 0 (.ref it) (.ref acc) (compEnvC scope (clOf scope X.env) C X.env)) (RR (.ref acc) C) s₃:=by
  rintro s₃ rfl;refine Zcd (fun n s'=>∃ i H',n=nn - i/\Inv (X.blk scope own js s₂ H2 C fp pins) [] (blkσ own js σ) H' s'/\tn i s'.heap/\(∀ b∈fp,H' b=none)/\W i H') ?_ nn ⟨0,_,rfl,I0 _,st1,fun b hb=>?_,w0⟩
  ·rintro n s3 ⟨i,H3,en,I3,st3,fr3,w3⟩;rcases turn i H3 w3 with ⟨stop,qn⟩ | ⟨hin,go,step⟩
   ·refine thn (T.done (X.blk scope own js s₂ H2 C fp pins) rfl rfl rfl hc i [] s3 _ H3 (fun _ _=>False) I3 (fOk fr3) st3 stop) fun r s4 ⟨hr,I4⟩=>?_;subst hr;obtain⟨m,hn,_⟩:=I4.loc;exact hRR acc C H3 s4 m hCle I4.free (Zgk I hf I4) hn qn
   ·refine thn (T.item (X.blk scope own js s₂ H2 C fp pins) rfl rfl rfl hc i [] s3 _ H3 (fun _ _=>False) I3 (fOk fr3) st3 go) fun r s4 ⟨u,hr,h4⟩=>?_;subst hr;refine thn h4 fun _ s5 ⟨x,H5,I5,r5,y5,st5,fr5⟩=>?_;have I5':=I5.pinned (fOk fr5) (T.obj _ _ st5);have again:∀ {σ7:St}{H7:Hp}{s7:Shared},Inv (X.blk scope own js s₂ H2 C fp pins) ([]++ZcM fp s5.heap) σ7 H7 s7->(∀ (j:Nat) v,(blkσ own js σ)[j]?=some (some v)->σ7[j]?=some (some v))->W (i+1) H7 ->
      ∃ m,m<n/\∃ i H',m=nn - i/\Inv (X.blk scope own js s₂ H2 C fp pins) [] (blkσ own js σ) H' s7/\tn i s7.heap/\(∀ b∈fp,H' b=none)/\W i H':=fun {σ7 H7 s7} I7 hw w7=>by
     refine⟨nn - (i+1),by (clear hCle hDC hC hGC hacc';omega),i+1,H7,rfl,(I7.unpinned).weak ((Zdz own js σ X).trans I7.len.symm) hw,T.keep _ _ _ st5 fun b hb o e=>(I7.pin (b,o) (Yau _ (Yau _ (ZaL hb e)))).1,fun b hb=>?_,w7⟩;obtain⟨o,e,d⟩:=T.obj _ _ st5 b hb;exact (I7.pin (b,o) (Yau _ (Yau _ (ZaL hb e)))).2.1
    refine thn (hg s₂ H2 C fp pins _ s5 _ H5 x u _ I5' r5 (hgk _ _ _ _ _ (step x H5 y5))) fun _ s6 ⟨σ6,H6,I6,kp,q6⟩=>?_;refine thn (ht s₂ H2 C fp pins _ s6 σ6 H6 _ I6 q6) fun ok s7 ⟨H7,I7,q7⟩=>?_
    cases ok with
    | false=>
     exact again I7 kp q7
    | true=>
     refine thn (he s₂ H2 C fp pins _ s7 σ6 H7 _ I7 q7) fun y s8 ⟨v,H8,I8,r8,ys,hl,hz,w8⟩=>?_;refine thn (ZbK (X:=X.blk scope own js s₂ H2 C fp pins) _ s8 σ6 H8 (.ref acc) [v] (.ref acc) [y] (fun _ H9=>W (i+1) H9) I8 rfl (.cons r8 .nil) ⟨acc,ys,v,rfl,rfl,hl,hz,w8⟩) fun _ s9 ⟨_,H9,I9,_,w9⟩=>?_;exact again I9 kp w9
  ·rw[upd_ne ?_]
   ·exact (hf b hb).1
   ·obtain⟨o,e⟩:=ho2 b hb;rw[<- hacc'];exact YaB (Yai e)
 exact codeAny_compStart_list (loop _ rfl) (T.self _ 0 _ _ _ st1 (loop _ rfl))
theorem Zaz (c:CompOk X scope own js) (hc:X.calm=true) (hi:PI X target iter wi) (hgk:Zgn own g)
  (hg:∀ s H C fp pins,PG (X.blk scope own js s H C fp pins) target g) (ht:∀ s H C fp pins,PTs (X.blk scope own js s H C fp pins) ifs tt) (he:∀ s H C fp pins,PE (X.blk scope own js s H C fp pins) elt te)
  (hs:∀ x,foldedSetIterable iter X.env x=pure x:=by intro _;rfl):PE X (.ListComp elt [⟨target,iter,ifs,0⟩] scope pos) (ZmM own js wi g tt te):=by
 intro pins s σ H Q I h;rw[eval_ListComp];refine wpAny_comprehension_free (use:=none) rfl hs (Zbu (c.cl I)) c.kind c.names (thn (hi pins s σ H _ I h) fun v s1 h1=>thn h1 fun itv s2 h2=>?_);obtain⟨it,fp,tn,J,H2,e,I2,T,st2,f2,hw⟩:=h2;subst e;refine Zjt (RR:=fun acc C=>compPost (model X.prog X.w) X.A X.xe none (EP X pins σ Q) acc C) c hc hgk hg ht he I2 T st2 f2 hw ?_;intro acc C H' s' m hCs hCn I' hn q;refine⟨m,hn,fun h' hs'=>⟨.ref acc,H',I'.other hs' hCn ?_ ?_ ?_ ?_,rfl,q⟩⟩
 ·exact Ybx (Yaj I2.lt hCs)
 ·exact Ybj I2.sz hCs
 ·intro x a e z;obtain⟨v,q⟩:=I2.cell x a e;exact absurd (Yaj q.lt (by rw[z];exact hCs)) (Yba _)
 ·intro p hp z;exact absurd (Yaj (Yai (I2.pin p hp).1) (by rw[z];exact hCs)) (Yba _)
theorem ZcE {i:Nat}{y:Str}{py spos:Pos} (hN:X.N.Nodup) (hy:X.N[i]?=some y) (hyl:X.env.scope.names.lookup y=some .local) (c:CompOk X scope own js) (hc:X.calm=true) (hi:PI X target iter wi) (hgk:Zgn own g)
  (hg:∀ s H C fp pins,PG (X.blk scope own js s H C fp pins) target g) (ht:∀ s H C fp pins,PTs (X.blk scope own js s H C fp pins) ifs tt) (he:∀ s H C fp pins,PE (X.blk scope own js s H C fp pins) elt te)
  (hsw:swapsWith (.ListComp elt [⟨target,iter,ifs,0⟩] scope pos) (some (.Name y py)) spos.line X.env=pure true:=by rfl)
  (hs:∀ x,foldedSetIterable iter X.env x=pure x:=by intro _;rfl):PS X (.Assign [.Name y py] (.ListComp elt [⟨target,iter,ifs,0⟩] scope pos) spos) (tAsg (ZmM own js wi g tt te) (ZcS i)):=by
 intro pins s σ H D I h;rw[exec_Assign_Name_used _ _ _ _ hsw];refine wpAny_bind (wpAny_standAt (wpAny_bind ?_));show wpAny _ X.A (do let _ <- comprehension (.ListComp elt [⟨target,iter,ifs,0⟩] scope pos) scope X.env _ (newList []) false (eval iter X.env) (some (assign (.Name y py) X.env))) _ _ s;refine wpAny_bind (wpAny_mono (wpAny_comprehension_free (use:=some (assign (.Name y py) X.env)) (Q:=fun _ s'=>SP X pins D .next s') rfl hs (Zbu (c.cl I)) c.kind c.names
  (thn (hi pins s σ H _ I h) fun v s1 h1=>thn h1 fun itv s2 h2=>?_)) (fun _ s' hq=>wpAny_pure (wpAny_pure hq)) fun _ _ e=>e)
 obtain⟨it,fp,tn,J,H2,e,I2,T,st2,f2,hw⟩:=h2;subst e;refine Zjt (Q:=fun x H1=>ZcS i x σ H1 D.nx) (RR:=fun acc C=>compPost (model X.prog X.w) X.A X.xe (some (assign (.Name y py) X.env)) (fun _ s'=>SP X pins D .next s') acc C) c hc hgk hg ht he I2 T st2 f2 hw ?_;intro acc C H' s' m hCs hCn I' hn q;have hL:C≠X.env.locals:=Ybx (Yaj I2.lt hCs);have hcell:∀ x a,X.env.cells.lookup x=some a->a≠C:=by
  intro x a e z;obtain⟨v,q⟩:=I2.cell x a e;exact absurd (Yaj q.lt (by rw[z];exact hCs)) (Yba _)
 refine wpAny_assign_Name (Zc7 I' hN hy (.inl hyl) (v:=.ref acc) rfl (fun s2 I'' hch=>?_) (.inr hyl));obtain⟨a,sb,ha⟩:=hch;have hCa:C≠a:=by
  rcases ha with rfl | ha
  ·exact hL
  ·exact Ybl (hcell _ _ ha)
 refine⟨m,hn.sameBut sb hCa,fun h' hs'=>⟨_,H',I''.other hs' hCn hL (Ybj I2.sz hCs) hcell ?_,q⟩⟩;intro p hp z;exact absurd (Yaj (Yai (I2.pin p hp).1) (by rw[z];exact hCs)) (Yba _)
end
section
variable {K:Yae}{own:List Str}{js:List Nat}{g:TG}{tt:TT}{te:TE}{σ:St}{H1:Hp}{Q:VK}
theorem Zbt {a:Addr}{xs:List V} (Pv:Addr->Nat->Hp->Prop) (h0:∀ acc,H1 acc=none->Pv acc 0 (upd H1 acc (.lst []))) (hl:∀ acc i H,H1 acc=none->i<=xs.length->Pv acc i H->SqL K H a xs)
  (hs:∀ acc i x H,H1 acc=none->xs[i]?=some x->Pv acc i H->g x (blkσ own js σ) H fun τ H4=>tt τ H4 fun c H5=>
   if c=true then te τ H5 fun y H6=>∃ ys,H6 acc=some (.lst ys)/\ys.length<sizeLine/\(i+1<=xs.length/\Pv acc (i+1) (upd H6 acc (.lst (ys++[y])))) else (i+1<=xs.length/\Pv acc (i+1) H5))
  (hd:∀ acc H,H1 acc=none->Pv acc xs.length H->Q (.ref acc) H):Za0 own js g tt te σ (Itl K a) H1 Q:=by
 intro acc hacc;refine⟨fun i H=>i<=xs.length/\Pv acc i H,xs.length,⟨YaT _,h0 acc hacc⟩,?_⟩;rintro i H ⟨hi,p⟩;have q:=hl acc i H hacc hi p;by_cases hlt:i<xs.length
 ·refine .inr ⟨hlt,⟨xs,xs[i],q,by simp[hlt]⟩,fun x H' y=>?_⟩;obtain⟨e,y⟩:=y;subst e;exact hs acc i x _ hacc (y xs q) p
 ·have e:i=xs.length:=by omega
  subst e;exact .inl ⟨⟨xs,q,Yak _⟩,hd acc H hacc p⟩
theorem Zbh {lo:Int}{n:Nat} (Pv:Addr->Nat->Hp->Prop) (h0:∀ acc,H1 acc=none->Pv acc 0 (upd H1 acc (.lst [])))
  (hs:∀ acc i H,H1 acc=none->i<n->Pv acc i H->g (.int (lo+i)) (blkσ own js σ) H fun τ H4=>tt τ H4 fun c H5=>
   if c=true then te τ H5 fun y H6=>∃ ys,H6 acc=some (.lst ys)/\ys.length<sizeLine/\(i+1<=n/\Pv acc (i+1) (upd H6 acc (.lst (ys++[y])))) else (i+1<=n/\Pv acc (i+1) H5))
  (hd:∀ acc H,H1 acc=none->Pv acc n H->Q (.ref acc) H):Za0 own js g tt te σ (Itr lo n) H1 Q:=by
 intro acc hacc;refine⟨fun i H=>i<=n/\Pv acc i H,n,⟨YaT _,h0 acc hacc⟩,?_⟩;rintro i H ⟨hi,p⟩;by_cases hlt:i<n
 ·refine .inr ⟨hlt,hlt,fun x H' y=>?_⟩;obtain⟨e,y⟩:=y;subst e y;exact hs acc i _ hacc hlt p
 ·have e:i=n:=by omega
  subst e;exact .inl ⟨Yak _,hd acc H hacc p⟩
end
def Zjn (scope sc:Scope) (js:List Nat) (N:List Str):Bool :=
 (scope.kind == .function) && (scope.names.all fun y=>(y.2 != .cell) && ((y.2 != .free) || (sc.names.lookup y.1 == some .cell) || (sc.names.lookup y.1 == some .free)) && ((y.2 != .local) || (scope.names.lookup y.1 == some .local))) &&
 (js.all fun j=>match N[j]? with | some x=>scope.names.lookup x == some .free | none=>false)
theorem CompOk.by {X:Cx}{scope sc:Scope}{own N:List Str}{js:List Nat} (hX:X.env.scope=sc) (hN:X.N=N) (h:Zjn scope sc js N=true):CompOk X scope own js:=by
 unfold Zjn at h;simp only[YbZ,beq_iff_eq,YbH,Bool.or_eq_true,bne_iff_ne,ne_eq] at h;obtain⟨⟨h1,h2⟩,h3⟩:=h;refine⟨h1,fun y hy=>(h2 y hy).1.1,fun y hy hf=>?_,fun y hy hl=>?_,fun j hj=>?_⟩
 ·show X.env.scope.names.lookup y.1=_∨X.env.scope.names.lookup y.1=_;rw[hX];rcases (h2 y hy).1.2 with (z | z) | z
  ·exact absurd hf z
  ·exact .inl z
  ·exact .inr z
 ·rcases (h2 y hy).2 with z | z
  ·exact absurd hl z
  ·exact z
 ·have:=h3 j hj;rw[hN]
  cases e:N[j]? with
  | none=>rw[e] at this;cases this
  | some x=>rw[e] at this;exact⟨x,rfl,by simpa using this⟩
end L2
namespace L2
open PySem PySem.Spec PyProof.Rows PySem.SeqAt
section
variable {X:Cx}
theorem Vals.bl_get {bs:List Bool}{us:List Value} (r:Vals (bs.map V.bl) us) {i:Nat}{v:Value} (e:us[i]?=some v):∃ b,bs[i]?=some b/\v=.bool b:=by
 cases q:(bs.map V.bl)[i]? with
 | none=>
  have:=r.none_of q;rw[e] at this;cases this
 | some x=>
  obtain⟨u,h1,h2⟩:=r.get q;rw[e] at h1;cases h1;rw[Yag] at q
  cases z:bs[i]? with
  | none=>rw[z] at q;cases q
  | some b=>rw[z] at q;cases q;exact⟨b,rfl,h2⟩
theorem Zh3 {bs:List Bool}:(YaH bs.length).all (fun i=>bs.getD i true)=bs.all id:=by
 rw[Ycb,YbH,YbH];constructor
 ·intro h b hb;obtain⟨i,hi,e⟩:=Ydi hb;have:=h i (YbL.mpr hi);simpa[Yao,hi,e] using this
 ·intro h i hi;have hi':=YbL.mp hi;have:=h bs[i] (YbY hi');simpa[Yao,hi'] using this
theorem ZkI (hc:X.calm=true):ZbD X (.builtin "all") (fun xs H Q=>∃ (a:Addr) (bs:List Bool),xs=[.ref a]/\SqL X.K H a (bs.map V.bl)/\Q (.bl (bs.all id)) H):=by
 intro pins s σ H xs us Q I r h;obtain⟨a,bs,rfl,hq,q⟩:=h;obtain⟨u,rfl,r1⟩:=Zc3 r;cases r1;obtain⟨its,rv,p,hz⟩:=I.list hq;refine call_all_walk (wpAny_pyIter_list p.isList ?_);have hlt:=(let ⟨o,n,e,_⟩:=p;Yai e:a<s.heap.objs.size)
 have hne:a≠s.heap.objs.size:=YaB hlt;have hlen:its.toArray.size=bs.length:=by rw[Yal,<- rv.length,Yaa]
 refine⟨s.heap.objs.size,_,_,_,_,_,fun i=>bs.getD i true,rfl,Walks.list (A:=X.A.in1) (I.ok.hd hc) _ a hne its.toArray,⟨⟨_,Yav _ rfl,rfl,rfl⟩,?_⟩,?_,?_⟩
 ·obtain⟨o,n,e,c,_,d⟩:=p;exact⟨o,Yad _ e,c,n,d⟩
 ·intro i v s' Q' E' hP hQ;have hP':its[i]?=some v:=by simpa using hP
  obtain⟨b,hb,rfl⟩:=rv.bl_get hP';refine wpAny_truthy_bool ?_;dsimp only at hQ;rw[Yao,hb] at hQ;exact hQ
 ·intro h' tk k;rw[hlen,Zh3];refine⟨.bl (bs.all id),H,I.kept (h':=h') (t':=tk) fun b o e=>k b o ?_ (Yad _ e),rfl,q⟩;intro hm;have:b=s.heap.objs.size:=by simpa using hm
  rw[this] at e;exact absurd (Yai e) (Yba _)
theorem Vals.int_at {ns:List Int}{us:List Value} (r:Vals (ns.map V.int) us) {i:Nat} (h:i<ns.length):∃ t,us[i]?=some (.int ns[i] t):=by
 have q:(ns.map V.int)[i]?=some (V.int ns[i]):=by rw[Yag,Yac h];rfl
 obtain⟨u,h1,t,rfl⟩:=r.get q;exact⟨t,h1⟩
theorem ZjT:∀ {ns ms:List Int},ns.length=ms.length->((YaH ns.length).all fun i=>ns.getD i 0 == ms.getD i 0)=decide (ns=ms):=fun {ns ms} h=>by
 rw[Ycb,YbH,decide_eq_true_iff];constructor
 ·intro q;refine Ye1 h fun i h1 h2=>?_;have:=q i (YbL.mpr h1);simpa[Yao,h1,h2] using this
 ·rintro rfl i hi;simp
theorem ZbM {ns:List Int}{its:List Value} (r:Vals (ns.map V.int) its) {j:Nat} (h:j<its.toArray.size):∃ t,its.toArray[j]=.int (ns.getD j 0) t:=by
 have hj:j<ns.length:=by rw[Yal,<- r.length,Yaa] at h;exact h
 obtain⟨t,q⟩:=r.int_at hj;obtain⟨_,q'⟩:=Yab.mp q;exact⟨t,by simpa[Yao,hj] using q'⟩
end
end L2
namespace L2
open PySem PySem.Spec PyProof.Rows PySem.SeqAt
section
variable {prog:Program}{w:World}{A:Around}{R:Result->Shared->Prop}{I:Addr}{fp wr:List Addr}{n:Nat}{P:Nat->Value->Prop}{St:Nat->Heap->Prop}
end
section
variable {X:Cx}
end
end L2
namespace L2
open PySem PySem.Spec PyProof.Rows PySem.SeqAt
def Ite (K:Yae) (a:Addr):It :=
 ⟨fun i H=>∃ xs x,SqL K H a xs/\xs[i]?=some x,fun i H y H'=>∃ p x,H p=none/\y=.ref p/\H'=upd H p (.tup [.int i,x])/\∀ xs,SqL K H a xs->xs[i]?=some x,fun i H=>∃ xs,SqL K H a xs/\xs.length<=i⟩
theorem ZhA {P:Program}{w:World}{K:Yae}{es:List Expr}{x1}{pos:Pos} (a it e:Addr) (hne:e≠it):Turn P w K (.Tuple es x1 pos) (Ite K a) [e,it] e (fun i h=>(∃ old,IsEnum h e it (i:Nat) old)/\h.IsListIter it a i) where
 mem:=by simp
 obj:=fun i h st b hb=>by
  obtain⟨⟨old,s1⟩,s2⟩:=st;rcases Yay.mp hb with z | z
  ·subst z;exact⟨_,s1,fun v z=>nomatch z⟩
  ·have z:b=it:=by simpa using z
   subst z;obtain⟨o,e,c,d⟩:=s2;exact⟨o,e,fun v z=>by rw[d] at z;cases z⟩
 keep:=fun i h h' st k=>by
  obtain⟨⟨old,s1⟩,s2⟩:=st;exact⟨⟨old,k e (by simp) _ s1⟩,s2.at fun o q=>k it (by simp) o q⟩
 item:=by
  intro X hP hw hK hc i pins s σ H E I hf st hg;subst hP hw hK;obtain⟨xs,x,hq,hx⟩:=hg;obtain⟨its,rv,p,hz⟩:=I.list hq;obtain⟨u,hu,ru⟩:=rv.get hx;obtain⟨⟨old,s1⟩,s2⟩:=st;refine wpAny_pyNext_enum_item s1 s2 p.isList (x:=u) (by simpa using hu) hne fun h' ho hit ht hsz hk=>?_;refine⟨_,rfl,?_⟩;refine wpAny_letOwnedTupleGo_enum ho fun h'' he hs=>?_;have fresh:H s.heap.objs.size=none:=I.hok.fresh (Yak _);have k:∀ b o,b ∉ [e,it]->s.heap.get? b=some o->h''.get? b=some o:=fun b o hb q=>by
   have hb':b≠e/\b≠it:=by simpa using hb
   exact (hs.2 b hb'.1).trans (hk b o hb'.1 hb'.2 q)
  have nE:∀ b∈[e,it],H b=none:=fun b hb=>(hf b hb).1
  have nit:∀ b u,H b=some u->b ∉ [e,it]:=fun b u q z=>by rw[nE b z] at q;cases q
  have hpe:s.heap.objs.size≠e:=Ybx (Yai s1);have htup:h''.get? s.heap.objs.size=some { cls:=.type "tuple",data:=.seq #[.int i s.toks,u] }:=(hs.2 _ hpe).trans ht;have newOk:ObjOk X.prog X.w (upd H s.heap.objs.size (.tup [.int i,x])) h'' s.heap.objs.size (.tup [.int i,x]):=by
   refine⟨?_,[.int i s.toks,u],.cons ⟨_,rfl⟩ (.cons ru .nil),⟨_,htup,rfl,rfl,0,rfl⟩⟩;show 2<=sizeLine
   decide
  have I1:Inv X pins σ (upd H s.heap.objs.size (.tup [.int i,x])) { s with heap:=h'',toks:=s.toks+1 }:=by
   refine I.step (g':=s.gens) (d':=s.drawn) (ch:=[e,it]) (fun b hb=>?_) (fun b o _ _ hc q _=>k b o hc q) (fun b o _ _ hc q _=>⟨o.slots,k b o hc q⟩) (fun b o _ q n=>?_) (fun b o hc q=>⟨o,k b o hc q⟩)
    (fun b xs q=>by rw[upd_ne (Zae q fresh)];exact q) (fun b o xs q=>by rw[upd_ne (Zae q fresh)];exact q) (fun b ps q=>⟨#[],by rw[upd_ne (Zae q fresh),q];simp⟩) (fun m hm=>?_) (fun b ob q=>?_) I.bare
   ·obtain⟨f0,f1,f2,f3,f4,f5⟩:=hf b hb;exact⟨f3,f1,f4,f5⟩
   ·rw[upd_ne (YaB (Yai q))];exact n
   ·obtain⟨o,es,ep,ho,r⟩:=hm;refine⟨o,es,ep,k _ o (fun z=>?_) ho,r⟩;exact (hf _ z).2.1 rfl
   ·by_cases hb:b=s.heap.objs.size
    ·subst hb;rw[Zaa] at q;cases q;exact newOk
    ·rw[upd_ne hb] at q;refine (I.hok b ob q).stay (fun c v hc r=>k c v ?_ r) (fun c r=>by rw[upd_ne (Zae r fresh)];exact r) fun c xs r=>by rw[upd_ne (Zae r fresh)];exact r
     rcases hc with z | z
     ·rw[z];exact nit b ob q
     ·exact nit c _ z
  refine⟨.ref s.heap.objs.size,_,I1,rfl,⟨s.heap.objs.size,x,fresh,rfl,rfl,fun ys hy=>by rw[I.list_inj hy hq];exact hx⟩,⟨⟨u,?_⟩,?_⟩,fun b hb=>?_⟩
  ·have he:IsEnum h'' e it ((i:Int)+1) u:=he;show IsEnum h'' e it ((i+1:Nat):Int) u;rw[show ((i+1:Nat):Int)=(i:Int)+1 by (clear hpe hsz hz hne;omega)];exact he
  ·exact hit.extBut hs.extBut (Ybl hne)
  ·have lt:b<s.heap.objs.size:=by
    rcases Yay.mp hb with z | z
    ·rw[z];exact Yai s1
    ·have z:b=it:=by simpa using z
     rw[z];obtain⟨o,q,_⟩:=s2;exact Yai q
   rw[upd_ne (YaB lt)];exact nE b hb
 done:=by
  intro X hP hw hK hc i pins s σ H E I hf st hg;subst hP hw hK;obtain⟨xs,hq,hx⟩:=hg;obtain⟨its,rv,p,hz⟩:=I.list hq;obtain⟨⟨old,s1⟩,s2⟩:=st;obtain⟨f0,f1,f2,f3,f4,f5⟩:=hf it (by simp);have hl:=rv.length;exact wpAny_pyNext_enum_end (I.ok.hd hc) s1 s2 p.isList (by simp;(clear f3 f2 f1 hz hne;omega)) fun h' eb=>⟨rfl,I.turned (t':=s.toks) (fun b o hb q=>eb b o hb q) f0 f1 f3 f4 f5⟩
 self:=fun _ _ _ _ _ st h=>by
  obtain⟨⟨old,s1⟩,_⟩:=st;exact wpAny_pyIter_enum s1 h
section
variable {X:Cx}
theorem Zdx:ZbD X (.builtin "isinstance") (fun xs H Q=>∃ x T t b,xs=[x,.ty T]/\TyOf X.K H x t/\Yc7 X.K t (.type T)=some b/\Q (.bl b) H):=by
 intro pins s σ H xs us Q I r h;obtain⟨x,T,t,b,rfl,ty,e,q⟩:=h;obtain⟨u,u2,rfl,r1,r2⟩:=ZjE r;cases r2;exact ZiQ I r1 ty e fun tk=>⟨.bl b,H,I.tok _,rfl,q⟩
end
end L2
namespace L2
open PySem PySem.Spec PyProof.Rows
section
variable {κ:Type} [DecidableEq κ]
def valV (kvs:List (κ × V)) (k:κ):Option V:=(kvs.find? fun kv=>decide (kv.1=k)).map (·.2)
def putK (kvs:List (κ × V)) (k:κ) (v:V):List (κ × V) :=
 if (kvs.any fun kv=>decide (kv.1=k))=true then kvs.map (fun kv=>if kv.1=k then (kv.1,v) else kv) else kvs++[(k,v)]
theorem ZaW {p:κ × V}{r:List (κ × V)}{k:κ} (e:p.1=k):valV (p::r) k=some p.2:=by simp[valV,Ycx,e]
theorem ZaX {p:κ × V}{r:List (κ × V)}{k:κ} (e:¬ p.1=k):valV (p::r) k=valV r k:=by simp[valV,Ycx,e]
theorem ZbS (k:κ):∀ kvs:List (κ × V),(kvs.any fun kv=>decide (kv.1=k))=(valV kvs k).isSome
 | []=>rfl
 | p::r=>by
  rw[YcM];by_cases e:p.1=k
  ·simp only[ZaW e,decide_eq_true e,Bool.true_or,Option.isSome_some]
  ·rw[ZaX e,decide_eq_false e,Bool.false_or];exact ZbS k r
theorem Zgq (k j:κ) (y:V):∀ kvs:List (κ × V),valV (kvs.map fun kv=>if kv.1=k then (kv.1,y) else kv) j=(valV kvs j).map fun x=>if j=k then y else x
 | []=>rfl
 | p::r=>by
  have ih:=Zgq k j y r;rw[Yam];by_cases h:p.1=k
  ·rw[if_pos h];by_cases e:p.1=j
   ·rw[ZaW (p:=(p.1,y)) e,ZaW e,YcL,if_pos (e.symm.trans h)]
   ·rw[ZaX (p:=(p.1,y)) e,ZaX e,ih]
  ·rw[if_neg h];by_cases e:p.1=j
   ·rw[ZaW (p:=p) e,ZaW e,YcL,if_neg (fun z=>h (e.trans z))]
   ·rw[ZaX (p:=p) e,ZaX e,ih]
theorem ZeX (k j:κ) (y:V):∀ kvs:List (κ × V),valV kvs k=none->valV (kvs++[(k,y)]) j=if j=k then some y else valV kvs j
 | [],_=>by
  by_cases e:k=j
  ·rw[if_pos e.symm];exact ZaW (p:=(k,y)) e
  ·rw[if_neg (fun z=>e z.symm)];exact ZaX (p:=(k,y)) e
 | p::r,hn=>by
  rw[Ycn];have hk:¬ p.1=k:=fun z=>by rw[ZaW z] at hn;cases hn
  rw[ZaX hk] at hn;have ih:=ZeX k j y r hn;by_cases e:p.1=j
  ·rw[ZaW e,ZaW e,if_neg (fun z=>hk (e.trans z))]
  ·rw[ZaX e,ZaX e,ih]
theorem ZjF (kvs:List (κ × V)) (k j:κ) (y:V):valV (putK kvs k y) j=if j=k then some y else valV kvs j:=by
 unfold putK;by_cases a:(kvs.any fun kv=>decide (kv.1=k))=true
 ·rw[if_pos a,Zgq];rw[ZbS] at a;by_cases e:j=k
  ·obtain⟨x,hx⟩:=Yd3.mp a;rw[if_pos e,e,hx,YcL,if_pos rfl]
  ·rw[if_neg e]
   cases valV kvs j with
   | none=>rfl
   | some x=>rw[YcL,if_neg e]
 ·rw[if_neg a];refine ZeX k j y kvs ?_;rw[ZbS] at a
  cases q:valV kvs k with
  | none=>rfl
  | some x=>rw[q] at a;exact (a rfl).elim
theorem ZbA (kvs:List (κ × V)) (k:κ) (v:V):(putK kvs k v).length<=kvs.length+1:=by
 unfold putK;split
 ·rw[Yaa];omega
 ·rw[Yan,YaY,Ydb];omega
theorem RelO.isSome_eq {o:Option V}{u:Option Value} (r:RelO o u):o.isSome=u.isSome:=by
 cases o with
 | none=>cases u with
  | none=>rfl
  | some _=>exact (show False from r).elim
 | some _=>cases u with
  | none=>exact (show False from r).elim
  | some _=>rfl
theorem RelO.getD {o:Option V}{u:Option Value}{d:V}{d':Value} (r:RelO o u) (rd:RelV d d'):RelV (o.getD d) (u.getD d'):=by
 cases o with
 | none=>cases u with
  | none=>exact rd
  | some _=>exact (show False from r).elim
 | some _=>cases u with
  | none=>exact (show False from r).elim
  | some _=>exact r
theorem KV.val {kvs:List (κ × V)}{vs:List (κ × Value)} (r:KV kvs vs) (k:κ):RelO (valV kvs k) (valueAt vs k):=by
 unfold KV at r
 induction r with
 | nil=>exact Yb0
 | @cons p q ps qs h t ih=>
  obtain⟨h1,h2⟩:=h;by_cases e:p.1=k
  ·have e':q.1=k:=h1.symm.trans e;have b:valueAt (q::qs) k=some q.2:=by simp[valueAt,Ycx,e']
   rw[ZaW e,b];exact h2
  ·have e':¬ q.1=k:=fun z=>e (h1.trans z);have b:valueAt (q::qs) k=valueAt qs k:=by simp[valueAt,Ycx,e']
   rw[ZaX e,b];exact ih
theorem KV.any {kvs:List (κ × V)}{vs:List (κ × Value)} (r:KV kvs vs) (k:κ):(kvs.any fun kv=>decide (kv.1=k))=vs.any fun kv=>decide (kv.1=k):=by
 unfold KV at r
 induction r with
 | nil=>rfl
 | cons h t ih=>rw[YcM,YcM,ih,h.1]
theorem KV.repl {kvs:List (κ × V)}{vs:List (κ × Value)} (r:KV kvs vs) (k:κ) {y:V}{u:Value} (ry:RelV y u) :
  KV (kvs.map fun kv=>if kv.1=k then (kv.1,y) else kv) (vs.map fun kv=>if kv.1=k then (kv.1,u) else kv):=by
 unfold KV at r ⊢
 induction r with
 | nil=>exact .nil
 | @cons p q ps qs h t ih=>
  rw[Yam,Yam];refine .cons ?_ ih;obtain⟨h1,h2⟩:=h;by_cases e:p.1=k
  ·rw[if_pos e,if_pos (h1.symm.trans e)];exact⟨h1,ry⟩
  ·rw[if_neg e,if_neg (fun z=>e (h1.trans z))];exact⟨h1,h2⟩
theorem KV.put {kvs:List (κ × V)}{vs:List (κ × Value)} (r:KV kvs vs) (k:κ) {y:V}{u:Value} (ry:RelV y u):KV (putK kvs k y) (stored vs k u):=by
 unfold putK stored;rw[r.any k];by_cases e:(vs.any fun kv=>decide (kv.1=k))=true
 ·rw[if_pos e,if_pos e];exact r.repl k ry
 ·rw[if_neg e,if_neg e];exact Paired.snoc r ⟨rfl,ry⟩
theorem KV.length {kvs:List (κ × V)}{vs:List (κ × Value)} (r:KV kvs vs):kvs.length=vs.length:=Ydf r
end
theorem ZiN {P:Program}{w:World}{k:Key}{u:Value} (r:RelV (kV k) u):(ZaB P w).is k u=true:=by
 cases k with
 | inl i=>obtain⟨t,e⟩:=(show ∃ t,u=YdF i t from r);subst e;exact Zf5 P w i t
 | inr x=>obtain⟨t,e⟩:=(show ∃ t,u=YdE x t from r);subst e;exact Zf4 P w x t
theorem Zfk {P:Program}{w:World}:∀ {ks:List Key}{us:List Value},Vals (ks.map kV) us->ItemsAre (ZaB P w) ks us
 | [],_,r=>by rw[Yb8] at r;cases r;exact .nil
 | k::ks,_,r=>by
  rw[Yam] at r
  cases r with
  | cons h t=>exact .cons (ZiN h) (Zfk t)
abbrev KT (H:Hp):List (List Key × V)->List (List Key × Addr × Value)->Prop:=Paired fun p q=>p.1=q.1/\H q.2.1=some (.tup (p.1.map kV))/\RelV p.2 q.2.2
theorem KT.val {H:Hp}{kvs:List (List Key × V)}{xs:List (List Key × Addr × Value)} (r:KT H kvs xs) (k:List Key):RelO (valV kvs k) ((atKey xs k).map (·.2)):=by
 induction r with
 | nil=>exact Yb0
 | @cons p q ps qs h t ih=>
  obtain⟨h1,_,h2⟩:=h;by_cases e:p.1=k
  ·have e':q.1=k:=h1.symm.trans e;have b:atKey (q::qs) k=some q.2:=by simp[atKey,Ycx,e']
   rw[ZaW e,b];exact h2
  ·have e':¬ q.1=k:=fun z=>e (h1.trans z);have b:atKey (q::qs) k=atKey qs k:=by simp[atKey,Ycx,e']
   rw[ZaX e,b];exact ih
theorem KT.repl {H:Hp}{kvs:List (List Key × V)}{xs:List (List Key × Addr × Value)} (r:KT H kvs xs) (k:List Key) {y:V}{u:Value} (ry:RelV y u) :
  KT H (kvs.map fun kv=>if kv.1=k then (kv.1,y) else kv) (xs.map (putAt k u)):=by
 induction r with
 | nil=>exact .nil
 | @cons p q ps qs h t ih=>
  rw[Yam,Yam];refine .cons ?_ ih;obtain⟨h1,h2,h3⟩:=h;unfold putAt;by_cases e:p.1=k
  ·rw[if_pos e,if_pos (h1.symm.trans e)];exact⟨h1,h2,ry⟩
  ·rw[if_neg e,if_neg (fun z=>e (h1.trans z))];exact⟨h1,h2,h3⟩
theorem KT.put {H:Hp}{kvs:List (List Key × V)}{xs:List (List Key × Addr × Value)} (r:KT H kvs xs) (k:List Key) {b:Addr}{y:V}{u:Value} (hb:H b=some (.tup (k.map kV))) (ry:RelV y u) :
  KT H (putK kvs k y) (storedH xs k b u):=by
 have e:(kvs.any fun kv=>decide (kv.1=k))=(atKey xs k).isSome:=by
  rw[ZbS,(r.val k).isSome_eq,Option.isSome_map]
 unfold putK storedH;rw[e];by_cases q:(atKey xs k).isSome=true
 ·rw[if_pos q,if_pos q];exact r.repl k ry
 ·rw[if_neg q,if_neg q];exact Paired.snoc r ⟨rfl,hb,ry⟩
theorem KT.keeps {H H':Hp}{kvs:List (List Key × V)}{xs:List (List Key × Addr × Value)} (r:KT H kvs xs) (ht:∀ b ys,H b=some (.tup ys)->H' b=some (.tup ys)):KT H' kvs xs :=
 Paired.mapP r fun _ _ z=>⟨z.1,ht _ _ z.2.1,z.2.2⟩
section
variable {P:Program}{w:World}{H:Hp}{h:Heap}{a:Addr}
theorem ZmX {u:HO} (ok:HOk P w H h) (e:Rd H a u):ObjOk P w H h a u:=e.ok ok
theorem Zhl {kvs:List (Key × V)} (ok:HOk P w H h) (e:Rd H a (.dK kvs)):kvs.length<=sizeLine/\(a == sysModules)=false/\∃ vs,KV kvs vs/\h.DictOf (ZaB P w) a vs :=
 show ObjOk P w H h a (.dK kvs) from ZmX ok e
theorem Zml {kvs:List (Key × V)} (ok:HOk P w H h) (e:H a=some (.dK kvs)):kvs.length<=sizeLine/\(a == sysModules)=false/\∃ vs,KV kvs vs/\h.DictOf (ZaB P w) a vs:=Zhl ok (.inl e)
theorem ZiI {ks:List Key} (ok:HOk P w H h) (e:H a=some (.tup (ks.map kV))):(tupleKind (ZaB P w)).is h ks a:=by
 obtain⟨_,its,r,o,h1,h2,_,n,h3⟩:=(show ObjOk P w H h a (.tup (ks.map kV)) from ok a _ e)
 exact⟨o,its.toArray,n,h1,h2,h3,by simpa using Zfk r⟩
theorem Zmk {kvs:List (List Key × V)} (ok:HOk P w H h) (e:Rd H a (.dT kvs)):kvs.length<=sizeLine/\(a == sysModules)=false /\
  ∃ xs,KT H kvs xs/\h.DictOfH (tupleKind (ZaB P w)) a xs:=by
 obtain⟨z,y,xs,r,o,es,ep,h1,h2,h3,h4,h5⟩:=(show ObjOk P w H h a (.dT kvs) from ZmX ok e)
 refine⟨z,y,xs,r,o,es,ep,h1,h2,h3,h4,fun x hx=>?_,h5⟩;have all:∀ {l:List (List Key × V)}{m:List (List Key × Addr × Value)},KT H l m->∀ x∈m,(tupleKind (ZaB P w)).is h x.1 x.2.1:=by
  intro l m q
  induction q with
  | nil=>intro x hx;exact nomatch hx
  | @cons p q ps qs hq t ih=>
   intro x hx;rcases Yay.mp hx with e | hx
   ·subst e;exact ZiI ok (by rw[<- hq.1];exact hq.2.1)
   ·exact ih x hx
 exact all r x hx
theorem Zoc {kvs:List (List Key × V)} (ok:HOk P w H h) (e:H a=some (.dT kvs)):kvs.length<=sizeLine/\(a == sysModules)=false /\
  ∃ xs,KT H kvs xs/\h.DictOfH (tupleKind (ZaB P w)) a xs:=Zmk ok (.inl e)
end
def DGet (H:Hp) (a:Addr) (y:V) (r:Option V):Prop :=
 (∃ kvs k,Rd H a (.dK kvs)/\y=kV k/\r=valV kvs k)∨∃ kvs k b,Rd H a (.dT kvs)/\y=.ref b/\H b=some (.tup (k.map kV))/\r=valV kvs k
def DPut (H:Hp) (a:Addr) (y v:V) (H':Hp):Prop :=
 (∃ kvs k,H a=some (.dK kvs)/\y=kV k/\kvs.length<sizeLine/\H'=upd H a (.dK (putK kvs k v))) ∨
 ∃ kvs k b,H a=some (.dT kvs)/\y=.ref b/\H b=some (.tup (k.map kV))/\kvs.length<sizeLine/\H'=upd H a (.dT (putK kvs k v))
theorem DGet.k {H:Hp}{a:Addr}{kvs:List (Key × V)}{k:Key} (e:H a=some (.dK kvs)):DGet H a (kV k) (valV kvs k):=.inl ⟨kvs,k,.inl e,rfl,rfl⟩
theorem DPut.k {H:Hp}{a:Addr}{kvs:List (Key × V)}{k:Key}{v:V} (e:H a=some (.dK kvs)) (hl:kvs.length<sizeLine):DPut H a (kV k) v (upd H a (.dK (putK kvs k v))):=.inl ⟨kvs,k,e,rfl,hl,rfl⟩
section
variable {X:Cx}{pins:List (Addr × Obj)}{σ:St}{H:Hp}{s:Shared}{a:Addr}{y v:V}{u r:Value}{o:Option V}{A:Around}{E:Value->Shared->Prop}
theorem Inv.big (I:Inv X pins σ H s):sysModules<s.heap.objs.size:=by
 have h:mainGlobals<s.heap.objs.size:=(I.mod.glob.keeps I.bk).lt;exact Nat.lt_trans (by decide) h
theorem ZeL {h':Heap}{t':Nat}{ob:HO} (I:Inv X pins σ H s) (mu:Mut (H a)) (hs:YcU a s.heap h') (he:∃ q,h'.get? a=some q) (new:ObjOk X.prog X.w (upd H a ob) h' a ob) :
  Inv X pins σ (upd H a ob) { s with heap:=h',toks:=t' } :=
 I.write (x:=a) (e:=a) mu (.inl rfl) (fun b q hb z=>(hs.2 b hb).trans z) he new
theorem ZgU {P:Program}{w:World}{H':Hp}{h':Heap}{kvs:List (Key × V)}{vs:List (Key × Value)} (z:kvs.length<=sizeLine) (hd:(a == sysModules)=false) (rel:KV kvs vs) (dd:h'.DictOf (ZaB P w) a vs) :
  ObjOk P w H' h' a (.dK kvs):=⟨z,hd,vs,rel,dd⟩
theorem Zjg {H':Hp}{Q:Unit->Shared->Prop} (hu:A.units+1<cLine) (I:Inv X pins σ H s) (g:DPut H a y v H') (ry:RelV y u) (rv:RelV v r) (h:∀ s',Inv X pins σ H' s'->Q () s') :
  wpAny (model X.prog X.w) A (setItem (.ref a) u r) Q E s:=by
 rcases g with ⟨kvs,k,e,ey,l,eH⟩ | ⟨kvs,k,b,e,ey,eb,l,eH⟩
 ·subst ey eH;obtain⟨z,hd,vs,rel,dd⟩:=Zml I.hok e;have hz:vs.length<=sizeLine:=by rw[<- rel.length];exact z
  have hl:(putK kvs k v).length<=sizeLine:=by have:=ZbA kvs k v;(clear hz z hu;omega)
  refine wpAny_setItem_pairs (hsz:=hz) (ZiN ry) dd fun h' dd' hs=>h _ ?_;have he:∃ q,h'.get? a=some q:=let ⟨q,_,_,hq,_⟩:=dd';⟨q,hq⟩
  exact ZeL I (by rw[e];exact Yb0) hs he (ZgU hl hd (rel.put k rv) dd')
 ·subst ey eH;cases (show u=Ybd b from ry);obtain⟨z,hd,xs,rel,dd⟩:=Zoc I.hok e;have hz:xs.length<=sizeLine:=by rw[<- Ydf rel];exact z
  have hl:(putK kvs k v).length<=sizeLine:=by have:=ZbA kvs k v;(clear hz z hu;omega)
  refine wpAny_setItem_heap (hsz:=hz) (tupleKind_room_in1 hu) (ZiI I.hok eb) dd fun h' dd' hs=>h _ ?_;obtain⟨q,es,ep,hq,h2,h3,h4,_,h5⟩:=dd';refine ZeL I (by rw[e];exact Yb0) hs ⟨q,hq⟩ ⟨hl,hd,_,(rel.put k eb rv).keeps fun c ys ec=>?_,q,es,ep,hq,h2,h3,h4,h5⟩;rw[upd_ne (Ziw ec e (fun z=>nomatch z))];exact ec
end
section
variable {X:Cx}{pins:List (Addr × Obj)}{σ:St}{H:Hp}{s:Shared}{a:Addr}{kvs:List (Key × V)}{k:Key}{u:Value}{A:Around}{E:Value->Shared->Prop}
end
def ZnS (td ty tv:TE):TS:=fun D σ H=>tv σ H fun v H1=>td σ H1 fun x H2=>ty σ H2 fun y H3=>∃ a H4,x=.ref a/\DPut H3 a y v H4/\D.nx σ H4
section
variable {X:Cx}{o i e value:Expr}{pos pos' tpos:Pos}{td ty tv:TE}
theorem Zh8 (hu:X.A.units+1<cLine) (ho:PE X o td) (hi:PE X i ty) (hv:PE X value tv) (hs:swapsWith value (some (.Subscript o i pos')) pos.line X.env=pure false) :
  PS X (.Assign [.Subscript o i pos'] value pos) (ZnS td ty tv):=by
 intro pins s σ H D I h;refine wpAny_Assign_Subscript (thn (hv pins s σ H _ I h) fun r s1 ⟨v,H1,I1,rv,q1⟩=>thn (ho pins s1 σ H1 _ I1 q1) fun u s2 ⟨x,H2,I2,rx,q2⟩=>thn (hi pins s2 σ H2 _ I2 q2) fun iv s3 ⟨y,H3,I3,ry,a,H4,ex,g,q3⟩=>?_) hs;subst ex;obtain rfl:u=Ybd a:=rx;exact Zjg hu I3 g ry rv fun s4 I4=>⟨σ,H4,I4,q3⟩
end
theorem ZeK {P:Program}{w:World}{H:Hp} (h:Heap) (hb:sysModules<h.objs.size):ObjOk P w H (h.push { cls:=.type "dict",data:=.dict #[] }) h.objs.size (.dK []) :=
 ⟨YaT _,beq_eq_false_iff_ne.mpr (Ybl (YaB hb)),[],.nil,Heap.DictOf.new h⟩
def ZmJ:TE:=fun _ H Q=>∀ p,H p=none->Q (.ref p) (upd H p (.dK []))
section
variable {X:Cx}{pos:Pos}
theorem Zey:PE X (.Dict [] [] pos) ZmJ:=fun pins s σ H Q I h=>
 wpAny_Dict_empty ⟨.ref s.heap.objs.size,_,I.laid (a:=s.heap.objs.size) (o:=.dK []) (t':=s.toks) (fun _ _ q=>Yad _ q) (Yak _) (ZeK s.heap I.big),rfl,h _ (I.hok.fresh (Yak _))⟩
end
def ZhI:List (TE × TE)->St->Hp->(List (V × V)->Hp->Prop)->Prop
 | [],_,H,Q=>Q [] H
 | (tk,tv)::r,σ,H,Q=>tk σ H fun x H1=>tv σ H1 fun y H2=>ZhI r σ H2 fun ps H3=>Q ((x,y)::ps) H3
abbrev VV:List (V × V)->List (Value × Value)->Prop:=Paired fun p q=>RelV p.1 q.1/\RelV p.2 q.2
def PPs (X:Cx) (pos:Pos) (keys:List (Option Expr)) (values:List Expr) (trs:List (TE × TE)):Prop :=
 ∀ (pins:List (Addr × Obj)) (s:Shared) (σ:St) (H:Hp) (Q:List (V × V)->Hp->Prop),Inv X pins σ H s->ZhI trs σ H Q ->
  wpAny (model X.prog X.w) X.A (evalPairs (pairTrees keys values X.env pos)) (fun vs s'=>∃ ps H',Inv X pins σ H' s'/\VV ps vs/\Q ps H') X.xe s
theorem ZlL {X:Cx}{pos:Pos}:PPs X pos [] [] []:=fun pins s σ H Q I h=>pairTrees_nil_walk ⟨[],H,I,.nil,h⟩
theorem ZjY {X:Cx}{pos:Pos}{k v:Expr}{ks:List (Option Expr)}{vs:List Expr}{tk tv:TE}{trs:List (TE × TE)} (hk:PE X k tk) (hv:PE X v tv) (hr:PPs X pos ks vs trs) :
  PPs X pos (some k::ks) (v::vs) ((tk,tv)::trs):=fun pins s σ H Q I h=>
 pairTrees_cons_walk (thn (hk pins s σ H _ I h) fun u s1 ⟨x,H1,I1,rx,q1⟩=>thn (hv pins s1 σ H1 _ I1 q1) fun w2 s2 ⟨y,H2,I2,ry,q2⟩=>
  thn (hr pins s2 σ H2 _ I2 q2) fun ws s3 ⟨ps,H3,I3,rel,q3⟩=>⟨(x,y)::ps,H3,I3,.cons ⟨rx,ry⟩ rel,q3⟩)
def ZcN (kvs more:List (Key × V)):List (Key × V):=more.foldl (fun acc kv=>putK acc kv.1 kv.2) kvs
theorem KV.merge:∀ {more:List (Key × V)}{rs:List (Key × Value)}{kvs:List (Key × V)}{vs:List (Key × Value)},KV more rs->KV kvs vs->KV (ZcN kvs more) (merged vs rs):=by
 intro more rs kvs vs r;unfold KV at r
 induction r generalizing kvs vs with
 | nil=>intro q;exact q
 | @cons p q ps qs h t ih=>
  intro r0;have e:KV (putK kvs p.1 p.2) (stored vs q.1 q.2):=by
   have:=r0.put p.1 h.2;rw[<- h.1];exact this
  exact ih e
theorem Zck:∀ (more kvs:List (Key × V)),(ZcN kvs more).length<=kvs.length+more.length
 | [],kvs=>by show kvs.length<=kvs.length+0;omega
 | p::r,kvs=>by
  have h1:=Zck r (putK kvs p.1 p.2);have h2:=ZbA kvs p.1 p.2;show (ZcN (putK kvs p.1 p.2) r).length<=_;rw[YaY];omega
theorem Zd8 {P:Program}{w:World}:∀ {kvs:List (Key × V)}{ws:List (Value × Value)},VV (kvs.map fun kv=>(kV kv.1,kv.2)) ws->∃ rs,Carries (ZaB P w) ws rs/\KV kvs rs
 | [],_,r=>by rw[Yb8] at r;cases r;exact⟨[],Yb0,.nil⟩
 | p::kvs,_,r=>by
  rw[Yam] at r
  cases r with
  | @cons a b as bs h t=>
   obtain⟨rs,c,q⟩:=Zd8 (P:=P) (w:=w) t;obtain⟨b1,b2⟩:=b;exact⟨(p.1,b2)::rs,⟨ZiN h.1,rfl,c⟩,.cons ⟨rfl,h.2⟩ q⟩
def ZnO (trs:List (TE × TE)):TE:=fun σ H Q=>∀ p,H p=none->ZhI trs σ (upd H p (.dK [])) fun ps H2=>H2 p=some (.dK [])/\∃ kvs:List (Key × V),ps=kvs.map (fun kv=>(kV kv.1,kv.2))/\kvs.length<=15/\Q (.ref p) (upd H2 p (.dK (ZcN [] kvs)))
theorem ZlM {X:Cx}{pos:Pos}{keys:List (Option Expr)}{values:List Expr}{trs:List (TE × TE)} (h:PPs X pos keys values trs) (hall:keys.all (·.isSome)=true) (hl:keys.length=values.length) (h0:keys≠[])
  (h15:keys.length<=15):PE X (.Dict keys values pos) (ZnO trs):=by
 intro pins s σ H Q I q;have hn:=I.hok.fresh (Yak s.heap.objs.size);have I1:=I.laid (a:=s.heap.objs.size) (o:=.dK []) (h':=s.heap.push { cls:=.type "dict",data:=.dict #[] }) (t':=s.toks) (fun _ _ q=>Yad _ q) (Yak _) (ZeK s.heap I.big);refine wpAny_Dict_walk (knd:=ZaB X.prog X.w) hall hl h0 h15 (thn (h pins _ σ _ _ I1 (q _ hn)) fun ws s2 ⟨ps,H2,I2,rel,e,kvs,ep,lk,q2⟩=>?_);subst ep;obtain⟨rs,c,rk⟩:=Zd8 (P:=X.prog) (w:=X.w) rel;obtain⟨z,hd,vs0,r0,dd⟩:=Zml I2.hok e;cases r0;refine⟨rs,c,dd,fun h' dd' hs=>⟨.ref s.heap.objs.size,_,?_,rfl,q2⟩⟩;have hz:(ZcN [] kvs).length<=sizeLine:=by
  have h1:=Zck kvs [];rw[Ydb] at h1;rw[sizeLine_eq];(clear z h15 hl;omega)
 have he:∃ q,h'.get? s.heap.objs.size=some q:=let ⟨q,_,_,hq,_⟩:=dd';⟨q,hq⟩
 exact ZeL I2 (by rw[e];exact Yb0) hs he (ZgU hz hd (rk.merge .nil) dd')
structure M1 (X:Cx) (o:Expr) (m:Str) (apos:Pos) (e:Expr) (cpos:Pos):Prop where
 base:attributeBase o m X.env (eval o X.env)=eval o X.env
 few:((backTo cpos (starEach [e] X.env)).all (fun x=>!x.1) && (backToKw cpos (keywordEach [] X.env)).all (fun x=>x.1.isSome)
  && decide (([e]:List Expr).length+([]:List Keyword).length+(if ([]:List Keyword).isEmpty then 0 else 1)<30))=true
 line:(apos.endLine == cpos.line)=true
 trees:backTo cpos (starEach [e] X.env)=[(false,eval e X.env)]
structure M2 (X:Cx) (o:Expr) (m:Str) (apos:Pos) (e f:Expr) (cpos:Pos):Prop where
 base:attributeBase o m X.env (eval o X.env)=eval o X.env
 few:((backTo cpos (starEach [e,f] X.env)).all (fun x=>!x.1) && (backToKw cpos (keywordEach [] X.env)).all (fun x=>x.1.isSome)
  && decide (([e,f]:List Expr).length+([]:List Keyword).length+(if ([]:List Keyword).isEmpty then 0 else 1)<30))=true
 line:(apos.endLine == cpos.line)=true
 trees:backTo cpos (starEach [e,f] X.env)=[(false,eval e X.env),(false,eval f X.env)]
def IsD (H:Hp) (a:Addr):Prop:=(∃ kvs,Rd H a (.dK kvs))∨∃ kvs,Rd H a (.dT kvs)
theorem Zla {X:Cx}{pins:List (Addr × Obj)}{σ:St}{H:Hp}{s:Shared}{a:Addr} (I:Inv X pins σ H s) (d:IsD H a) :
  s.TypeIs (.ref a) "dict"/\(∀ b,Ybd a=.ref b->∃ ob,s.heap.get? b=some ob/\ob.dict=none)/\(a == sysModules)=false:=by
 rcases d with ⟨kvs,e⟩ | ⟨kvs,e⟩
 ·obtain⟨_,hd,vs,_,dd⟩:=Zhl I.hok e;refine⟨dd.typeIs,fun b q=>?_,hd⟩;cases q;obtain⟨ob,_,_,h1,h2,_⟩:=dd;exact⟨ob,h1,h2.2.1⟩
 ·obtain⟨_,hd,xs,_,dd⟩:=Zmk I.hok e;refine⟨dd.typeIs,fun b q=>?_,hd⟩;cases q;obtain⟨ob,_,_,h1,h2,_⟩:=dd;exact⟨ob,h1,h2.2.1⟩
section
variable {X:Cx}{pins:List (Addr × Obj)}{σ:St}{H:Hp}{s:Shared}{a:Addr}{y d:V}{u r:Value}{o:Option V}{A:Around}{E:Value->Shared->Prop}
theorem ZnB {Q:Value->Shared->Prop} (hu:A.units+1<cLine) (I:Inv X pins σ H s) (g:DGet H a y o) (ry:RelV y u) (rd:RelV d r) (h:∀ w' s',Inv X pins σ H s'->RelV (o.getD d) w'->Q w' s') :
  wpAny (model X.prog X.w) A (call (.builtin "dict.get") [.ref a,u,r]) Q E s:=by
 rcases g with ⟨kvs,k,e,ey,l⟩ | ⟨kvs,k,b,e,ey,eb,l⟩
 ·subst ey;obtain⟨z,hd,vs,rel,dd⟩:=Zhl I.hok e;refine call_meetsIn Yc4 dd.typeIs Yd7 (Yd2 _ _ _) (meets_dict_get_default (ZaB X.prog X.w) a (ZiN ry) hd r) ⟨_,dd.mapOf,h _ _ (I.tok _) ?_⟩;rw[l];exact (rel.val k).getD rd
 ·subst ey;cases (show u=Ybd b from ry);obtain⟨z,hd,xs,rel,dd⟩:=Zmk I.hok e;refine call_meetsIn Yc4 dd.typeIs Yd7 (Yd2 _ _ _) (meetsH_dict_get_default (tupleKind (ZaB X.prog X.w)) a b hd r) ⟨tupleKind_room_in1 hu,k,xs,ZiI I.hok eb,dd,h _ _ (I.tok _) ?_⟩;rw[l];exact (rel.val k).getD rd
end
def ZmK (td ty tx:TE):TE:=fun σ H Q=>td σ H fun x H1=>∃ a,x=.ref a/\IsD H1 a/\ty σ H1 fun y H2=>tx σ H2 fun z H3=>∃ o,DGet H3 a y o/\Q (o.getD z) H3
section
variable {X:Cx}{o e f:Expr}{apos cpos:Pos}{td ty tx:TE}
theorem ZgH (hu:X.A.units+1<cLine) (ho:PE X o td) (he:PE X e ty) (hf:PE X f tx) (m:M2 X o "get" apos e f cpos):PE X (.Call (.Attribute o "get" apos) [e,f] [] cpos) (ZmK td ty tx):=by
 intro pins s σ H Q I h;refine wpAny_Call_method m.base m.few m.line Yd0 Yc4 PySem.F.type_dict_get (thn (ho pins s σ H _ I h) fun u s1 ⟨x,H1,I1,rx,a,ex,d,q1⟩=>?_);subst ex;obtain rfl:u=Ybd a:=rx;obtain⟨t1,t2,_⟩:=Zla I1 d;refine⟨t1,t2,?_⟩;rw[m.trees];refine Yc6 rfl (Yet (Ydn (thn (he pins s1 σ H1 _ I1 q1) fun iv s2 ⟨y,H2,I2,ry,q2⟩=>
  Ydn (thn (hf pins s2 σ H2 _ I2 q2) fun fv s3 ⟨z,H3,I3,rz,ov,g,q3⟩=>YeO ?_))))
 exact ZnB hu I3 g ry rz fun w' s4 I4 rw'=>⟨_,H3,I4,rw',q3⟩
end
section
variable {X:Cx}{pins:List (Addr × Obj)}{σ:St}{H:Hp}{s:Shared}{a:Addr}{kvs:List (Key × V)}{A:Around}{E:Value->Shared->Prop}
theorem ZkE {Q:Value->Shared->Prop} (I:Inv X pins σ H s) (e:Rd H a (.dK kvs)) (h:∀ p s',H p=none->Inv X pins σ (upd H p (.dK kvs)) s'->Q (.ref p) s'):wpAny (model X.prog X.w) A (call (.type "dict") [.ref a]) Q E s:=by
 obtain⟨z,hd,vs,rel,dd⟩:=Zhl I.hok e;refine kt_call_dict hd dd (by rw[<- rel.length];exact z) fun h' dd' hs=>?_;refine h _ _ (I.hok.fresh (Yak _)) (I.laid (a:=s.heap.objs.size) (o:=.dK kvs) (t':=s.toks) (fun b q hq=>?_) (Yak _) (ZgU z (beq_eq_false_iff_ne.mpr (Ybl (YaB I.big))) rel dd'));exact (hs.2 b (YaB (Yai hq))).trans (Yad _ hq)
end
section
variable {X:Cx}{pins:List (Addr × Obj)}{σ:St}{H:Hp}{s:Shared}{a:Addr}{y:V}{u:Value}{A:Around}{E:Value->Shared->Prop}
end
end L2
namespace L2
open PySem PySem.Spec PyProof.Rows
section
variable {κ:Type} [DecidableEq κ]
theorem ZjG {kvs:List (κ × V)}{k:κ} (h:valV kvs k=none):¬ k∈kvs.map (·.1):=by
 intro m;obtain⟨p,hp,e⟩:=YaU.mp m;have q:(kvs.any fun kv=>decide (kv.1=k))=true:=YdC.mpr ⟨p,hp,decide_eq_true e⟩;rw[ZbS,h] at q;exact absurd q (by simp)
theorem Zli {kvs:List (κ × V)}{k:κ}{v:V} (h:valV kvs k=some v):k∈kvs.map (·.1):=by
 have q:(kvs.any fun kv=>decide (kv.1=k))=true:=by
  rw[ZbS,h]
  all_goals rfl
 obtain⟨p,hp,e⟩:=YdC.mp q;exact YaU.mpr ⟨p,hp,of_decide_eq_true e⟩
theorem Zix:∀ {l:List κ}{k:κ},l.Nodup->¬ k∈l->(l++[k]).Nodup
 | [],k,_,_=>by simp
 | a::r,k,h,hk=>by
  obtain⟨h1,h2⟩:=YbQ.mp h;show (a::(r++[k])).Nodup;refine YbQ.mpr ⟨fun m=>?_,Zix h2 fun m=>hk (Yay.mpr (Yc2 m))⟩;rcases Yar.mp m with q | q
  ·exact h1 q
  ·exact hk (Yay.mpr (YaG (YaN.mp q).symm))
end
end L2
namespace L2
open PySem PySem.Spec PyProof.Rows PySem.SeqAt
section
variable {prog:Program}{w:World}{A:Around}{E:Value->Shared->Prop}{s:Shared}
theorem Zd1 {it t:Addr}{i:Nat}{items:Array Value}{x:Value}{Q:Value->Shared->Prop} (hit:s.heap.IsTupleIter it t i) (ht:s.heap.IsTuple t items) (hx:items[i]?=some x)
  (hQ:∀ h',h'.IsTupleIter it t (i+1)->YcU it s.heap h'->Q x { s with heap:=h' }):wpAny (model prog w) A (Ya3 (.ref it)) Q E s:=by
 obtain⟨o,ho,hc,hd⟩:=id hit;obtain⟨ol,hol,_,nl,hdl⟩:=ht;unfold Ya3;refine wpAny_bind (wpAny_callSpecial?_slot (name:=YcW "__next__") hit.typeIs F.slot_tuple_iterator_next (wpAny_call_entry F.slot_tuple_iterator_next hit.typeIs F.entry_tuple_iterator_next ?_ (F.args_tuple_iterator_next_1 _)));show wpAny _ _ (field (.ref it) 0 >>= _) _ _ s;refine wpAny_bind (wpAny_field ho hd (x:=.ref t) rfl ?_);show wpAny _ _ (if (Ybd t == Ycp)=true then _ else _) _ _ s;rw[if_neg (show ¬ ((Ybd t == Ycp)=true) from YaE)];show wpAny _ _ (field (.ref it) 1 >>= _) _ _ s;refine wpAny_bind (wpAny_field ho hd (x:=.int i 0) rfl ?_);show wpAny _ _ (seqItems? (.ref t) >>= _) _ _ s;refine wpAny_bind (wpAny_seqItems hol hdl ?_);simp only[Ybg,hx];refine wpAny_bind (wpAny_setField ho hd (by simp) (wpAny_pure ⟨x,rfl,wpAny_pure (hQ _ ?_ (YdS ..))⟩));exact⟨_,Yer _ ho (Obj.isFreed_of_fields (YeP hd _)),(Obj.cls_mapFields ..).trans hc,by rw[YeP hd];simp[rawInt]⟩
theorem Zbq {it t:Addr}{i:Nat}{items:Array Value}{Q:Value->Shared->Prop} (hh:A.handled=none) (hit:s.heap.IsTupleIter it t i) (ht:s.heap.IsTuple t items) (hx:items[i]?=none)
  (hE:∀ h' e,Ydj it s.heap h'->(∃ o,h'.get? e=some o/\o.cls=.type "StopIteration")->E (.ref e) { s with heap:=h' }):wpAny (model prog w) A (Ya3 (.ref it)) Q E s:=by
 obtain⟨o,ho,hc,hd⟩:=id hit;obtain⟨ol,hol,_,nl,hdl⟩:=ht;unfold Ya3;refine wpAny_bind (wpAny_callSpecial?_slot (name:=YcW "__next__") hit.typeIs F.slot_tuple_iterator_next (wpAny_call_entry F.slot_tuple_iterator_next hit.typeIs F.entry_tuple_iterator_next ?_ (F.args_tuple_iterator_next_1 _)));show wpAny _ _ (field (.ref it) 0 >>= _) _ _ s;refine wpAny_bind (wpAny_field ho hd (x:=.ref t) rfl ?_);show wpAny _ _ (if (Ybd t == Ycp)=true then _ else _) _ _ s;rw[if_neg (show ¬ ((Ybd t == Ycp)=true) from YaE)];show wpAny _ _ (field (.ref it) 1 >>= _) _ _ s;refine wpAny_bind (wpAny_field ho hd (x:=.int i 0) rfl ?_);show wpAny _ _ (seqItems? (.ref t) >>= _) _ _ s;refine wpAny_bind (wpAny_seqItems hol hdl ?_);simp only[Ybg,hx];refine wpAny_bind (wpAny_rule (wpAny_bind (wpAny_setField ho hd (by simp) ?_)));show wpAny _ _ (newExc (.type "StopIteration") [] >>= _) _ _ _;refine wpAny_bind ?_;simp only[newExc,newTuple];refine wpAny_bind (wpAny_newObj_type ?_ (by size_fits));refine wpAny_bind (m:=firstArgMember _ _) (wpAny_of_eq (a:=Ycp) (by first | rfl | (simp only[firstArgMember];rfl)) ?_);refine wpAny_newObj_type ?_ (by size_fits);simp only[raiseNew];refine wpAny_bind (wpAny_handled ?_)
 first | rw[show A.in1.handled=none from hh] | rw[hh]
 refine wpAny_bind (wpAny_pure (wpAny_throw ?_));exact hE _ _ (((YdS ..).extBut.push _).push _) ⟨_,Yav _ rfl,rfl⟩
theorem Zi7 (hh:A.handled=none) (it l:Addr) (hne:l≠it) (items:Array Value):Draws prog w A it [it,l] items.size (fun i v=>items[i]?=some v) (fun i h=>h.IsTupleIter it l i/\h.IsTuple l items) where
 live:=fun _ _ st=>let ⟨o,ho,_⟩:=st.1;⟨o,ho⟩
 frame:=fun _ _ _ st hk=>⟨st.1.at fun o e=>hk it (by simp) o e,let ⟨o,e,c⟩:=st.2;⟨o,hk l (by simp) o e,c⟩⟩
 item:=fun i s Q E hi st hQ=>by
  refine Zd1 st.1 st.2 (x:=items[i]) (by simp[hi]) fun h' hit' hs'=>?_;exact hQ _ h' s.toks (by simp[hi]) ⟨hit',let ⟨o,e,c⟩:=st.2;⟨o,(hs'.2 l hne).trans e,c⟩⟩ hs'
 done:=fun s Q E st hE=>Zbq hh st.1 st.2 (by simp) hE
end
theorem Zfr (l:Addr) (items:Array Value) (n:Nat) (dct:Option Addr) (sl:Array (Option Value)) :
  Meets (Builtin.«enumerate.__new__» ⟨[.type "enumerate",.ref l],[]⟩) (fun _ R s=>s.heap.get? l=some { cls:=.type "tuple",dict:=dct,data:=.seq items n,slots:=sl } /\
   R (.ok (.ret (.ref (s.heap.push { cls:=.type "tuple_iterator",data:=.fields #[.ref l,.int 0 0] }).objs.size)))
    { s with heap:=(s.heap.push { cls:=.type "tuple_iterator",data:=.fields #[.ref l,.int 0 0] }).push { cls:=.type "enumerate",data:=.fields #[.none,.bool false,.ref s.heap.objs.size,rawInt 0,.none,.none] } }) :=
 .of_wp fun prog w A R s h=>by
  obtain⟨hp,g,d,tk,os⟩:=s;obtain⟨hl,h⟩:=h;have hsub:=sub_enumerate;have hL:Ydd (Yci ⟨hp,g,d,tk,os⟩) l items:=⟨_,hl,rfl,n,rfl⟩
  wp_walk using Ycg hl
  refine wpAny_stack_any fun st=>wpAny_pure ?_;split
  ·rename_i c _ _ _ _ _;cases (c == YcZ "enumerate")
   ·wp_walk using Ycg hl,wpAny_pyIter_tuple hL
    exact⟨_,rfl,h⟩
   ·wp_walk using Ycg hl,wpAny_pyIter_tuple hL
    exact⟨_,rfl,h⟩
  ·wp_walk using Ycg hl,wpAny_pyIter_tuple hL
   exact⟨_,rfl,h⟩
section
variable {prog:Program}{w:World}{A:Around}{E:Value->Shared->Prop}{s:Shared}
theorem Zfq {e it l:Addr}{i:Nat}{items:Array Value}{old:Value}{Q:Option Value->Shared->Prop} (hh:A.handled=none) (he:IsEnum s.heap e it i old) (hit:s.heap.IsTupleIter it l i) (hl:s.heap.IsTuple l items) (hx:items[i]?=none)
  (hQ:∀ h',Ydj it s.heap h'->Q none { s with heap:=h' }):wpAny (model prog w) A (pyNext (.ref e)) Q E s:=by
 have hT:s.TypeIs (.ref e) "enumerate":=⟨_,he,rfl⟩
 unfold pyNext;refine wpAny_bind (wpAny_attempt (wpAny_callSpecial?_slot (name:=YcW "__next__") hT F.slot_enumerate_next (wpAny_call_entry F.slot_enumerate_next hT F.entry_enumerate_next ?_ (F.args_enumerate_next_1 _))));show wpAny _ _ (field (.ref e) 2 >>= _) _ _ _;refine wpAny_bind (wpAny_field he rfl (x:=.ref it) rfl ?_);refine wpAny_bind (Zbq hh hit hl hx fun h' x he' hx'=>?_);obtain⟨o,ho,hc⟩:=hx';refine wpAny_bind (wpAny_isInstance (T:="StopIteration") (b:=true) ⟨o,ho,hc⟩ isSubtype_stop ?_);exact wpAny_pure (hQ _ he')
theorem ZeQ {l:Addr}{items:Array Value}{Q:Value->Shared->Prop} (hL:s.heap.IsTuple l items)
  (h:∀ h',IsEnum h' (s.heap.objs.size+1) s.heap.objs.size 0 .none->h'.IsTupleIter s.heap.objs.size l 0->(∀ b o,s.heap.get? b=some o->h'.get? b=some o)->Q (.ref (s.heap.objs.size+1)) { s with heap:=h' }) :
  wpAny (model prog w) A (call (.type "enumerate") [.ref l]) Q E s:=by
 obtain⟨⟨c,dct,dt,sl⟩,hl,hc,n,hd⟩:=hL
 replace hc:c=.type "tuple":=hc
 replace hd:dt=.seq items n:=hd
 subst hc hd;refine callType_new F.called_enumerate (by decide) (F.typeCall_enumerate_1 _) (F.newCall_enumerate_1 _) (fun obj=>F.args_object_init_2 obj _) F.entry_enumerate_new (Zfr l items n dct sl) ⟨hl,?_⟩;have hz:(s.heap.push { cls:=.type "tuple_iterator",data:=.fields #[.ref l,.int 0 0] }).objs.size=s.heap.objs.size+1:=Ybi ..;show _/\_;rw[hz];have he:IsEnum ((s.heap.push { cls:=.type "tuple_iterator",data:=.fields #[.ref l,.int 0 0] }).push { cls:=.type "enumerate",data:=.fields #[.none,.bool false,.ref s.heap.objs.size,rawInt 0,.none,.none] }) (s.heap.objs.size+1) s.heap.objs.size 0 .none:=by
  have:=Yav (s.heap.push { cls:=.type "tuple_iterator",data:=.fields #[.ref l,.int 0 0] }) (o:={ cls:=.type "enumerate",data:=.fields #[.none,.bool false,.ref s.heap.objs.size,rawInt 0,.none,.none] }) rfl;rw[hz] at this;exact this
 exact⟨⟨_,he,rfl⟩,h _ he ⟨_,Yad _ (Yav _ rfl),rfl,rfl⟩ fun b o x=>Yad _ (Yad _ x)⟩
end
def IteT (K:Yae) (a:Addr):It :=
 ⟨fun i H=>∃ xs x,SqT K H a xs/\xs[i]?=some x,fun i H y H'=>∃ p x,H p=none/\y=.ref p/\H'=upd H p (.tup [.int i,x])/\∀ xs,SqT K H a xs->xs[i]?=some x,fun i H=>∃ xs,SqT K H a xs/\xs.length<=i⟩
theorem Zg3 {P:Program}{w:World}{K:Yae}{es:List Expr}{x1}{pos:Pos} (a it e:Addr) (hne:e≠it):Turn P w K (.Tuple es x1 pos) (IteT K a) [e,it] e (fun i h=>(∃ old,IsEnum h e it (i:Nat) old)/\h.IsTupleIter it a i) where
 mem:=by simp
 obj:=fun i h st b hb=>by
  obtain⟨⟨old,s1⟩,s2⟩:=st;rcases Yay.mp hb with z | z
  ·subst z;exact⟨_,s1,fun v z=>nomatch z⟩
  ·have z:b=it:=by simpa using z
   subst z;obtain⟨o,e,c,d⟩:=s2;exact⟨o,e,fun v z=>by rw[d] at z;cases z⟩
 keep:=fun i h h' st k=>by
  obtain⟨⟨old,s1⟩,s2⟩:=st;exact⟨⟨old,k e (by simp) _ s1⟩,s2.at fun o q=>k it (by simp) o q⟩
 item:=by
  intro X hP hw hK hc i pins s σ H E I hf st hg;subst hP hw hK;obtain⟨xs,x,hq,hx⟩:=hg;obtain⟨its,rv,p,hz⟩:=I.tuple hq;obtain⟨u,hu,ru⟩:=rv.get hx;obtain⟨⟨old,s1⟩,s2⟩:=st;have hlt:(i:Nat)<its.toArray.size:=by
   have:=(Yab.mp hu).1
   simpa using this
  have nea:a≠it:=by
   rintro rfl;obtain⟨o1,q1,c1,_⟩:=p;obtain⟨o2,q2,c2,_⟩:=id s2;rw[q1] at q2;cases q2;rw[c1] at c2;injection c2 with z;exact absurd z (by decide)
  have nee:a≠e:=by
   rintro rfl;obtain⟨o1,q1,c1,_⟩:=p;have s1':s.heap.get? a=some _:=s1;rw[q1] at s1';cases s1';injection c1 with z;exact absurd z (by decide)
  have it2:s.heap.IsTuple a its.toArray:=p;refine wpAny_pyNext_enum_itemD (Zi7 (A:=X.A.in1) (I.ok.hd hc) it a nea its.toArray) s1 ⟨s2,it2⟩ hlt hne (by simp[hne,Ybl nee]) fun u' h' tk' hu' ho hst ht hsz hk=>?_;have eu:u'=u:=by
   have:its.toArray[i]?=some u:=by simpa using hu
   rw[this] at hu';exact (Yax hu').symm
  subst eu;have hit:=hst.1;refine⟨_,rfl,?_⟩;refine wpAny_letOwnedTupleGo_enum ho fun h'' he hs=>?_;have fresh:H s.heap.objs.size=none:=I.hok.fresh (Yak _);have k:∀ b o,b ∉ [e,it]->s.heap.get? b=some o->h''.get? b=some o:=fun b o hb q=>by
   have hb':b≠e/\b≠it:=by simpa using hb
   exact (hs.2 b hb'.1).trans (hk b o hb'.1 hb'.2 q)
  have nE:∀ b∈[e,it],H b=none:=fun b hb=>(hf b hb).1
  have nit:∀ b u,H b=some u->b ∉ [e,it]:=fun b u q z=>by rw[nE b z] at q;cases q
  have hpe:s.heap.objs.size≠e:=Ybx (Yai s1);have htup:h''.get? s.heap.objs.size=some { cls:=.type "tuple",data:=.seq #[.int i tk',u'] }:=(hs.2 _ hpe).trans ht;have newOk:ObjOk X.prog X.w (upd H s.heap.objs.size (.tup [.int i,x])) h'' s.heap.objs.size (.tup [.int i,x]):=by
   refine⟨?_,[.int i tk',u'],.cons ⟨_,rfl⟩ (.cons ru .nil),⟨_,htup,rfl,rfl,0,rfl⟩⟩;show 2<=sizeLine
   decide
  have I1:Inv X pins σ (upd H s.heap.objs.size (.tup [.int i,x])) { s with heap:=h'',toks:=tk'+1 }:=by
   refine I.step (g':=s.gens) (d':=s.drawn) (ch:=[e,it]) (fun b hb=>?_) (fun b o _ _ hc q _=>k b o hc q) (fun b o _ _ hc q _=>⟨o.slots,k b o hc q⟩) (fun b o _ q n=>?_) (fun b o hc q=>⟨o,k b o hc q⟩)
    (fun b xs q=>by rw[upd_ne (Zae q fresh)];exact q) (fun b o xs q=>by rw[upd_ne (Zae q fresh)];exact q) (fun b ps q=>⟨#[],by rw[upd_ne (Zae q fresh),q];simp⟩) (fun m hm=>?_) (fun b ob q=>?_) I.bare
   ·obtain⟨f0,f1,f2,f3,f4,f5⟩:=hf b hb;exact⟨f3,f1,f4,f5⟩
   ·rw[upd_ne (YaB (Yai q))];exact n
   ·obtain⟨o,es,ep,ho,r⟩:=hm;refine⟨o,es,ep,k _ o (fun z=>?_) ho,r⟩;exact (hf _ z).2.1 rfl
   ·by_cases hb:b=s.heap.objs.size
    ·subst hb;rw[Zaa] at q;cases q;exact newOk
    ·rw[upd_ne hb] at q;refine (I.hok b ob q).stay (fun c v hc r=>k c v ?_ r) (fun c r=>by rw[upd_ne (Zae r fresh)];exact r) fun c xs r=>by rw[upd_ne (Zae r fresh)];exact r
     rcases hc with z | z
     ·rw[z];exact nit b ob q
     ·exact nit c _ z
  refine⟨.ref s.heap.objs.size,_,I1,rfl,⟨s.heap.objs.size,x,fresh,rfl,rfl,fun ys hy=>by rw[I.tuple_inj hy hq];exact hx⟩,⟨⟨u',?_⟩,?_⟩,fun b hb=>?_⟩
  ·have he:IsEnum h'' e it ((i:Int)+1) u':=he;show IsEnum h'' e it ((i+1:Nat):Int) u';rw[show ((i+1:Nat):Int)=(i:Int)+1 by (clear hpe hsz hst nee nea hlt hz hne;omega)];exact he
  ·exact hit.extBut hs.extBut (Ybl hne)
  ·have lt:b<s.heap.objs.size:=by
    rcases Yay.mp hb with z | z
    ·rw[z];exact Yai s1
    ·have z:b=it:=by simpa using z
     rw[z];obtain⟨o,q,_⟩:=s2;exact Yai q
   rw[upd_ne (YaB lt)];exact nE b hb
 done:=by
  intro X hP hw hK hc i pins s σ H E I hf st hg;subst hP hw hK;obtain⟨xs,hq,hx⟩:=hg;obtain⟨its,rv,p,hz⟩:=I.tuple hq;obtain⟨⟨old,s1⟩,s2⟩:=st;obtain⟨f0,f1,f2,f3,f4,f5⟩:=hf it (by simp);have hl:=rv.length;exact Zfq (I.ok.hd hc) s1 s2 (show s.heap.IsTuple a its.toArray from p) (by simp;(clear f3 f2 f1 hz hne;omega)) fun h' eb=>⟨rfl,I.turned (t':=s.toks) (fun b o hb q=>eb b o hb q) f0 f1 f3 f4 f5⟩
 self:=fun _ _ _ _ _ st h=>by
  obtain⟨⟨old,s1⟩,_⟩:=st;exact wpAny_pyIter_enum s1 h
def SqB (b:Bool) (K:Yae) (H:Hp) (a:Addr) (xs:List V):Prop:=match b with | true=>SqL K H a xs | false=>SqT K H a xs
def IteB (b:Bool) (K:Yae) (a:Addr):It:=match b with | true=>Ite K a | false=>IteT K a
def Znr (K:Yae) (ta:TA):TI:=fun σ H R=>ta σ H fun vs H1=>∃ a b,vs=[.ref a]/\(∃ xs,SqB b K H1 a xs)/\R (IteB b K a) H1
theorem Zj0 {X:Cx}{es:List Expr}{x1}{tpos:Pos}{e:Expr}{ta:TA}{p pos:Pos} (hg:Gl X "enumerate") (hm:X.mg "enumerate"=none) (ha:PA X [e] ta) (hs:starEach [e] X.env=[(false,eval e X.env)]:=by rfl) :
  PI X (.Tuple es x1 tpos) (.Call (.Name "enumerate" p) [e] [] pos) (Znr X.K ta):=by
 intro pins s σ H R I h;refine Call_ (Zd3 I hg hm (show bootBuiltins "enumerate"=some (.type "enumerate") by decide +kernel) (YbT (thn (ha pos pins s σ H _ I h) fun us s1 ⟨vs,H1,I1,r1,q1⟩=>?_) hs rfl));obtain⟨a,b,e1,⟨xs,hq⟩,q⟩:=q1;subst e1;obtain⟨u,rfl,r⟩:=Zc3 r1;cases r;have fp:∀ b∈[s1.heap.objs.size+1,s1.heap.objs.size],FpOk X pins H1 b:=fun b hb=>by
  have ge:s1.heap.objs.size<=b:=by
   rcases Yay.mp hb with z | z
   ·rw[z];exact YcF _
   ·have z:b=s1.heap.objs.size:=by simpa using z
    rw[z];exact Yak _
  exact I1.fpOk ge (I1.hok.fresh ge)
 cases b with
 | true=>
  obtain⟨its,rv,pl,hz⟩:=I1.list hq;refine call_enumerate_list pl.isList fun h' he hi hsz k=>wpAny_pyIter_enum he ?_;exact⟨s1.heap.objs.size+1,[s1.heap.objs.size+1,s1.heap.objs.size],_,_,H1,rfl,I1.kept (t':=s1.toks) k,ZhA a s1.heap.objs.size _ (Ybx (Yb1 _)),⟨⟨.none,he⟩,hi⟩,fp,q⟩
 | false=>
  obtain⟨its,rv,pl,hz⟩:=I1.tuple hq;refine ZeQ (show s1.heap.IsTuple a its.toArray from pl) fun h' he hi k=>wpAny_pyIter_enum he ?_;exact⟨s1.heap.objs.size+1,[s1.heap.objs.size+1,s1.heap.objs.size],_,_,H1,rfl,I1.kept (t':=s1.toks) k,Zg3 a s1.heap.objs.size _ (Ybx (Yb1 _)),⟨⟨.none,he⟩,hi⟩,fp,q⟩
end L2
namespace L2
open PySem PySem.Spec PyProof.Rows PySem.SeqAt
section
variable {X:Cx}
theorem Zb8 (ns:List Int):∀ k,k<=ns.length->preSum (fun i=>ns.getD i 0) k=(ns.take k).sum
 | 0,_=>by simp[preSum]
 | k+1,h=>by
  have hk:k<ns.length:=by omega
  rw[YbM hk,YdN,<- Zb8 ns k (by (clear hk;omega))];simp[preSum,Yao,hk]
theorem Zcs (hc:X.calm=true):ZbD X (.builtin "sum") (fun xs H Q=>∃ (a:Addr) (ns:List Int),xs=[.ref a]/\SqL X.K H a (ns.map V.int)/\Q (.int ns.sum) H):=by
 intro pins s σ H xs us Q I r h;obtain⟨a,ns,rfl,hq,q⟩:=h;obtain⟨u,rfl,r1⟩:=Zc3 r;cases r1;obtain⟨its,rv,p,hz⟩:=I.list hq;refine call_sum_walkG (wpAny_pyIter_list p.isList ?_);have hlt:=(let ⟨o,n,e,_⟩:=p;Yai e:a<s.heap.objs.size)
 have hne:a≠s.heap.objs.size:=YaB hlt;have hlen:its.toArray.size=ns.length:=by rw[Yal,<- rv.length,Yaa]
 refine⟨s.heap.objs.size,_,_,_,_,_,fun i=>ns.getD i 0,rfl,Walks.list (A:=X.A.in1) (I.ok.hd hc) _ a hne its.toArray,⟨⟨_,Yav _ rfl,rfl,rfl⟩,?_⟩,?_,?_,?_⟩
 ·obtain⟨o,n,e,c,_,d⟩:=p;exact⟨o,Yad _ e,c,n,d⟩
 ·intro b hb;rcases Yay.mp hb with z | z
  ·rw[z,Ybi];exact Yb1 _
  ·have z:b=a:=by simpa using z
   rw[z,Ybi];exact YcE hlt
 ·intro i v e;have hi:i<its.toArray.size:=(YdX.mp e).1
  obtain⟨t,q⟩:=ZbM rv hi;rw[Ych hi] at e;have e':=Yax e;rw[q] at e';exact⟨t,e'.symm⟩
 ·intro h' tk t' k;refine⟨.int ns.sum,H,I.kept (h':=h') (t':=tk) fun b o e=>k b o ?_ (Yad _ e),⟨t',?_⟩,q⟩
  ·intro hm;have:b=s.heap.objs.size:=by simpa using hm
   rw[this] at e;exact absurd (Yai e) (Yba _)
  ·rw[hlen,Zb8 ns _ (Yak _),Yaz]
end
end L2
namespace L2
open PySem PySem.Spec PyProof.Rows PySem.SeqAt
section
variable {X:Cx}
theorem ZcJ {ns:List Int}:∀ {us:List Value},IntsAre us ns->Vals (ns.map V.int) us:=by
 intro us h
 induction h with
 | nil=>exact .nil
 | cons=>rename_i ih;exact .cons ⟨_,rfl⟩ ih
end
end L2
namespace L2
open PySem PySem.Spec PyProof.Rows PySem.SeqAt
theorem Inv.pairOut {X:Cx}{pins:List (Addr × Obj)}{σ:St}{H:Hp}{s:Shared}{h':Heap}{fp:List Addr}{x y:V}{u v:Value}{tk:Nat} (I:Inv X pins σ H s) (hf:∀ b∈fp,FpOk X pins H b)
  (k:∀ b o,b ∉ fp->s.heap.get? b=some o->h'.get? b=some o) (ht:IsPair h' s.heap.objs.size u v) (hlf:∀ b∈fp,b<s.heap.objs.size) (hth:∀ b∈fp,∃ o,h'.get? b=some o) (rx:RelV x u) (ry:RelV y v) :
  Inv X pins σ (upd H s.heap.objs.size (.tup [x,y])) { s with heap:=h',toks:=tk }:=by
 have fresh:H s.heap.objs.size=none:=I.hok.fresh (Yak _);have nit:∀ b o,H b=some o->b ∉ fp:=fun b o q z=>by rw[(hf b z).1] at q;cases q
 have newOk:ObjOk X.prog X.w (upd H s.heap.objs.size (.tup [x,y])) h' s.heap.objs.size (.tup [x,y]):=by
  refine⟨?_,[u,v],.cons rx (.cons ry .nil),⟨_,ht,rfl,rfl,0,rfl⟩⟩;show 2<=sizeLine
  decide
 refine I.step (g':=s.gens) (d':=s.drawn) (ch:=fp) (fun b hb=>?_) (fun b o _ _ hc q _=>k b o hc q) (fun b o _ _ hc q _=>⟨o.slots,k b o hc q⟩) (fun b o _ q n=>?_) (fun b o hc q=>⟨o,k b o hc q⟩)
  (fun b xs q=>by rw[upd_ne (Zae q fresh)];exact q) (fun b o xs q=>by rw[upd_ne (Zae q fresh)];exact q) (fun b ps q=>⟨#[],by rw[upd_ne (Zae q fresh),q];simp⟩) (fun m hm=>?_) (fun b ob q=>?_) I.bare
 ·obtain⟨f0,f1,f2,f3,f4,f5⟩:=hf b hb;exact⟨f3,f1,f4,f5⟩
 ·rw[upd_ne (YaB (Yai q))];exact n
 ·obtain⟨o,es,ep,ho,r⟩:=hm;exact⟨o,es,ep,k _ o (fun z=>(hf _ z).2.1 rfl) ho,r⟩
 ·by_cases hb:b=s.heap.objs.size
  ·subst hb;rw[Zaa] at q;cases q;exact newOk
  ·rw[upd_ne hb] at q;refine (I.hok b ob q).stay (fun c v hc r=>k c v ?_ r) (fun c r=>by rw[upd_ne (Zae r fresh)];exact r) fun c xs r=>by rw[upd_ne (Zae r fresh)];exact r
   rcases hc with z | z
   ·rw[z];exact nit b ob q
   ·exact nit c _ z
theorem Inv.turnedAll {X:Cx}{pins:List (Addr × Obj)}{σ:St}{H:Hp}{s:Shared}{h':Heap}{fp:List Addr}{tk:Nat} (I:Inv X pins σ H s) (hf:∀ b∈fp,FpOk X pins H b) (k:∀ b o,b ∉ fp->s.heap.get? b=some o->h'.get? b=some o) :
  Inv X pins σ H { s with heap:=h',toks:=tk }:=by
 have nit:∀ b o,H b=some o->b ∉ fp:=fun b o q z=>by rw[(hf b z).1] at q;cases q
 refine I.step (g':=s.gens) (d':=s.drawn) (ch:=fp) (fun b hb=>?_) (fun b o _ _ hc q _=>k b o hc q) (fun b o _ _ hc q _=>⟨o.slots,k b o hc q⟩) (fun b o _ q n=>n) (fun b o hc q=>⟨o,k b o hc q⟩) (fun _ _ q=>q) (fun _ _ _ q=>q) (fun b ps q=>⟨#[],by rw[q];simp⟩) (fun m hm=>?_) (fun b ob q=>?_) I.bare
 ·obtain⟨f0,f1,f2,f3,f4,f5⟩:=hf b hb;exact⟨f3,f1,f4,f5⟩
 ·obtain⟨o,es,ep,ho,r⟩:=hm;exact⟨o,es,ep,k _ o (fun z=>(hf _ z).2.1 rfl) ho,r⟩
 ·refine (I.hok b ob q).stay (fun c v hc r=>k c v ?_ r) (fun _ q=>q) fun _ _ q=>q;rcases hc with z | z
  ·rw[z];exact nit b ob q
  ·exact nit c _ z
end L2
namespace L2
open PySem PySem.Spec PyProof.Rows PySem.SeqAt
section
variable {X:Cx}
theorem Zik:OpR X (binaryOp .Mult) (rI (fun i j=>∃ m n,YbI i<=m/\YbI j<=n/\m+n<=134217728) fun i j=>.int (i*j)) :=
 opI fun _ _ _ _ _ _ _ hc q=>mul_int q (by obtain⟨m,n,h1,h2,h3⟩:=hc;exact IntMulOk.of_le h1 h2 h3)
theorem Zj8:OpR X (binaryOp .FloorDiv) (rI (fun _ j=>0<j/\YbI j<=8000) fun i j=>.int (i / j)):=opI fun i j _ _ _ _ _ hc q=>by
 have h1:(0:Int)<j:=hc.1;have h2:j.natAbs<2 ^ 8000:=intBits_le_iff.mp hc.2;refine floordiv_int (by (clear h2 h1;omega)) (by rw[Yd9 i (by (clear h2 h1;omega))];exact q) (.inl (PyProof.noPylong_of_log2 ?_));have h3:j.natAbs.log2<8000:=(Nat.log2_lt (by (clear h2 h1;omega))).mpr h2
 (clear h2 h1 hc;omega)
theorem Zh2 {ns ms:List Int}:(((YaH (min ns.length ms.length)).all fun i=>ns.getD i 0 == ms.getD i 0) && (ns.length == ms.length))=decide (ns=ms):=by
 by_cases h:ns.length=ms.length
 ·rw[<- h,Nat.min_self,ZjT h];simp
 ·rw[decide_eq_false (fun z=>h (by rw[z]))];simp[h]
def rNeT (K:Yae):R2:=fun x y H Q=>∃ (a b:Addr) (ns ms:List Int),x=.ref a/\y=.ref b/\SqT K H a (ns.map V.int)/\SqT K H b (ms.map V.int)/\Q (.bl (!decide (ns=ms))) H
theorem Zm4 (hu:X.A.units<cLine):OpR X (compareOp .NotEq) (rNeT X.K):=by
 intro pins s σ H x y v u Q I rx ry h;obtain⟨a,b,ns,ms,rfl,rfl,ha,hb,q⟩:=h;cases rx;cases ry;obtain⟨its,r1,p1,_⟩:=I.tuple ha;obtain⟨its2,r2,p2,_⟩:=I.tuple hb;have l1:its.toArray.size=ns.length:=by rw[Yal,<- r1.length,Yaa]
 have l2:its2.toArray.size=ms.length:=by rw[Yal,<- r2.length,Yaa]
 refine RcNeAt.tuples (e:=fun i=>ns.getD i 0 == ms.getD i 0) (show s.heap.IsTuple a its.toArray from p1) (show s.heap.IsTuple b its2.toArray from p2) hu (fun j h1 h2=>?_) _ _ _ _ ?_
 ·obtain⟨t1,e1⟩:=ZbM r1 h1;obtain⟨t2,e2⟩:=ZbM r2 h2;rw[e1,e2];exact Yes _ _ _ _
 ·rw[l1,l2,Zh2];exact⟨.bl _,H,I,rfl,q⟩
theorem Zdv (hc:X.calm=true):ZbD X (.builtin "sum") (fun xs H Q=>∃ (a:Addr) (ns:List Int),xs=[.ref a]/\SqT X.K H a (ns.map V.int)/\Q (.int ns.sum) H):=by
 intro pins s σ H xs us Q I r h;obtain⟨a,ns,rfl,hq,q⟩:=h;obtain⟨u,rfl,r1⟩:=Zc3 r;cases r1;obtain⟨its,rv,p0,hz⟩:=I.tuple hq;have p:s.heap.IsTuple a its.toArray:=p0;refine call_sum_walkG (wpAny_pyIter_tuple p ?_);have hlt:a<s.heap.objs.size:=by obtain⟨o,e,_⟩:=p;exact Yai e
 have hne:a≠s.heap.objs.size:=YaB hlt;have hlen:its.toArray.size=ns.length:=by rw[Yal,<- rv.length,Yaa]
 refine⟨s.heap.objs.size,_,_,_,_,_,fun i=>ns.getD i 0,rfl,Walks.tuple (A:=X.A.in1) (I.ok.hd hc) _ a hne its.toArray,⟨⟨_,Yav _ rfl,rfl,rfl⟩,?_⟩,?_,?_,?_⟩
 ·obtain⟨o,e,c,d⟩:=p;exact⟨o,Yad _ e,c,d⟩
 ·intro b hb;rcases Yay.mp hb with z | z
  ·rw[z,Ybi];exact Yb1 _
  ·have z:b=a:=by simpa using z
   rw[z,Ybi];exact YcE hlt
 ·intro i v e;have hi:i<its.toArray.size:=(YdX.mp e).1
  obtain⟨t,q⟩:=ZbM rv hi;rw[Ych hi] at e;have e':=Yax e;rw[q] at e';exact⟨t,e'.symm⟩
 ·intro h' tk t' k;refine⟨.int ns.sum,H,I.kept (h':=h') (t':=tk) fun b o e=>k b o ?_ (Yad _ e),⟨t',?_⟩,q⟩
  ·intro hm;have:b=s.heap.objs.size:=by simpa using hm
   rw[this] at e;exact absurd (Yai e) (Yba _)
  ·rw[hlen,Zb8 ns _ (Yak _),Yaz]
end
section
variable {prog:Program}{w:World}{A:Around}{E:Value->Shared->Prop}{s:Shared}
theorem Zhk {l:Addr}{vs:List Value}{Q:List Value->Shared->Prop} (ht:s.heap.IsTuple l vs.toArray) (h:Q vs { s with heap:=(s.heap.push (seqObj "list" #[] 0)).update s.heap.objs.size (Ybs (·++vs.toArray)) }) (hz:vs.length<=sizeLine) :
  wpAny (model prog w) A (collect (.ref l)) Q E s:=by
 obtain⟨o,ho,hc,n,hd⟩:=id ht;have own:(s.heap.push (seqObj "list" #[] 0)).get? s.heap.objs.size=some (seqObj "list" #[] 0):=Yav _ rfl;have old:(s.heap.push (seqObj "list" #[] 0)).get? l=some o:=Yad _ ho;unfold collect;refine wpAny_bind (wpAny_runValue (codeAny_builtin entry_proto_collect' ?_));refine wpAny_bind (m:=newList []) (wpAny_newList (wpAny_pure ⟨Code.quiet_builtin _ (by decide +kernel),codeAny_builtin entry_list_iadd' ?_⟩));show wpAny _ _ (Ydl (.ref s.heap.objs.size) (.ref l) (.ref s.heap.objs.size)) _ _ { s with heap:=s.heap.push (seqObj "list" #[] 0) };unfold Ydl;refine wpAny_bind (wpAny_typeOf (T:="tuple") ⟨o,old,hc⟩ ?_);have tt:(YcZ "tuple" == YcZ "tuple")=true:=by rfl
 rw[if_pos (by rw[tt];simp)];refine wpAny_bind (listItems_at old hd (wpAny_bind (listItems_at (xs:=#[]) (n:=0) own rfl ?_)));rw[if_neg (by simp)];refine wpAny_bind (listUpdate_at (xs:=#[]) (n:=0) own rfl (wpAny_pure ?_) (YaT _) ?_)
 ·refine wpAny_bind (m:=load s.heap.objs.size) (wpAny_load (get?_update_seq own _) ?_);show wpAny _ _ (pure ((#[]:Array Value)++vs.toArray).toList) _ _ _;rw[show ((#[]:Array Value)++vs.toArray).toList=vs by simp];exact wpAny_pure h
 ·show (#[]++vs.toArray).size<=sizeLine+1;simp only[Array.size_append,Yal,Ydb];omega
end
section
variable {X:Cx}
end
theorem ZeN {K:Yae}{own:List Str}{js:List Nat}{g:TG}{tt:TT}{te:TE}{σ:St}{H1:Hp}{Q:VK}{a:Addr}{xs:List V} (Pv:Addr->Nat->Hp->Prop) (h0:∀ acc,H1 acc=none->Pv acc 0 (upd H1 acc (.lst []))) (hl:∀ acc i H,H1 acc=none->i<=xs.length->Pv acc i H->SqT K H a xs)
  (hs:∀ acc i x H,H1 acc=none->xs[i]?=some x->Pv acc i H->g x (blkσ own js σ) H fun τ H4=>tt τ H4 fun c H5=>
   if c=true then te τ H5 fun y H6=>∃ ys,H6 acc=some (.lst ys)/\ys.length<sizeLine/\(i+1<=xs.length/\Pv acc (i+1) (upd H6 acc (.lst (ys++[y])))) else (i+1<=xs.length/\Pv acc (i+1) H5))
  (hd:∀ acc H,H1 acc=none->Pv acc xs.length H->Q (.ref acc) H):Za0 own js g tt te σ (Itt K a) H1 Q:=by
 intro acc hacc;refine⟨fun i H=>i<=xs.length/\Pv acc i H,xs.length,⟨YaT _,h0 acc hacc⟩,?_⟩;rintro i H ⟨hi,p⟩;have q:=hl acc i H hacc hi p;by_cases hlt:i<xs.length
 ·refine .inr ⟨hlt,⟨xs,xs[i],q,by simp[hlt]⟩,fun x H' y=>?_⟩;obtain⟨e,y⟩:=y;subst e;exact hs acc i x _ hacc (y xs q) p
 ·have e:i=xs.length:=by omega
  subst e;exact .inl ⟨⟨xs,q,Yak _⟩,hd acc H hacc p⟩
end L2
namespace L2
open PySem PySem.Spec PyProof.Rows PySem.SeqAt
def HIt (b:Bool) (h:Heap) (it l:Addr) (i:Nat):Prop:=match b with | true=>h.IsListIter it l i | false=>h.IsTupleIter it l i
def HSq (b:Bool) (h:Heap) (l:Addr) (xs:Array Value):Prop:=match b with | true=>h.IsList l xs | false=>h.IsTuple l xs
theorem HIt.at {b:Bool}{h h':Heap}{it l:Addr}{i:Nat} (x:HIt b h it l i) (e:∀ o,h.get? it=some o->h'.get? it=some o):HIt b h' it l i:=by
 cases b
 ·exact Heap.IsTupleIter.at x e
 ·exact Heap.IsListIter.at x e
theorem HIt.ext {b:Bool}{h h':Heap}{it l c:Addr}{i:Nat} (x:HIt b h it l i) (hs:Ydj c h h') (n:it≠c):HIt b h' it l i:=x.at fun o e=>hs _ _ n e
theorem HIt.obj {b:Bool}{h:Heap}{it l:Addr}{i:Nat} (x:HIt b h it l i):∃ o,h.get? it=some o/\∀ v:Option Value,o.data≠.cell v:=by
 cases b
 ·obtain⟨o,e,_,d⟩:=x;exact⟨o,e,fun v q=>by rw[d] at q;cases q⟩
 ·obtain⟨o,e,_,d⟩:=x;exact⟨o,e,fun v q=>by rw[d] at q;cases q⟩
theorem HSq.ext {b:Bool}{h h':Heap}{l c:Addr}{xs:Array Value} (x:HSq b h l xs) (hs:Ydj c h h') (n:l≠c):HSq b h' l xs:=by
 cases b
 ·exact Heap.IsTuple.extBut x hs n
 ·exact Heap.IsList.extBut x hs n
section
variable {prog:Program}{w:World}{A:Around}{E:Value->Shared->Prop}{s:Shared}
theorem Zl7 {b:Bool}{it l:Addr}{i:Nat}{items:Array Value}{x:Value}{Q:Value->Shared->Prop} (hit:HIt b s.heap it l i) (hl:HSq b s.heap l items) (hx:items[i]?=some x) (hQ:∀ h',HIt b h' it l (i+1)->YcU it s.heap h'->Q x { s with heap:=h' }) :
  wpAny (model prog w) A (Ya3 (.ref it)) Q E s:=by
 cases b
 ·exact Zd1 hit hl hx hQ
 ·exact wpAny_nextOf_list_item hit hl hx hQ
theorem Zff {b:Bool}{it l:Addr}{i:Nat}{items:Array Value}{Q:Value->Shared->Prop} (hh:A.handled=none) (hit:HIt b s.heap it l i) (hl:HSq b s.heap l items) (hx:items[i]?=none)
  (hE:∀ h' e,Ydj it s.heap h'->(∃ o,h'.get? e=some o/\o.cls=.type "StopIteration")->E (.ref e) { s with heap:=h' }):wpAny (model prog w) A (Ya3 (.ref it)) Q E s:=by
 cases b
 ·exact Zbq hh hit hl hx hE
 ·exact wpAny_nextOf_list_end hh hit hl hx hE
theorem Zht {b1 b2:Bool}{z TI TO i1 i2 l1 l2:Addr}{k1 k2:Nat}{xs ys:Array Value}{x y a b:Value}{Q:Value->Shared->Prop} (D:ZipApart z TI TO i1 i2 l1 l2) (hz:IsZip s.heap z TI TO .none) (hTI:IsPair s.heap TI (.ref i1) (.ref i2)) (hTO:IsPair s.heap TO a b)
  (h1:HIt b1 s.heap i1 l1 k1) (h2:HIt b2 s.heap i2 l2 k2) (hl1:HSq b1 s.heap l1 xs) (hl2:HSq b2 s.heap l2 ys) (hx:xs[k1]?=some x) (hy:ys[k2]?=some y)
  (hQ:∀ h',IsZip h' z TI TO (rawInt s.heap.objs.size)->IsPair h' TO x y->HIt b1 h' i1 l1 (k1+1)->HIt b2 h' i2 l2 (k2+1)->IsPair h' s.heap.objs.size x y->h'.objs.size=s.heap.objs.size+1 ->
   (∀ c o,c≠z->c≠TO->c≠i1->c≠i2->s.heap.get? c=some o->h'.get? c=some o)->Q (.ref s.heap.objs.size) { s with heap:=h' }) :
  wpAny (model prog w) A (Builtin.«zip.__next__» ⟨[.ref z],[]⟩) (fun fin s'=>∃ v,fin=.done (.ret v)/\Q v s') E s:=by
 refine wpAny_bind (m:=field (.ref z) 2) (wpAny_field hz rfl (x:=.bool false) rfl ?_);refine wpAny_bind (m:=field (.ref z) 3) (wpAny_field hz rfl (x:=.ref TI) rfl (wpAny_bind (wpAny_seqItems hTI rfl ?_)));refine wpAny_bind (m:=YbD (.ref z)) ?_;unfold YbD;refine wpAny_bind (wpAny_field hz rfl (x:=.none) rfl (wpAny_pure ?_));simp only[if_true];refine wpAny_bind (wpAny_rule (wpAny_bind (wpAny_field hz rfl (x:=.ref TO) rfl ?_)));refine wpAny_bind (wpAny_setField_rec hz (by simp) fun h₁ hz₁ hs₁=>?_)
 replace hz₁:IsZip h₁ z TI TO .ellipsis:=hz₁
 refine wpAny_bind ?_;simp only[YdB,List.zipIdx_nil,YdR,List.forIn_nil];refine wpAny_bind (wpAny_bind (wpAny_onRaise (wpAny_bind (m:=Ya3 (.ref i1)) ?_)));refine Zl7 (h1.ext hs₁.extBut D.i1z) (hl1.ext hs₁.extBut D.l1z) hx fun h₂ h1₂ hs₂=>wpAny_pure ?_;have t2:IsPair h₂ TO a b:=hs₂.extBut _ _ D.TOi1 (hs₁.extBut _ _ D.TOz hTO);refine wpAny_bind (wpAny_seqItems t2 rfl (wpAny_bind (wpAny_updateSeq_pair t2 fun h₃ hTO₃ hs₃=>?_)))
 replace hTO₃:IsPair h₃ TO x b:=hTO₃
 refine wpAny_bind (wpAny_letGo (wpAny_pure (wpAny_bind (wpAny_bind (wpAny_onRaise (wpAny_bind (m:=Ya3 (.ref i2)) ?_))))));refine Zl7 (((h2.ext hs₁.extBut D.i2z).ext hs₂.extBut D.i12.symm).ext hs₃.extBut D.TOi2.symm) (((hl2.ext hs₁.extBut D.l2z).ext hs₂.extBut D.l2i1).ext hs₃.extBut D.l2TO) hy fun h₄ h2₄ hs₄=>wpAny_pure ?_;have t4:IsPair h₄ TO x b:=hs₄.extBut _ _ D.TOi2 hTO₃;refine wpAny_bind (wpAny_seqItems t4 rfl (wpAny_bind (wpAny_updateSeq_pair t4 fun h₅ hTO₅ hs₅=>?_)))
 replace hTO₅:IsPair h₅ TO x y:=hTO₅
 refine wpAny_bind (wpAny_letGo (wpAny_pure (wpAny_pure (wpAny_bind (wpAny_seqItems hTO₅ rfl (wpAny_bind (wpAny_newTuple ?_)))))));have hsz:h₅.objs.size=s.heap.objs.size:=by rw[hs₅.1,hs₄.1,hs₃.1,hs₂.1,hs₁.1]
 have hz₅:IsZip h₅ z TI TO .ellipsis:=hs₅.extBut _ _ D.TOz.symm (hs₄.extBut _ _ D.i2z.symm (hs₃.extBut _ _ D.TOz.symm (hs₂.extBut _ _ D.i1z.symm hz₁)));have k5:∀ c o,c≠z->c≠TO->c≠i1->c≠i2->s.heap.get? c=some o->h₅.get? c=some o:=fun c o c1 c2 c3 c4 e=>hs₅.extBut _ _ c2 (hs₄.extBut _ _ c4 (hs₃.extBut _ _ c2 (hs₂.extBut _ _ c3 (hs₁.extBut _ _ c1 e))));have j1:HIt b1 h₅ i1 l1 (k1+1):=((h1₂.ext hs₃.extBut D.TOi1.symm).ext hs₄.extBut D.i12).ext hs₅.extBut D.TOi1.symm;have j2:HIt b2 h₅ i2 l2 (k2+1):=h2₄.ext hs₅.extBut D.TOi2.symm;have zlt:z<h₅.objs.size:=Yai hz₅;refine wpAny_bind (m:=YcQ (.ref z) (.ref h₅.objs.size)) ?_;unfold YcQ;have hz₆:IsZip (h₅.push { cls:=.type "tuple",data:=.seq #[x,y] }) z TI TO .ellipsis:=Yad _ hz₅;refine wpAny_bind (wpAny_setField_rec hz₆ (by simp) fun h₇ hz₇ hs₇=>?_)
 replace hz₇:IsZip h₇ z TI TO (rawInt h₅.objs.size):=hz₇
 refine wpAny_setField_rec hz₇ (by simp) fun h₈ hz₈ hs₈=>?_
 replace hz₈:IsZip h₈ z TI TO (rawInt h₅.objs.size):=hz₈
 have up:∀ c o,c≠z->h₅.get? c=some o->h₈.get? c=some o:=fun c o c1 e=>hs₈.extBut _ _ c1 (hs₇.extBut _ _ c1 (Yad _ e));have t8:IsPair h₈ h₅.objs.size x y:=hs₈.extBut _ _ (Ybx zlt) (hs₇.extBut _ _ (Ybx zlt) (Yav _ rfl));have z8:h₈.objs.size=h₅.objs.size+1:=by rw[hs₈.1,hs₇.1,Ybi]
 rw[hsz] at hz₈ t8 z8;refine wpAny_pure ⟨_,rfl,?_⟩;show Q (.ref h₅.objs.size) _;rw[hsz];exact hQ h₈ hz₈ (up _ _ D.TOz hTO₅) (j1.at fun o e=>up _ o D.i1z e) (j2.at fun o e=>up _ o D.i2z e) t8 z8 fun c o c1 c2 c3 c4 e=>up c o c1 (k5 c o c1 c2 c3 c4 e)
theorem ZjC {b1 b2:Bool}{z TI TO i1 i2 l1 l2:Addr}{k1 k2:Nat}{xs ys:Array Value}{a b:Value}{Q:Fin->Shared->Prop} (hh:A.handled=none) (D:ZipApart z TI TO i1 i2 l1 l2) (hz:IsZip s.heap z TI TO .none) (hTI:IsPair s.heap TI (.ref i1) (.ref i2)) (hTO:IsPair s.heap TO a b)
  (h1:HIt b1 s.heap i1 l1 k1) (h2:HIt b2 s.heap i2 l2 k2) (hl1:HSq b1 s.heap l1 xs) (hl2:HSq b2 s.heap l2 ys) (hend:xs[k1]?=none∨ys[k2]?=none)
  (hE:∀ h' e,(∀ c o,c≠z->c≠TO->c≠i1->c≠i2->s.heap.get? c=some o->h'.get? c=some o)->(∃ o,h'.get? e=some o/\o.cls=.type "StopIteration")->E (.ref e) { s with heap:=h' }):wpAny (model prog w) A (Builtin.«zip.__next__» ⟨[.ref z],[]⟩) Q E s:=by
 refine wpAny_bind (m:=field (.ref z) 2) (wpAny_field hz rfl (x:=.bool false) rfl ?_);refine wpAny_bind (m:=field (.ref z) 3) (wpAny_field hz rfl (x:=.ref TI) rfl (wpAny_bind (wpAny_seqItems hTI rfl ?_)));refine wpAny_bind (m:=YbD (.ref z)) ?_;unfold YbD;refine wpAny_bind (wpAny_field hz rfl (x:=.none) rfl (wpAny_pure ?_));simp only[if_true];refine wpAny_bind (wpAny_rule (wpAny_bind (wpAny_field hz rfl (x:=.ref TO) rfl ?_)));refine wpAny_bind (wpAny_setField_rec hz (by simp) fun h₁ hz₁ hs₁=>?_)
 replace hz₁:IsZip h₁ z TI TO .ellipsis:=hz₁
 refine wpAny_bind ?_;simp only[YdB,List.zipIdx_nil,YdR,List.forIn_nil];refine wpAny_bind (wpAny_bind (wpAny_onRaise (wpAny_bind (m:=Ya3 (.ref i1)) ?_)))
 cases hx:xs[k1]? with
 | none=>
  refine Zff hh (h1.ext hs₁.extBut D.i1z) (hl1.ext hs₁.extBut D.l1z) hx fun h₂ e hs₂ ⟨oe,hoe,hce⟩=>?_;have hz₂:IsZip h₂ z TI TO .ellipsis:=hs₂ _ _ D.i1z.symm hz₁;have ez:e≠z:=fun x=>by subst x;rw[hz₂] at hoe;cases hoe;simp at hce
  exact wpAny_setField_rec hz₂ (by simp) fun h₃ _ hs₃=>hE h₃ e (fun c o c1 _ c3 _ x=>hs₃.extBut _ _ c1 (hs₂ _ _ c3 (hs₁.extBut _ _ c1 x))) ⟨oe,hs₃.extBut _ _ ez hoe,hce⟩
 | some x=>
  have hy:ys[k2]?=none:=hend.resolve_left (by rw[hx];simp);refine Zl7 (h1.ext hs₁.extBut D.i1z) (hl1.ext hs₁.extBut D.l1z) hx fun h₂ h1₂ hs₂=>wpAny_pure ?_;have t2:IsPair h₂ TO a b:=hs₂.extBut _ _ D.TOi1 (hs₁.extBut _ _ D.TOz hTO);refine wpAny_bind (wpAny_seqItems t2 rfl (wpAny_bind (wpAny_updateSeq_pair t2 fun h₃ hTO₃ hs₃=>?_)));refine wpAny_bind (wpAny_letGo (wpAny_pure (wpAny_bind (wpAny_bind (wpAny_onRaise (wpAny_bind (m:=Ya3 (.ref i2)) ?_))))));refine Zff hh (((h2.ext hs₁.extBut D.i2z).ext hs₂.extBut D.i12.symm).ext hs₃.extBut D.TOi2.symm) (((hl2.ext hs₁.extBut D.l2z).ext hs₂.extBut D.l2i1).ext hs₃.extBut D.l2TO) hy fun h₄ e hs₄ ⟨oe,hoe,hce⟩=>?_;have hz₄:IsZip h₄ z TI TO .ellipsis:=hs₄ _ _ D.i2z.symm (hs₃.extBut _ _ D.TOz.symm (hs₂.extBut _ _ D.i1z.symm hz₁));have ez:e≠z:=fun x=>by subst x;rw[hz₄] at hoe;cases hoe;simp at hce
  exact wpAny_setField_rec hz₄ (by simp) fun h₅ _ hs₅=>hE h₅ e (fun c o c1 c2 c3 c4 x=>hs₅.extBut _ _ c1 (hs₄ _ _ c4 (hs₃.extBut _ _ c2 (hs₂.extBut _ _ c3 (hs₁.extBut _ _ c1 x))))) ⟨oe,hs₅.extBut _ _ ez hoe,hce⟩
theorem Ze6 {b1 b2:Bool}{z TI TO i1 i2 l1 l2:Addr}{k1 k2:Nat}{xs ys:Array Value}{x y a b:Value}{Q:Option Value->Shared->Prop} (D:ZipApart z TI TO i1 i2 l1 l2) (hz:IsZip s.heap z TI TO .none) (hTI:IsPair s.heap TI (.ref i1) (.ref i2)) (hTO:IsPair s.heap TO a b)
  (h1:HIt b1 s.heap i1 l1 k1) (h2:HIt b2 s.heap i2 l2 k2) (hl1:HSq b1 s.heap l1 xs) (hl2:HSq b2 s.heap l2 ys) (hx:xs[k1]?=some x) (hy:ys[k2]?=some y)
  (hQ:∀ h',IsZip h' z TI TO (rawInt s.heap.objs.size)->IsPair h' TO x y->HIt b1 h' i1 l1 (k1+1)->HIt b2 h' i2 l2 (k2+1)->IsPair h' s.heap.objs.size x y->h'.objs.size=s.heap.objs.size+1 ->
   (∀ c o,c≠z->c≠TO->c≠i1->c≠i2->s.heap.get? c=some o->h'.get? c=some o)->Q (some (.ref s.heap.objs.size)) { s with heap:=h' }):wpAny (model prog w) A (pyNext (.ref z)) Q E s:=by
 have hT:s.TypeIs (.ref z) "zip":=⟨_,hz,rfl⟩
 unfold pyNext;exact wpAny_bind (wpAny_attempt (wpAny_callSpecial?_slot (name:=YcW "__next__") hT F.slot_zip_next (wpAny_call_entry F.slot_zip_next hT F.entry_zip_next (Zht D hz hTI hTO h1 h2 hl1 hl2 hx hy fun h' a1 a2 a3 a4 a5 a6 a7=>wpAny_pure (hQ h' a1 a2 a3 a4 a5 a6 a7)) (F.args_zip_next_1 _))))
theorem ZfY {b1 b2:Bool}{z TI TO i1 i2 l1 l2:Addr}{k1 k2:Nat}{xs ys:Array Value}{a b:Value}{Q:Option Value->Shared->Prop} (hh:A.handled=none) (D:ZipApart z TI TO i1 i2 l1 l2) (hz:IsZip s.heap z TI TO .none) (hTI:IsPair s.heap TI (.ref i1) (.ref i2)) (hTO:IsPair s.heap TO a b)
  (h1:HIt b1 s.heap i1 l1 k1) (h2:HIt b2 s.heap i2 l2 k2) (hl1:HSq b1 s.heap l1 xs) (hl2:HSq b2 s.heap l2 ys) (hend:xs[k1]?=none∨ys[k2]?=none)
  (hQ:∀ h',(∀ c o,c≠z->c≠TO->c≠i1->c≠i2->s.heap.get? c=some o->h'.get? c=some o)->Q none { s with heap:=h' }):wpAny (model prog w) A (pyNext (.ref z)) Q E s:=by
 have hT:s.TypeIs (.ref z) "zip":=⟨_,hz,rfl⟩
 unfold pyNext;refine wpAny_bind (wpAny_attempt (wpAny_callSpecial?_slot (name:=YcW "__next__") hT F.slot_zip_next (wpAny_call_entry F.slot_zip_next hT F.entry_zip_next (ZjC hh D hz hTI hTO h1 h2 hl1 hl2 hend fun h' e hk ⟨o,ho,hc⟩=>?_) (F.args_zip_next_1 _))));exact wpAny_bind (wpAny_isInstance (T:="StopIteration") (b:=true) ⟨o,ho,hc⟩ isSubtype_stop (wpAny_pure (hQ _ hk)))
def Zmd (b:Bool):String:=match b with | true=>"list_iterator" | false=>"tuple_iterator"
def zB1 (b1:Bool) (h:Heap) (l1:Addr):Heap:=h.push { cls:=.type (Zmd b1),data:=.fields #[.ref l1,.int 0 0] }
def zB2 (b1 b2:Bool) (h:Heap) (l1 l2:Addr):Heap:=(zB1 b1 h l1).push { cls:=.type (Zmd b2),data:=.fields #[.ref l2,.int 0 0] }
def zB3 (b1 b2:Bool) (h:Heap) (l1 l2:Addr):Heap:=(zB2 b1 b2 h l1 l2).push { cls:=.type "tuple",data:=.seq #[.ref h.objs.size,.ref (zB1 b1 h l1).objs.size] }
def zB4 (b1 b2:Bool) (h:Heap) (l1 l2:Addr):Heap:=(zB3 b1 b2 h l1 l2).push { cls:=.type "tuple",data:=.seq #[.none,.none] }
def zB5 (b1 b2:Bool) (h:Heap) (l1 l2:Addr):Heap:=(zB4 b1 b2 h l1 l2).push { cls:=.type "zip",data:=.fields #[.none,.bool false,.bool false,.ref (zB2 b1 b2 h l1 l2).objs.size,.ref (zB3 b1 b2 h l1 l2).objs.size] }
theorem ZjB (b1 b2:Bool) (l1 l2:Addr) (xs ys:Array Value) :
  Meets (Builtin.«zip.__new__» ⟨[.type "zip",.ref l1,.ref l2],[]⟩) (fun _ R s=>HSq b1 s.heap l1 xs/\HSq b2 s.heap l2 ys/\R (.ok (.ret (.ref (zB4 b1 b2 s.heap l1 l2).objs.size))) { s with heap:=zB5 b1 b2 s.heap l1 l2 }) :=
 .of_wp fun prog w A R s h=>by
  obtain⟨hp,g,d,tk,os⟩:=s;obtain⟨hl1,hl2,h⟩:=h;have hsub:=sub_zip;cases b1 <;> cases b2
  ·have p1:Ydd (Yci ⟨hp,g,d,tk,os⟩) l1 xs:=hl1;have p2:Ydd (Yci ⟨hp.push { cls:=.type "tuple_iterator",data:=.fields #[.ref l1,.int 0 0] },g,d,tk,os⟩) l2 ys:=Yea hl2 _
   wp_walk using wpAny_pyIter_tuple p1,wpAny_pyIter_tuple p2
   exact⟨_,rfl,h⟩
  ·have p1:Ydd (Yci ⟨hp,g,d,tk,os⟩) l1 xs:=hl1;have p2:YdT (Yci ⟨hp.push { cls:=.type "tuple_iterator",data:=.fields #[.ref l1,.int 0 0] },g,d,tk,os⟩) l2 ys:=Yeh hl2 _
   wp_walk using wpAny_pyIter_tuple p1,wpAny_pyIter_list p2
   exact⟨_,rfl,h⟩
  ·have p1:YdT (Yci ⟨hp,g,d,tk,os⟩) l1 xs:=hl1;have p2:Ydd (Yci ⟨hp.push { cls:=.type "list_iterator",data:=.fields #[.ref l1,.int 0 0] },g,d,tk,os⟩) l2 ys:=Yea hl2 _
   wp_walk using wpAny_pyIter_list p1,wpAny_pyIter_tuple p2
   exact⟨_,rfl,h⟩
  ·have p1:YdT (Yci ⟨hp,g,d,tk,os⟩) l1 xs:=hl1;have p2:YdT (Yci ⟨hp.push { cls:=.type "list_iterator",data:=.fields #[.ref l1,.int 0 0] },g,d,tk,os⟩) l2 ys:=Yeh hl2 _
   wp_walk using wpAny_pyIter_list p1,wpAny_pyIter_list p2
   exact⟨_,rfl,h⟩
theorem HIt.made {b:Bool}{h:Heap}{it l:Addr} (e:h.get? it=some { cls:=.type (Zmd b),data:=.fields #[.ref l,.int 0 0] }):HIt b h it l 0:=by
 cases b
 ·exact⟨_,e,rfl,rfl⟩
 ·exact⟨_,e,rfl,rfl⟩
theorem Zjr {b1 b2:Bool}{l1 l2:Addr}{xs ys:Array Value}{Q:Value->Shared->Prop} (hl1:HSq b1 s.heap l1 xs) (hl2:HSq b2 s.heap l2 ys)
  (h:∀ h',IsZip h' (s.heap.objs.size+4) (s.heap.objs.size+2) (s.heap.objs.size+3) .none->IsPair h' (s.heap.objs.size+2) (.ref s.heap.objs.size) (.ref (s.heap.objs.size+1))->IsPair h' (s.heap.objs.size+3) .none .none ->
   HIt b1 h' s.heap.objs.size l1 0->HIt b2 h' (s.heap.objs.size+1) l2 0->(∀ c o,s.heap.get? c=some o->h'.get? c=some o)->Q (.ref (s.heap.objs.size+4)) { s with heap:=h' }):wpAny (model prog w) A (call (.type "zip") [.ref l1,.ref l2]) Q E s:=by
 refine callType_new F.called_zip (by decide) (F.typeCall_zip_2 _ _) (F.newCall_zip_2 _ _) (fun obj=>F.args_object_init_3 obj _ _) F.entry_zip_new (ZjB b1 b2 l1 l2 xs ys) ⟨hl1,hl2,?_⟩;have z1:(zB1 b1 s.heap l1).objs.size=s.heap.objs.size+1:=Ybi ..;have z2:(zB2 b1 b2 s.heap l1 l2).objs.size=s.heap.objs.size+2:=by unfold zB2;rw[Ybi,z1]
 have z3:(zB3 b1 b2 s.heap l1 l2).objs.size=s.heap.objs.size+3:=by unfold zB3;rw[Ybi,z2]
 have z4:(zB4 b1 b2 s.heap l1 l2).objs.size=s.heap.objs.size+4:=by unfold zB4;rw[Ybi,z3]
 have g5:(zB5 b1 b2 s.heap l1 l2).get? (zB4 b1 b2 s.heap l1 l2).objs.size=some _:=Yav _ rfl;have g4:(zB5 b1 b2 s.heap l1 l2).get? (zB3 b1 b2 s.heap l1 l2).objs.size=some _:=Yad _ (Yav _ rfl);have g3:(zB5 b1 b2 s.heap l1 l2).get? (zB2 b1 b2 s.heap l1 l2).objs.size=some _:=Yad _ (Yad _ (Yav _ rfl));have g2:(zB5 b1 b2 s.heap l1 l2).get? (zB1 b1 s.heap l1).objs.size=some _:=Yad _ (Yad _ (Yad _ (Yav _ rfl)));have g1:(zB5 b1 b2 s.heap l1 l2).get? s.heap.objs.size=some _:=Yad _ (Yad _ (Yad _ (Yad _ (Yav _ rfl))));show _/\_;rw[z2,z3,z4] at g5;rw[z1,z2] at g3;rw[z3] at g4;rw[z1] at g2;rw[z4];exact⟨⟨_,g5,rfl⟩,h _ g5 g3 g4 (HIt.made g1) (HIt.made g2) fun c o x=>Yad _ (Yad _ (Yad _ (Yad _ (Yad _ x))))⟩
end
theorem SqB.heap {X:Cx}{b:Bool}{pins:List (Addr × Obj)}{σ:St}{H:Hp}{s:Shared}{a:Addr}{xs:List V} (I:Inv X pins σ H s) (h:SqB b X.K H a xs):∃ its:List Value,Vals xs its/\HSq b s.heap a its.toArray:=by
 cases b
 ·obtain⟨its,r,p,_⟩:=I.tuple h;exact⟨its,r,p⟩
 ·obtain⟨its,r,p,_⟩:=I.list h;exact⟨its,r,p.isList⟩
theorem HSq.lt {b:Bool}{h:Heap}{l:Addr}{xs:Array Value} (x:HSq b h l xs):l<h.objs.size:=by
 cases b
 ·obtain⟨o,e,_⟩:=x;exact Yai e
 ·obtain⟨o,e,_⟩:=x;exact Yai e
theorem SqB.inj {X:Cx}{b:Bool}{pins:List (Addr × Obj)}{σ:St}{H:Hp}{s:Shared}{a:Addr}{xs ys:List V} (I:Inv X pins σ H s) (h:SqB b X.K H a xs) (g:SqB b X.K H a ys):xs=ys:=by
 cases b
 ·exact I.tuple_inj h g
 ·exact I.list_inj h g
def ItzB (b1 b2:Bool) (K:Yae) (a b:Addr):It :=
  ⟨fun i H=>∃ xs ys x y,SqB b1 K H a xs/\SqB b2 K H b ys/\xs[i]?=some x/\ys[i]?=some y,
   fun i H z H'=>∃ p x y,H p=none/\z=.ref p/\H'=upd H p (.tup [x,y])/\(∀ xs,SqB b1 K H a xs->xs[i]?=some x)/\∀ ys,SqB b2 K H b ys->ys[i]?=some y,
   fun i H=>∃ xs ys,SqB b1 K H a xs/\SqB b2 K H b ys/\(xs.length<=i∨ys.length<=i)⟩
end L2
namespace L2
open PySem PySem.Spec PyProof.Rows PySem.SeqAt
def ZkL (b1 b2:Bool) (z TI TO i1 i2 l1 l2:Addr) (i:Nat) (h:Heap):Prop:=IsZip h z TI TO .none/\IsPair h TI (.ref i1) (.ref i2)/\(∃ a b,IsPair h TO a b)/\HIt b1 h i1 l1 i/\HIt b2 h i2 l2 i
theorem Zhx {P:Program}{w:World}{K:Yae}{es:List Expr}{x1}{pos:Pos}{b1 b2:Bool}{z TI TO i1 i2 l1 l2:Addr} (D:ZipApart z TI TO i1 i2 l1 l2):Turn P w K (.Tuple es x1 pos) (ItzB b1 b2 K l1 l2) [z,TI,TO,i1,i2] z (ZkL b1 b2 z TI TO i1 i2 l1 l2) where
 mem:=by simp
 obj:=fun i h st b hb=>by
  obtain⟨h1,h2,⟨a,c,h3⟩,h4,h5⟩:=st;simp only[Yay,YbK,or_false] at hb;rcases hb with rfl | rfl | rfl | rfl | rfl
  ·exact⟨_,h1,fun v q=>nomatch q⟩
  ·exact⟨_,h2,fun v q=>nomatch q⟩
  ·exact⟨_,h3,fun v q=>nomatch q⟩
  ·exact h4.obj
  ·exact h5.obj
 keep:=fun i h h' st k=>by
  obtain⟨h1,h2,⟨a,c,h3⟩,h4,h5⟩:=st;exact⟨k z (by simp) _ h1,k TI (by simp) _ h2,⟨a,c,k TO (by simp) _ h3⟩,h4.at fun o q=>k i1 (by simp) o q,h5.at fun o q=>k i2 (by simp) o q⟩
 item:=by
  intro X hP hw hK hc i pins s σ H E I hf st hg;subst hP hw hK;obtain⟨xs,ys,x,y,hq1,hq2,hx,hy⟩:=hg;obtain⟨its,rv,p⟩:=hq1.heap I;obtain⟨its2,rv2,p2⟩:=hq2.heap I;obtain⟨u,hu,ru⟩:=rv.get hx;obtain⟨u2,hu2,ru2⟩:=rv2.get hy;obtain⟨s1,s2,⟨a,c,s3⟩,s4,s5⟩:=id st;refine Ze6 D s1 s2 s3 s4 s5 p p2 (x:=u) (y:=u2) (by simpa using hu) (by simpa using hu2) fun h' g1 g2 g3 g4 g5 g6 hk=>?_;refine⟨_,rfl,?_⟩;refine wpAny_letOwnedTupleGo_zip g1 fun h'' he hs=>?_;have live:∀ b∈[z,TI,TO,i1,i2],b<s.heap.objs.size:=fun b hb=>by
   obtain⟨h1,h2,⟨a,c,h3⟩,h4,h5⟩:=st;obtain⟨o4,e4,_⟩:=h4.obj;obtain⟨o5,e5,_⟩:=h5.obj;simp only[Yay,YbK,or_false] at hb;rcases hb with rfl | rfl | rfl | rfl | rfl
   ·exact Yai h1
   ·exact Yai h2
   ·exact Yai h3
   ·exact Yai e4
   ·exact Yai e5
  have hsz:s.heap.objs.size≠z:=Ybx (live z (by simp));have k:∀ b o,b ∉ [z,TI,TO,i1,i2]->s.heap.get? b=some o->h''.get? b=some o:=fun b o hb q=>by
   simp only[Yay,YbK,or_false,not_or] at hb;exact (hs.2 b hb.1).trans (hk b o hb.1 hb.2.2.1 hb.2.2.2.1 hb.2.2.2.2 q)
  have st':ZkL b1 b2 z TI TO i1 i2 l1 l2 (i+1) h'':=by
   refine⟨he,(hs.2 TI D.TIz).trans (hk TI _ D.TIz D.TITO D.TIi1 D.TIi2 s2),⟨u,u2,(hs.2 TO D.TOz).trans g2⟩,?_,?_⟩
   ·exact g3.ext hs.extBut D.i1z
   ·exact g4.ext hs.extBut D.i2z
  have th:∀ b∈[z,TI,TO,i1,i2],∃ o,h''.get? b=some o:=fun b hb=>by
   obtain⟨h1,h2,⟨a,c,h3⟩,h4,h5⟩:=st';obtain⟨o4,e4,_⟩:=h4.obj;obtain⟨o5,e5,_⟩:=h5.obj;simp only[Yay,YbK,or_false] at hb;rcases hb with rfl | rfl | rfl | rfl | rfl
   ·exact⟨_,h1⟩
   ·exact⟨_,h2⟩
   ·exact⟨_,h3⟩
   ·exact⟨_,e4⟩
   ·exact⟨_,e5⟩
  have fresh:H s.heap.objs.size=none:=I.hok.fresh (Yak _);refine⟨.ref s.heap.objs.size,_,I.pairOut (fp:=[z,TI,TO,i1,i2]) (tk:=s.toks) hf k ((hs.2 _ hsz).trans g5) live th ru ru2,rfl,⟨s.heap.objs.size,x,y,fresh,rfl,rfl,fun ys hy=>by rw[hy.inj I hq1];exact hx,fun zs hz=>by rw[hz.inj I hq2];exact hy⟩,st',fun b hb=>?_⟩;rw[upd_ne (YaB (live b hb))];exact (hf b hb).1
 done:=by
  intro X hP hw hK hc i pins s σ H E I hf st hg;subst hP hw hK;obtain⟨xs,ys,hq1,hq2,hx⟩:=hg;obtain⟨its,rv,p⟩:=hq1.heap I;obtain⟨its2,rv2,p2⟩:=hq2.heap I;obtain⟨s1,s2,⟨a,c,s3⟩,s4,s5⟩:=st;have e1:=rv.length;have e2:=rv2.length;refine ZfY (I.ok.hd hc) D s1 s2 s3 s4 s5 p p2 (by rcases hx with q | q;exact .inl (by simp;(clear e2;omega));exact .inr (by simp;(clear e1;omega))) fun h' hk=>⟨rfl,I.turnedAll (fp:=[z,TI,TO,i1,i2]) (tk:=s.toks) hf fun b o hb q=>?_⟩
  simp only[Yay,YbK,or_false,not_or] at hb;exact hk b o hb.1 hb.2.2.1 hb.2.2.2.1 hb.2.2.2.2 q
 self:=fun _ _ _ _ _ st h=>wpAny_pyIter_zip st.1 h
def Zn9 (K:Yae) (ta:TA):TI:=fun σ H R=>ta σ H fun vs H1=>∃ b1 b2 a b,vs=[.ref a,.ref b]/\(∃ xs,SqB b1 K H1 a xs)/\(∃ ys,SqB b2 K H1 b ys)/\R (ItzB b1 b2 K a b) H1
theorem Zf1 {X:Cx}{es:List Expr}{x1}{tpos:Pos}{e f:Expr}{ta:TA}{p pos:Pos} (hg:Gl X "zip") (hm:X.mg "zip"=none) (ha:PA X [e,f] ta) (hs:starEach [e,f] X.env=[(false,eval e X.env),(false,eval f X.env)]:=by rfl) (hs2:starEach [f] X.env=[(false,eval f X.env)]:=by rfl) :
  PI X (.Tuple es x1 tpos) (.Call (.Name "zip" p) [e,f] [] pos) (Zn9 X.K ta):=by
 intro pins s σ H R I h;refine Call_ (Zd3 I hg hm (show bootBuiltins "zip"=some (.type "zip") by decide +kernel) (YbT (thn (ha pos pins s σ H _ I h) fun us s1 ⟨vs,H1,I1,r1,q1⟩=>?_) (by rw[hs,hs2]) (by rw[hs2];rfl)));obtain⟨b1,b2,a,b,e1,⟨xs,hq⟩,⟨ys,hq2⟩,q⟩:=q1;subst e1;obtain⟨u,u2,rfl,r,r2⟩:=ZjE r1;cases r;cases r2;obtain⟨its,rv,pl⟩:=hq.heap I1;obtain⟨its2,rv2,pl2⟩:=hq2.heap I1;have la:=pl.lt;have lb:=pl2.lt;have ne:∀ {i j:Nat},i≠j->s1.heap.objs.size+i≠s1.heap.objs.size+j:=fun h z=>h (Nat.add_left_cancel z);have nl:∀ {c:Addr} (i:Nat),c<s1.heap.objs.size->c≠s1.heap.objs.size+i:=fun i h=>YaB (Yaj h (Nat.le_add_right _ _));refine Zjr pl pl2 fun h' g1 g2 g3 g4 g5 k=>wpAny_pyIter_zip g1 ?_;have D:ZipApart (s1.heap.objs.size+4) (s1.heap.objs.size+2) (s1.heap.objs.size+3) (s1.heap.objs.size+0) (s1.heap.objs.size+1) a b :=
  ⟨ne (by decide),ne (by decide),ne (by decide),ne (by decide),ne (by decide),ne (by decide),ne (by decide),ne (by decide),ne (by decide),ne (by decide),nl 4 la,nl 3 la,nl 0 la,nl 1 la,nl 4 lb,nl 3 lb,nl 0 lb,nl 1 lb⟩
 refine⟨s1.heap.objs.size+4,[s1.heap.objs.size+4,s1.heap.objs.size+2,s1.heap.objs.size+3,s1.heap.objs.size+0,s1.heap.objs.size+1],_,_,H1,rfl,I1.kept (t':=s1.toks) k,Zhx D,⟨g1,g2,⟨_,_,g3⟩,g4,g5⟩,fun c hc=>?_,q⟩;have ge:s1.heap.objs.size<=c:=by
  simp only[Yay,YbK,or_false] at hc;rcases hc with rfl | rfl | rfl | rfl | rfl <;> exact Nat.le_add_right _ _
 exact I1.fpOk ge (I1.hok.fresh ge)
end L2
namespace L2
open PySem PySem.Spec PyProof.Rows PySem.SeqAt
theorem Zj9 (K:Yae) {X:Cx} (hK:X.K=K:=by rfl):OpR X (binaryOp .Add) (ZmY K):=by subst hK;exact ZlT
theorem Zbm (K:Yae) {X:Cx} (hK:X.K=K:=by rfl):ZbD X (.builtin "len") (fun xs H Q=>∃ p ys,xs=[.ref p]/\(SqL K H p ys∨SqT K H p ys)/\Q (.int ys.length) H):=by subst hK;exact ZaN
theorem CompOk.bare {X:Cx}{scope:Scope}{own:List Str} (h:((scope.kind == .function) && scope.names.all fun y=>(y.2 != .cell) && (y.2 != .free) && ((y.2 != .local) || (scope.names.lookup y.1 == some .local)))=true):CompOk X scope own []:=by
 simp only[YbZ,beq_iff_eq,YbH,Bool.or_eq_true,bne_iff_ne,ne_eq] at h;obtain⟨h1,h2⟩:=h;refine⟨h1,fun y hy=>(h2 y hy).1.1,fun y hy hf=>absurd hf (h2 y hy).1.2,fun y hy hl=>?_,fun j hj=>by cases hj⟩;rcases (h2 y hy).2 with z | z
 ·exact absurd hl z
 ·exact z
section
variable {X:Cx}
def LLs (H:Hp) (rs:List Addr) (N:List (List Int)):Prop:=rs.length=N.length/\∀ (j:Nat) r xs,rs[j]?=some r->N[j]?=some xs->H r=some (.lst (xs.map V.int))
def TTs (H:Hp) (rs:List Addr) (N:List (List Int)):Prop:=rs.length=N.length/\∀ (j:Nat) r xs,rs[j]?=some r->N[j]?=some xs->H r=some (.tup (xs.map V.int))
theorem LLs.same {H H':Hp}{rs:List Addr}{N:List (List Int)} (h:LLs H rs N) (s:Same H H'):LLs H' rs N:=⟨h.1,fun j r xs a b=>s _ _ (h.2 j r xs a b)⟩
theorem TTs.same {H H':Hp}{rs:List Addr}{N:List (List Int)} (h:TTs H rs N) (s:Same H H'):TTs H' rs N:=⟨h.1,fun j r xs a b=>s _ _ (h.2 j r xs a b)⟩
theorem TTs.lst {H:Hp}{rs:List Addr}{N:List (List Int)}{acc:Addr}{ys zs:List V} (h:TTs H rs N) (e:H acc=some (.lst zs)):TTs (upd H acc (.lst ys)) rs N:=⟨h.1,fun j r xs a b=>by
 have:=h.2 j r xs a b;rw[upd_ne (by intro z;subst z;rw[e] at this;cases this)];exact this⟩
theorem LLs.lst {H:Hp}{rs:List Addr}{N:List (List Int)}{acc:Addr}{ys:List V} (h:LLs H rs N) (e:acc ∉ rs):LLs (upd H acc (.lst ys)) rs N:=⟨h.1,fun j r xs a b=>by
 rw[upd_ne (by intro z;subst z;exact e (Yah a))];exact h.2 j r xs a b⟩
theorem Zbd {α:Type}{xs:List α}{x y:α}{j:Nat} (h:(xs++[x])[j]?=some y):xs[j]?=some y∨(j=xs.length/\y=x):=by
 by_cases hj:j<xs.length
 ·rw[YaK hj] at h;exact .inl h
 ·rw[YaA (by omega)] at h;have:j - xs.length=0:=by
   cases e:j - xs.length with
   | zero=>rfl
   | succ m=>rw[e] at h;simp at h
  rw[this] at h;exact .inr ⟨by omega,by simpa using h.symm⟩
theorem TTs.snoc {H:Hp}{rs:List Addr}{N:List (List Int)}{r:Addr}{x:List Int} (h:TTs H rs N) (e:H r=some (.tup (x.map V.int))):TTs H (rs++[r]) (N++[x]):=⟨by simp[h.1],fun j r' xs a b=>by
 rcases Zbd a with a | ⟨a,rfl⟩
 ·rcases Zbd b with b | ⟨b,_⟩
  ·exact h.2 j r' xs a b
  ·have:=(Yab.mp a).1;have:=h.1;omega
 ·rcases Zbd b with b | ⟨_,rfl⟩
  ·have:=(Yab.mp b).1;have:=h.1;omega
  ·exact e⟩
theorem LLs.snoc {H:Hp}{rs:List Addr}{N:List (List Int)}{r:Addr}{x:List Int} (h:LLs H rs N) (e:H r=some (.lst (x.map V.int))):LLs H (rs++[r]) (N++[x]):=⟨by simp[h.1],fun j r' xs a b=>by
 rcases Zbd a with a | ⟨a,rfl⟩
 ·rcases Zbd b with b | ⟨b,_⟩
  ·exact h.2 j r' xs a b
  ·have:=(Yab.mp a).1;have:=h.1;omega
 ·rcases Zbd b with b | ⟨_,rfl⟩
  ·have:=(Yab.mp b).1;have:=h.1;omega
  ·exact e⟩
theorem Zev {rs:List Addr}{us:List Value} (r:Vals (rs.map V.ref) us) {j:Nat}{a:Addr} (h:rs[j]?=some a):us[j]?=some (.ref a):=by
 obtain⟨u,hu,ru⟩:=r.get (x:=V.ref a) (i:=j) (by rw[Yag,h];rfl);cases ru;exact hu
def ZnY (K:Yae):R2:=fun x y H Q=>∃ (a b:Addr) (rs qs:List Addr) (N:List (List Int)),x=.ref a/\y=.ref b/\SqL K H a (rs.map V.ref)/\SqL K H b (qs.map V.ref)/\LLs H rs N/\LLs H qs N/\Q (.bl false) H
def ZnX (K:Yae):R2:=fun x y H Q=>∃ (a b:Addr) (rs qs:List Addr) (N:List (List Int)),x=.ref a/\y=.ref b/\SqT K H a (rs.map V.ref)/\SqT K H b (qs.map V.ref)/\TTs H rs N/\TTs H qs N/\Q (.bl false) H
theorem Zct (n:Nat):((YaH n).all fun _=>true)=true:=by simp
theorem ZlQ (hu:X.A.units+1<cLine):OpR X (compareOp .NotEq) (ZnY X.K):=by
 intro pins s σ H x y v u Q I rx ry h;obtain⟨a,b,rs,qs,N,rfl,rfl,ha,hb,h1,h2,q⟩:=h;cases rx;cases ry;obtain⟨i1,v1,p1,_⟩:=I.list ha;obtain⟨i2,v2,p2,_⟩:=I.list hb;have z1:i1.toArray.size=rs.length:=by rw[Yal,<- v1.length,Yaa]
 have z2:i2.toArray.size=qs.length:=by rw[Yal,<- v2.length,Yaa]
 refine RcNeAt.lists (e:=fun _=>true) p1.isList p2.isList (by rw[z1,z2,h1.1,h2.1]) (by (clear z2 z1;omega)) (fun j g1 g2=>?_) _ _ _ _ ?_
 ·have j1:j<rs.length:=by rw[<- z1];exact g1
  have j2:j<qs.length:=by rw[<- z2];exact g2
  have jN:j<N.length:=by rw[<- h1.1];exact j1
  have e1:=Zev v1 (Yac j1);have e2:=Zev v2 (Yac j2);have f1:i1.toArray[j]=.ref rs[j]:=by simpa using (Yab.mp e1).2
  have f2:i2.toArray[j]=.ref qs[j]:=by simpa using (Yab.mp e2).2
  rw[f1,f2];by_cases hne:rs[j]=qs[j]
  ·rw[hne];exact EqAt.same _
  ·obtain⟨k1,w1,l1,_⟩:=I.list (SqL.of (K:=X.K) (h1.2 j _ _ (Yac j1) (Yac jN)));obtain⟨k2,w2,l2,_⟩:=I.list (SqL.of (K:=X.K) (h2.2 j _ _ (Yac j2) (Yac jN)));have y1:k1.toArray.size=N[j].length:=by rw[Yal,<- w1.length,Yaa]
   have y2:k2.toArray.size=N[j].length:=by rw[Yal,<- w2.length,Yaa]
   refine EqAt.of_refs hne ?_;have:=RcAt.lists (A:=X.A.in1) (s:=s) (e:=fun _=>true) l1.isList l2.isList (by rw[y1,y2]) hu (fun m h1 h2=>by
    obtain⟨t1,e1⟩:=ZbM w1 h1;obtain⟨t2,e2⟩:=ZbM w2 h2;rw[e1,e2];have:=Yes (A:=X.A.in1.in1) (s:=s) (N[j].getD m 0) t1 (N[j].getD m 0) t2;rw[beq_self_eq_true] at this;exact this)
   rw[Zct] at this;exact this
 ·rw[Zct];exact⟨.bl false,H,I,rfl,q⟩
theorem ZlP (hu:X.A.units+1<cLine):OpR X (compareOp .NotEq) (ZnX X.K):=by
 intro pins s σ H x y v u Q I rx ry h;obtain⟨a,b,rs,qs,N,rfl,rfl,ha,hb,h1,h2,q⟩:=h;cases rx;cases ry;obtain⟨i1,v1,p1,_⟩:=I.tuple ha;obtain⟨i2,v2,p2,_⟩:=I.tuple hb;have z1:i1.toArray.size=rs.length:=by rw[Yal,<- v1.length,Yaa]
 have z2:i2.toArray.size=qs.length:=by rw[Yal,<- v2.length,Yaa]
 refine RcNeAt.tuples (e:=fun _=>true) (show s.heap.IsTuple a i1.toArray from p1) (show s.heap.IsTuple b i2.toArray from p2) (by (clear z2 z1;omega)) (fun j g1 g2=>?_) _ _ _ _ ?_
 ·have j1:j<rs.length:=by rw[<- z1];exact g1
  have j2:j<qs.length:=by rw[<- z2];exact g2
  have jN:j<N.length:=by rw[<- h1.1];exact j1
  have e1:=Zev v1 (Yac j1);have e2:=Zev v2 (Yac j2);have f1:i1.toArray[j]=.ref rs[j]:=by simpa using (Yab.mp e1).2
  have f2:i2.toArray[j]=.ref qs[j]:=by simpa using (Yab.mp e2).2
  rw[f1,f2];by_cases hne:rs[j]=qs[j]
  ·rw[hne];exact EqAt.same _
  ·obtain⟨k1,w1,l1,_⟩:=I.tuple (SqT.of (K:=X.K) (h1.2 j _ _ (Yac j1) (Yac jN)));obtain⟨k2,w2,l2,_⟩:=I.tuple (SqT.of (K:=X.K) (h2.2 j _ _ (Yac j2) (Yac jN)));have y1:k1.toArray.size=N[j].length:=by rw[Yal,<- w1.length,Yaa]
   have y2:k2.toArray.size=N[j].length:=by rw[Yal,<- w2.length,Yaa]
   refine EqAt.of_refs hne ?_;have:=RcAt.tuples (A:=X.A.in1) (s:=s) (e:=fun _=>true) (show s.heap.IsTuple rs[j] k1.toArray from l1) (show s.heap.IsTuple qs[j] k2.toArray from l2) hu (fun m h1 h2=>by
    obtain⟨t1,e1⟩:=ZbM w1 h1;obtain⟨t2,e2⟩:=ZbM w2 h2;rw[e1,e2];have:=Yes (A:=X.A.in1.in1) (s:=s) (N[j].getD m 0) t1 (N[j].getD m 0) t2;rw[beq_self_eq_true] at this;exact this)
   rw[y1,y2,Zct] at this;simpa using this
 ·rw[z1,z2,h1.1,h2.1,Zct];simp only[beq_self_eq_true,Bool.and_true,YcN];exact⟨.bl false,H,I,rfl,q⟩
end
end L2
namespace L2
open PySem PySem.Spec PyProof.Rows
mutual
inductive RdN (H:Hp):V->PyData->Prop
 | non:RdN H .non .none
 | bl (b:Bool):RdN H (.bl b) (.bool b)
 | int (i:Int):RdN H (.int i) (.int i)
 | str (x:Str):RdN H (.str x) (.str x)
 | lst {a:Addr}{xs:List V}{ds:List PyData}:H a=some (.lst xs)->RdL H xs ds->RdN H (.ref a) (.list ds)
 | tup {a:Addr}{xs:List V}{ds:List PyData}:H a=some (.tup xs)->RdL H xs ds->RdN H (.ref a) (.tuple ds)
inductive RdL (H:Hp):List V->List PyData->Prop
 | nil:RdL H [] []
 | cons {x:V}{xs:List V}{d:PyData}{ds:List PyData}:RdN H x d->RdL H xs ds->RdL H (x::xs) (d::ds)
end
section
variable {P:Program}{w:World}{H:Hp}{h:Heap}
mutual
theorem RdN.reads (ok:HOk P w H h):∀ {v:V}{d:PyData},RdN H v d->∀ {u:Value},RelV v u->∃ as,Reads h u d as
 | _,_,.non,u,r=>by cases (show u=Ycp from r);exact⟨_,.none⟩
 | _,_,.bl b,u,r=>by cases (show u=Yd4 b from r);exact⟨_,.bool b⟩
 | _,_,.int i,u,r=>by obtain⟨t,z⟩:=(show ∃ t,u=YdF i t from r);cases z;exact⟨_,.int i t⟩
 | _,_,.str x,u,r=>by obtain⟨t,z⟩:=(show ∃ t,u=YdE x t from r);cases z;exact⟨_,.str x t⟩
 | _,_,.lst (a:=a) (xs:=xs) e q,u,r=>by
  cases (show u=Ybd a from r);obtain⟨_,its,n,rv,g⟩:=(show ObjOk P w H h a (.lst xs) from ok a _ e)
  obtain⟨as,z⟩:=RdL.reads ok q rv;exact⟨_,.list g rfl rfl (by simpa using z)⟩
 | _,_,.tup (a:=a) (xs:=xs) e q,u,r=>by
  cases (show u=Ybd a from r);obtain⟨_,its,rv,o,g1,g2,_,n,g4⟩:=(show ObjOk P w H h a (.tup xs) from ok a _ e)
  obtain⟨as,z⟩:=RdL.reads ok q rv;exact⟨_,.tuple g1 g2 g4 (by simpa using z)⟩
theorem RdL.reads (ok:HOk P w H h):∀ {xs:List V}{ds:List PyData},RdL H xs ds->∀ {us:List Value},Vals xs us->∃ as,ReadsAll h us ds as
 | _,_,.nil,us,r=>by cases r;exact⟨_,.nil⟩
 | _,_,.cons p q,us,r=>by
  cases r with
  | cons r1 r2=>
   obtain⟨as,z1⟩:=RdN.reads ok p r1;obtain⟨bs,z2⟩:=RdL.reads ok q r2;exact⟨_,.cons z1 z2⟩
end
end
section
variable {X:Cx}
end
end L2
namespace L2
open PySem PySem.Spec PyProof.Rows PySem.SeqAt
inductive TyS (H:Hp):V->Value->Prop
 | int (i:Int):TyS H (.int i) (.type "int")
 | bl (b:Bool):TyS H (.bl b) (.type "bool")
 | lst {a:Addr}{xs:List V} (e:H a=some (.lst xs)):TyS H (.ref a) (.type "list")
 | tup {a:Addr}{xs:List V} (e:H a=some (.tup xs)):TyS H (.ref a) (.type "tuple")
section
variable {X:Cx}
end
end L2
namespace L2
open PySem PySem.Spec PyProof.Rows PySem.SeqAt
section
variable {X:Cx}
end
theorem Zji {b1 b2:Bool}{K:Yae}{own:List Str}{js:List Nat}{g:TG}{tt:TT}{te:TE}{σ:St}{H1:Hp}{Q:VK}{a b:Addr}{xs ys:List V} (hlen:ys.length<=xs.length) (Pv:Addr->Nat->Hp->Prop) (h0:∀ acc,H1 acc=none->Pv acc 0 (upd H1 acc (.lst [])))
  (hl:∀ acc i H,H1 acc=none->i<=ys.length->Pv acc i H->SqB b1 K H a xs/\SqB b2 K H b ys)
  (hs:∀ acc i x y p H,H1 acc=none->xs[i]?=some x->ys[i]?=some y->Pv acc i H->H p=none->g (.ref p) (blkσ own js σ) (upd H p (.tup [x,y])) fun τ H4=>tt τ H4 fun c H5=>
   if c=true then te τ H5 fun y H6=>∃ zs,H6 acc=some (.lst zs)/\zs.length<sizeLine/\(i+1<=ys.length/\Pv acc (i+1) (upd H6 acc (.lst (zs++[y])))) else (i+1<=ys.length/\Pv acc (i+1) H5))
  (hd:∀ acc H,H1 acc=none->Pv acc ys.length H->Q (.ref acc) H):Za0 own js g tt te σ (ItzB b1 b2 K a b) H1 Q:=by
 intro acc hacc;refine⟨fun i H=>i<=ys.length/\Pv acc i H,ys.length,⟨YaT _,h0 acc hacc⟩,?_⟩;rintro i H ⟨hi,p⟩;obtain⟨q1,q2⟩:=hl acc i H hacc hi p;by_cases hlt:i<ys.length
 ·have hl2:i<xs.length:=by (clear hi;omega)
  refine .inr ⟨hlt,⟨xs,ys,xs[i],ys[i],q1,q2,by simp[hl2],by simp[hlt]⟩,fun x H' y=>?_⟩;obtain⟨pa,z1,z2,hp,e1,e2,y1,y2⟩:=y;subst e1 e2;exact hs acc i z1 z2 pa H hacc (y1 xs q1) (y2 ys q2) p hp
 ·have e:i=ys.length:=by (clear hlen;omega)
  subst e;exact .inl ⟨⟨xs,ys,q1,q2,.inr (Yak _)⟩,hd acc H hacc p⟩
end L2
namespace L2
open PySem PySem.Spec PyProof.Rows PySem.SeqAt
section
variable {prog:Program}{w:World}{A:Around}{E:Value->Shared->Prop}{s:Shared}
end
section
variable {X:Cx}
end
theorem Zhn {b:Bool}{K:Yae}{own:List Str}{js:List Nat}{g:TG}{tt:TT}{te:TE}{σ:St}{H1:Hp}{Q:VK}{a:Addr}{xs:List V} (Pv:Addr->Nat->Hp->Prop) (h0:∀ acc,H1 acc=none->Pv acc 0 (upd H1 acc (.lst []))) (hl:∀ acc i H,H1 acc=none->i<=xs.length->Pv acc i H->SqB b K H a xs)
  (hs:∀ acc i x p H,H1 acc=none->xs[i]?=some x->Pv acc i H->H p=none->g (.ref p) (blkσ own js σ) (upd H p (.tup [.int i,x])) fun τ H4=>tt τ H4 fun c H5=>
   if c=true then te τ H5 fun y H6=>∃ ys,H6 acc=some (.lst ys)/\ys.length<sizeLine/\(i+1<=xs.length/\Pv acc (i+1) (upd H6 acc (.lst (ys++[y])))) else (i+1<=xs.length/\Pv acc (i+1) H5))
  (hd:∀ acc H,H1 acc=none->Pv acc xs.length H->Q (.ref acc) H):Za0 own js g tt te σ (IteB b K a) H1 Q:=by
 intro acc hacc;refine⟨fun i H=>i<=xs.length/\Pv acc i H,xs.length,⟨YaT _,h0 acc hacc⟩,?_⟩;rintro i H ⟨hi,p⟩;have q:=hl acc i H hacc hi p;by_cases hlt:i<xs.length
 ·refine .inr ⟨hlt,by cases b <;> exact⟨xs,xs[i],q,by simp[hlt]⟩,fun x H' y=>?_⟩;have y:∃ pa z,H pa=none/\x=.ref pa/\H'=upd H pa (.tup [.int i,z])/\xs[i]?=some z:=by
   cases b with
   | true=>obtain⟨pa,z,hp,e1,e2,y⟩:=y;exact⟨pa,z,hp,e1,e2,y xs q⟩
   | false=>obtain⟨pa,z,hp,e1,e2,y⟩:=y;exact⟨pa,z,hp,e1,e2,y xs q⟩
  obtain⟨pa,z,hp,e1,e2,y'⟩:=y;subst e1 e2;exact hs acc i z pa H hacc y' p hp
 ·have e:i=xs.length:=by omega
  subst e;exact .inl ⟨by cases b <;> exact⟨xs,q,Yak _⟩,hd acc H hacc p⟩
end L2
namespace Lv
open PySem L2
theorem Zm0 {X:Cx}{x:Str}{T:String}{pos:Pos} (hg:Gl X x) (hm:X.mg x=none) (hv:bootBuiltins x=some (.type T)) (hn:x≠"__name__":=by decide) (hd:(x == ("__debug__":Str))=false:=by decide):PE X (.Name x pos) (tC (.ty T)) :=
 ZlN hg hm hv rfl hn hd
theorem Zf2 {X:Cx}{x:Str}{i:Int}{t:Tok}{pos:Pos} (hg:Gl X x) (hm:X.mg x=some (.int i t)) (hd:(x == ("__debug__":Str))=false:=by decide):PE X (.Name x pos) (tC (.int i)) :=
 Zig hg hm ⟨t,rfl⟩ hd
structure Txt (mg:Str->Option Value):Prop where
 isinstance:mg "isinstance"=none
 int:mg "int"=none
 bool:mg "bool"=none
 list:mg "list"=none
 tuple:mg "tuple"=none
 min:mg "min"=none
 max:mg "max"=none
 len:mg "len"=none
 range:mg "range"=none
 all:mg "all"=none
 sum:mg "sum"=none
 sorted:mg "sorted"=none
 zip:mg "zip"=none
theorem ZcP:bootBuiltins "isinstance"=some (.builtin "isinstance"):=by decide +kernel
theorem Zoe:bootBuiltins "int"=some (.type "int"):=by decide +kernel
theorem ZnF:bootBuiltins "bool"=some (.type "bool"):=by decide +kernel
theorem ZnD:bootBuiltins "list"=some (.type "list"):=by decide +kernel
theorem ZbR:bootBuiltins "tuple"=some (.type "tuple"):=by decide +kernel
theorem Zod:bootBuiltins "min"=some (.builtin "min"):=by decide +kernel
theorem Zmq:bootBuiltins "max"=some (.builtin "max"):=by decide +kernel
theorem Zof:bootBuiltins "all"=some (.builtin "all"):=by decide +kernel
theorem Zgl:bootBuiltins "sum"=some (.builtin "sum"):=by decide +kernel
theorem Zbp:bootBuiltins "sorted"=some (.builtin "sorted"):=by decide +kernel
theorem Zf6 {K:Yae}:Yc7 K (.type "int") (.type "int")=some true:=by rfl
theorem Zfi {K:Yae}:Yc7 K (.type "int") (.type "bool")=some false:=by with_unfolding_all rfl
structure Cal (P:Program) (w:World) (K:Yae) (mg:Str->Option Value) (base:Heap) (k:Nat) (x:Str) (ps:List Str) (sp:Sp) (f:Addr) (fd:FuncData):Prop where
 ok:FnOk P w K mg base CX0 k f fd ps sp
 mg:mg x=some (.ref f)
 kp:Yaq K (.ref f)=true
 bd:Binds K fd ps []
theorem Zao {X:Cx}{k:Nat}{x:Str}{ps:List Str}{sp:Sp}{f:Addr}{fd:FuncData}{e:Expr}{es:List Expr}{t:TA}{p pos:Pos} (C:Cal X.prog X.w X.K X.mg X.base k x ps sp f fd) (hr:Room k X.A) (hg:Gl X x) (ha:PA X (e::es) t)
  (hdb:(x == ("__debug__":Str))=false:=by decide) (he:starEach (e::es) X.env=(false,eval e X.env)::starEach es X.env:=by rfl) (hpl:(backTo pos (starEach es X.env)).any (·.1)=false:=by rfl) :
  PE X (.Call (.Name x p) (e::es) [] pos) (ZjJ sp [] E0 t):=Zih C.ok hr hg C.mg C.kp C.bd .nil ZlO ha hdb he hpl
theorem ZeC (K:Yae) {X:Cx} (hK:X.K=K:=by rfl):IxR X (rIxL K):=by subst hK;exact ZaA
theorem Zmb (K:Yae) {X:Cx} (hK:X.K=K:=by rfl):IxR X (rIxT K):=by subst hK;exact Zdl
theorem Zbr {xs:List Int}{i:Nat}{x:V} (h:(xs.map V.int)[i]?=some x):∃ p,xs[i]?=some p/\x=.int p:=by
 rw[Yag] at h
 cases e:xs[i]? with
 | none=>rw[e] at h;cases h
 | some p=>rw[e] at h;exact⟨p,rfl,(Yax h).symm⟩
theorem _root_.L2.Same.new {q:Addr}{H:Hp}{o:HO} (h:H q=none):Same H (upd H q o):=fun b u e=>by rw[upd_ne (Zae e h)];exact e
theorem _root_.L2.Same.put {q:Addr}{H H':Hp}{o:HO} (s:Same H H') (h:H q=none):Same H (upd H' q o):=fun b u e=>by rw[upd_ne (Zae e h)];exact s b u e
theorem _root_.L2.Same.tup {K:Yae}{H H':Hp}{a:Addr}{xs:List V} (e:Same H H') (h:SqT K H a xs):SqT K H' a xs:=by
 rcases h with (h | ⟨o,h⟩) | h
 ·exact .inl (.inl (e _ _ h))
 ·exact .inl (.inr ⟨o,e _ _ h⟩)
 ·exact .inr h
theorem ZiP {n:Nat}{x:Int} (h0:0<=x) (h1:x<n):ixN n x=some x.toNat:=by
 unfold ixN;rw[if_pos h0,if_pos h1]
theorem Zmr {fs:List Int}{x:Int} (h0:0<=x) (h1:x<fs.length):atI (fs.map V.int) x=some (.int (fs.getD x.toNat 0)):=by
 unfold atI;have hx:x.toNat<fs.length:=by omega
 rw[Yaa,ZiP h0 h1];show (fs.map V.int)[x.toNat]?=_;rw[Yag,Yac hx,Yao,Yac hx];rfl
theorem ZeR {c0:Int}{cr:List Int}:atI ((c0::cr).map V.int) 0=some (.int c0):=ZaO (j:=0) rfl
theorem cut2 {a b R:TS}{D:Ends}{σ:St}{H:Hp} (M:St->Hp->Prop) (h1:∀ R':TS,(∀ σ' H',M σ' H'->R' D σ' H')->tSeq a (tSeq b R') D σ H) (h2:∀ σ' H',M σ' H'->R D σ' H'):tSeq a (tSeq b R) D σ H:=h1 R h2
def Sm (p:Addr) (H H':Hp):Prop:=∀ b o,H b=some o->b≠p->H' b=some o
theorem Sm.trans {p:Addr}{H H1 H2:Hp} (a:Sm p H H1) (b:Sm p H1 H2):Sm p H H2:=fun c o h n=>b c o (a c o h n) n
theorem Sm.refl (p:Addr) (H:Hp):Sm p H H:=fun _ _ h _=>h
theorem Sm.of {p:Addr}{H H':Hp} (h:Same H H'):Sm p H H':=fun b o e _=>h b o e
theorem Sm.new {p q:Addr}{H:Hp}{o:HO} (h:H q=none):Sm p H (upd H q o):=fun b u e _=>by rw[upd_ne (Zae e h)];exact e
theorem Sm.put {p:Addr}{H:Hp}{o:HO}:Sm p H (upd H p o):=fun b u e n=>by rw[upd_ne n];exact e
theorem Sm.free {p q:Addr}{H H':Hp} (s:Sm p H H') (hn:q≠p) (h:H' q=none):H q=none:=by
 cases e:H q with
 | none=>rfl
 | some o=>rw[s q o e hn] at h;cases h
theorem Sm.after {p:Addr}{H H1 H2:Hp} (s:Same H H1) (m:Sm p H1 H2) (h:H p=none):Same H H2:=fun b o e=>m b o (s b o e) (Zae e h)
def Zef:Sp:=fun vs H Q _=>∃ i,vs=[.int i]/\Q (.bl true) H
theorem ZcI {m:Int} (h0:0<=m) (h1:m<2 ^ 64):YbI m<=8000:=Ybj (intBits_le_64 (by (clear h1;omega)) h1) (by decide)
def Zbn (c:List Int):List Int:=(c.tail.map (c.getD 0 0+·))++[c.getD 0 0]
def Zco (p:Nat):List Int:=1::Yaf (p - 1) 0
def cnt (p:Nat):Nat->List Int
 | 0=>Zco p
 | n+1=>Zbn (cnt p n)
theorem Ziv {c:List Int} (h:c≠[]):(Zbn c).length=c.length:=by
 cases c with
 | nil=>exact absurd rfl h
 | cons x r=>simp[Zbn]
theorem Zbs {p:Nat} (hp:1<=p):∀ n,(cnt p n).length=p
 | 0=>by simp[cnt,Zco];omega
 | n+1=>by
  have:=Zbs hp n;show (Zbn (cnt p n)).length=p;rw[Ziv (by intro z;rw[z] at this;simp at this;omega),this]
def Down (c:List Int):Prop:=c.Pairwise (· ≥ ·)/\∀ x∈c,0<=x
theorem Zi8 {c:List Int} (h:Down c):Down (Zbn c):=by
 cases c with
 | nil=>exact⟨by simp[Zbn],by intro x hx;simp[Zbn] at hx;omega⟩
 | cons a r=>
  obtain⟨h1,h2⟩:=h;have h3:=YbA.mp h1;have h0:0<=a:=h2 a (by simp);refine⟨?_,?_⟩
  ·show ((r.map (a+·))++[a]).Pairwise (· ≥ ·);rw[YaX];refine⟨?_,by simp,?_⟩
   ·rw[YbJ];exact h3.2.imp fun h=>by (clear h0 h3;omega)
   ·intro x hx y hy;obtain⟨z,hz,rfl⟩:=YaU.mp hx;have:=h2 z (by simp[hz]);have:y=a:=by simpa using hy
    (clear h0 h3;omega)
  ·show ∀ x∈(r.map (a+·))++[a],0<=x;intro x hx;rcases Yar.mp hx with hx | hx
   ·obtain⟨z,hz,rfl⟩:=YaU.mp hx;have:=h2 z (by simp[hz])
    (clear h3;omega)
   ·have:x=a:=by simpa using hx
    (clear h3;omega)
theorem ZbC (p:Nat):∀ n,Down (cnt p n)
 | 0=>by
  refine⟨?_,?_⟩
  ·show (1::Yaf (p - 1) (0:Int)).Pairwise (· ≥ ·);rw[YbA];refine⟨fun y hy=>?_,?_⟩
   ·have:=(Ydp.mp hy).2
    omega
   ·rw[List.pairwise_replicate];exact .inr (Ycv _)
  ·intro x hx;rcases Yay.mp hx with rfl | hx
   ·decide
   ·have:=(Ydp.mp hx).2
    omega
 | n+1=>Zi8 (ZbC p n)
def ZdK:Sp:=fun vs H Q _=>∃ i,vs=[.int i]/\2<=i/\i<=7/\Q .non H
def Zdb:Sp:=fun vs H Q _=>∃ p:Nat,vs=[.int p]/\2<=p/\p<=7/\∀ l H',H l=none->H' l=some (.tup ((Zco p).map V.int))->Same H H'->Q (.ref l) H'
def Ze2 (K:Yae):Sp:=fun vs H Q _=>∃ (a:Addr) (c:List Int),vs=[.ref a]/\SqT K H a (c.map V.int)/\2<=c.length/\c.length<=7/\∀ l H',H l=none->H' l=some (.tup ((Zbn c).map V.int))->Same H H'->Q (.ref l) H'
def Zen:Sp:=fun vs H Q _=>∃ p n:Nat,vs=[.int p,.int n]/\2<=p/\p<=7/\n<=300/\∀ l H',H l=none->H' l=some (.tup ((cnt p n).map V.int))->Same H H'->Q (.ref l) H'
def ZfM:Sp:=fun vs H Q _=>∃ p n:Nat,vs=[.int p,.int n]/\2<=p/\p<=7/\n<=300/\∀ H',Same H H'->Q (.int (cnt p n).sum) H'
def Zda:Sp:=fun vs H Q _=>∃ p n:Nat,vs=[.int p,.int n]/\2<=p/\p<=7/\n<=300/\∀ l H',H l=none->H' l=some (.lst ((cnt p n).map V.int))->Same H H'->Q (.ref l) H'
def ZjM (K:Yae):Sp:=fun vs H Q _=>∃ (a:Addr) (ns:List Int),vs=[.ref a]/\SqL K H a (ns.map V.int)/\ns.length<=63/\∀ H',Q (.bl true) H'
end Lv
namespace Lv
open PySem L2 PySem.Spec PyProof.Rows
structure FunD (K:Yae) (x qual:Str) (st:Stmt) (f da:Addr) (fd:FuncData):Prop where
 ex:∃ (oc:Value) (od:Option Addr) (kV doc pm:Value) (an:Option Addr) (cdv ct:Value) (osl:Array (Option Value)),
  fd=Yaw x qual (Zaj st) (Zai st) (Zac st) (.ref da) kV doc pm an cdv ct/\K.lookup f=some ⟨oc,od,.func fd,osl⟩/\Yat K cdv qual=true
 kp:Yaq K (.ref f)=true
section
variable {P:Program}{w:World}{K:Yae}{mg:Str->Option Value}{base:Heap}
theorem FunD.ok {x qual:Str}{st:Stmt}{f da:Addr}{fd:FuncData}{N ps:List Str}{k:Nat}{sp:Sp} (F:FunD K x qual st f da fd) (S:FnScope N ps (Zac st)) (len:∀ vs H Q E,sp vs H Q E->vs.length=ps.length)
  (hbody:∀ (cdv:Value) (A:Around) (outer:List Env) (s:Shared) (H:Hp) (vs:List V) (Q:VK) (E:XK),Room k (A.deeper (envOfC qual (Zac st) s.heap.objs.size f cdv))->sp vs H Q E ->
   ∃ t,PSs (cxOf CX0 P w K mg base N qual (Zac st) f cdv A outer s H E).nox (Zai st) t/\t { nx:=fun _ H'=>Q .non H',rt:=Q } (ZdA N vs) H):FnOk P w K mg base CX0 (k+1) f fd ps sp:=by
 obtain⟨oc,od,kV,doc,pm,an,cdv,ct,osl,rfl,lk,hcd⟩:=F.ex;refine Znw lk hcd S len fun A outer s H vs Q E hr hsp=>?_;obtain⟨t,h,q⟩:=hbody cdv A outer s H vs Q E hr hsp;exact⟨t,h.nox,q⟩
theorem FunD.binds {x qual:Str}{st:Stmt}{f da:Addr}{fd:FuncData}{ps:List Str}{o:Obj}{items:Array Value}{n:Nat} (F:FunD K x qual st f da fd) (ho:K.lookup da=some o) (hs:o.data=.seq items n) (ds:List Value) (qs:List Str) (hq:qs.length+ds.length=ps.length)
  (h:∀ (kV doc pm:Value) (an:Option Addr) (cdv ct:Value) (us:List Value),us.length=qs.length ->
   ∃ k:Option (Array Value)->Sem (List (Str × Value)),bindArgs (Yaw x qual (Zaj st) (Zai st) (Zac st) (.ref da) kV doc pm an cdv ct) ⟨us,[]⟩=seqItems? (.ref da) >>= k/\k (some items)=pure (ps.zip (us++ds))):Binds K fd ps ds:=by
 obtain⟨oc,od,kV,doc,pm,an,cdv,ct,osl,rfl,lk,hcd⟩:=F.ex;intro s us X hl;obtain⟨k,h1,h2⟩:=h kV doc pm an cdv ct us (by rw[Yan] at hl;omega);exact PySem.W.binds_K X rfl ho hs h1 h2
theorem Zmh {x qual:Str}{st:Stmt}{f da:Addr}{oc:Value}{od an:Option Addr}{osl:Array (Option Value)}{kV doc pm cdv ct:Value} (l:K.lookup f=some ⟨oc,od,.func (Yaw x qual (Zaj st) (Zai st) (Zac st) (.ref da) kV doc pm an cdv ct),osl⟩)
  (c:Yat K cdv qual=true) (k:Yaq K (.ref f)=true):FunD K x qual st f da (Yaw x qual (Zaj st) (Zai st) (Zac st) (.ref da) kV doc pm an cdv ct):=⟨⟨oc,od,kV,doc,pm,an,cdv,ct,osl,rfl,l,c⟩,k⟩
end
structure CalD (P:Program) (w:World) (K:Yae) (mg:Str->Option Value) (base:Heap) (k:Nat) (x:Str) (ps:List Str) (dvs:List V) (sp:Sp) (f:Addr) (fd:FuncData):Prop where
 ok:FnOk P w K mg base CX0 k f fd ps sp
 mg:mg x=some (.ref f)
 kp:Yaq K (.ref f)=true
 bd:∃ ds,Binds K fd ps ds/\Vals dvs ds
theorem Zf3 {X:Cx}{k:Nat}{x:Str}{ps:List Str}{dvs:List V}{sp:Sp}{f:Addr}{fd:FuncData}{e:Expr}{es:List Expr}{t:TA}{p pos:Pos} (C:CalD X.prog X.w X.K X.mg X.base k x ps dvs sp f fd) (hr:Room k X.A) (hg:Gl X x) (ha:PA X (e::es) t)
  (hdb:(x == ("__debug__":Str))=false:=by decide) (he:starEach (e::es) X.env=(false,eval e X.env)::starEach es X.env:=by rfl) (hpl:(backTo pos (starEach es X.env)).any (·.1)=false:=by rfl) :
  PE X (.Call (.Name x p) (e::es) [] pos) (ZjJ sp dvs E0 t):=by
 obtain⟨ds,h1,h2⟩:=C.bd;exact Zih C.ok hr hg C.mg C.kp h1 h2 ZlO ha hdb he hpl
def ZmO (j:Nat) (f:Addr) (t:TE):TE:=fun σ H Q=>σ[j]?=some (some (.ref f))/\t σ H Q
theorem Zii {X:Cx}{k:Nat}{x y:Str}{ps:List Str}{sp:Sp}{f:Addr}{fd:FuncData}{e:Expr}{es:List Expr}{t:TA}{p pos:Pos} (j:Nat) (C:Cal X.prog X.w X.K X.mg X.base k y ps sp f fd) (hr:Room k X.A) (ha:PA X (e::es) t) (hN:X.N[j]?=some x:=by rfl) (hv:Vis X.env.scope x:=by first | exact YaG rfl | exact Yc2 (YaG rfl) | exact Yc2 (Yc2 rfl))
  (hdb:(x == ("__debug__":Str))=false:=by decide) (hcd:(x == ("__classdict__":Str))=false:=by decide) (he:starEach (e::es) X.env=(false,eval e X.env)::starEach es X.env:=by rfl) (hpl:(backTo pos (starEach es X.env)).any (·.1)=false:=by rfl) :
  PE X (.Call (.Name x p) (e::es) [] pos) (ZmO j f (ZjJ sp [] E0 t)):=by
 intro pins s σ H Q I h;obtain⟨h0,h⟩:=h;refine wpAny_Call_Name_kw ?_;refine thn (Zk2 hN hv hdb hcd pins s σ H (fun v H1=>v=.ref f/\t σ H1 fun vs H2=>sp (vs++[]) H2 Q E0) I ⟨_,h0,rfl,h⟩) fun u s1 ⟨v,H1,I1,r,ev,q⟩=>?_;subst ev;obtain rfl:u=Ybd f:=r;refine Yel (h₀:=X.base) I.ok.mod.kin C.kp (thn (ha pos pins s1 σ H1 _ I1 q) fun us s2 ⟨vs,H2,I2,r2,q2⟩=>⟨I2.kIn,?_⟩) he hpl;exact ZkX C.ok hr C.bd .nil ZlO I2 r2 q2
theorem Zk4 {X:Cx}{k:Nat}{x:Str}{ps:List Str}{sp:Sp}{f:Addr}{fd:FuncData}{pos:Pos} (C:Cal X.prog X.w X.K X.mg X.base k x ps sp f fd) (hg:Gl X x) (hd:(x == ("__debug__":Str))=false:=by decide):PE X (.Name x pos) (tC (.ref f)) :=
 Zig hg C.mg rfl hd
def Zcg:Sp:=fun vs H Q _=>∃ i m,vs=[.int i,.int m]/\0<=i/\i<=m/\Q .non H
end Lv
namespace Lv
open PySem L2 PySem.Spec PyProof.Rows
end Lv
namespace Lv
open PySem L2
def hd (p n:Nat):Int:=(cnt p n).getD 0 0
def tot (p n:Nat):Int:=(cnt p n).sum
theorem ZeO {p:Nat} (hp:2<=p) (n:Nat):∃ a b r,cnt p n=a::b::r/\r.length=p - 2:=by
 have h:=Zbs (p:=p) (by omega) n
 match hc:cnt p n with
 | []=>rw[hc] at h;simp at h;omega
 | [x]=>rw[hc] at h;simp at h;omega
 | a::b::r=>rw[hc] at h;exact⟨a,b,r,rfl,by simp at h;(clear hp;omega)⟩
theorem Zfm {p:Nat} (hp:2<=p):∀ n,1<=hd p n
 | 0=>by simp[hd,cnt,Zco]
 | n+1=>by
  obtain⟨a,b,r,e,_⟩:=ZeO hp n;have ih:=Zfm hp n;have nn:=(ZbC p n).2 b (by rw[e];simp);unfold hd at ih ⊢;show 1<=(Zbn (cnt p n)).getD 0 0;rw[e] at ih ⊢;simp[Zbn] at ih ⊢
  (clear hp;omega)
theorem ZhK (c:Int):∀ r:List Int,(r.map (c+·)).sum=r.length*c+r.sum
 | []=>by simp
 | x::r=>by
  rw[Yam,YaF,ZhK c r,YaF,YaY,Int.natCast_succ,Int.add_mul];omega
theorem ZjK (a:Int) (r:List Int):(Zbn (a::r)).sum=(a::r).sum+r.length*a:=by
 show ((r.map (a+·))++[a]).sum=_;rw[YdN,ZhK,YaF,YaF,List.sum_nil];omega
theorem Zeb {p:Nat} (hp:2<=p) (n:Nat):tot p (n+1)=tot p n+(p - 1:Nat)*hd p n:=by
 obtain⟨a,b,r,e,hr⟩:=ZeO hp n;unfold tot hd;show (Zbn (cnt p n)).sum=_;rw[e,ZjK];have:(b::r).length=p - 1:=by simp;omega
 rw[this];rfl
theorem ZkP {p:Nat} (hp:2<=p) (n:Nat):tot p n+1<=tot p (n+1):=by
 rw[Zeb hp];have h1:=Zfm hp n;have h2:((1:Nat):Int)*1<=((p - 1:Nat):Int)*hd p n:=Int.mul_le_mul (by (clear h1;omega)) h1 (by decide) (by (clear h1 hp;omega))
 (clear h1 hp;omega)
theorem ZbT {p:Nat} (hp:2<=p) {m n:Nat} (h:m<=n):tot p m<=tot p n:=by
  induction n with
  | zero => have : m = 0 := by (clear hp; omega)
            subst this;exact Ycv _
  | succ n ih=>
    by_cases e:m=n+1
    · subst e;exact Ycv _
    · have:=ih (by (clear ih hp;omega));have:=ZkP hp n
      (clear e h ih hp;omega)
theorem ZkT {c:List Int} (h:∀ x∈c,0<=x):c.getD 0 0<=c.sum:=by
 cases c with
 | nil=>simp
 | cons a r=>
  have:∀ l:List Int,(∀ x∈l,0<=x)->0<=l.sum:=by
   intro l
   induction l with
   | nil=>intro _;simp
   | cons x y ih=>
    intro h;rw[YaF];have:=h x (by simp);have:=ih fun z hz=>h z (by simp[hz])
    (clear ih;omega)
  have:=this r fun x hx=>h x (by simp[hx]);rw[YaF];simp;omega
theorem ZkQ {p:Nat} (hp:2<=p) (h7:p<=7):∀ n:Nat,tot p n<=7 ^ n
 | 0=>by
  have h:∀ m:Nat,(Yaf m (0:Int)).sum=0:=fun m=>by
   induction m with
   | zero=>rfl
   | succ m ih=>rw[Ybh,YaF,ih];rfl
  simp[tot,cnt,Zco,h]
 | n+1=>by
  have ih:=ZkQ hp h7 n;have h1:hd p n<=tot p n:=ZkT (ZbC p n).2;have h0:=Zfm hp n;rw[Zeb hp,Int.pow_succ];have h2:((p - 1:Nat):Int)*hd p n<=6*tot p n:=Int.mul_le_mul (by (clear h0 h1 ih hp;omega)) h1 (by (clear h1 ih h7 hp;omega)) (by decide)
  (clear h0 h1 h7 hp;omega)
end Lv
namespace Lv
open PySem L2
theorem Zdf (K:Yae) {X:Cx}{es:List Expr}{k:Nat}{t:TGs}{n:Nat}{pos:Pos} (hc:X.calm=true) (h:PGs X es t) (hK:X.K=K:=by rfl) (hn:(assignEach es X.env).length=n:=by rfl) (hst:(assignEach es X.env).findIdx? (·.1)=none:=by rfl):PG X (.Tuple es k pos) (gTup K n t):=by
 subst hK;exact Zb2 hc h hn hst
end Lv
namespace HT
open PySem PySem.Spec PyProof.Rows
section
variable {prog:Program}{w:World}{A:Around}{E:Value->Shared->Prop}{s:Shared}
end
end HT
namespace L2
open PySem PySem.Spec PyProof.Rows PySem.SeqAt
inductive TyA (H:Hp):V->String->Prop
 | non:TyA H .non "NoneType"
 | int (i:Int):TyA H (.int i) "int"
 | bl (b:Bool):TyA H (.bl b) "bool"
 | str (x:Str):TyA H (.str x) "str"
 | lst {a:Addr}{xs:List V} (e:H a=some (.lst xs)):TyA H (.ref a) "list"
 | tup {a:Addr}{xs:List V} (e:H a=some (.tup xs)):TyA H (.ref a) "tuple"
 | dK {a:Addr}{kvs:List (Key × V)} (e:H a=some (.dK kvs)):TyA H (.ref a) "dict"
section
variable {X:Cx}
end
end L2
namespace Lv
open PySem L2
def ZdD:Int:=10000000000000000000000000000000000000000000000000000000000000
def upI:List Int->Bool
 | []=>true
 | [_]=>true
 | a::b::r=>decide (a<=b) && upI (b::r)
inductive El (H:Hp):V->Prop
 | int {z:Int} (h1:-ZdD - 2<z) (h2:z<ZdD+2):El H (.int z)
 | bl (b:Bool):El H (.bl b)
 | non:El H .non
 | str {x:Str} (h:x.length<=400) (hc:∀ c∈x.cps.toList,c<16 ^ 8):El H (.str x)
 | lst {a:Addr}{zs:List Int} (e:H a=some (.lst (zs.map V.int))) (hl:zs.length<=3) (hb:∀ z∈zs,-ZdD - 2<z/\z<ZdD+2):El H (.ref a)
 | tup {a:Addr}{zs:List Int} (e:H a=some (.tup (zs.map V.int))) (hl:zs.length<=3) (hb:∀ z∈zs,-ZdD - 2<z/\z<ZdD+2):El H (.ref a)
inductive Lf (H:Hp):V->Prop
 | non:Lf H .non
 | int (i:Int) (h:i=7):Lf H (.int i)
 | bl (b:Bool):Lf H (.bl b)
 | str (x:Str):Lf H (.str x)
 | d0 {a:Addr} (e:H a=some (.dK [])):Lf H (.ref a)
 | d1 {a:Addr} (e:H a=some (.dK [(.inl 1,.int 2)])):Lf H (.ref a)
structure Sh (d:PyData) (n:Nat):Prop where
 ok:d.showable=true
 nd:d.hasDict=false
 dp:d.depth<=1
 sz:d.shown.length<=n
end Lv
namespace L2
open PySem PySem.Spec PyProof.Rows PySem.SeqAt
section
variable {X:Cx}
end
end L2
namespace Lv
open PySem L2
def Free (N:List (List Int)) (m:List Nat) (o:Int):Prop:=0<=o/\o<N.length/\m.getD o.toNat 0≠(N.getD o.toNat []).length
instance (N:List (List Int)) (m:List Nat) (o:Int):Decidable (Free N m o):=by unfold Free;infer_instance
def Zn3 (m:List Nat) (o:Int):List Nat:=m.set o.toNat (m.getD o.toNat 0+1)
def atO (N:List (List Int)) (m:List Nat) (o:Int):Int:=(N.getD o.toNat []).getD (m.getD o.toNat 0) 0
def hold (N:List (List Int)):List Nat->List Int->List Int->Option (List Nat × List Int)
 | m,t,[]=>some (m,t)
 | m,t,o::os=>if Free N m o then hold N (Zn3 m o) (t++[atO N m o]) os else none
def InM (N:List (List Int)) (m:List Nat):Prop:=m.length=N.length/\∀ j,j<N.length->m.getD j 0<=(N.getD j []).length
end Lv
namespace Lv
open PySem L2
def lenN (N:List (List Int)):List Nat:=N.map Ycs
def opn (N:List (List Int)) (m:List Nat) (j:Nat):Bool:=decide (m.getD j 0<(N.getD j []).length)
def opnL (N:List (List Int)) (m:List Nat):List Nat:=(YaH N.length).filter (opn N m)
structure OrS (N:List (List Int)) (m:List Nat) (t os:List Int):Prop where
 hd:hold N (N.map fun _=>0) [] os=some (m,t)
 up:upI t=true
 lst:∀ l,t.getLast?=some l->∀ j∈opnL N m,l<=atO N m j
 inm:InM N m
 sm:m.sum=os.length
end Lv
namespace L2
open PySem PySem.Spec PyProof.Rows
abbrev two (elt t1 i1:Expr) (f1:List Expr) (t2 i2:Expr) (f2:List Expr) (scope:Scope) (pos:Pos):Expr:=.ListComp elt [⟨t1,i1,f1,0⟩,⟨t2,i2,f2,0⟩] scope pos
theorem Zhz (elt t1 i1:Expr) (f1:List Expr) (t2 i2:Expr) (f2:List Expr) (scope:Scope) (pos:Pos) (it acc:Value) (env:Env) :
  compTurn (two elt t1 i1 f1 t2 i2 f2 scope pos) 0 it acc env=(do
   standAt i1.pos
   match <- pyNext it with
   | none=>pure (.done .next)
   | some v=>
    letOwnedTupleGo t1 it v
    assign t1 env v
    let mut ok:=true
    for c in f1 do
     if ok then ok <- isTrue c env (eval c env)
    if ok then
     let x <- eval i2 env
     standAt i2.pos
     let x <- foldedSetIterable i2 env x
     let _ <- runOwn (.compStart (two elt t1 i1 f1 t2 i2 f2 scope pos) 1 (<- holding [x] (pyIter x)) acc env) env
    again (.compLoop (two elt t1 i1 f1 t2 i2 f2 scope pos) 0 it acc env)):=by rfl
theorem Zhy (elt t1 i1:Expr) (f1:List Expr) (t2 i2:Expr) (f2:List Expr) (scope:Scope) (pos:Pos) (it acc:Value) (env:Env) :
  compTurn (two elt t1 i1 f1 t2 i2 f2 scope pos) 1 it acc env=(do
   standAt i2.pos
   match <- pyNext it with
   | none=>pure (.done .next)
   | some v=>
    letOwnedTupleGo t2 it v
    assign t2 env v
    let mut ok:=true
    for c in f2 do
     if ok then ok <- isTrue c env (eval c env)
    if ok then
     (do let _ <- call (.builtin "list.append") [acc,<- eval elt env])
    again (.compLoop (two elt t1 i1 f1 t2 i2 f2 scope pos) 1 it acc env)):=by rfl
section
variable {prog:Program}{w:World}{A:Around}{R:Result->Shared->Prop}{s:Shared}{elt t1 i1:Expr}{f1:List Expr}{t2 i2:Expr}{f2:List Expr}{scope:Scope}{pos:Pos}{it acc:Value}{env:Env}
theorem ZiA (I:Nat->Shared->Prop)
  (turn:∀ n s,I n s->wpAny (model prog w) A (pyNext it) (fun r s₁=>match r with
   | none=>R (.ok .next) s₁
   | some v=>wpAny (model prog w) A (letOwnedTupleGo t2 it v) (fun _ s₁'=>wpAny (model prog w) A (assign t2 env v) (fun _ s₂=>
     wpAny (model prog w) A (forIn f2 true fun c r=>if r=true then do let ok <- isTrue c env (eval c env);pure (Ya6 ok) else pure (Ya6 r)) (fun ok s₃=>
      if ok=true then wpAny (model prog w) A (eval elt env) (fun x s₄=>
       wpAny (model prog w) A (call (.builtin "list.append") [acc,x]) (fun _ s₅=>∃ m,m<n/\I m s₅) (fun _ _=>False) s₄) (fun _ _=>False) s₃
      else ∃ m,m<n/\I m s₃) (fun _ _=>False) s₂) (fun _ _=>False) s₁') (fun _ _=>False) s₁) (fun _ _=>False) s)
  (n:Nat) (h:I n s):codeAny (model prog w) A (.compLoop (two elt t1 i1 f1 t2 i2 f2 scope pos) 1 it acc env) R s:=by
 refine codeAny_loop rfl I (fun n s hI=>?_) n h;show wpAny _ A ((compTurn (two elt t1 i1 f1 t2 i2 f2 scope pos) 1 it acc env).onRaise (fun x=>do noteFrame x env;theTreesLotGoes x)) _ _ s;refine wpAny_noted ?_;rw[Zhy];refine wpAny_bind (wpAny_standAt (wpAny_bind (wpAny_mono (turn n s hI) (fun r s₁ h₁=>?_) fun _ _ h'=>h'.elim)))
 cases r with
 | none=>exact wpAny_pure h₁
 | some v=>
  refine wpAny_bind (wpAny_mono h₁ (fun _ s₁' h₁=>?_) fun _ _ h'=>h'.elim);refine wpAny_bind (wpAny_mono h₁ (fun _ s₂ h₂=>wpAny_bind (wpAny_mono h₂ (fun ok s₃ h₃=>?_) fun _ _ h'=>h'.elim)) fun _ _ h'=>h'.elim)
  cases ok with
  | false=>exact wpAny_pure ⟨rfl,h₃⟩
  | true=>
   exact wpAny_bind (wpAny_bind (wpAny_mono h₃ (fun x s₄ h₄=>wpAny_bind (wpAny_mono h₄ (fun _ s₅ h₅=>wpAny_pure (wpAny_pure ⟨rfl,h₅⟩)) fun _ _ h'=>h'.elim)) fun _ _ h'=>h'.elim))
theorem Zg4
  (h0:codeAny (model prog w) A (.compLoop (two elt t1 i1 f1 t2 i2 f2 scope pos) 1 it acc env) R s)
  (h:wpAny (model prog w) A (pyIter it) (fun it' s'=>codeAny (model prog w) A (.compLoop (two elt t1 i1 f1 t2 i2 f2 scope pos) 1 it' acc env) R s')
   (notedBy (model prog w) A env fun x s'=>R (.error x) s') s) :
  codeAny (model prog w) A (.compStart (two elt t1 i1 f1 t2 i2 f2 scope pos) 1 it acc env) R s:=by
 refine codeAny_of_tree ?_;show wpAny _ _ ((compStart (two elt t1 i1 f1 t2 i2 f2 scope pos) 1 it acc env).onRaise (fun x=>do noteFrame x env;standAt theWindowsPlace)) _ _ s;refine wpAny_notedAt ?_;unfold compStart;show wpAny _ _ (ask >>= _) _ _ s;refine wpAny_bind (wpAny_askSetting (wpAny_ite ?_));split
 ·first
   | exact wpAny_bind (wpAny_pure (wpAny_pure (And.intro rfl h0)))
   | exact wpAny_pure (And.intro rfl h0)
 ·refine wpAny_bind (wpAny_rule ?_);show wpAny _ _ (standAt i2.pos >>= _) _ _ s;exact wpAny_bind (wpAny_standAt (wpAny_bind (wpAny_mono h (fun it' s' h'=>wpAny_pure (And.intro rfl h')) fun _ _ x=>x)))
theorem ZiB (I:Nat->Shared->Prop) (hs:∀ x,foldedSetIterable i2 env x=pure x)
  (turn:∀ n s,I n s->wpAny (model prog w) A (pyNext it) (fun r s₁=>match r with
   | none=>R (.ok .next) s₁
   | some v=>wpAny (model prog w) A (letOwnedTupleGo t1 it v) (fun _ s₁'=>wpAny (model prog w) A (assign t1 env v) (fun _ s₂=>
     wpAny (model prog w) A (forIn f1 true fun c r=>if r=true then do let ok <- isTrue c env (eval c env);pure (Ya6 ok) else pure (Ya6 r)) (fun ok s₃=>
      if ok=true then wpAny (model prog w) A (eval i2 env) (fun x s₄=>wpAny (model prog w) A (pyIter x) (fun itv s₅=>
       codeAny (model prog w) A (.compStart (two elt t1 i1 f1 t2 i2 f2 scope pos) 1 itv acc env) (fun r s₆=>∃ fl,r=.ok fl/\∃ m,m<n/\I m s₆) s₅) (fun _ _=>False) s₄) (fun _ _=>False) s₃
      else ∃ m,m<n/\I m s₃) (fun _ _=>False) s₂) (fun _ _=>False) s₁') (fun _ _=>False) s₁) (fun _ _=>False) s)
  (n:Nat) (h:I n s):codeAny (model prog w) A (.compLoop (two elt t1 i1 f1 t2 i2 f2 scope pos) 0 it acc env) R s:=by
 refine codeAny_loop rfl I (fun n s hI=>?_) n h;show wpAny _ A ((compTurn (two elt t1 i1 f1 t2 i2 f2 scope pos) 0 it acc env).onRaise (fun x=>do noteFrame x env;theTreesLotGoes x)) _ _ s;refine wpAny_noted ?_;rw[Zhz];refine wpAny_bind (wpAny_standAt (wpAny_bind (wpAny_mono (turn n s hI) (fun r s₁ h₁=>?_) fun _ _ h'=>h'.elim)))
 cases r with
 | none=>exact wpAny_pure h₁
 | some v=>
  refine wpAny_bind (wpAny_mono h₁ (fun _ s₁' h₁=>?_) fun _ _ h'=>h'.elim);refine wpAny_bind (wpAny_mono h₁ (fun _ s₂ h₂=>wpAny_bind (wpAny_mono h₂ (fun ok s₃ h₃=>?_) fun _ _ h'=>h'.elim)) fun _ _ h'=>h'.elim)
  cases ok with
  | false=>exact wpAny_pure ⟨rfl,h₃⟩
  | true=>
   refine wpAny_bind (wpAny_mono h₃ (fun x s₄ h₄=>wpAny_bind (wpAny_standAt ?_)) fun _ _ h'=>h'.elim);rw[hs];refine wpAny_bind (wpAny_pure (wpAny_bind (wpAny_holding (wpAny_mono h₄ (fun itv s₅ h₅=>?_) fun _ _ h'=>h'.elim))));refine wpAny_bind (wpAny_runOwn (h:=none) (codeAny_mono h₅ fun r s₆ ⟨fl,er,h₆⟩=>?_));subst er;exact wpAny_pure ⟨rfl,h₆⟩
end
end L2
namespace L2
open PySem PySem.Spec PyProof.Rows
def tInW (g2:TG) (tt2:TT) (te:TE) (τ:St) (acc:Addr) (J2:It) (H6:Hp) (Z:Hp->Prop):Prop :=
 ∃ (W2:Nat->Hp->Prop) (n2:Nat),W2 0 H6/\∀ k H7,W2 k H7->(J2.stop k H7/\Z H7)∨(k<n2/\J2.go k H7/\∀ y H8,J2.yld k H7 y H8->g2 y τ H8 fun τ2 H9=>tt2 τ2 H9 fun c H10=>
  if c=true then te τ2 H10 fun z H11=>∃ ys,H11 acc=some (.lst ys)/\ys.length<sizeLine/\W2 (k+1) (upd H11 acc (.lst (ys++[z]))) else W2 (k+1) H10)
def ZfL (own:List Str) (js:List Nat) (g1:TG) (tt1:TT) (wi2:TI) (g2:TG) (tt2:TT) (te:TE) (σ:St) (J:It) (H1:Hp) (Q:VK):Prop :=
 ∀ acc,H1 acc=none->∃ (W:Nat->Hp->Prop) (n:Nat),W 0 (upd H1 acc (.lst []))/\∀ i H2,W i H2 ->
  (J.stop i H2/\Q (.ref acc) H2)∨(i<n/\J.go i H2/\∀ x H3,J.yld i H2 x H3->g1 x (blkσ own js σ) H3 fun τ H4=>tt1 τ H4 fun c H5=>
   if c=true then wi2 τ H5 fun J2 H6=>tInW g2 tt2 te τ acc J2 H6 (W (i+1)) else W (i+1) H5)
def ZkS (own:List Str) (js:List Nat) (wi:TI) (g1:TG) (tt1:TT) (wi2:TI) (g2:TG) (tt2:TT) (te:TE):TE:=fun σ H Q=>wi σ H fun J H1=>ZfL own js g1 tt1 wi2 g2 tt2 te σ J H1 Q
def Zmt (fr:List Nat) (τ:St):Prop:=∀ i∈fr,∀ v,τ[i]?≠some (some v)
def Zg0 (own:List Str) (fr:List Nat) (g:TG):Prop:=∀ (js:List Nat) (σ:St) (x:V) (H:Hp) (Q:St->Hp->Prop),g x (blkσ own js σ) H Q ->
 g x (blkσ own js σ) H fun τ H'=>((∀ (j:Nat) v,(blkσ own js σ)[j]?=some (some v)->τ[j]?=some (some v))/\Zmt fr τ)/\Q τ H'
def ZfF (fr:List Nat) (g:TG):Prop:=∀ (τ:St),Zmt fr τ->∀ (x:V) (H:Hp) (Q:St->Hp->Prop),g x τ H Q->g x τ H fun τ' H'=>(∀ (j:Nat) v,τ[j]?=some (some v)->τ'[j]?=some (some v))/\Q τ' H'
theorem Zdr {own:List Str}{i:Nat}{fr:List Nat} (hi:i<own.length:=by decide) (hf:∀ j∈fr,j<own.length/\j≠i:=by decide):Zg0 own fr (ZcS i):=fun js σ x H Q h=>⟨⟨fun j v e=>by
  have hj:j≠i:=by rintro rfl;exact ZbQ hi e
  rw[Ya0 (Ybl hj)];exact e,fun j hj z e=>by
  obtain⟨h1,h2⟩:=hf j hj;rw[Ya0 (Ybl h2)] at e;exact ZbQ h1 e⟩,h⟩
theorem Zdq {i:Nat}:ZfF [i] (ZcS i):=fun τ u x H Q h=>⟨fun j v e=>by
 have hj:j≠i:=by rintro rfl;exact u j (by simp) _ e
 rw[Ya0 (Ybl hj)];exact e,h⟩
section
variable {X:Cx}{scope:Scope}{own:List Str}{js fr:List Nat}{elt t1 i1:Expr}{f1:List Expr}{t2 i2:Expr}{f2:List Expr}{wi wi2:TI}{g1 g2:TG}{tt1 tt2:TT}{te:TE}{pos:Pos}
theorem ZiS {pins:List (Addr × Obj)}{s₂:Shared}{H2:Hp}{C:Addr}{fp:List Addr}{τ:St}{H6:Hp}{s6:Shared}{it2 acc:Addr}{fp2:List Addr}{tn2:Nat->Heap->Prop}{J2:It}{Z:Hp->Prop}{P:List (Addr × Obj)}
  (hc:X.calm=true) (hgk:ZfF fr g2) (hu:Zmt fr τ)
  (hg:PG (X.blk scope own js s₂ H2 C fp pins) t2 g2) (ht:PTs (X.blk scope own js s₂ H2 C fp pins) f2 tt2) (he:PE (X.blk scope own js s₂ H2 C fp pins) elt te)
  (I6:Inv (X.blk scope own js s₂ H2 C fp pins) P τ H6 s6) (T:Turn X.prog X.w X.K t2 J2 fp2 it2 tn2) (st:tn2 0 s6.heap) (hf:∀ b∈fp2,FpOk (X.blk scope own js s₂ H2 C fp pins) P H6 b) (h:tInW g2 tt2 te τ acc J2 H6 Z) :
  codeAny (model X.prog X.w) X.A (.compStart (two elt t1 i1 f1 t2 i2 f2 scope pos) 1 (.ref it2) (.ref acc) (compEnvC scope (clOf scope X.env) C X.env)) (fun r s'=>r=.ok .next/\∃ H',Inv (X.blk scope own js s₂ H2 C fp pins) P τ H' s'/\Z H') s6:=by
 obtain⟨W,nn,w0,turn⟩:=h;have fOk:∀ {H':Hp},(∀ b∈fp2,H' b=none)->∀ b∈fp2,FpOk (X.blk scope own js s₂ H2 C fp pins) P H' b:=fun hn b hb=>⟨hn b hb,(hf b hb).2⟩
 have loop:codeAny (model X.prog X.w) X.A (.compLoop (two elt t1 i1 f1 t2 i2 f2 scope pos) 1 (.ref it2) (.ref acc) (compEnvC scope (clOf scope X.env) C X.env)) (fun r s'=>r=.ok .next/\∃ H',Inv (X.blk scope own js s₂ H2 C fp pins) P τ H' s'/\Z H') s6:=by
  refine ZiA (fun n s'=>∃ i H',n=nn - i/\Inv (X.blk scope own js s₂ H2 C fp pins) P τ H' s'/\tn2 i s'.heap/\(∀ b∈fp2,H' b=none)/\W i H') ?_ nn ⟨0,_,rfl,I6,st,fun b hb=>(hf b hb).1,w0⟩;rintro n s3 ⟨i,H3,en,I3,st3,fr3,w3⟩;rcases turn i H3 w3 with ⟨stop,qn⟩ | ⟨hin,go,step⟩
  ·refine thn (T.done (X.blk scope own js s₂ H2 C fp pins) rfl rfl rfl hc i P s3 _ H3 (fun _ _=>False) I3 (fOk fr3) st3 stop) fun r s4 ⟨hr,I4⟩=>?_;subst hr;exact⟨rfl,H3,I4,qn⟩
  ·refine thn (T.item (X.blk scope own js s₂ H2 C fp pins) rfl rfl rfl hc i P s3 _ H3 (fun _ _=>False) I3 (fOk fr3) st3 go) fun r s4 ⟨u,hr,h4⟩=>?_;subst hr;refine thn h4 fun _ s5 ⟨x,H5,I5,r5,y5,st5,fr5⟩=>?_;have I5':=I5.pinned (fOk fr5) (T.obj _ _ st5);have again:∀ {σ7:St}{H7:Hp}{s7:Shared},Inv (X.blk scope own js s₂ H2 C fp pins) (P++ZcM fp2 s5.heap) σ7 H7 s7->(∀ (j:Nat) v,τ[j]?=some (some v)->σ7[j]?=some (some v))->W (i+1) H7 ->
     ∃ m,m<n/\∃ i H',m=nn - i/\Inv (X.blk scope own js s₂ H2 C fp pins) P τ H' s7/\tn2 i s7.heap/\(∀ b∈fp2,H' b=none)/\W i H':=fun {σ7 H7 s7} I7 hw w7=>by
    refine⟨nn - (i+1),by omega,i+1,H7,rfl,(I7.unpinned).weak (I3.len.trans I7.len.symm) hw,T.keep _ _ _ st5 fun b hb o e=>(I7.pin (b,o) (Yau _ (Yau _ (ZaL hb e)))).1,fun b hb=>?_,w7⟩;obtain⟨o,e,d⟩:=T.obj _ _ st5 b hb;exact (I7.pin (b,o) (Yau _ (Yau _ (ZaL hb e)))).2.1
   refine thn (hg _ s5 _ H5 x u _ I5' r5 (hgk τ hu _ _ _ (step x H5 y5))) fun _ s6 ⟨σ6,H6,I6,kp,q6⟩=>?_;refine thn (ht _ s6 σ6 H6 _ I6 q6) fun ok s7 ⟨H7,I7,q7⟩=>?_
   cases ok with
   | false=>exact again I7 kp q7
   | true=>
    refine thn (he _ s7 σ6 H7 _ I7 q7) fun y s8 ⟨v,H8,I8,r8,ys,hl,hz,w8⟩=>?_;refine thn (ZbK (X:=X.blk scope own js s₂ H2 C fp pins) _ s8 σ6 H8 (.ref acc) [v] (.ref acc) [y] (fun _ H9=>W (i+1) H9) I8 rfl (.cons r8 .nil) ⟨acc,ys,v,rfl,rfl,hl,hz,w8⟩) fun _ s9 ⟨_,H9,I9,_,w9⟩=>?_;exact again I9 kp w9
 exact Zg4 loop (T.self _ 0 _ _ _ st loop)
theorem ZgY {pins:List (Addr × Obj)}{σ:St}{H2:Hp}{s₂:Shared}{it:Addr}{fp:List Addr}{tn:Nat->Heap->Prop}{J:It}{Q:VK}{E:Value->Shared->Prop}{RR:Value->Addr->Result->Shared->Prop}
  (c:CompOk X scope own js) (hc:X.calm=true) (hgk:Zg0 own fr g1) (hgt:ZfF fr g2)
  (hg:∀ s H C fp pins,PG (X.blk scope own js s H C fp pins) t1 g1) (ht:∀ s H C fp pins,PTs (X.blk scope own js s H C fp pins) f1 tt1) (hi2:∀ s H C fp pins,PI (X.blk scope own js s H C fp pins) t2 i2 wi2)
  (hg2:∀ s H C fp pins,PG (X.blk scope own js s H C fp pins) t2 g2) (ht2:∀ s H C fp pins,PTs (X.blk scope own js s H C fp pins) f2 tt2) (he:∀ s H C fp pins,PE (X.blk scope own js s H C fp pins) elt te)
  (hs2:∀ env x,foldedSetIterable i2 env x=pure x)
  (I:Inv X pins σ H2 s₂) (T:Turn X.prog X.w X.K t1 J fp it tn) (st:tn 0 s₂.heap) (hf:∀ b∈fp,FpOk X pins H2 b) (h:ZfL own js g1 tt1 wi2 g2 tt2 te σ J H2 Q)
  (hRR:∀ acc C H' s' m,s₂.heap.objs.size<=C->H' C=none->Inv X pins σ H' s'->s'.heap.Ns C m->Q (.ref acc) H'->RR (.ref acc) C (.ok .next) s') :
  wpAny (model X.prog X.w) X.A (newList []) (fun acc s₃=>wpAny (model X.prog X.w) X.A (newFunctionEnv scope X.env.globals (clOf scope X.env) [] X.env.qual none .none (some X.env)) (fun cenv s₄=>
   codeAny (model X.prog X.w) X.A (.compStart (two elt t1 i1 f1 t2 i2 f2 scope pos) 0 (.ref it) acc { cenv with scope:=relabel scope X.env }) (RR acc cenv.locals) s₄) E s₃) E s₂:=by
 refine wpAny_newObj_type (wpAny_newFunctionEnv c.cell (by intro y hy;simp at hy) (fun h₁ hns₁ hsb₁=>?_) c.kind);dsimp only at hns₁ hsb₁ ⊢;generalize hH2:s₂.heap.push { cls:=.type "list",dict:=none,data:=.seq ([]:List Value).toArray }=G2 at hns₁ hsb₁ ⊢;have hC:G2.objs.size=s₂.heap.objs.size+1:=by rw[<- hH2,Ybi]
 have hDC:s₂.heap.objs.size≠G2.objs.size:=by rw[hC];exact YaB (Yb1 _)
 have hCle:s₂.heap.objs.size<=G2.objs.size:=by rw[hC];exact YcF _
 have old:∀ b o,s₂.heap.get? b=some o->h₁.get? b=some o:=fun b o e=>hsb₁.extBut b o (YaB (Yaj (Yai e) hCle)) (Yad _ (hH2 ▸ Yad _ e));have hacc:h₁.get? s₂.heap.objs.size=some { cls:=.type "list",data:=.seq ([]:List Value).toArray 0 }:=hsb₁.extBut _ _ hDC (Yad _ (hH2 ▸ Yav _ rfl));have ho2:∀ b∈fp,∃ o,s₂.heap.get? b=some o:=fun b hb=>let ⟨o,e,_⟩:=T.obj 0 _ st b hb;⟨o,e⟩
 have I0:∀ tk,Inv (X.blk scope own js s₂ H2 G2.objs.size fp pins) [] (blkσ own js σ) (upd H2 s₂.heap.objs.size (.lst [])) { s₂ with heap:=h₁,toks:=tk }:=fun tk=>
  Zfz c I hCle hf ho2 hns₁ old (Yak _) hDC hacc
 obtain⟨W,nn,w0,turn⟩:=h s₂.heap.objs.size (I.hok.fresh (Yak _));generalize hacc':s₂.heap.objs.size=acc at *;generalize hGC:G2.objs.size=C at *;have st1:tn 0 h₁:=T.keep 0 _ _ st fun b _ o e=>old b o e;have fOk:∀ {H':Hp},(∀ b∈fp,H' b=none)->∀ b∈fp,FpOk (X.blk scope own js s₂ H2 C fp pins) [] H' b:=fun hn b hb=>by
  obtain⟨f0,f1,f2,f3,f4,f5⟩:=hf b hb;obtain⟨o,e⟩:=ho2 b hb;refine⟨hn b hb,YaB (Yaj (Yai e) (by rw[<- hacc'] at hCle;exact hCle)),fun z=>?_,.inl hb,fun x a h=>f4 x a (c.look I h),fun p hp=>f5 p (by simpa[Cx.blk] using hp)⟩;rcases Yay.mp (I.stkSub b z) with q | q
  ·exact f1 q
  ·exact f2 q
 have loop:∀ s₃:Shared,s₃={ s₂ with heap:=h₁,toks:=s₂.toks+([]:List (Str × Value)).length } ->
   codeAny (model X.prog X.w) X.A (.compLoop (two elt t1 i1 f1 t2 i2 f2 scope pos) 0 (.ref it) (.ref acc) (compEnvC scope (clOf scope X.env) C X.env)) (RR (.ref acc) C) s₃:=by
  rintro s₃ rfl;refine ZiB (fun n s'=>∃ i H',n=nn - i/\Inv (X.blk scope own js s₂ H2 C fp pins) [] (blkσ own js σ) H' s'/\tn i s'.heap/\(∀ b∈fp,H' b=none)/\W i H') (hs2 _) ?_ nn ⟨0,_,rfl,I0 _,st1,fun b hb=>?_,w0⟩
  ·rintro n s3 ⟨i,H3,en,I3,st3,fr3,w3⟩;rcases turn i H3 w3 with ⟨stop,qn⟩ | ⟨hin,go,step⟩
   ·refine thn (T.done (X.blk scope own js s₂ H2 C fp pins) rfl rfl rfl hc i [] s3 _ H3 (fun _ _=>False) I3 (fOk fr3) st3 stop) fun r s4 ⟨hr,I4⟩=>?_;subst hr;obtain⟨m,hn,_⟩:=I4.loc;exact hRR acc C H3 s4 m hCle I4.free (Zgk I hf I4) hn qn
   ·refine thn (T.item (X.blk scope own js s₂ H2 C fp pins) rfl rfl rfl hc i [] s3 _ H3 (fun _ _=>False) I3 (fOk fr3) st3 go) fun r s4 ⟨u,hr,h4⟩=>?_;subst hr;refine thn h4 fun _ s5 ⟨x,H5,I5,r5,y5,st5,fr5⟩=>?_;have I5':=I5.pinned (fOk fr5) (T.obj _ _ st5);have again:∀ {σ7:St}{H7:Hp}{s7:Shared},Inv (X.blk scope own js s₂ H2 C fp pins) ([]++ZcM fp s5.heap) σ7 H7 s7->(∀ (j:Nat) v,(blkσ own js σ)[j]?=some (some v)->σ7[j]?=some (some v))->W (i+1) H7 ->
      ∃ m,m<n/\∃ i H',m=nn - i/\Inv (X.blk scope own js s₂ H2 C fp pins) [] (blkσ own js σ) H' s7/\tn i s7.heap/\(∀ b∈fp,H' b=none)/\W i H':=fun {σ7 H7 s7} I7 hw w7=>by
     refine⟨nn - (i+1),by (clear hCle hDC hC hGC hacc';omega),i+1,H7,rfl,(I7.unpinned).weak ((Zdz own js σ X).trans I7.len.symm) hw,T.keep _ _ _ st5 fun b hb o e=>(I7.pin (b,o) (Yau _ (Yau _ (ZaL hb e)))).1,fun b hb=>?_,w7⟩;obtain⟨o,e,d⟩:=T.obj _ _ st5 b hb;exact (I7.pin (b,o) (Yau _ (Yau _ (ZaL hb e)))).2.1
    refine thn (hg s₂ H2 C fp pins _ s5 _ H5 x u _ I5' r5 (hgk _ _ _ _ _ (step x H5 y5))) fun _ s6 ⟨σ6,H6,I6,⟨kp,un⟩,q6⟩=>?_;refine thn (ht s₂ H2 C fp pins _ s6 σ6 H6 _ I6 q6) fun ok s7 ⟨H7,I7,q7⟩=>?_
    cases ok with
    | false=>exact again I7 kp q7
    | true=>
     refine thn (hi2 s₂ H2 C fp pins _ s7 σ6 H7 _ I7 q7) fun v s8 h8=>thn h8 fun itv s9 h9=>?_;obtain⟨it2,fp2,tn2,J2,H9,e9,I9,T2,st9,f9,hw9⟩:=h9;subst e9;refine codeAny_mono (ZiS (t1:=t1) (i1:=i1) (f1:=f1) (i2:=i2) (pos:=pos) hc hgt un (hg2 s₂ H2 C fp pins) (ht2 s₂ H2 C fp pins) (he s₂ H2 C fp pins) I9 T2 st9 f9 hw9) fun r s10 ⟨er,H10,I10,w10⟩=>?_;exact⟨_,er,again I10 kp w10⟩
  ·rw[upd_ne ?_]
   ·exact (hf b hb).1
   ·obtain⟨o,e⟩:=ho2 b hb;rw[<- hacc'];exact YaB (Yai e)
 exact codeAny_compStart_list (loop _ rfl) (T.self _ 0 _ _ _ st1 (loop _ rfl))
theorem Zj5 (c:CompOk X scope own js) (hc:X.calm=true) (hi:PI X t1 i1 wi) (hgk:Zg0 own fr g1) (hgt:ZfF fr g2)
  (hg:∀ s H C fp pins,PG (X.blk scope own js s H C fp pins) t1 g1) (ht:∀ s H C fp pins,PTs (X.blk scope own js s H C fp pins) f1 tt1) (hi2:∀ s H C fp pins,PI (X.blk scope own js s H C fp pins) t2 i2 wi2)
  (hg2:∀ s H C fp pins,PG (X.blk scope own js s H C fp pins) t2 g2) (ht2:∀ s H C fp pins,PTs (X.blk scope own js s H C fp pins) f2 tt2) (he:∀ s H C fp pins,PE (X.blk scope own js s H C fp pins) elt te)
  (hs:∀ x,foldedSetIterable i1 X.env x=pure x:=by intro _;rfl) (hs2:∀ env x,foldedSetIterable i2 env x=pure x:=by intro _ _;rfl):PE X (two elt t1 i1 f1 t2 i2 f2 scope pos) (ZkS own js wi g1 tt1 wi2 g2 tt2 te):=by
 intro pins s σ H Q I h;rw[eval_ListComp];refine wpAny_comprehension_free (use:=none) rfl hs (Zbu (c.cl I)) c.kind c.names (thn (hi pins s σ H _ I h) fun v s1 h1=>thn h1 fun itv s2 h2=>?_);obtain⟨it,fp,tn,J,H2,e,I2,T,st2,f2,hw⟩:=h2;subst e;refine ZgY (RR:=fun acc C=>compPost (model X.prog X.w) X.A X.xe none (EP X pins σ Q) acc C) c hc hgk hgt hg ht hi2 hg2 ht2 he hs2 I2 T st2 f2 hw ?_;intro acc C H' s' m hCs hCn I' hn q;refine⟨m,hn,fun h' hs'=>⟨.ref acc,H',I'.other hs' hCn ?_ ?_ ?_ ?_,rfl,q⟩⟩
 ·exact Ybx (Yaj I2.lt hCs)
 ·exact Ybj I2.sz hCs
 ·intro x a e z;obtain⟨v,q⟩:=I2.cell x a e;exact absurd (Yaj q.lt (by rw[z];exact hCs)) (Yba _)
 ·intro p hp z;exact absurd (Yaj (Yai (I2.pin p hp).1) (by rw[z];exact hCs)) (Yba _)
end
end L2
namespace L2
open PySem PySem.Spec PyProof.Rows PySem.SeqAt
def ItlB (b:Bool) (K:Yae) (a:Addr):It:=match b with | true=>Itl K a | false=>Itt K a
def Zno (K:Yae) (tl:TE):TI:=fun σ H R=>tl σ H fun x H1=>∃ a b,x=.ref a/\(∃ xs,SqB b K H1 a xs)/\R (ItlB b K a) H1
theorem ZcX (K:Yae) {X:Cx}{tg l:Expr}{tl:TE} (hl:PE X l tl) (hK:X.K=K:=by rfl):PI X tg l (Zno K tl):=by
 subst hK;intro pins s σ H R I h;refine thn (hl pins s σ H _ I h) fun v s1 ⟨x,H1,I1,r1,q1⟩=>?_;obtain⟨a,b,e,⟨xs,hq⟩,q⟩:=q1;subst e;cases r1;have fp:∀ b∈[s1.heap.objs.size],FpOk X pins H1 b:=fun b hb=>by
  have e:b=s1.heap.objs.size:=by simpa using hb
  subst e;exact I1.fpOk (Yak _) (I1.hok.fresh (Yak _))
 cases b with
 | true=>
  obtain⟨its,rv,p,hz⟩:=I1.list hq;exact wpAny_pyIter_list p.isList ⟨s1.heap.objs.size,[s1.heap.objs.size],_,_,H1,rfl,I1.kept (t':=s1.toks) fun b o e=>Yad _ e,ZeZ a _,⟨_,Yav _ rfl,rfl,rfl⟩,fp,q⟩
 | false=>
  obtain⟨its,rv,p,hz⟩:=I1.tuple hq;exact wpAny_pyIter_tuple (show s1.heap.IsTuple a its.toArray from p) ⟨s1.heap.objs.size,[s1.heap.objs.size],_,_,H1,rfl,I1.kept (t':=s1.toks) fun b o e=>Yad _ e,ZdH a _,⟨_,Yav _ rfl,rfl,rfl⟩,fp,q⟩
theorem ZaQ {X:Cx}{tg l:Expr}{tl:TE} (hl:PE X l tl):PI X tg l (Zno X.K tl):=ZcX X.K hl
theorem Zf8 {b:Bool}{K:Yae}{H:Hp}{a:Addr}{xs:List V}{i:Nat} (q:SqB b K H a xs) (hi:i<xs.length):(ItlB b K a).go i H:=by
 cases b <;> exact⟨xs,xs[i],q,Yac hi⟩
theorem ZeD {b:Bool}{K:Yae}{H H':Hp}{a:Addr}{xs:List V}{i:Nat}{x:V} (q:SqB b K H a xs) (y:(ItlB b K a).yld i H x H'):H'=H/\xs[i]?=some x:=by
 cases b <;> exact⟨y.1,y.2 xs q⟩
theorem Zdm {b:Bool}{K:Yae}{H:Hp}{a:Addr}{xs:List V}{i:Nat} (q:SqB b K H a xs) (hi:xs.length<=i):(ItlB b K a).stop i H:=by
 cases b <;> exact⟨xs,q,hi⟩
section
variable {b:Bool}{K:Yae}{own:List Str}{js:List Nat}{g1 g2 g:TG}{tt1 tt2 tt:TT}{wi2:TI}{te:TE}{σ τ:St}{H1 H6:Hp}{Q:VK}{a acc:Addr}{xs:List V}
theorem Zcq (Pv:Addr->Nat->Hp->Prop) (h0:∀ acc,H1 acc=none->Pv acc 0 (upd H1 acc (.lst []))) (hl:∀ acc i H,H1 acc=none->i<=xs.length->Pv acc i H->SqB b K H a xs)
  (hs:∀ acc i x H,H1 acc=none->xs[i]?=some x->Pv acc i H->g x (blkσ own js σ) H fun τ H4=>tt τ H4 fun c H5=>
   if c=true then te τ H5 fun y H6=>∃ ys,H6 acc=some (.lst ys)/\ys.length<sizeLine/\(i+1<=xs.length/\Pv acc (i+1) (upd H6 acc (.lst (ys++[y])))) else (i+1<=xs.length/\Pv acc (i+1) H5))
  (hd:∀ acc H,H1 acc=none->Pv acc xs.length H->Q (.ref acc) H):Za0 own js g tt te σ (ItlB b K a) H1 Q:=by
 intro acc hacc;refine⟨fun i H=>i<=xs.length/\Pv acc i H,xs.length,⟨YaT _,h0 acc hacc⟩,?_⟩;rintro i H ⟨hi,p⟩;have q:=hl acc i H hacc hi p;rcases Ybp i xs.length with hlt | hge
 ·refine .inr ⟨hlt,Zf8 q hlt,fun x H' y=>?_⟩;obtain⟨rfl,hx⟩:=ZeD q y;exact hs acc i x _ hacc hx p
 ·obtain rfl:i=xs.length:=by omega
  exact .inl ⟨Zdm q (Yak _),hd acc H hacc p⟩
theorem Zd7 (Pv:Addr->Nat->Hp->Prop) (h0:∀ acc,H1 acc=none->Pv acc 0 (upd H1 acc (.lst []))) (hl:∀ acc i H,H1 acc=none->i<=xs.length->Pv acc i H->SqB b K H a xs)
  (hs:∀ acc i x H,H1 acc=none->xs[i]?=some x->Pv acc i H->g1 x (blkσ own js σ) H fun τ H4=>tt1 τ H4 fun c H5=>
   if c=true then wi2 τ H5 fun J2 H6=>tInW g2 tt2 te τ acc J2 H6 (fun H7=>i+1<=xs.length/\Pv acc (i+1) H7) else (i+1<=xs.length/\Pv acc (i+1) H5))
  (hd:∀ acc H,H1 acc=none->Pv acc xs.length H->Q (.ref acc) H):ZfL own js g1 tt1 wi2 g2 tt2 te σ (ItlB b K a) H1 Q:=by
 intro acc hacc;refine⟨fun i H=>i<=xs.length/\Pv acc i H,xs.length,⟨YaT _,h0 acc hacc⟩,?_⟩;rintro i H ⟨hi,p⟩;have q:=hl acc i H hacc hi p;rcases Ybp i xs.length with hlt | hge
 ·refine .inr ⟨hlt,Zf8 q hlt,fun x H' y=>?_⟩;obtain⟨rfl,hx⟩:=ZeD q y;exact hs acc i x _ hacc hx p
 ·obtain rfl:i=xs.length:=by omega
  exact .inl ⟨Zdm q (Yak _),hd acc H hacc p⟩
theorem ZiT {Z:Hp->Prop} (W2:Nat->Hp->Prop) (h0:W2 0 H6) (hl:∀ i H,i<=xs.length->W2 i H->SqB b K H a xs)
  (hs:∀ i x H,xs[i]?=some x->W2 i H->g2 x τ H fun τ2 H9=>tt2 τ2 H9 fun c H10=>
   if c=true then te τ2 H10 fun z H11=>∃ zs,H11 acc=some (.lst zs)/\zs.length<sizeLine/\(i+1<=xs.length/\W2 (i+1) (upd H11 acc (.lst (zs++[z])))) else (i+1<=xs.length/\W2 (i+1) H10))
  (hd:∀ H,W2 xs.length H->Z H):tInW g2 tt2 te τ acc (ItlB b K a) H6 Z:=by
 refine⟨fun i H=>i<=xs.length/\W2 i H,xs.length,⟨YaT _,h0⟩,?_⟩;rintro i H ⟨hi,p⟩;have q:=hl i H hi p;rcases Ybp i xs.length with hlt | hge
 ·refine .inr ⟨hlt,Zf8 q hlt,fun x H' y=>?_⟩;obtain⟨rfl,hx⟩:=ZeD q y;exact hs i x _ hx p
 ·obtain rfl:i=xs.length:=by omega
  exact .inl ⟨Zdm q (Yak _),hd H p⟩
end
end L2
namespace L2
open PySem PyProof.Rows
structure KO extends KeyOrd where
 ky:Keyed->α
namespace KO
variable {O:KO}{x y z:Keyed}
def le (O:KO) (x y:Keyed):Prop:=O.blt (O.ky y) (O.ky x)=false
theorem le_refl:O.le x x:=O.irrefl _
theorem le_trans (h1:O.le x y) (h2:O.le y z):O.le x z:=YcH (O:=O.toKeyOrd) h1 h2
theorem le_of_lt (h:O.blt (O.ky x) (O.ky y)=true):O.le x y:=KeyOrd.klt_asymm (O:=O.toKeyOrd) h
abbrev Srt (O:KO) (l:List Keyed):Prop:=l.Pairwise O.le
end KO
def Zf9:Bool->Keyed->Array Keyed->Nat->Nat->Nat->StateT SortSt Sem (Option Nat):=sortPriv% PySem.Builtin.gallop
def Zkt:Array Keyed->Array Keyed->StateT SortSt Sem (Array Keyed):=sortPriv% PySem.Builtin.mergeLo
def Zku:Array Keyed->Array Keyed->StateT SortSt Sem (Array Keyed):=sortPriv% PySem.Builtin.mergeHi
def Zg6:Nat->StateT SortSt Sem Unit:=sortPriv% PySem.Builtin.setMinGallop
section
variable {prog:Program}{w:World}{A:Around}{E:Value->Shared->Prop}{s:Shared}{O:KO}{knd:SortKind}{ok:Keyed->Prop}{st:SortSt}
def Asks (prog:Program) (w:World) (A:Around) (s:Shared) (O:KO) (knd:SortKind) (ok:Keyed->Prop):Prop :=
 ∀ x y,ok x->ok y->∀ (E:Value->Shared->Prop) (Q:Bool->Shared->Prop),Q (O.blt (O.ky x) (O.ky y)) s->wpAny (model prog w) A (keyLt' knd x.1 y.1) Q E s
theorem ZeS {x y:Keyed}{Q:Option Bool->SortSt->Prop} (hA:Asks prog w A s O knd ok) (hk:kindOf st=knd) (hx:ok x) (hy:ok y) (h:Q (some (O.blt (O.ky x) (O.ky y))) st):wpS (model prog w) A E s (lt' x y) Q st:=by
 rw[lt'_eq];refine wpS_bind (wpS_get ?_);rw[hk];refine wpS_bind (wpS_lift (wpAny_attempt (hA x y hx hy _ _ ⟨rfl,?_⟩)));exact wpS_pure h
theorem Zap {arr:Array Keyed}{i:Nat}{x:Keyed}{Q:Keyed->SortSt->Prop} (e:arr[i]?=some x) (h:Q x st):wpS (model prog w) A E s (elem' arr i) Q st:=by
 rw[elem'_eq,e];exact wpS_pure h
def Zju (left:Bool) (key:Keyed) (arr:Array Keyed) (base i:Nat):StateT SortSt Sem (Option Bool) :=
 elem' arr (base+i) >>= fun x=>if left=true then lt' x key else lt' key x >>= fun r=>pure (r.map (! ·))
theorem ZdG {left:Bool}{key:Keyed}{arr:Array Keyed}{base n hint:Nat}{Q:Option Nat->SortSt->Prop} (hA:Asks prog w A s O knd ok) (hk:kindOf st=knd) (hkey:ok key) (B:Nat->Bool)
    (hB:∀ i,i<n->∃ x,arr[base+i]?=some x/\ok x/\B i=if left=true then O.blt (O.ky x) (O.ky key) else !(O.blt (O.ky key) (O.ky x)))
    (mono:∀ i j,i<=j->j<n->B j=true->B i=true) (hh:hint<n)
    (h:∀ k,k<=n->(∀ i,i<k->B i=true)->(∀ i,k<=i->i<n->B i=false)->Q (some k) st):wpS (model prog w) A E s (Zf9 left key arr base n hint) Q st:=by
  have bey:∀ i,i<n->∀ {Q':Option Bool->SortSt->Prop},Q' (some (B i)) st->wpS (model prog w) A E s (Zju left key arr base i) Q' st:=by
    intro i hi Q' hq;obtain⟨x,e,hx,eb⟩:=hB i hi;refine wpS_bind (Zap e ?_);rw[eb] at hq
    cases left with
    | true=>simp only[if_true] at hq ⊢;exact ZeS hA hk hx hkey hq
    | false=>
      simp only[YaR,if_false] at hq ⊢;exact wpS_bind (ZeS hA hk hkey hx (wpS_pure hq))
  have monoF:∀ i j,i<=j->j<n->B i=false->B j=false:=by
    intro i j hij hj hf
    cases e:B j with
    | false=>rfl
    | true=>rw[mono i j hij hj e] at hf;cases hf
  have jp:∀ lo hi,lo<=hi->hi<=n->(∀ i,i<lo->B i=true)->(∀ i,hi<=i->i<n->B i=false) ->
      wpS (model prog w) A E s (forIn [:n] ((none : Option (Option Nat)), lo, hi) fun _ c => if c.2.1 ≥ c.2.2 then pure (Ycd (none, c.2.1, c.2.2)) else Zju left key arr base (c.2.1 + (c.2.2 - c.2.1) / 2) >>= fun x => match x with
          | some more=>if more=true then pure (Ya6 (none,c.2.1+(c.2.2 - c.2.1) / 2+1,c.2.2)) else pure (Ya6 (none,c.2.1,c.2.1+(c.2.2 - c.2.1) / 2))
          | _=>pure (Ycd (some none,c.2.1,c.2.2)))
        (fun c st'=>st'=st/\∃ l k,c=(none,l,k)/\Q (some k) st) st:=by
    intro lo hi hle hin hlo hhi;refine wpS_forRange (I:=fun x c st'=>st'=st/\∃ l k,c=(none,l,k)/\l<=k/\k<=n/\k - l<=n - x/\(∀ i,i<l->B i=true)/\(∀ i,k<=i->i<n->B i=false)) ?step ?fin ⟨rfl,lo,hi,rfl,hle,hin,by (clear hle hh;omega),hlo,hhi⟩
    case fin=>
      rintro c st' ⟨rfl,l,k,rfl,h1,h2,h3,h4,h5⟩;have e:l=k:=by (clear h2 hin hle hh;omega)
      subst e;exact⟨rfl,l,l,rfl,h l h2 h4 h5⟩
    case step=>
      rintro x c st' _ hx ⟨rfl,l,k,rfl,h1,h2,h3,h4,h5⟩;dsimp only;by_cases hge:l ≥ k
      · rw[if_pos hge];have e:l=k:=by (clear h3 h2 hx hin hle hh;omega)
        subst e;exact wpS_pure ⟨rfl,l,l,rfl,h l h2 h4 h5⟩
      · rw[if_neg hge];have hm:l+(k - l) / 2<k:=by (clear h3 h2 h1 hx hin hle hh;omega)
        refine wpS_bind (bey _ (by (clear hm h3 h1 hx hin hle hh;omega)) ?_)
        cases e:B (l+(k - l) / 2) with
        | true=>
          simp only[if_true];exact wpS_pure ⟨rfl,_,_,rfl,by (clear hm h3 h2 h1 hx hin hle hh;omega),h2,by (clear hm hge h2 h1 hx hin hle hh;omega),fun i hi=>mono i _ (by (clear hm hge h3 h2 h1 hx hin hle hh;omega)) (by (clear hi hm h3 h1 hx hin hle hh;omega)) e,h5⟩
        | false=>
          simp only[YaR,if_false];exact wpS_pure ⟨rfl,_,_,rfl,by (clear hm hge h3 h2 h1 hx hin hle hh;omega),by (clear hm hge h3 hx hin hle hh;omega),by (clear hm hge h2 h1 hx hin hle hh;omega),h4,fun i h6 h7=>monoF _ i h6 h7 e⟩
  refine wpS_bind (bey hint hh ?_);dsimp only
  cases e0:B hint with
  | true=>
    simp only[if_true];refine wpS_bind (wpS_mono (wpS_forRange (I:=fun x c st'=>st'=st/\∃ l k,c=((none:Option (Option Nat)),l,k)/\l<k/\x+1<=k/\hint+l<n/\B (hint+l)=true)
      (Q:=fun c st'=>st'=st/\∃ l k,c=((none:Option (Option Nat)),l,k)/\l<k/\hint+l<n/\B (hint+l)=true/\(n - hint<=k∨(hint+k<n/\B (hint+k)=false))) ?step ?fin ⟨rfl,0,1,rfl,by (clear hh;omega),by (clear hh;omega),hh,e0⟩) ?post)
    case fin=>
      rintro c st' ⟨rfl,l,k,rfl,h1,h2,h3,h4⟩;exact⟨rfl,l,k,rfl,h1,h3,h4,.inl (by (clear h3 h1 hh;omega))⟩
    case step=>
      rintro x c st' _ hx ⟨rfl,l,k,rfl,h1,h2,h3,h4⟩;dsimp only;by_cases hge:k ≥ n - hint
      · rw[if_pos hge];exact wpS_pure ⟨rfl,l,k,rfl,h1,h3,h4,.inl hge⟩
      · rw[if_neg hge];refine wpS_bind (bey (hint+k) (by (clear h3 h2 h1 hx hh;omega)) ?_)
        cases e:B (hint+k) with
        | true=>
          simp only[YcN,YaR,if_false];exact wpS_pure ⟨rfl,_,_,rfl,by (clear hge h3 h2 h1 hx hh;omega),by (clear hge h3 h1 hx hh;omega),by (clear h3 h2 h1 hx hh;omega),e⟩
        | false=>
          simp only[Bool.not_false,if_true];exact wpS_pure ⟨rfl,l,k,rfl,h1,h3,h4,.inr ⟨by (clear h3 h2 h1 hx hh;omega),e⟩⟩
    case post=>
      rintro c st' ⟨rfl,l,k,rfl,h1,h3,h4,h5⟩;dsimp only;refine wpS_bind (wpS_mono (jp (hint+l+1) (hint+min k (n - hint)) (by (clear h5 hh;omega)) (by (clear h5 h3 h1;omega)) (fun i hi=>mono i (hint+l) (by (clear h5 h3 h1 hh;omega)) h3 h4) (fun i h6 h7=>?_)) ?_)
      · rcases h5 with h5 | ⟨h5,h8⟩
        · (clear h3 h1 hh;omega)
        · exact monoF (hint+k) i (by (clear h5 h3 h1 hh;omega)) h7 h8
      · rintro c st' ⟨rfl,l,k,rfl,q⟩;exact wpS_pure q
  | false=>
    simp only[YaR,if_false];refine wpS_bind (wpS_mono (wpS_forRange (I:=fun x c st'=>st'=st/\∃ l k,c=((none:Option (Option Nat)),l,k)/\l<k/\x+1<=k/\l<=hint/\B (hint - l)=false)
      (Q:=fun c st'=>st'=st/\∃ l k,c=((none:Option (Option Nat)),l,k)/\l<k/\l<=hint/\B (hint - l)=false/\(hint+1<=k∨(k<=hint/\B (hint - k)=true))) ?step ?fin ⟨rfl,0,1,rfl,by (clear hh;omega),by (clear hh;omega),by (clear hh;omega),e0⟩) ?post)
    case fin=>
      rintro c st' ⟨rfl,l,k,rfl,h1,h2,h3,h4⟩;exact⟨rfl,l,k,rfl,h1,h3,h4,.inl (by (clear h3 h1;omega))⟩
    case step=>
      rintro x c st' _ hx ⟨rfl,l,k,rfl,h1,h2,h3,h4⟩;dsimp only;by_cases hge:k ≥ hint+1
      · rw[if_pos hge];exact wpS_pure ⟨rfl,l,k,rfl,h1,h3,h4,.inl hge⟩
      · rw[if_neg hge];refine wpS_bind (bey (hint - k) (by (clear hge h3 h2 h1 hx;omega)) ?_)
        cases e:B (hint - k) with
        | true=>
          simp only[if_true];exact wpS_pure ⟨rfl,l,k,rfl,h1,h3,h4,.inr ⟨by (clear h3 h2 h1 hx hh;omega),e⟩⟩
        | false=>
          simp only[YaR,if_false];exact wpS_pure ⟨rfl,_,_,rfl,by (clear hge h3 h2 h1 hx hh;omega),by (clear hge h3 h1 hx hh;omega),by (clear h3 h2 h1 hx hh;omega),e⟩
    case post=>
      rintro c st' ⟨rfl,l,k,rfl,h1,h3,h4,h5⟩;dsimp only;refine wpS_bind (wpS_mono (jp (hint+1 - min k (hint+1)) (hint - l) (by (clear h5 h3 hh;omega)) (by (clear h5 h3 h1;omega)) (fun i hi=>?_) (fun i h6 h7=>monoF _ i h6 h7 h4)) ?_)
      · rcases h5 with h5 | ⟨h5,h8⟩
        · (clear h3 h1 hh;omega)
        · exact mono i (hint - k) (by (clear h5 h3 h1 hh;omega)) (by (clear h5 hi h3 h1;omega)) h8
      · rintro c st' ⟨rfl,l,k,rfl,q⟩;exact wpS_pure q
end
section
variable {O:KO}{a b out:List Keyed}{ia ib:Nat}{x:Keyed}
theorem Zge {l:List Keyed}{i:Nat}{x:Keyed} (e:l[i]?=some x):l.drop i=x::l.drop (i+1):=by
 obtain⟨h,rfl⟩:=Yab.mp e;exact List.drop_eq_getElem_cons h
theorem ZgT (a:Array Keyed) (i:Nat):(a.extract i a.size).toList=a.toList.drop i:=by
 rw[YcK];simp only[Yeo];exact Ybk (by simp)
theorem Zgc (a:Array Keyed) (i k:Nat):(a.extract i (i+k)).toList=(a.toList.drop i).take k:=by
 rw[YcK];simp[Yeo]
structure MI (O:KO) (a b out:List Keyed) (ia ib:Nat):Prop where
 perm:(out++(a.drop ia++b.drop ib)).Perm (a++b)
 srt:O.Srt out
 le:∀ x∈out,∀ y∈a.drop ia++b.drop ib,O.le x y
theorem Zgx (h:O.Srt out) (hx:∀ y∈out,O.le y x):O.Srt (out++[x]) :=
 YaX.mpr ⟨h,Yee _ _,fun y hy z hz=>by rw[YaN.mp hz];exact hx y hy⟩
theorem MI.takeA (h:MI O a b out ia ib) (sa:O.Srt a) (e:a[ia]?=some x) (hb:∀ y∈b.drop ib,O.le x y):MI O a b (out++[x]) (ia+1) ib:=by
 have ed:=Zge e;have sd:O.Srt (x::a.drop (ia+1)):=ed ▸ sa.drop;refine⟨?_,Zgx h.srt fun y hy=>h.le y hy x (by rw[ed];simp),fun y hy z hz=>?_⟩
 ·have p:=h.perm;rw[ed] at p;simpa using p
 ·rcases Yar.mp hy with hy | hy
  ·refine h.le y hy z ?_;rw[ed];rcases Yar.mp hz with hz | hz
   ·exact YaV _ (YaC _ hz)
   ·exact Yau _ hz
  ·rw[YaN.mp hy];rcases Yar.mp hz with hz | hz
   ·exact (YbA.mp sd).1 z hz
   ·exact hb z hz
theorem MI.takeB (h:MI O a b out ia ib) (sb:O.Srt b) (e:b[ib]?=some x) (ha:∀ y∈a.drop ia,O.le x y):MI O a b (out++[x]) ia (ib+1):=by
 have ed:=Zge e;have sd:O.Srt (x::b.drop (ib+1)):=ed ▸ sb.drop;refine⟨?_,Zgx h.srt fun y hy=>h.le y hy x (by rw[ed];simp),fun y hy z hz=>?_⟩
 ·have p:=h.perm;rw[ed] at p;refine Yds ?_ p;rw[YaJ];exact Yb2 _ (show List.Perm (x::(a.drop ia++b.drop (ib+1))) _ from YeZ.symm)
 ·rcases Yar.mp hy with hy | hy
  ·refine h.le y hy z ?_;rw[ed];rcases Yar.mp hz with hz | hz
   ·exact YaV _ hz
   ·exact Yau _ (YaC _ hz)
  ·rw[YaN.mp hy];rcases Yar.mp hz with hz | hz
   ·exact ha z hz
   ·exact (YbA.mp sd).1 z hz
theorem Ze0 {l:List Keyed}{i k:Nat}{x:Keyed} (e:l[i+k]?=some x):(l.drop i).take (k+1)=(l.drop i).take k++[x]:=by
 rw[List.take_succ,Ycw,e];rfl
theorem MI.takeAs (h:MI O a b out ia ib) (sa:O.Srt a):∀ k,ia+k<=a.length->(∀ i z,i<k->a[ia+i]?=some z->∀ y∈b.drop ib,O.le z y)->MI O a b (out++(a.drop ia).take k) (ia+k) ib
 | 0,_,_=>by simpa using h
 | k+1,hl,hz=>by
  have q:=MI.takeAs h sa k (by omega) fun i z hi e=>hz i z (by (clear hl;omega)) e;have e:a[ia+k]?=some a[ia+k]:=Yac (by omega);have r:=q.takeA sa e (hz k _ (by omega) e);rw[YaJ,<- Ze0 e] at r;exact r
theorem MI.takeBs (h:MI O a b out ia ib) (sb:O.Srt b):∀ k,ib+k<=b.length->(∀ i z,i<k->b[ib+i]?=some z->∀ y∈a.drop ia,O.le z y)->MI O a b (out++(b.drop ib).take k) ia (ib+k)
 | 0,_,_=>by simpa using h
 | k+1,hl,hz=>by
  have q:=MI.takeBs h sb k (by omega) fun i z hi e=>hz i z (by (clear hl;omega)) e;have e:b[ib+k]?=some b[ib+k]:=Yac (by omega);have r:=q.takeB sb e (hz k _ (by omega) e);rw[YaJ,<- Ze0 e] at r;exact r
def Mg (O:KO) (a b r:List Keyed):Prop:=r.Perm (a++b)/\O.Srt r
theorem MI.doneA (h:MI O a b out ia ib) (sa:O.Srt a) (e:b.length<=ib):Mg O a b (out++a.drop ia++b.drop ib):=by
 have eb:b.drop ib=[]:=List.drop_eq_nil_of_le e;refine⟨by rw[YaJ];exact h.perm,?_⟩;rw[eb,Ybf];exact YaX.mpr ⟨h.srt,sa.drop,fun x hx y hy=>h.le x hx y (YaV _ hy)⟩
theorem MI.doneB (h:MI O a b out ia ib) (sa:O.Srt a) (sb:O.Srt b) (hl:∀ x∈b.drop ib,∀ y∈a.drop ia,O.le x y):Mg O a b (out++b.drop ib++a.drop ia):=by
 refine⟨by rw[YaJ];exact (Yb2 _ Yc9).trans h.perm,?_⟩;rw[YaJ];refine YaX.mpr ⟨h.srt,YaX.mpr ⟨sb.drop,sa.drop,hl⟩,fun x hx y hy=>h.le x hx y ?_⟩;rcases Yar.mp hy with hy | hy
 ·exact Yau _ hy
 ·exact YaV _ hy
end
section
variable {prog:Program}{w:World}{A:Around}{E:Value->Shared->Prop}{s:Shared}{O:KO}{knd:SortKind}{ok:Keyed->Prop}{st:SortSt}
theorem ZaF {α:Type}{c:Prop} [Decidable c] {p q:StateT SortSt Sem α}{Q:α->SortSt->Prop} (h1:c->wpS (model prog w) A E s p Q st) (h2:¬ c->wpS (model prog w) A E s q Q st):wpS (model prog w) A E s (if c then p else q) Q st:=by
 by_cases h:c
 ·rw[if_pos h];exact h1 h
 ·rw[if_neg h];exact h2 h
def Gal (st st':SortSt):Prop:=kindOf st'=kindOf st/\arrOf st'=arrOf st/\pendingOf st'=pendingOf st/\failedOf st'=failedOf st
theorem Gal.refl:Gal st st:=⟨rfl,rfl,rfl,rfl⟩
theorem Zbc {g:Nat}{st1:SortSt}{Q:Unit->SortSt->Prop} (hG:Gal st st1) (h:∀ st',Gal st st'->Q () st'):wpS (model prog w) A E s (Zg6 g) Q st1 :=
 wpS_modify (h _ ⟨hG.1,hG.2.1,hG.2.2.1,hG.2.2.2⟩)
theorem Zch {l:List Keyed} (sl:O.Srt l) {i j:Nat}{x y:Keyed} (hij:i<=j) (hx:l[i]?=some x) (hy:l[j]?=some y):O.le x y:=by
 obtain⟨h1,rfl⟩:=Yab.mp hx;obtain⟨h2,rfl⟩:=Yab.mp hy;rcases YeQ hij with h | h
 ·exact Ycj.mp sl i j h1 h2 h
 ·subst h;exact KO.le_refl
theorem ZaZ {l:List Keyed}{i:Nat}{y:Keyed} (h:y∈l.drop i):∃ j,i<=j/\l[j]?=some y:=by
 obtain⟨j,hj,e⟩:=Yez.mp h;exact⟨i+j,by omega,by rw[<- Ycw,Yac hj,e]⟩
theorem ZcG {l:List Keyed} (sl:O.Srt l) {i:Nat}{x:Keyed} (hx:l[i]?=some x):∀ y∈l.drop i,O.le x y:=fun y hy=>
 let ⟨_,hj,e⟩:=ZaZ hy
 Zch sl hj hx e
theorem ZaK {a:Array Keyed}{i:Nat} (h:i<a.size):∃ x,a[i]?=some x/\a.toList[i]?=some x/\x∈a.toList :=
 ⟨a[i],Ych h,by rw[Yap];exact Ych h,by simp⟩
theorem Zea {a:Array Keyed}{i:Nat}{x:Keyed} (h:a[i]?=some x):a.toList[i]?=some x:=by rw[Yap];exact h
theorem Zb6 {key:Keyed}{a:Array Keyed}{i n hint:Nat}{Q:Option Nat->SortSt->Prop} (hA:Asks prog w A s O knd ok) (hk:kindOf st=knd) (hkey:ok key) (oka:∀ x∈a.toList,ok x) (hi:i+n<=a.size)
  (sa:∀ p q x y,i<=p->p<=q->q<i+n->a[p]?=some x->a[q]?=some y->O.le x y) (hh:hint<n)
  (h:∀ k,k<=n->(∀ j z,j<k->a[i+j]?=some z->O.le z key)->(∀ j z,k<=j->j<n->a[i+j]?=some z->O.blt (O.ky key) (O.ky z)=true)->Q (some k) st):wpS (model prog w) A E s (Zf9 false key a i n hint) Q st:=by
 refine ZdG hA hk hkey (fun j=>!(O.blt (O.ky key) (O.ky (a.getD (i+j) key)))) ?_ ?_ hh ?_
 ·intro j hj;obtain⟨x,e1,_,e3⟩:=ZaK (a:=a) (i:=i+j) (by (clear hh;omega));refine⟨x,e1,oka x e3,?_⟩;have e4:a.getD (i+j) key=x:=by rw[Ya1,e1];rfl
  simp[e4]
 ·intro p q hpq hq hb;obtain⟨x,e1,_,_⟩:=ZaK (a:=a) (i:=i+p) (by (clear hh;omega));obtain⟨y,f1,_,_⟩:=ZaK (a:=a) (i:=i+q) (by (clear hpq hh;omega));have e4:a.getD (i+p) key=x:=by rw[Ya1,e1];rfl
  have f4:a.getD (i+q) key=y:=by rw[Ya1,f1];rfl
  rw[f4] at hb;rw[e4];have z:O.le x key:=KO.le_trans (sa _ _ x y (by (clear hq hpq hh hi;omega)) (by (clear hq hh hi;omega)) (by (clear hpq hh hi;omega)) e1 f1) (show O.blt _ _=false by simpa using hb);have z:O.blt (O.ky key) (O.ky x)=false:=z;simpa using z
 ·intro k hk1 h1 h2;refine h k hk1 (fun j z hj e=>?_) (fun j z hj hj2 e=>?_)
  ·have e4:a.getD (i+j) key=z:=by rw[Ya1,e];rfl
   have:=h1 j hj;rw[e4] at this;exact (show O.blt _ _=false by simpa using this)
  ·have e4:a.getD (i+j) key=z:=by rw[Ya1,e];rfl
   have:=h2 j hj hj2;rw[e4] at this;simpa using this
theorem Zbj {key:Keyed}{a:Array Keyed}{i n hint:Nat}{Q:Option Nat->SortSt->Prop} (hA:Asks prog w A s O knd ok) (hk:kindOf st=knd) (hkey:ok key) (oka:∀ x∈a.toList,ok x) (hi:i+n<=a.size)
  (sa:∀ p q x y,i<=p->p<=q->q<i+n->a[p]?=some x->a[q]?=some y->O.le x y) (hh:hint<n)
  (h:∀ k,k<=n->(∀ j z,j<k->a[i+j]?=some z->O.blt (O.ky z) (O.ky key)=true)->(∀ j z,k<=j->j<n->a[i+j]?=some z->O.le key z)->Q (some k) st):wpS (model prog w) A E s (Zf9 true key a i n hint) Q st:=by
 refine ZdG hA hk hkey (fun j=>O.blt (O.ky (a.getD (i+j) key)) (O.ky key)) ?_ ?_ hh ?_
 ·intro j hj;obtain⟨x,e1,_,e3⟩:=ZaK (a:=a) (i:=i+j) (by (clear hh;omega));refine⟨x,e1,oka x e3,?_⟩;have e4:a.getD (i+j) key=x:=by rw[Ya1,e1];rfl
  simp[e4]
 ·intro p q hpq hq hb;obtain⟨x,e1,_,_⟩:=ZaK (a:=a) (i:=i+p) (by (clear hh;omega));obtain⟨y,f1,_,_⟩:=ZaK (a:=a) (i:=i+q) (by (clear hpq hh;omega));have e4:a.getD (i+p) key=x:=by rw[Ya1,e1];rfl
  have f4:a.getD (i+q) key=y:=by rw[Ya1,f1];rfl
  rw[f4] at hb;rw[e4];exact KeyOrd.klt_of_kle_of_klt (O:=O.toKeyOrd) (sa _ _ x y (by (clear hq hpq hh hi;omega)) (by (clear hq hh hi;omega)) (by (clear hpq hh hi;omega)) e1 f1) hb
 ·intro k hk1 h1 h2;refine h k hk1 (fun j z hj e=>?_) (fun j z hj hj2 e=>?_)
  ·have e4:a.getD (i+j) key=z:=by rw[Ya1,e];rfl
   have:=h1 j hj;rw[e4] at this;exact this
  ·have e4:a.getD (i+j) key=z:=by rw[Ya1,e];rfl
   have:=h2 j hj hj2;rw[e4] at this;exact this
theorem srtA {a:Array Keyed} (sa:O.Srt a.toList) (i n:Nat):∀ p q x y,i<=p->p<=q->q<i+n->a[p]?=some x->a[q]?=some y->O.le x y:=fun p q x y _ h _ e1 e2=>Zch sa h (Zea e1) (Zea e2)
theorem ZfH {a b:Array Keyed}{Q:Array Keyed->SortSt->Prop} (hA:Asks prog w A s O knd ok) (hk:kindOf st=knd) (oka:∀ x∈a.toList,ok x) (okb:∀ x∈b.toList,ok x) (sa:O.Srt a.toList) (sb:O.Srt b.toList) (ha:1<=a.size) (hb:1<=b.size)
  (hfirst:∀ y,b[0]?=some y->∀ x∈a.toList,O.le y x) (hlast:∀ z,a[a.size - 1]?=some z->∀ y∈b.toList,O.blt (O.ky y) (O.ky z)=true)
  (h:∀ r st',Gal st st'->Mg O a.toList b.toList r.toList->Q r st'):wpS (model prog w) A E s (Zkt a b) Q st:=by
 obtain⟨b0,eb0,eb0',_⟩:=ZaK (a:=b) (i:=0) (by (clear ha;omega));have done:∀ {out:Array Keyed}{ia ib:Nat},MI O a.toList b.toList out.toList ia ib->b.size<=ib->Mg O a.toList b.toList (out++a.extract ia a.size++b.extract ib b.size).toList:=by
  intro out ia ib m hl;rw[Ya7,Ya7,ZgT,ZgT];exact m.doneA sa hl
 have last:∀ {out:Array Keyed}{ia ib:Nat},MI O a.toList b.toList out.toList ia ib->ia+1=a.size->Mg O a.toList b.toList (out++b.extract ib b.size++a.extract ia a.size).toList:=by
  intro out ia ib m hl;rw[Ya7,Ya7,ZgT,ZgT];refine m.doneB sa sb fun x hx y hy=>?_;obtain⟨j,hj,e⟩:=ZaZ hy;have hj2:j<a.size:=(Yab.mp e).1
  have e2:j=a.size - 1:=by (clear hb ha;omega)
  rw[e2] at e;rw[Yap] at e;exact KO.le_of_lt (hlast y e x (YbO hx))
 have pB:∀ {out:Array Keyed}{ia ib:Nat}{y:Keyed},MI O a.toList b.toList out.toList ia ib->b[ib]?=some y->(∀ z∈a.toList.drop ia,O.le y z)->MI O a.toList b.toList (out.push y).toList ia (ib+1):=by
  intro out ia ib y m e hz;rw[YcC];exact m.takeB sb (Zea e) hz
 have pA:∀ {out:Array Keyed}{ia ib:Nat}{y:Keyed},MI O a.toList b.toList out.toList ia ib->a[ia]?=some y->(∀ z∈b.toList.drop ib,O.le y z)->MI O a.toList b.toList (out.push y).toList (ia+1) ib:=by
  intro out ia ib y m e hz;rw[YcC];exact m.takeA sa (Zea e) hz
 refine wpS_bind (wpS_lift (wpAny_rule ⟨rfl,?_⟩));refine wpS_bind (Zap eb0 ?_);have m0:MI O a.toList b.toList #[b0].toList 0 1 :=
  MI.takeB (out:=[]) (ib:=0) ⟨by simp,Yco,fun x hx=>by cases hx⟩ sb eb0' (by simpa using hfirst b0 eb0)
 dsimp only;by_cases c1:1=b.size
 ·rw[if_pos (by simpa using c1)];exact wpS_pure (h _ _ Gal.refl (done m0 (by (clear hb ha;omega))))
 rw[if_neg (by simpa using c1)];by_cases c2:0+1=a.size
 ·rw[if_pos (by simpa using c2)];exact wpS_pure (h _ _ Gal.refl (last m0 (by (clear c1 hb ha;omega))))
 rw[if_neg (by simpa using c2)];refine wpS_bind (wpS_get ?_);refine wpS_bind (wpS_mono (wpS_forRange
  (I:=fun x c st'=>Gal st st'/\∃ (out:Array Keyed) (ia ib g:Nat),c=((none:Option (Array Keyed)),out,ia,ib,g)/\MI O a.toList b.toList out.toList ia ib/\ia+1<a.size/\ib<b.size/\x<=ia+ib)
  (Q:=fun c st'=>Gal st st'/\∃ (r out:Array Keyed) (ia ib g:Nat),c=(some r,out,ia,ib,g)/\Mg O a.toList b.toList r.toList) ?step ?fin ⟨Gal.refl,#[b0],0,1,gallopOf st,rfl,m0,by (clear c1 hb;omega),by (clear c2 ha;omega),by (clear c2 c1 hb ha;omega)⟩) ?post)
 case fin=>
  rintro c st' ⟨_,out,ia,ib,g,rfl,_,h1,h2,h3⟩
  (clear c2 c1 hb ha;omega)
 case post=>
  rintro c st' ⟨hG,r,out,ia,ib,g,rfl,hm⟩;exact wpS_pure (h r st' hG hm)
 case step=>
  rintro x c st1 _ hx ⟨hG1,out,ia,ib,g,rfl,hm,h1,h2,h3⟩;dsimp only;have hk1:kindOf st1=knd:=hG1.1.trans hk;refine wpS_bind (wpS_mono (wpS_forRange
   (I:=fun y c st'=>st'=st1/\∃ (out:Array Keyed) (ia ib p q:Nat),c=((none:Option (Array Keyed)),out,ia,ib,p,q)/\MI O a.toList b.toList out.toList ia ib/\ia+1<a.size/\ib<b.size/\x+y<=ia+ib)
   (Q:=fun c st'=>st'=st1/\((∃ (r out:Array Keyed) (ia ib p q:Nat),c=(some r,out,ia,ib,p,q)/\Mg O a.toList b.toList r.toList) ∨
    (∃ (out:Array Keyed) (ia ib p q:Nat),c=(none,out,ia,ib,p,q)/\MI O a.toList b.toList out.toList ia ib/\ia+1<a.size/\ib<b.size/\x+1<=ia+ib))) ?step1 ?fin1 ⟨rfl,out,ia,ib,0,0,rfl,hm,h1,h2,by (clear h2 h1 hx c2 c1 hb ha;omega)⟩) ?post1)
  case fin1=>
   rintro c st' ⟨rfl,out,ia,ib,p,q,rfl,hm,h1,h2,h3⟩;exact⟨rfl,.inr ⟨out,ia,ib,p,q,rfl,hm,h1,h2,by (clear h2 h1 hx c2 c1 hb ha;omega)⟩⟩
  case step1=>
   rintro y c st' _ hy ⟨rfl,out,ia,ib,p,q,rfl,hm,h1,h2,h3⟩;dsimp only;obtain⟨u,eu,eu',mu⟩:=ZaK (a:=b) h2;obtain⟨v,ev,ev',mv⟩:=ZaK (a:=a) (i:=ia) (by (clear h3 h2 hy hx c2 c1 hb ha;omega));refine wpS_bind (Zap eu (wpS_bind (Zap ev ?_)));refine wpS_bind (ZeS hA hk1 (okb u mu) (oka v mv) ?_)
   cases e:O.blt (O.ky u) (O.ky v) with
   | true=>
    simp only[if_true];refine wpS_bind (Zap eu ?_);have m2:=pB hm eu fun z hz=>KO.le_trans (KO.le_of_lt e) (ZcG sa ev' z hz);by_cases c3:ib+1=b.size
    ·rw[if_pos (by simpa using c3)];exact wpS_pure ⟨rfl,.inl ⟨_,_,_,_,_,_,rfl,done m2 (by (clear h3 h2 h1 hy hx c2 c1 hb ha;omega))⟩⟩
    rw[if_neg (by simpa using c3)];refine ZaF (fun _=>?_) (fun _=>?_)
    ·exact wpS_pure ⟨rfl,.inr ⟨_,_,_,_,_,rfl,m2,by (clear c3 h3 h2 hy hx c2 c1 hb ha;omega),by (clear h3 h1 hy hx c2 c1 hb ha;omega),by (clear c3 h2 h1 hy hx c2 c1 hb ha;omega)⟩⟩
    ·exact wpS_pure ⟨rfl,_,_,_,_,_,rfl,m2,by (clear c3 h3 h2 hy hx c2 c1 hb ha;omega),by (clear h3 h1 hy hx c2 c1 hb ha;omega),by (clear c3 h2 h1 hy hx c2 c1 hb ha;omega)⟩
   | false=>
    simp only[YaR,if_false];refine wpS_bind (Zap ev ?_);have m2:=pA hm ev fun z hz=>KO.le_trans (show O.le v u from e) (ZcG sb eu' z hz);by_cases c3:ia+1+1=a.size
    ·rw[if_pos (by simpa using c3)];exact wpS_pure ⟨rfl,.inl ⟨_,_,_,_,_,_,rfl,last m2 c3⟩⟩
    rw[if_neg (by simpa using c3)];refine ZaF (fun _=>?_) (fun _=>?_)
    ·exact wpS_pure ⟨rfl,.inr ⟨_,_,_,_,_,rfl,m2,by (clear h3 h2 hy hx c2 c1 hb ha;omega),by (clear c3 h3 h1 hy hx c2 c1 hb ha;omega),by (clear c3 h2 h1 hy hx c2 c1 hb ha;omega)⟩⟩
    ·exact wpS_pure ⟨rfl,_,_,_,_,_,rfl,m2,by (clear h3 h2 hy hx c2 c1 hb ha;omega),by (clear c3 h3 h1 hy hx c2 c1 hb ha;omega),by (clear c3 h2 h1 hy hx c2 c1 hb ha;omega)⟩
  case post1=>
   rintro c st' ⟨rfl,⟨r,out,ia,ib,p,q,rfl,hr⟩ | ⟨out,ia,ib,p,q,rfl,hm,h1,h2,h3⟩⟩
   ·exact wpS_pure ⟨hG1,_,_,_,_,_,rfl,hr⟩
   dsimp only;refine wpS_bind (wpS_lift (wpAny_rule ⟨rfl,?_⟩));refine wpS_bind (wpS_mono (wpS_forRange
    (I:=fun y c st'=>Gal st st'/\∃ (out:Array Keyed) (ia ib g p q:Nat),c=((none:Option (Array Keyed)),out,ia,ib,g,p,q)/\MI O a.toList b.toList out.toList ia ib/\ia+1<a.size/\ib<b.size/\x+1<=ia+ib)
    (Q:=fun c st'=>Gal st st'/\((∃ (r out:Array Keyed) (ia ib g p q:Nat),c=(some r,out,ia,ib,g,p,q)/\Mg O a.toList b.toList r.toList) ∨
     (∃ (out:Array Keyed) (ia ib g p q:Nat),c=(none,out,ia,ib,g,p,q)/\MI O a.toList b.toList out.toList ia ib/\ia+1<a.size/\ib<b.size/\x+1<=ia+ib))) ?step2 ?fin2 ⟨hG1,out,ia,ib,g+1,p,q,rfl,hm,h1,h2,h3⟩) ?post2)
   case fin2=>
    rintro c st' ⟨hG,out,ia,ib,g,p,q,rfl,hm,h1,h2,h3⟩;exact⟨hG,.inr ⟨out,ia,ib,g,p,q,rfl,hm,h1,h2,h3⟩⟩
   case post2=>
    rintro c st' ⟨hG,⟨r,out,ia,ib,g,p,q,rfl,hr⟩ | ⟨out,ia,ib,g,p,q,rfl,hm,h1,h2,h3⟩⟩
    ·exact wpS_pure ⟨hG,_,_,_,_,_,rfl,hr⟩
    exact wpS_bind (Zbc hG fun st2 hG2=>wpS_pure ⟨hG2,_,_,_,_,rfl,hm,h1,h2,h3⟩)
   case step2=>
    rintro y c st' _ hy ⟨hG,out,ia,ib,g,p,q,rfl,hm,h1,h2,h3⟩;dsimp only;obtain⟨u,eu,eu',mu⟩:=ZaK (a:=b) h2;refine ZaF (fun cg=>?_) (fun cg=>?_)
    all_goals
     refine wpS_bind (Zbc hG fun st2 hG2=>wpS_bind (Zap eu ?_));refine wpS_bind (Zb6 hA (hG2.1.trans hk) (okb u mu) oka (by (clear cg h3 h2 hy hx c2 c1 hb ha;omega)) (srtA sa _ _) (by (clear cg h3 h2 hy hx c2 c1 hb ha;omega)) fun k hk1 b1 b2=>?_);have m3:=hm.takeAs sa k (by simp;(clear cg h3 h2 hy hx c2 c1 hb ha;omega)) fun i z hi e y hy=>KO.le_trans (b1 i z hi (by rw[<- Yap];exact e)) (ZcG sb eu' y hy);have hu:∀ z∈a.toList.drop (ia+k),O.le u z:=by
      intro z hz;obtain⟨j,hj,e⟩:=ZaZ hz;have hj2:j<a.size:=(Yab.mp e).1
      refine KO.le_of_lt (b2 (j - ia) z (by (clear hj2 hk1 cg h3 h2 h1 hy hx c2 c1 hb ha;omega)) (by (clear hj hk1 cg h3 h2 hy hx c2 c1 hb ha;omega)) ?_);rw[show ia+(j - ia)=j by (clear hj2 hk1 cg h3 h2 h1 hy hx c2 c1 hb ha;omega),<- Yap];exact e
     have hka:ia+k<a.size:=by
      rcases YeQ hk1 with z | z
      ·(clear hk1 cg h3 h2 h1 hy hx c2 c1 hb ha;omega)
      ·obtain⟨zl,el,_,_⟩:=ZaK (a:=a) (i:=a.size - 1) (by (clear z hk1 cg h3 h2 h1 hy hx c2 c1 hb ha;omega));have q1:=hlast zl el u mu;have q2:=b1 (a.size - 1 - ia) zl (by (clear hk1 cg h3 h2 hy hx c2 c1 hb ha;omega)) (by rw[show ia+(a.size - 1 - ia)=a.size - 1 by (clear z hk1 cg h3 h2 hy hx c2 c1 hb ha;omega)];exact el);rw[show O.blt (O.ky u) (O.ky zl)=false from q2] at q1;cases q1
     dsimp only;by_cases ck:k > 0
     ·rw[if_pos ck];rw[<- Zgc,<- Ya7] at m3;by_cases c3:ia+k+1=a.size
      ·rw[if_pos (by simpa using c3)];exact wpS_pure ⟨hG2,.inl ⟨_,_,_,_,_,_,_,rfl,last m3 c3⟩⟩
      rw[if_neg (by simpa using c3),if_neg (by simp;(clear c3 ck hk1 cg h3 h2 h1 hy hx c2 c1 hb ha;omega))];refine wpS_bind (Zap eu ?_);have m4:=pB m3 eu hu;by_cases c4:ib+1=b.size
      ·rw[if_pos (by simpa using c4)];exact wpS_pure ⟨hG2,.inl ⟨_,_,_,_,_,_,_,rfl,done m4 (by (clear c3 ck hka hk1 cg h3 h2 h1 hy hx c2 c1 hb ha;omega))⟩⟩
      rw[if_neg (by simpa using c4)];obtain⟨v,ev,ev',mv⟩:=ZaK (a:=a) (i:=ia+k) (by (clear c4 c3 ck hk1 cg h3 h2 h1 hy hx c2 c1 hb ha;omega));refine wpS_bind (Zap ev ?_);refine wpS_bind (Zbj hA (hG2.1.trans hk) (oka v mv) okb (by (clear c4 c3 ck hka hk1 cg h3 h1 hy hx c2 c1 hb ha;omega)) (srtA sb _ _) (by (clear c3 ck hka hk1 cg h3 h1 hy hx c2 c1 hb ha;omega)) fun k2 hk2 d1 d2=>?_);have m5:=m4.takeBs sb k2 (by simp;(clear c4 c3 ck hka hk1 cg h3 h1 hy hx c2 c1 hb ha;omega)) fun i z hi e y hy=>KO.le_trans (KO.le_of_lt (d1 i z hi (by rw[<- Yap];exact e))) (ZcG sa ev' y hy);have hv:∀ z∈b.toList.drop (ib+1+k2),O.le v z:=by
       intro z hz;obtain⟨j,hj,e⟩:=ZaZ hz;have hj2:j<b.size:=(Yab.mp e).1
       refine d2 (j - (ib+1)) z (by (clear hj2 hk2 c4 c3 ck hka hk1 cg h3 h2 h1 hy hx c2 c1 hb ha;omega)) (by (clear hj hk2 c3 ck hka hk1 cg h3 h1 hy hx c2 c1 hb ha;omega)) ?_;rw[show ib+1+(j - (ib+1))=j by (clear hj2 hk2 c4 c3 ck hka hk1 cg h3 h2 h1 hy hx c2 c1 hb ha;omega),<- Yap];exact e
      dsimp only;by_cases ck2:k2 > 0
      ·rw[if_pos ck2];rw[<- Zgc,<- Ya7] at m5;by_cases c6:ib+1+k2=b.size
       ·rw[if_pos (by simpa using c6)];exact wpS_pure ⟨hG2,.inl ⟨_,_,_,_,_,_,_,rfl,done m5 (by (clear ck2 hk2 c4 c3 ck hka hk1 cg h3 h2 h1 hy hx c2 c1 hb ha;omega))⟩⟩
       rw[if_neg (by simpa using c6)];refine wpS_bind (Zap ev ?_);have m7:=pA m5 ev hv;by_cases c7:ia+k+1+1=a.size
       ·rw[if_pos (by simpa using c7)];exact wpS_pure ⟨hG2,.inl ⟨_,_,_,_,_,_,_,rfl,last m7 c7⟩⟩
       rw[if_neg (by simpa using c7)];refine ZaF (fun _=>?_) (fun _=>?_)
       ·exact wpS_pure ⟨hG2,.inr ⟨_,_,_,_,_,_,rfl,m7,by (clear c6 ck2 hk2 c4 ck hk1 cg h3 h2 h1 hy hx c2 c1 hb ha;omega),by (clear c7 ck2 c4 c3 ck hka hk1 cg h3 h1 hy hx c2 c1 hb ha;omega),by (clear c7 c6 ck2 hk2 c4 c3 ck hka hk1 cg h2 h1 hy hx c2 c1 hb ha;omega)⟩⟩
       ·exact wpS_pure ⟨hG2,_,_,_,_,_,_,rfl,m7,by (clear c6 ck2 hk2 c4 ck hk1 cg h3 h2 h1 hy hx c2 c1 hb ha;omega),by (clear c7 ck2 c4 c3 ck hka hk1 cg h3 h1 hy hx c2 c1 hb ha;omega),by (clear c7 c6 ck2 hk2 c4 c3 ck hka hk1 cg h2 h1 hy hx c2 c1 hb ha;omega)⟩
      ·rw[if_neg ck2];have k0:k2=0:=by (clear hk2 c4 c3 ck hka hk1 cg h3 h2 h1 hy hx c2 c1 hb ha;omega)
       subst k0;rw[Ybb,Ybf] at m5;refine wpS_bind (Zap ev ?_);have m7:=pA m5 ev hv;by_cases c7:ia+k+1+1=a.size
       ·rw[if_pos (by simpa using c7)];exact wpS_pure ⟨hG2,.inl ⟨_,_,_,_,_,_,_,rfl,last m7 c7⟩⟩
       rw[if_neg (by simpa using c7)];refine ZaF (fun _=>?_) (fun _=>?_)
       ·exact wpS_pure ⟨hG2,.inr ⟨_,_,_,_,_,_,rfl,m7,by (clear ck2 hk2 c4 ck hk1 cg h3 h2 h1 hy hx c2 c1 hb ha;omega),by (clear c7 ck2 hk2 c3 ck hka hk1 cg h3 h1 hy hx c2 c1 hb ha;omega),by (clear c7 ck2 hk2 c4 c3 ck hka hk1 cg h2 h1 hy hx c2 c1 hb ha;omega)⟩⟩
       ·exact wpS_pure ⟨hG2,_,_,_,_,_,_,rfl,m7,by (clear ck2 hk2 c4 ck hk1 cg h3 h2 h1 hy hx c2 c1 hb ha;omega),by (clear c7 ck2 hk2 c3 ck hka hk1 cg h3 h1 hy hx c2 c1 hb ha;omega),by (clear c7 ck2 hk2 c4 c3 ck hka hk1 cg h2 h1 hy hx c2 c1 hb ha;omega)⟩
     ·rw[if_neg ck];have k0:k=0:=by (clear hka hk1 cg h3 h2 h1 hy hx c2 c1 hb ha;omega)
      subst k0;rw[Ybb,Ybf] at m3;refine wpS_bind (Zap eu ?_);have m4:=pB m3 eu hu;by_cases c4:ib+1=b.size
      ·rw[if_pos (by simpa using c4)];exact wpS_pure ⟨hG2,.inl ⟨_,_,_,_,_,_,_,rfl,done m4 (by (clear ck hka hk1 cg h3 h2 h1 hy hx c2 c1 hb ha;omega))⟩⟩
      rw[if_neg (by simpa using c4)];obtain⟨v,ev,ev',mv⟩:=ZaK (a:=a) (i:=ia+0) (by (clear c4 ck hka hk1 cg h3 h2 hy hx c2 c1 hb ha;omega));refine wpS_bind (Zap ev ?_);refine wpS_bind (Zbj hA (hG2.1.trans hk) (oka v mv) okb (by (clear c4 ck hka hk1 cg h3 h1 hy hx c2 c1 hb ha;omega)) (srtA sb _ _) (by (clear ck hka hk1 cg h3 h1 hy hx c2 c1 hb ha;omega)) fun k2 hk2 d1 d2=>?_);have m5:=m4.takeBs sb k2 (by simp;(clear c4 ck hka hk1 cg h3 h1 hy hx c2 c1 hb ha;omega)) fun i z hi e y hy=>KO.le_trans (KO.le_of_lt (d1 i z hi (by rw[<- Yap];exact e))) (ZcG sa ev' y hy);have hv:∀ z∈b.toList.drop (ib+1+k2),O.le v z:=by
       intro z hz;obtain⟨j,hj,e⟩:=ZaZ hz;have hj2:j<b.size:=(Yab.mp e).1
       refine d2 (j - (ib+1)) z (by (clear hj2 hk2 c4 ck hka hk1 cg h3 h2 h1 hy hx c2 c1 hb ha;omega)) (by (clear hj hk2 ck hka hk1 cg h3 h1 hy hx c2 c1 hb ha;omega)) ?_;rw[show ib+1+(j - (ib+1))=j by (clear hj2 hk2 c4 ck hka hk1 cg h3 h2 h1 hy hx c2 c1 hb ha;omega),<- Yap];exact e
      dsimp only;by_cases ck2:k2 > 0
      ·rw[if_pos ck2];rw[<- Zgc,<- Ya7] at m5;by_cases c6:ib+1+k2=b.size
       ·rw[if_pos (by simpa using c6)];exact wpS_pure ⟨hG2,.inl ⟨_,_,_,_,_,_,_,rfl,done m5 (by (clear ck2 hk2 c4 ck hka hk1 cg h3 h2 h1 hy hx c2 c1 hb ha;omega))⟩⟩
       rw[if_neg (by simpa using c6)];refine wpS_bind (Zap ev ?_);have m7:=pA m5 ev hv;by_cases c7:ia+0+1+1=a.size
       ·rw[if_pos (by simpa using c7)];exact wpS_pure ⟨hG2,.inl ⟨_,_,_,_,_,_,_,rfl,last m7 c7⟩⟩
       rw[if_neg (by simpa using c7)];refine ZaF (fun _=>?_) (fun _=>?_)
       ·exact wpS_pure ⟨hG2,.inr ⟨_,_,_,_,_,_,rfl,m7,by (clear c6 ck2 hk2 c4 ck hka hk1 cg h3 h2 hy hx c2 c1 hb ha;omega),by (clear c7 ck2 c4 ck hka hk1 cg h3 h1 hy hx c2 c1 hb ha;omega),by (clear c7 c6 ck2 hk2 c4 ck hka hk1 cg h2 h1 hy hx c2 c1 hb ha;omega)⟩⟩
       ·exact wpS_pure ⟨hG2,_,_,_,_,_,_,rfl,m7,by (clear c6 ck2 hk2 c4 ck hka hk1 cg h3 h2 hy hx c2 c1 hb ha;omega),by (clear c7 ck2 c4 ck hka hk1 cg h3 h1 hy hx c2 c1 hb ha;omega),by (clear c7 c6 ck2 hk2 c4 ck hka hk1 cg h2 h1 hy hx c2 c1 hb ha;omega)⟩
      ·rw[if_neg ck2];have k0:k2=0:=by (clear hk2 c4 ck hka hk1 cg h3 h2 h1 hy hx c2 c1 hb ha;omega)
       subst k0;rw[Ybb,Ybf] at m5;refine wpS_bind (Zap ev ?_);have m7:=pA m5 ev hv;by_cases c7:ia+0+1+1=a.size
       ·rw[if_pos (by simpa using c7)];exact wpS_pure ⟨hG2,.inl ⟨_,_,_,_,_,_,_,rfl,last m7 c7⟩⟩
       rw[if_neg (by simpa using c7)];refine ZaF (fun _=>?_) (fun _=>?_)
       ·exact wpS_pure ⟨hG2,.inr ⟨_,_,_,_,_,_,rfl,m7,by (clear ck2 hk2 c4 ck hka hk1 cg h3 h2 hy hx c2 c1 hb ha;omega),by (clear c7 ck2 hk2 ck hka hk1 cg h3 h1 hy hx c2 c1 hb ha;omega),by (clear c7 ck2 hk2 c4 ck hka hk1 cg h2 h1 hy hx c2 c1 hb ha;omega)⟩⟩
       ·exact wpS_pure ⟨hG2,_,_,_,_,_,_,rfl,m7,by (clear ck2 hk2 c4 ck hka hk1 cg h3 h2 hy hx c2 c1 hb ha;omega),by (clear c7 ck2 hk2 ck hka hk1 cg h3 h1 hy hx c2 c1 hb ha;omega),by (clear c7 ck2 hk2 c4 ck hka hk1 cg h2 h1 hy hx c2 c1 hb ha;omega)⟩
end
section
variable {O:KO}{a b out:List Keyed}{na nb:Nat}{x:Keyed}
structure MH (O:KO) (a b out:List Keyed) (na nb:Nat):Prop where
 perm:(a.take na++b.take nb++out.reverse).Perm (a++b)
 srt:O.Srt out.reverse
 le:∀ x∈a.take na++b.take nb,∀ y∈out,O.le x y
theorem ZhH {l:List Keyed}{i:Nat}{x:Keyed} (e:l[i]?=some x):l.take (i+1)=l.take i++[x]:=by
 rw[List.take_succ,e];rfl
theorem MH.takeA (h:MH O a b out (na+1) nb) (sa:O.Srt a) (e:a[na]?=some x) (hb:∀ y∈b.take nb,O.le y x):MH O a b (out++[x]) na nb:=by
 have ed:=ZhH e;have sd:O.Srt (a.take na++[x]):=ed ▸ sa.take;have hx:x∈a.take (na+1)++b.take nb:=by rw[ed];simp
 refine⟨?_,?_,fun y hy z hz=>?_⟩
 ·have p:=h.perm;rw[ed] at p;refine Yds ?_ p;rw[Ycr];simp only[YbC,YcJ,YdP,YaJ,Yc8];refine Yb2 _ ?_;exact (YeZ (a:=x) (l₁:=b.take nb) (l₂:=out.reverse))
 ·rw[Ycr];exact YbA.mpr ⟨fun y hy=>h.le x hx y (YbX.mp hy),h.srt⟩
 ·rcases Yar.mp hz with hz | hz
  ·refine h.le y ?_ z hz;rw[ed];rcases Yar.mp hy with hy | hy
   ·exact YaV _ (YaV _ hy)
   ·exact Yau _ hy
  ·rw[YaN.mp hz];rcases Yar.mp hy with hy | hy
   ·exact (YaX.mp sd).2.2 y hy x (by simp)
   ·exact hb y hy
theorem MH.takeB (h:MH O a b out na (nb+1)) (sb:O.Srt b) (e:b[nb]?=some x) (ha:∀ y∈a.take na,O.le y x):MH O a b (out++[x]) na nb:=by
 have ed:=ZhH e;have sd:O.Srt (b.take nb++[x]):=ed ▸ sb.take;have hx:x∈a.take na++b.take (nb+1):=by rw[ed];simp
 refine⟨?_,?_,fun y hy z hz=>?_⟩
 ·have p:=h.perm;rw[ed] at p;rw[Ycr];simpa using p
 ·rw[Ycr];exact YbA.mpr ⟨fun y hy=>h.le x hx y (YbX.mp hy),h.srt⟩
 ·rcases Yar.mp hz with hz | hz
  ·refine h.le y ?_ z hz;rw[ed];rcases Yar.mp hy with hy | hy
   ·exact YaV _ hy
   ·exact Yau _ (YaV _ hy)
  ·rw[YaN.mp hz];rcases Yar.mp hy with hy | hy
   ·exact ha y hy
   ·exact (YaX.mp sd).2.2 y hy x (by simp)
theorem ZgB {l:List Keyed}{i d:Nat}{x:Keyed} (e:l[i]?=some x):(l.drop i).take (d+1)=x::(l.drop (i+1)).take d:=by
 rw[Zge e];rfl
theorem MH.takeAs (h:MH O a b out na nb) (sa:O.Srt a) (hn:na<=a.length):∀ d,d<=na->(∀ i z,na - d<=i->i<na->a[i]?=some z->∀ y∈b.take nb,O.le y z)->MH O a b (out++((a.drop (na - d)).take d).reverse) (na - d) nb
 | 0,_,_=>by simpa using h
 | d+1,hl,hz=>by
  have q:=MH.takeAs h sa hn d (by (clear hn;omega)) fun i z h1 h2 e=>hz i z (by (clear h2 hl hn;omega)) h2 e;have e:a[na - (d+1)]?=some a[na - (d+1)]:=Yac (by omega);rw[show na - d=na - (d+1)+1 by omega] at q;have r:=q.takeA sa e (hz _ _ (by omega) (by omega) e);rw[YaJ,<- YbC,<- ZgB e] at r;exact r
theorem MH.takeBs (h:MH O a b out na nb) (sb:O.Srt b) (hn:nb<=b.length):∀ d,d<=nb->(∀ i z,nb - d<=i->i<nb->b[i]?=some z->∀ y∈a.take na,O.le y z)->MH O a b (out++((b.drop (nb - d)).take d).reverse) na (nb - d)
 | 0,_,_=>by simpa using h
 | d+1,hl,hz=>by
  have q:=MH.takeBs h sb hn d (by (clear hn;omega)) fun i z h1 h2 e=>hz i z (by (clear h2 hl hn;omega)) h2 e;have e:b[nb - (d+1)]?=some b[nb - (d+1)]:=Yac (by omega);rw[show nb - d=nb - (d+1)+1 by omega] at q;have r:=q.takeB sb e (hz _ _ (by omega) (by omega) e);rw[YaJ,<- YbC,<- ZgB e] at r;exact r
theorem MH.doneA (h:MH O a b out 0 nb) (sb:O.Srt b):Mg O a b (a.take 0++b.take nb++out.reverse):=by
 refine⟨h.perm,?_⟩;rw[Ybb,YdP];exact YaX.mpr ⟨sb.take,h.srt,fun x hx y hy=>h.le x (Yau _ hx) y (YbX.mp hy)⟩
theorem MH.doneB (h:MH O a b out na nb) (sa:O.Srt a) (sb:O.Srt b) (hl:∀ x∈b.take nb,∀ y∈a.take na,O.le x y):Mg O a b (b.take nb++a.take na++out.reverse):=by
 refine⟨(Yc0 _ Yc9).trans h.perm,?_⟩;refine YaX.mpr ⟨YaX.mpr ⟨sb.take,sa.take,hl⟩,h.srt,fun x hx y hy=>h.le x ?_ y (YbX.mp hy)⟩;rcases Yar.mp hx with hx | hx
 ·exact Yau _ hx
 ·exact YaV _ hx
theorem ZaY {l:List Keyed}{i:Nat}{y:Keyed} (h:y∈l.take i):∃ j,j<i/\l[j]?=some y:=by
 obtain⟨j,hj,e⟩:=Yez.mp h;rw[YaL] at hj;refine⟨j,by omega,?_⟩;rw[Ydu] at e;rw[Yac (by omega),e]
theorem ZiF {l:List Keyed} (sl:O.Srt l) {i:Nat}{x:Keyed} (hx:l[i]?=some x):∀ y∈l.take (i+1),O.le y x:=fun y hy=>
 let ⟨_,hj,e⟩:=ZaY hy
 Zch sl (by omega) e hx
theorem ZeI (a:Array Keyed) (i:Nat):(a.extract 0 i).toList=a.toList.take i:=by
 rw[YcK];simp[Yeo]
theorem ZeH (a:Array Keyed) (i n:Nat):(a.extract i n).toList=(a.toList.drop i).take (n - i):=by
 rw[YcK]
end
section
variable {prog:Program}{w:World}{A:Around}{E:Value->Shared->Prop}{s:Shared}{O:KO}{knd:SortKind}{ok:Keyed->Prop}{st:SortSt}
theorem ZfI {a b:Array Keyed}{Q:Array Keyed->SortSt->Prop} (hA:Asks prog w A s O knd ok) (hk:kindOf st=knd) (oka:∀ x∈a.toList,ok x) (okb:∀ x∈b.toList,ok x) (sa:O.Srt a.toList) (sb:O.Srt b.toList) (ha:1<=a.size) (hb:1<=b.size)
  (hfirst:∀ y,b[0]?=some y->∀ x∈a.toList,O.blt (O.ky y) (O.ky x)=true) (hlast:∀ z,a[a.size - 1]?=some z->∀ y∈b.toList,O.le y z)
  (h:∀ r st',Gal st st'->Mg O a.toList b.toList r.toList->Q r st'):wpS (model prog w) A E s (Zku a b) Q st:=by
 obtain⟨a0,ea0,ea0',_⟩:=ZaK (a:=a) (i:=a.size - 1) (by (clear hb;omega));have done:∀ {out:Array Keyed}{nb:Nat},MH O a.toList b.toList out.toList 0 nb->Mg O a.toList b.toList (a.extract 0 0++b.extract 0 nb++out.reverse).toList:=by
  intro out nb m;rw[Ya7,Ya7,ZeI,ZeI,Ycf];exact m.doneA sb
 have first:∀ {out:Array Keyed}{na:Nat},MH O a.toList b.toList out.toList na 1->Mg O a.toList b.toList (b.extract 0 1++a.extract 0 na++out.reverse).toList:=by
  intro out na m;rw[Ya7,Ya7,ZeI,ZeI,Ycf];refine m.doneB sa sb fun x hx y hy=>?_;obtain⟨j,hj,e⟩:=ZaY hx;have e2:j=0:=by (clear hb ha;omega)
  rw[e2,Yap] at e;exact KO.le_of_lt (hfirst x e y (Ybe hy))
 have pB:∀ {out:Array Keyed}{na nb:Nat}{y:Keyed},1<=nb->MH O a.toList b.toList out.toList na nb->b[nb - 1]?=some y->(∀ z∈a.toList.take na,O.le z y)->MH O a.toList b.toList (out.push y).toList na (nb - 1):=by
  intro out na nb y hn m e hz;rw[YcC];exact MH.takeB (by rw[show nb - 1+1=nb by (clear hb ha;omega)];exact m) sb (Zea e) hz
 have pA:∀ {out:Array Keyed}{na nb:Nat}{y:Keyed},1<=na->MH O a.toList b.toList out.toList na nb->a[na - 1]?=some y->(∀ z∈b.toList.take nb,O.le z y)->MH O a.toList b.toList (out.push y).toList (na - 1) nb:=by
  intro out na nb y hn m e hz;rw[YcC];exact MH.takeA (by rw[show na - 1+1=na by (clear hb ha;omega)];exact m) sa (Zea e) hz
 have leT:∀ {l:List Keyed}{i:Nat}{x:Keyed},O.Srt l->1<=i->l[i - 1]?=some x->∀ y∈l.take i,O.le y x:=by
  intro l i x sl hi e y hy;exact ZiF sl e y (by rw[show i - 1+1=i by (clear hb ha;omega)];exact hy)
 refine wpS_bind (wpS_lift (wpAny_rule ⟨rfl,?_⟩));refine wpS_bind (Zap ea0 ?_);have m0:MH O a.toList b.toList #[a0].toList (a.size - 1) b.size:=by
  refine MH.takeA (out:=[]) (na:=a.size - 1) (nb:=b.size) ⟨?_,Yco,fun x hx y hy=>by cases hy⟩ sa ea0' fun y hy=>hlast a0 ea0 y (Ybe hy);rw[show a.size - 1+1=a.size by (clear hb;omega),Ybk (by simp),Ybk (by simp)];simp
 dsimp only;by_cases c1:a.size - 1=0
 ·rw[if_pos (by simpa using c1)];rw[c1] at m0 ⊢;exact wpS_pure (h _ _ Gal.refl (done m0))
 rw[if_neg (by simpa using c1)];by_cases c2:b.size=1
 ·rw[if_pos (by simpa using c2)];rw[c2] at m0;rw[c2];exact wpS_pure (h _ _ Gal.refl (first m0))
 rw[if_neg (by simpa using c2)];refine wpS_bind (wpS_get ?_);refine wpS_bind (wpS_mono (wpS_forRange
  (I:=fun x c st'=>Gal st st'/\∃ (out:Array Keyed) (na nb g:Nat),c=((none:Option (Array Keyed)),na,nb,out,g)/\MH O a.toList b.toList out.toList na nb/\1<=na/\na<=a.size/\2<=nb/\nb<=b.size/\x+na+nb<=a.size+b.size)
  (Q:=fun c st'=>Gal st st'/\∃ (r out:Array Keyed) (na nb g:Nat),c=(some r,na,nb,out,g)/\Mg O a.toList b.toList r.toList) ?step ?fin ⟨Gal.refl,#[a0],a.size - 1,b.size,gallopOf st,rfl,m0,by (clear c2 hb ha;omega),by (clear c2 c1 hb ha;omega),by (clear c1 ha;omega),by (clear c2 c1 hb ha;omega),show 0+(a.size - 1)+b.size<=_ by (clear c2 c1 hb ha;omega)⟩) ?post)
 case fin=>
  rintro c st' ⟨_,out,na,nb,g,rfl,_,h1,h1',h2,h2',h3⟩
  (clear h2' h2 h1' c2 c1 hb ha;omega)
 case post=>
  rintro c st' ⟨hG,r,out,na,nb,g,rfl,hm⟩;exact wpS_pure (h r st' hG hm)
 case step=>
  rintro x c st1 _ hx ⟨hG1,out,na,nb,g,rfl,hm,h1,h1',h2,h2',h3⟩;dsimp only;have hk1:kindOf st1=knd:=hG1.1.trans hk;refine wpS_bind (wpS_mono (wpS_forRange
   (I:=fun y c st'=>st'=st1/\∃ (out:Array Keyed) (na nb p q:Nat),c=((none:Option (Array Keyed)),na,nb,out,p,q)/\MH O a.toList b.toList out.toList na nb/\1<=na/\na<=a.size/\2<=nb/\nb<=b.size/\x+y+na+nb<=a.size+b.size)
   (Q:=fun c st'=>st'=st1/\((∃ (r out:Array Keyed) (na nb p q:Nat),c=(some r,na,nb,out,p,q)/\Mg O a.toList b.toList r.toList) ∨
    (∃ (out:Array Keyed) (na nb p q:Nat),c=(none,na,nb,out,p,q)/\MH O a.toList b.toList out.toList na nb/\1<=na/\na<=a.size/\2<=nb/\nb<=b.size/\x+1+na+nb<=a.size+b.size))) ?step1 ?fin1 ⟨rfl,out,na,nb,0,0,rfl,hm,h1,h1',h2,h2',by (clear h2' h2 h1' h1 hx c2 c1 hb ha;omega)⟩) ?post1)
  case fin1=>
   rintro c st' ⟨rfl,out,na,nb,p,q,rfl,hm,h1,h1',h2,h2',h3⟩;exact⟨rfl,.inr ⟨out,na,nb,p,q,rfl,hm,h1,h1',h2,h2',by (clear h2' h2 h1' h1 hx c2 c1 hb ha;omega)⟩⟩
  case step1=>
   rintro y c st' _ hy ⟨rfl,out,na,nb,p,q,rfl,hm,h1,h1',h2,h2',h3⟩;dsimp only;obtain⟨u,eu,eu',mu⟩:=ZaK (a:=b) (i:=nb - 1) (by (clear h3 h2 h1' h1 hy hx c2 c1 hb ha;omega));obtain⟨v,ev,ev',mv⟩:=ZaK (a:=a) (i:=na - 1) (by (clear h3 h2' h2 h1 hy hx c2 c1 hb ha;omega));refine wpS_bind (Zap eu (wpS_bind (Zap ev ?_)));refine wpS_bind (ZeS hA hk1 (okb u mu) (oka v mv) ?_)
   cases e:O.blt (O.ky u) (O.ky v) with
   | true=>
    simp only[if_true];refine wpS_bind (Zap ev ?_);have m2:=pA h1 hm ev fun z hz=>KO.le_trans (leT sb (by (clear h3 h2' h1' h1 hy hx c2 c1 hb ha;omega)) eu' z hz) (KO.le_of_lt e);by_cases c3:na - 1=0
    ·rw[if_pos (by simpa using c3)];rw[c3] at m2 ⊢;exact wpS_pure ⟨rfl,.inl ⟨_,_,_,_,_,_,rfl,done m2⟩⟩
    rw[if_neg (by simpa using c3)];refine ZaF (fun _=>?_) (fun _=>?_)
    ·exact wpS_pure ⟨rfl,.inr ⟨_,_,_,_,_,rfl,m2,by (clear h3 h2' h2 h1' h1 hy hx c2 c1 hb ha;omega),by (clear c3 h3 h2' h2 h1 hy hx c2 c1 hb ha;omega),by (clear c3 h3 h2' h1' h1 hy hx c2 c1 hb ha;omega),by (clear c3 h3 h2 h1' h1 hy hx c2 c1 hb ha;omega),by (clear c3 h2' h2 h1' hy hx c2 c1 hb ha;omega)⟩⟩
    ·exact wpS_pure ⟨rfl,_,_,_,_,_,rfl,m2,by (clear h3 h2' h2 h1' h1 hy hx c2 c1 hb ha;omega),by (clear c3 h3 h2' h2 h1 hy hx c2 c1 hb ha;omega),by (clear c3 h3 h2' h1' h1 hy hx c2 c1 hb ha;omega),by (clear c3 h3 h2 h1' h1 hy hx c2 c1 hb ha;omega),by (clear c3 h2' h2 h1' hy hx c2 c1 hb ha;omega)⟩
   | false=>
    simp only[YaR,if_false];refine wpS_bind (Zap eu ?_);have m2:=pB (by (clear h3 h2' h1' h1 hy hx c2 c1 hb ha;omega)) hm eu fun z hz=>KO.le_trans (leT sa (by (clear h3 h2' h2 h1' hy hx c2 c1 hb ha;omega)) ev' z hz) (show O.le v u from e);by_cases c3:nb - 1=1
    ·rw[if_pos (by simpa using c3)];rw[c3] at m2 ⊢;exact wpS_pure ⟨rfl,.inl ⟨_,_,_,_,_,_,rfl,first m2⟩⟩
    rw[if_neg (by simpa using c3)];refine ZaF (fun _=>?_) (fun _=>?_)
    ·exact wpS_pure ⟨rfl,.inr ⟨_,_,_,_,_,rfl,m2,by (clear c3 h3 h2' h2 h1' hy hx c2 c1 hb ha;omega),by (clear c3 h3 h2' h2 h1 hy hx c2 c1 hb ha;omega),by (clear h3 h2' h1' h1 hy hx c2 c1 hb ha;omega),by (clear c3 h3 h2 h1' h1 hy hx c2 c1 hb ha;omega),by (clear c3 h2' h1' h1 hy hx c2 c1 hb ha;omega)⟩⟩
    ·exact wpS_pure ⟨rfl,_,_,_,_,_,rfl,m2,by (clear c3 h3 h2' h2 h1' hy hx c2 c1 hb ha;omega),by (clear c3 h3 h2' h2 h1 hy hx c2 c1 hb ha;omega),by (clear h3 h2' h1' h1 hy hx c2 c1 hb ha;omega),by (clear c3 h3 h2 h1' h1 hy hx c2 c1 hb ha;omega),by (clear c3 h2' h1' h1 hy hx c2 c1 hb ha;omega)⟩
  case post1=>
   rintro c st' ⟨rfl,⟨r,out,na,nb,p,q,rfl,hr⟩ | ⟨out,na,nb,p,q,rfl,hm,h1,h1',h2,h2',h3⟩⟩
   ·exact wpS_pure ⟨hG1,_,_,_,_,_,rfl,hr⟩
   dsimp only;refine wpS_bind (wpS_lift (wpAny_rule ⟨rfl,?_⟩));refine wpS_bind (wpS_mono (wpS_forRange
    (I:=fun y c st'=>Gal st st'/\∃ (out:Array Keyed) (na nb g p q:Nat),c=((none:Option (Array Keyed)),na,nb,out,g,p,q)/\MH O a.toList b.toList out.toList na nb/\1<=na/\na<=a.size/\2<=nb/\nb<=b.size/\x+1+na+nb<=a.size+b.size)
    (Q:=fun c st'=>Gal st st'/\((∃ (r out:Array Keyed) (na nb g p q:Nat),c=(some r,na,nb,out,g,p,q)/\Mg O a.toList b.toList r.toList) ∨
     (∃ (out:Array Keyed) (na nb g p q:Nat),c=(none,na,nb,out,g,p,q)/\MH O a.toList b.toList out.toList na nb/\1<=na/\na<=a.size/\2<=nb/\nb<=b.size/\x+1+na+nb<=a.size+b.size))) ?step2 ?fin2 ⟨hG1,out,na,nb,g+1,p,q,rfl,hm,h1,h1',h2,h2',h3⟩) ?post2)
   case fin2=>
    rintro c st' ⟨hG,out,na,nb,g,p,q,rfl,hm,h1,h1',h2,h2',h3⟩;exact⟨hG,.inr ⟨out,na,nb,g,p,q,rfl,hm,h1,h1',h2,h2',h3⟩⟩
   case post2=>
    rintro c st' ⟨hG,⟨r,out,na,nb,g,p,q,rfl,hr⟩ | ⟨out,na,nb,g,p,q,rfl,hm,h1,h1',h2,h2',h3⟩⟩
    ·exact wpS_pure ⟨hG,_,_,_,_,_,rfl,hr⟩
    exact wpS_bind (Zbc hG fun st2 hG2=>wpS_pure ⟨hG2,_,_,_,_,rfl,hm,h1,h1',h2,h2',h3⟩)
   case step2=>
    rintro y c st' _ hy ⟨hG,out,na,nb,g,p,q,rfl,hm,h1,h1',h2,h2',h3⟩;dsimp only;obtain⟨u,eu,eu',mu⟩:=ZaK (a:=b) (i:=nb - 1) (by (clear h3 h2 h1' h1 hy hx c2 c1 hb ha;omega));refine ZaF (fun cg=>?_) (fun cg=>?_)
    all_goals
     refine wpS_bind (Zbc hG fun st2 hG2=>wpS_bind (Zap eu ?_));refine wpS_bind (Zb6 hA (hG2.1.trans hk) (okb u mu) oka (by (clear cg h3 h2' h2 h1 hy hx c2 c1 hb ha;omega)) (srtA sa _ _) (by (clear cg h3 h2' h2 h1' hy hx c2 c1 hb ha;omega)) fun k hk1 b1 b2=>?_);have m3:=hm.takeAs sa (by simp;(clear hk1 cg h3 h2' h2 h1 hy hx c2 c1 hb ha;omega)) (na - k) (by (clear hk1 cg h3 h2' h2 h1' h1 hy hx c2 c1 hb ha;omega)) fun i z h6 h7 e y hy=>KO.le_trans (leT sb (by (clear h7 h6 hk1 cg h3 h2' h1' h1 hx c2 c1 hb ha;omega)) eu' y hy) (KO.le_of_lt (b2 i z (by (clear h7 cg h3 h2' h2 h1' h1 hx c2 c1 hb ha;omega)) (by (clear h6 hk1 cg h3 h2' h2 h1' h1 hx c2 c1 hb ha;omega)) (by rw[YbU,<- Yap];exact e)));rw[show na - (na - k)=k by (clear cg h3 h2' h2 h1' h1 hy hx c2 c1 hb ha;omega)] at m3;have hu:∀ z∈a.toList.take k,O.le z u:=by
      intro z hz;obtain⟨j,hj,e⟩:=ZaY hz;refine b1 j z hj ?_;rw[YbU,<- Yap];exact e
     dsimp only;by_cases ck:na - k > 0
     ·rw[if_pos ck];rw[<- ZeH,<- Ycf,<- Ya7] at m3;by_cases c3:k=0
      ·rw[if_pos (by simpa using c3)];rw[c3] at m3 ⊢;exact wpS_pure ⟨hG2,.inl ⟨_,_,_,_,_,_,_,rfl,done m3⟩⟩
      rw[if_neg (by simpa using c3)];refine wpS_bind (Zap eu ?_);have m4:=pB (by (clear c3 ck hk1 cg h3 h2' h1' h1 hy hx c2 c1 hb ha;omega)) m3 eu hu;by_cases c4:nb - 1=1
      ·rw[if_pos (by simpa using c4)];rw[c4] at m4 ⊢;exact wpS_pure ⟨hG2,.inl ⟨_,_,_,_,_,_,_,rfl,first m4⟩⟩
      rw[if_neg (by simpa using c4)];obtain⟨v,ev,ev',mv⟩:=ZaK (a:=a) (i:=k - 1) (by (clear c4 c3 ck cg h3 h2' h2 h1 hy hx c2 c1 hb ha;omega));refine wpS_bind (Zap ev ?_);refine wpS_bind (Zbj hA (hG2.1.trans hk) (oka v mv) okb (by (clear c4 c3 ck hk1 cg h3 h2 h1' h1 hy hx c2 c1 hb ha;omega)) (srtA sb _ _) (by (clear c4 c3 ck hk1 cg h3 h2' h1' h1 hy hx c2 c1 hb ha;omega)) fun k2 hk2 d1 d2=>?_);have hk20:1<=k2:=by
       rcases Ydr k2 with z | z
       ·obtain⟨zl,el,_,_⟩:=ZaK (a:=b) (i:=0) (by (clear z hk2 c4 c3 ck hk1 cg h3 h2' h2 h1' h1 hy hx c2 c1 hb ha;omega));have q1:=hfirst zl el v mv;have q2:=d2 0 zl (by (clear hk2 c4 c3 ck hk1 cg h3 h2' h2 h1' h1 hy hx c2 c1 hb ha;omega)) (by (clear z hk2 c4 c3 ck hk1 cg h3 h2' h1' h1 hy hx c2 c1 hb ha;omega)) (by rw[YbU];exact el);rw[show O.blt (O.ky zl) (O.ky v)=false from q2] at q1;cases q1
       ·exact z
      have m5:=m4.takeBs sb (by simp;(clear hk20 hk2 c4 c3 ck hk1 cg h3 h2 h1' h1 hy hx c2 c1 hb ha;omega)) (nb - 1 - k2) (by (clear hk20 hk2 c4 c3 ck hk1 cg h3 h2' h2 h1' h1 hy hx c2 c1 hb ha;omega)) fun i z h6 h7 e y hy=>KO.le_trans (leT sa (by (clear h7 h6 hk20 hk2 c4 ck hk1 cg h3 h2' h2 h1' h1 hx c2 c1 hb ha;omega)) ev' y hy) (d2 i z (by (clear h7 hk20 c4 c3 ck hk1 cg h3 h2' h2 h1' h1 hx c2 c1 hb ha;omega)) (by (clear h6 hk20 hk2 c4 c3 ck hk1 cg h3 h2' h2 h1' h1 hx c2 c1 hb ha;omega)) (by rw[YbU,<- Yap];exact e));rw[show nb - 1 - (nb - 1 - k2)=k2 by (clear hk20 c4 c3 ck hk1 cg h3 h2' h2 h1' h1 hy hx c2 c1 hb ha;omega)] at m5;have hv:∀ z∈b.toList.take k2,O.le z v:=by
       intro z hz;obtain⟨j,hj,e⟩:=ZaY hz;refine KO.le_of_lt (d1 j z hj ?_);rw[YbU,<- Yap];exact e
      dsimp only;by_cases ck2:nb - 1 - k2 > 0
      ·rw[if_pos ck2];rw[<- ZeH,<- Ycf,<- Ya7] at m5;by_cases c6:k2=1
       ·rw[if_pos (by simpa using c6)];rw[c6] at m5 ⊢;exact wpS_pure ⟨hG2,.inl ⟨_,_,_,_,_,_,_,rfl,first m5⟩⟩
       rw[if_neg (by simpa using c6),if_neg (by simp;(clear c6 ck2 hk2 c4 c3 ck hk1 cg h3 h2' h2 h1' h1 hy hx c2 c1 hb ha;omega))];obtain⟨v2,ev2,ev2',mv2⟩:=ZaK (a:=a) (i:=k - 1) (by (clear c6 ck2 hk20 hk2 c4 c3 ck cg h3 h2' h2 h1 hy hx c2 c1 hb ha;omega));refine wpS_bind (Zap ev2 ?_);have ee:v2=v:=Yax (ev2.symm.trans ev);subst ee;have m7:=pA (by (clear c6 ck2 hk20 hk2 c4 ck hk1 cg h3 h2' h2 h1' h1 hy hx c2 c1 hb ha;omega)) m5 ev2 hv;by_cases c7:k - 1=0
       ·rw[if_pos (by simpa using c7)];rw[c7] at m7 ⊢;exact wpS_pure ⟨hG2,.inl ⟨_,_,_,_,_,_,_,rfl,done m7⟩⟩
       rw[if_neg (by simpa using c7)];refine ZaF (fun _=>?_) (fun _=>?_)
       ·exact wpS_pure ⟨hG2,.inr ⟨_,_,_,_,_,_,rfl,m7,by (clear c6 ck2 hk20 hk2 c4 c3 ck hk1 cg h3 h2' h2 h1' h1 hy hx c2 c1 hb ha;omega),by (clear c7 c6 ck2 hk20 hk2 c4 c3 ck cg h3 h2' h2 h1 hy hx c2 c1 hb ha;omega),by (clear c7 ck2 hk2 c4 c3 ck hk1 cg h3 h2' h2 h1' h1 hy hx c2 c1 hb ha;omega),by (clear c7 c6 ck2 hk20 c4 c3 ck hk1 cg h3 h2 h1' h1 hy hx c2 c1 hb ha;omega),by (clear c7 c6 ck2 hk20 c4 c3 ck cg h2' h2 h1' h1 hy hx c2 c1 hb ha;omega)⟩⟩
       ·exact wpS_pure ⟨hG2,_,_,_,_,_,_,rfl,m7,by (clear c6 ck2 hk20 hk2 c4 c3 ck hk1 cg h3 h2' h2 h1' h1 hy hx c2 c1 hb ha;omega),by (clear c7 c6 ck2 hk20 hk2 c4 c3 ck cg h3 h2' h2 h1 hy hx c2 c1 hb ha;omega),by (clear c7 ck2 hk2 c4 c3 ck hk1 cg h3 h2' h2 h1' h1 hy hx c2 c1 hb ha;omega),by (clear c7 c6 ck2 hk20 c4 c3 ck hk1 cg h3 h2 h1' h1 hy hx c2 c1 hb ha;omega),by (clear c7 c6 ck2 hk20 c4 c3 ck cg h2' h2 h1' h1 hy hx c2 c1 hb ha;omega)⟩
      ·rw[if_neg ck2];have k0:nb - 1=k2:=by (clear hk20 c4 c3 ck hk1 cg h3 h2' h2 h1' h1 hy hx c2 c1 hb ha;omega)
       rw[show nb - 1 - k2=0 by (clear k0 hk20 hk2 c4 c3 ck hk1 cg h3 h2' h2 h1' h1 hy hx c2 c1 hb ha;omega),Ybb,YcJ,Ybf] at m5;rw[k0];obtain⟨v2,ev2,ev2',mv2⟩:=ZaK (a:=a) (i:=k - 1) (by (clear k0 ck2 hk20 hk2 c4 c3 ck cg h3 h2' h2 h1 hy hx c2 c1 hb ha;omega));refine wpS_bind (Zap ev2 ?_);have ee:v2=v:=Yax (ev2.symm.trans ev);subst ee;have m7:=pA (by (clear k0 ck2 hk20 hk2 c4 ck hk1 cg h3 h2' h2 h1' h1 hy hx c2 c1 hb ha;omega)) m5 ev2 hv;by_cases c7:k - 1=0
       ·rw[if_pos (by simpa using c7)];rw[c7] at m7 ⊢;exact wpS_pure ⟨hG2,.inl ⟨_,_,_,_,_,_,_,rfl,done m7⟩⟩
       rw[if_neg (by simpa using c7)];refine ZaF (fun _=>?_) (fun _=>?_)
       ·exact wpS_pure ⟨hG2,.inr ⟨_,_,_,_,_,_,rfl,m7,by (clear k0 ck2 hk20 hk2 c4 c3 ck hk1 cg h3 h2' h2 h1' h1 hy hx c2 c1 hb ha;omega),by (clear c7 k0 ck2 hk20 hk2 c4 c3 ck cg h3 h2' h2 h1 hy hx c2 c1 hb ha;omega),by (clear c7 k0 hk20 hk2 c3 ck hk1 cg h3 h2' h1' h1 hy hx c2 c1 hb ha;omega),by (clear c7 k0 ck2 hk20 c4 c3 ck hk1 cg h3 h2 h1' h1 hy hx c2 c1 hb ha;omega),by (clear c7 k0 ck2 hk20 c4 c3 ck cg h2' h2 h1' h1 hy hx c2 c1 hb ha;omega)⟩⟩
       ·exact wpS_pure ⟨hG2,_,_,_,_,_,_,rfl,m7,by (clear k0 ck2 hk20 hk2 c4 c3 ck hk1 cg h3 h2' h2 h1' h1 hy hx c2 c1 hb ha;omega),by (clear c7 k0 ck2 hk20 hk2 c4 c3 ck cg h3 h2' h2 h1 hy hx c2 c1 hb ha;omega),by (clear c7 k0 hk20 hk2 c3 ck hk1 cg h3 h2' h1' h1 hy hx c2 c1 hb ha;omega),by (clear c7 k0 ck2 hk20 c4 c3 ck hk1 cg h3 h2 h1' h1 hy hx c2 c1 hb ha;omega),by (clear c7 k0 ck2 hk20 c4 c3 ck cg h2' h2 h1' h1 hy hx c2 c1 hb ha;omega)⟩
     ·rw[if_neg ck];have k0:na=k:=by (clear cg h3 h2' h2 h1' h1 hy hx c2 c1 hb ha;omega)
      rw[show na - k=0 by (clear k0 hk1 cg h3 h2' h2 h1' h1 hy hx c2 c1 hb ha;omega),Ybb,YcJ,Ybf] at m3;rw[k0];refine wpS_bind (Zap eu ?_);have m4:=pB (by (clear k0 ck hk1 cg h3 h2' h1' h1 hy hx c2 c1 hb ha;omega)) m3 eu hu;by_cases c4:nb - 1=1
      ·rw[if_pos (by simpa using c4)];rw[c4] at m4 ⊢;exact wpS_pure ⟨hG2,.inl ⟨_,_,_,_,_,_,_,rfl,first m4⟩⟩
      rw[if_neg (by simpa using c4)];obtain⟨v,ev,ev',mv⟩:=ZaK (a:=a) (i:=k - 1) (by (clear c4 k0 ck cg h3 h2' h2 h1 hy hx c2 c1 hb ha;omega));refine wpS_bind (Zap ev ?_);refine wpS_bind (Zbj hA (hG2.1.trans hk) (oka v mv) okb (by (clear c4 k0 ck hk1 cg h3 h2 h1' h1 hy hx c2 c1 hb ha;omega)) (srtA sb _ _) (by (clear c4 k0 ck hk1 cg h3 h2' h1' h1 hy hx c2 c1 hb ha;omega)) fun k2 hk2 d1 d2=>?_);have hk20:1<=k2:=by
       rcases Ydr k2 with z | z
       ·obtain⟨zl,el,_,_⟩:=ZaK (a:=b) (i:=0) (by (clear z hk2 c4 k0 ck hk1 cg h3 h2' h2 h1' h1 hy hx c2 c1 hb ha;omega));have q1:=hfirst zl el v mv;have q2:=d2 0 zl (by (clear hk2 c4 k0 ck hk1 cg h3 h2' h2 h1' h1 hy hx c2 c1 hb ha;omega)) (by (clear z hk2 c4 k0 ck hk1 cg h3 h2' h1' h1 hy hx c2 c1 hb ha;omega)) (by rw[YbU];exact el);rw[show O.blt (O.ky zl) (O.ky v)=false from q2] at q1;cases q1
       ·exact z
      have m5:=m4.takeBs sb (by simp;(clear hk20 hk2 c4 k0 ck hk1 cg h3 h2 h1' h1 hy hx c2 c1 hb ha;omega)) (nb - 1 - k2) (by (clear hk20 hk2 c4 k0 ck hk1 cg h3 h2' h2 h1' h1 hy hx c2 c1 hb ha;omega)) fun i z h6 h7 e y hy=>KO.le_trans (leT sa (by (clear h7 h6 hk20 hk2 c4 k0 hk1 cg h3 h2' h2 h1' hx c2 c1 hb ha;omega)) ev' y hy) (d2 i z (by (clear h7 hk20 c4 k0 ck hk1 cg h3 h2' h2 h1' h1 hx c2 c1 hb ha;omega)) (by (clear h6 hk20 hk2 c4 k0 ck hk1 cg h3 h2' h2 h1' h1 hx c2 c1 hb ha;omega)) (by rw[YbU,<- Yap];exact e));rw[show nb - 1 - (nb - 1 - k2)=k2 by (clear hk20 c4 k0 ck hk1 cg h3 h2' h2 h1' h1 hy hx c2 c1 hb ha;omega)] at m5;have hv:∀ z∈b.toList.take k2,O.le z v:=by
       intro z hz;obtain⟨j,hj,e⟩:=ZaY hz;refine KO.le_of_lt (d1 j z hj ?_);rw[YbU,<- Yap];exact e
      dsimp only;by_cases ck2:nb - 1 - k2 > 0
      ·rw[if_pos ck2];rw[<- ZeH,<- Ycf,<- Ya7] at m5;by_cases c6:k2=1
       ·rw[if_pos (by simpa using c6)];rw[c6] at m5 ⊢;exact wpS_pure ⟨hG2,.inl ⟨_,_,_,_,_,_,_,rfl,first m5⟩⟩
       rw[if_neg (by simpa using c6),if_neg (by simp;(clear c6 ck2 hk2 c4 k0 ck hk1 cg h3 h2' h2 h1' h1 hy hx c2 c1 hb ha;omega))];obtain⟨v2,ev2,ev2',mv2⟩:=ZaK (a:=a) (i:=k - 1) (by (clear c6 ck2 hk20 hk2 c4 k0 ck cg h3 h2' h2 h1 hy hx c2 c1 hb ha;omega));refine wpS_bind (Zap ev2 ?_);have ee:v2=v:=Yax (ev2.symm.trans ev);subst ee;have m7:=pA (by (clear c6 ck2 hk20 hk2 c4 k0 hk1 cg h3 h2' h2 h1' hy hx c2 c1 hb ha;omega)) m5 ev2 hv;by_cases c7:k - 1=0
       ·rw[if_pos (by simpa using c7)];rw[c7] at m7 ⊢;exact wpS_pure ⟨hG2,.inl ⟨_,_,_,_,_,_,_,rfl,done m7⟩⟩
       rw[if_neg (by simpa using c7)];refine ZaF (fun _=>?_) (fun _=>?_)
       ·exact wpS_pure ⟨hG2,.inr ⟨_,_,_,_,_,_,rfl,m7,by (clear c6 ck2 hk20 hk2 c4 k0 ck hk1 cg h3 h2' h2 h1' h1 hy hx c2 c1 hb ha;omega),by (clear c7 c6 ck2 hk20 hk2 c4 k0 ck cg h3 h2' h2 h1 hy hx c2 c1 hb ha;omega),by (clear c7 ck2 hk2 c4 k0 ck hk1 cg h3 h2' h2 h1' h1 hy hx c2 c1 hb ha;omega),by (clear c7 c6 ck2 hk20 c4 k0 ck hk1 cg h3 h2 h1' h1 hy hx c2 c1 hb ha;omega),by (clear c7 c6 ck2 hk20 c4 k0 ck cg h2' h2 h1' h1 hy hx c2 c1 hb ha;omega)⟩⟩
       ·exact wpS_pure ⟨hG2,_,_,_,_,_,_,rfl,m7,by (clear c6 ck2 hk20 hk2 c4 k0 ck hk1 cg h3 h2' h2 h1' h1 hy hx c2 c1 hb ha;omega),by (clear c7 c6 ck2 hk20 hk2 c4 k0 ck cg h3 h2' h2 h1 hy hx c2 c1 hb ha;omega),by (clear c7 ck2 hk2 c4 k0 ck hk1 cg h3 h2' h2 h1' h1 hy hx c2 c1 hb ha;omega),by (clear c7 c6 ck2 hk20 c4 k0 ck hk1 cg h3 h2 h1' h1 hy hx c2 c1 hb ha;omega),by (clear c7 c6 ck2 hk20 c4 k0 ck cg h2' h2 h1' h1 hy hx c2 c1 hb ha;omega)⟩
      ·rw[if_neg ck2];have k0:nb - 1=k2:=by (clear hk20 c4 k0 ck hk1 cg h3 h2' h2 h1' h1 hy hx c2 c1 hb ha;omega)
       rw[show nb - 1 - k2=0 by (clear k0 hk20 hk2 c4 ck hk1 cg h3 h2' h2 h1' h1 hy hx c2 c1 hb ha;omega),Ybb,YcJ,Ybf] at m5;rw[k0];obtain⟨v2,ev2,ev2',mv2⟩:=ZaK (a:=a) (i:=k - 1) (by (clear k0 ck2 hk20 hk2 c4 ck hk1 cg h3 h2' h2 h1 hy hx c2 c1 hb ha;omega));refine wpS_bind (Zap ev2 ?_);have ee:v2=v:=Yax (ev2.symm.trans ev);subst ee;have m7:=pA (by (clear k0 ck2 hk20 hk2 c4 ck hk1 cg h3 h2' h2 h1' hy hx c2 c1 hb ha;omega)) m5 ev2 hv;by_cases c7:k - 1=0
       ·rw[if_pos (by simpa using c7)];rw[c7] at m7 ⊢;exact wpS_pure ⟨hG2,.inl ⟨_,_,_,_,_,_,_,rfl,done m7⟩⟩
       rw[if_neg (by simpa using c7)];refine ZaF (fun _=>?_) (fun _=>?_)
       ·exact wpS_pure ⟨hG2,.inr ⟨_,_,_,_,_,_,rfl,m7,by (clear k0 ck2 hk20 hk2 c4 ck hk1 cg h3 h2' h2 h1' h1 hy hx c2 c1 hb ha;omega),by (clear c7 k0 ck2 hk20 hk2 c4 ck hk1 cg h3 h2' h2 h1 hy hx c2 c1 hb ha;omega),by (clear c7 k0 hk20 hk2 ck hk1 cg h3 h2' h1' h1 hy hx c2 c1 hb ha;omega),by (clear c7 k0 ck2 hk20 c4 ck hk1 cg h3 h2 h1' h1 hy hx c2 c1 hb ha;omega),by (clear c7 k0 ck2 hk20 c4 ck hk1 cg h2' h2 h1' h1 hy hx c2 c1 hb ha;omega)⟩⟩
       ·exact wpS_pure ⟨hG2,_,_,_,_,_,_,rfl,m7,by (clear k0 ck2 hk20 hk2 c4 ck hk1 cg h3 h2' h2 h1' h1 hy hx c2 c1 hb ha;omega),by (clear c7 k0 ck2 hk20 hk2 c4 ck hk1 cg h3 h2' h2 h1 hy hx c2 c1 hb ha;omega),by (clear c7 k0 hk20 hk2 ck hk1 cg h3 h2' h1' h1 hy hx c2 c1 hb ha;omega),by (clear c7 k0 ck2 hk20 c4 ck hk1 cg h3 h2 h1' h1 hy hx c2 c1 hb ha;omega),by (clear c7 k0 ck2 hk20 c4 ck hk1 cg h2' h2 h1' h1 hy hx c2 c1 hb ha;omega)⟩
def ka (O:KO) (xs:Array Keyed) (i:Nat):O.α:=O.ky ((xs[i]?).getD (.none,.none))
def Up (O:KO) (lo n:Nat) (xs:Array Keyed):Prop:=∀ i j,i<=j->j<n->O.kle (ka O xs (lo+i)) (ka O xs (lo+j))
def Dn (O:KO) (lo n:Nat) (xs:Array Keyed):Prop:=∀ i j,i<=j->j<n->O.kle (ka O xs (lo+j)) (ka O xs (lo+i))
structure FB (knd:SortKind) (b₀:Array Keyed) (p₀:Array (Nat × Nat × Nat)) (lo:Nat) (st:SortSt):Prop where
 perm:(arrOf st).Perm b₀
 keep:∀ i,i<lo->(arrOf st)[i]?=b₀[i]?
 kind:kindOf st=knd
 failed:failedOf st=none
 pend:pendingOf st=p₀
section
variable {b₀:Array Keyed}{p₀:Array (Nat × Nat × Nat)}{lo:Nat}
theorem FB.size (h:FB knd b₀ p₀ lo st):(arrOf st).size=b₀.size:=h.perm.size_eq
theorem FB.put {xs:Array Keyed} (h:FB knd b₀ p₀ lo st) (hp:xs.Perm (arrOf st)) (hx:∀ i,i<lo->xs[i]?=(arrOf st)[i]?):FB knd b₀ p₀ lo (setArr st xs) :=
 ⟨hp.trans h.perm,fun i hi=>(hx i hi).trans (h.keep i hi),h.kind,h.failed,h.pend⟩
theorem FB.mir (h:FB knd b₀ p₀ lo st) {i j:Nat} (hi:lo<=i) (hj:j<=b₀.size):FB knd b₀ p₀ lo (setArr st (mirror (arrOf st) i j ((j - i) / 2))) :=
 h.put (mirror_perm _ _ _ _) fun k hk=>by rw[getElem?_mirror_all (by rw[h.size];exact hj),if_neg (by (clear hj;omega))]
theorem Zcl {xs ys:Array Keyed}{i j:Nat} (h:xs[i]?=ys[j]?):ka O xs i=ka O ys j:=by unfold ka;rw[h]
theorem ZiM {xs:Array Keyed}{i j:Nat} (hj:j<=xs.size) (k:Nat):ka O (mirror xs i j ((j - i) / 2)) k=if i<=k/\k<j then ka O xs (i+j - 1 - k) else ka O xs k:=by
 have e:=getElem?_mirror_all (i:=i) hj k;split
 ·rename_i c;rw[if_pos c] at e;exact Zcl e
 ·rename_i c;rw[if_neg c] at e;exact Zcl e
theorem Zcb {xs:Array Keyed}{i j:Nat} (hj:j<=xs.size) (he:∀ k,i<=k->k<j->ka O xs k=ka O xs (j - 1)) (k:Nat):ka O (mirror xs i j ((j - i) / 2)) k=ka O xs k:=by
 rw[ZiM hj];split
 ·rw[he _ (by (clear hj;omega)) (by (clear hj;omega)),he k (by (clear hj;omega)) (by (clear hj;omega))]
 ·rfl
theorem Zk9 {xs:Array Keyed}{src d:Nat} (hs:src<xs.size) (hd:d<=src) (k:Nat):ka O (bubble xs src d) k=if k=src - d then ka O xs src else if src - d<k/\k<=src then ka O xs (k - 1) else ka O xs k:=by
 have e:=getElem?_bubble hs d hd k;split
 ·rename_i c;rw[if_pos c] at e;exact Zcl e
 ·rename_i c;rw[if_neg c] at e;split
  ·rename_i c2;rw[if_pos c2] at e;exact Zcl e
  ·rename_i c2;rw[if_neg c2] at e;exact Zcl e
theorem Zc2 {i j:Nat}{Q:Option Bool->SortSt->Prop} (hA:Asks prog w A s O knd ok) (h0:∀ x∈b₀.toList,ok x) (hF:FB knd b₀ p₀ lo st) (hi:i<b₀.size) (hj:j<b₀.size) (h:Q (some (O.blt (ka O (arrOf st) i) (ka O (arrOf st) j))) st):wpS (model prog w) A E s (ltAt' i j) Q st:=by
 obtain⟨x,ex,_,mx⟩:=ZaK (a:=arrOf st) (i:=i) (by rw[hF.size];exact hi);obtain⟨y,ey,_,my⟩:=ZaK (a:=arrOf st) (i:=j) (by rw[hF.size];exact hj);have pm:=YdW.mp hF.perm;rw[ltAt'_eq];refine wpS_bind (wpS_get ?_);refine wpS_bind (Zap ex (wpS_bind (Zap ey ?_)));refine ZeS hA hF.kind (h0 x (pm.mem_iff.mp mx)) (h0 y (pm.mem_iff.mp my)) ?_;unfold ka at h;rw[ex,ey] at h;exact h
theorem ZbG {i j:Nat}{Q:Unit->SortSt->Prop} (h:Q () (setArr st (mirror (arrOf st) i j ((j - i) / 2)))):wpS (model prog w) A E s (reverseSlice' i j) Q st:=by
 rw[reverseSlice'_eq];exact wpS_modify h
def ascL (lo a nrem:Nat):StateT SortSt Sem (Option (Option Nat) × Nat) :=
 forIn [a:nrem] ((none,a):Option (Option Nat) × Nat) fun _ c=>ltAt' (lo+c.2) (lo+c.2 - 1) >>= fun x=>match x with
  | some sm=>if sm=true then pure (Ycd (none,c.2)) else pure (Ya6 (none,c.2+1))
  | _=>pure (Ycd (some none,c.2))
theorem Zce {a nrem:Nat}{Q:Option (Option Nat) × Nat->SortSt->Prop} (hA:Asks prog w A s O knd ok) (h0:∀ x∈b₀.toList,ok x) (hF:FB knd b₀ p₀ lo st) (hn:lo+nrem<=b₀.size) (ha:1<=a) (hl:a<=nrem) (hu:Up O lo a (arrOf st))
  (h:∀ n,a<=n->n<=nrem->Up O lo n (arrOf st)->(n=nrem∨O.klt (ka O (arrOf st) (lo+n)) (ka O (arrOf st) (lo+n - 1)))->Q (none,n) st):wpS (model prog w) A E s (ascL lo a nrem) Q st:=by
 unfold ascL;refine wpS_forRange (I:=fun n c τ=>τ=st/\c=((none:Option (Option Nat)),n)/\Up O lo n (arrOf st)) ?go ?out ⟨rfl,rfl,hu⟩
 case out=>
  rintro c τ ⟨rfl,rfl,u⟩;rw[YdI hl] at u ⊢;exact h nrem hl (Yak _) u (.inl rfl)
 case go=>
  rintro n c τ h1 h2 ⟨rfl,rfl,u⟩;refine wpS_bind (Zc2 hA h0 hF (by dsimp only;(clear h1 hl ha;omega)) (by dsimp only;(clear h1 hl ha;omega)) ?_);dsimp only
  cases e:O.blt (ka O (arrOf τ) (lo+n)) (ka O (arrOf τ) (lo+n - 1)) with
  | true=>
   simp only[if_true];exact wpS_pure (h n h1 (by (clear h1 hl ha hn;omega)) u (.inr e))
  | false=>
   simp only[YaR,if_false];refine wpS_pure ⟨rfl,rfl,fun i j hij hj=>?_⟩;rcases Ybp j n with z | z
   ·exact u i j hij z
   ·obtain rfl:j=n:=by (clear hij h2 h1 hl ha hn;omega)
    rcases Ybp i j with y | y
    ·exact YcH (u i (j - 1) (by (clear z hj h2 h1 hij hl ha hn;omega)) (by (clear y z hj h2 hij hl hn;omega))) (by rw[show lo+(j - 1)=lo+j - 1 by (clear y z hj h2 hij hl hn;omega)];exact e)
    ·obtain rfl:i=j:=by (clear z hj h2 h1 hl ha hn;omega)
     exact Yb5 _
theorem Zgr {n:Nat}{xs:Array Keyed} (hd:Dn O lo n xs) (hsz:lo+n<=xs.size):Up O lo n (mirror xs lo (lo+n) ((lo+n - lo) / 2)):=by
 intro i j hij hj;rw[ZiM hsz,ZiM hsz,if_pos (by (clear hsz;omega)),if_pos (by (clear hij hsz;omega))];have q:=hd (n - 1 - j) (n - 1 - i) (by (clear hj hsz;omega)) (by (clear hij hsz;omega));rw[show lo+(n - 1 - j)=lo+(lo+n) - 1 - (lo+j) by (clear hij hsz;omega),show lo+(n - 1 - i)=lo+(lo+n) - 1 - (lo+i) by (clear hsz;omega)] at q;exact q
def dscL (lo n nrem:Nat):StateT SortSt Sem (Option (Option Nat) × Nat × Nat) :=
 forIn [n:nrem] ((none,n,0):Option (Option Nat) × Nat × Nat) fun _ c=>ltAt' (lo+c.2.1) (lo+c.2.1 - 1) >>= fun x=>match x with
  | some sm=>if sm=true then (if c.2.2 > 0 then reverseSlice' (lo+c.2.1 - (c.2.2+1)) (lo+c.2.1) >>= fun _=>pure (Ya6 (none,c.2.1+1,0)) else pure (Ya6 (none,c.2.1+1,0)))
   else ltAt' (lo+c.2.1 - 1) (lo+c.2.1) >>= fun y=>match y with
    | some lg=>if lg=true then pure (Ycd (none,c.2.1,c.2.2)) else pure (Ya6 (none,c.2.1+1,c.2.2+1))
    | _=>pure (Ycd (some none,c.2.1,c.2.2))
  | _=>pure (Ycd (some none,c.2.1,c.2.2))
theorem Zgo {n nrem:Nat}{Q:Option (Option Nat) × Nat × Nat->SortSt->Prop} (hA:Asks prog w A s O knd ok) (h0:∀ x∈b₀.toList,ok x) (hF:FB knd b₀ p₀ lo st) (hn:lo+nrem<=b₀.size) (h1:1<=n) (hl:n<=nrem) (hd:Dn O lo n (arrOf st))
  (h:∀ m e τ,FB knd b₀ p₀ lo τ->n<=m->m<=nrem->Dn O lo m (arrOf τ)->e+1<=m->(∀ i,m - (e+1)<=i->i<m->ka O (arrOf τ) (lo+i)=ka O (arrOf τ) (lo+m - 1))->Q (none,m,e) τ):wpS (model prog w) A E s (dscL lo n nrem) Q st:=by
 unfold dscL;refine wpS_forRange (I:=fun m c τ=>∃ e,c=((none:Option (Option Nat)),m,e)/\FB knd b₀ p₀ lo τ/\Dn O lo m (arrOf τ)/\e+1<=m/\∀ i,m - (e+1)<=i->i<m->ka O (arrOf τ) (lo+i)=ka O (arrOf τ) (lo+m - 1)) ?go ?out
  ⟨0,rfl,hF,hd,by (clear hl hn;omega),fun i h2 h3=>by congr 1;(clear hl h1 hn;omega)⟩
 case out=>
  rintro c τ ⟨e,rfl,hT,d,q,he⟩;rw[YdI hl] at d q he ⊢;exact h nrem e τ hT hl (Yak _) d q he
 case go=>
  rintro m c τ h2 h3 ⟨e,rfl,hT,d,q,he⟩;have hsz:lo+m<=(arrOf τ).size:=by rw[hT.size];(clear q h2 hl h1;omega)
  have more:∀ xs:Array Keyed,(∀ k,ka O xs k=ka O (arrOf τ) k)->O.kle (ka O (arrOf τ) (lo+m)) (ka O (arrOf τ) (lo+m - 1))->Dn O lo (m+1) xs:=by
   intro xs hk hle i j hij hj;rw[hk,hk];rcases Ybp j m with z | z
   ·exact d i j hij z
   ·obtain rfl:j=m:=by (clear hij hsz q h3 h2 hl h1 hn;omega)
    rcases Ybp i j with y | y
    ·exact YcH hle (by rw[show lo+j - 1=lo+(j - 1) by (clear y z hj hsz q h3 hij hl hn;omega)];exact d i (j - 1) (by (clear z hj hsz q h3 h2 hij hl h1 hn;omega)) (by (clear y z hj hsz q h3 hij hl hn;omega)))
    ·obtain rfl:i=j:=by (clear z hj hsz q h3 h2 hl h1 hn;omega)
     exact Yb5 _
  have eq1:∀ k,lo+m - (e+1)<=k->k<lo+m->ka O (arrOf τ) k=ka O (arrOf τ) (lo+m - 1):=fun k k1 k2=>by
   have:=he (k - lo) (by (clear k2 hsz q h3 h2 hl h1 hn;omega)) (by (clear k1 hsz q h3 hl hn;omega))
   rwa [show lo+(k - lo)=k by (clear k2 hsz h3 h2 hl h1 hn;omega)] at this
  refine wpS_bind (Zc2 hA h0 hT (by dsimp only;(clear hsz q h2 hl h1;omega)) (by dsimp only;(clear hsz q h2 hl h1;omega)) ?_);dsimp only
  cases ew:O.blt (ka O (arrOf τ) (lo+m)) (ka O (arrOf τ) (lo+m - 1)) with
  | true=>
   simp only[if_true];refine ZaF (fun _=>?_) (fun _=>?_)
   ·exact wpS_bind (ZbG (wpS_pure ⟨0,rfl,hT.mir (by (clear hsz h3 h2 hl h1 hn;omega)) (by (clear hsz q h2 hl h1;omega)),more _ (Zcb hsz eq1) (Yb9 ew),by (clear hsz q h3 h2 hl h1 hn;omega),fun i h2 h3=>by congr 1;(clear hsz q hl h1 hn;omega)⟩))
   ·exact wpS_pure ⟨0,rfl,hT,more _ (fun _=>rfl) (Yb9 ew),by (clear hsz q h3 h2 hl h1 hn;omega),fun i h2 h3=>by congr 1;(clear hsz q hl h1 hn;omega)⟩
  | false=>
   simp only[YaR,if_false];refine wpS_bind (Zc2 hA h0 hT (by (clear hsz q h2 hl h1;omega)) (by (clear hsz q h2 hl h1;omega)) ?_);dsimp only
   cases eg:O.blt (ka O (arrOf τ) (lo+m - 1)) (ka O (arrOf τ) (lo+m)) with
   | true=>
    simp only[if_true];exact wpS_pure (h m e τ hT h2 (by (clear hsz q h2 hl h1 hn;omega)) d q he)
   | false=>
    simp only[YaR,if_false];have hx:ka O (arrOf τ) (lo+m)=ka O (arrOf τ) (lo+m - 1):=Yeq (O:=O.toKeyOrd) eg ew;refine wpS_pure ⟨e+1,rfl,hT,more _ (fun _=>rfl) eg,by (clear hsz h3 h2 hl h1 hn;omega),fun i i1 i2=>?_⟩;rw[show lo+(m+1) - 1=lo+m by (clear i2 i1 hsz q h3 h2 hl h1 hn;omega)];rcases Ybp i m with z | z
    ·rw[hx];exact he i (by (clear z i2 hsz q h3 h2 hl h1 hn;omega)) z
    ·obtain rfl:i=m:=by (clear i1 hsz q h3 h2 hl h1 hn;omega)
     rfl
theorem Zlg {nrem:Nat}{Q:Option Nat->SortSt->Prop} (hA:Asks prog w A s O knd ok) (h0:∀ x∈b₀.toList,ok x) (hF:FB knd b₀ p₀ lo st) (hn:lo+nrem<=b₀.size) (h1:1<=nrem)
  (h:∀ m τ,FB knd b₀ p₀ lo τ->1<=m->m<=nrem->Up O lo m (arrOf τ)->Q (some m) τ):wpS (model prog w) A E s (countRun' lo nrem) Q st:=by
 refine wpS_bind (Zce (a:=1) hA h0 hF hn (Yak 1) h1 (fun i j hij hj=>?_) fun n n1 n2 u hor=>?_)
 ·obtain rfl:i=j:=by (clear h1 hn;omega)
  exact Yb5 _
 dsimp only;by_cases c:n=nrem
 ·rw[if_pos (by simpa using c)];exact wpS_pure (h n st hF n1 n2 u)
 rw[if_neg (by simpa using c)];have hlt:=hor.resolve_left c;have hsz:lo+n<=(arrOf st).size:=by rw[hF.size];(clear c hor n1 h1;omega)
 by_cases cg:n > 1
 ·rw[if_pos cg];refine wpS_bind (Zc2 hA h0 hF (by (clear cg hsz c hor n2 n1;omega)) (by (clear cg hsz c hor n1;omega)) ?_)
  cases e:O.blt (ka O (arrOf st) lo) (ka O (arrOf st) (lo+n - 1)) with
  | true=>
   simp only[if_true];exact wpS_pure (h n st hF n1 n2 u)
  | false=>
   simp only[YaR,if_false];have all:∀ k,lo<=k->k<lo+n->ka O (arrOf st) k=ka O (arrOf st) (lo+n - 1):=by
    intro k k1 k2;have a1:=u 0 (k - lo) (by (clear k2 k1 cg hsz c hor n2 n1 h1 hn;omega)) (by (clear k1 cg hsz c hor n2 h1 hn;omega));have a2:=u (k - lo) (n - 1) (by (clear k1 cg hsz c hor n2 n1 h1 hn;omega)) (by (clear k2 k1 cg hsz c hor n2 h1 hn;omega));rw[show lo+(k - lo)=k by (clear k2 cg hsz c hor n2 n1 h1 hn;omega)] at a1 a2;rw[show lo+(n - 1)=lo+n - 1 by (clear k2 k1 cg hsz c hor n2 h1 hn;omega)] at a2;exact Yeq a2 (YcH (O:=O.toKeyOrd) e a1)
   refine wpS_bind (ZbG ?_);have hF7:=FB.mir hF (i:=lo) (j:=lo+n) (Yak _) (by (clear cg hsz c hor n1 h1;omega));have d7:Dn O lo (n+1) (arrOf (setArr st (mirror (arrOf st) lo (lo+n) ((lo+n - lo) / 2)))):=by
    intro i j hij hj;show O.kle (ka O (mirror (arrOf st) _ _ _) _) (ka O (mirror (arrOf st) _ _ _) _);rw[Zcb hsz all,Zcb hsz all];rcases Ybp j n with z | z
    ·rw[all _ (by (clear z hj hij cg hsz c hor n2 n1 h1 hn;omega)) (show lo+j<lo+n by (clear hj hij cg hsz c hor n2 n1 h1 hn;omega)),all _ (by (clear z hj hij cg hsz c hor n2 n1 h1 hn;omega)) (show lo+i<lo+n by (clear hj cg hsz c hor n2 n1 h1 hn;omega))];exact Yb5 _
    ·obtain rfl:j=n:=by (clear hij cg hsz c hor n2 n1 h1 hn;omega)
     rcases Ybp i j with y | y
     ·rw[all _ (by (clear y z hj cg hsz c hor n2 n1 hij h1 hn;omega)) (show lo+i<lo+j by (clear z hj cg hsz c hor n2 n1 hij h1 hn;omega))];exact Yb9 hlt
     ·obtain rfl:i=j:=by (clear z hj cg hsz c hor n2 n1 h1 hn;omega)
      exact Yb5 _
   refine wpS_bind (wpS_lift (wpAny_rule ⟨rfl,?_⟩));refine wpS_bind (Zgo hA h0 hF7 hn (by (clear cg hsz c hor n2 n1 h1 hn;omega)) (by (clear cg hsz hor n1 h1 hn;omega)) d7 fun m e τ hT m1 m2 d q he=>?_);dsimp only;have hsz:lo+m<=(arrOf τ).size:=by rw[hT.size];(clear q m1 cg hsz c hor n2 n1 h1;omega)
   have eq1:∀ k,lo+m - (e+1)<=k->k<lo+m->ka O (arrOf τ) k=ka O (arrOf τ) (lo+m - 1):=fun k k1 k2=>by
    have:=he (k - lo) (by (clear k2 hsz q m2 m1 cg c hor n2 n1 h1 hn;omega)) (by (clear k1 hsz q m2 cg c hor n2 n1 h1 hn;omega))
    rwa [show lo+(k - lo)=k by (clear k2 hsz m2 m1 cg c hor n2 n1 h1 hn;omega)] at this
   refine ZaF (fun _=>?_) (fun _=>?_)
   ·refine wpS_bind (ZbG ?_);have hF8:=FB.mir hT (i:=lo+m - (e+1)) (j:=lo+m) (by (clear hsz m2 m1 cg c hor n2 n1 h1 hn;omega)) (by (clear hsz q m1 cg c hor n2 n1 h1;omega));have d8:Dn O lo m (arrOf (setArr τ (mirror (arrOf τ) (lo+m - (e+1)) (lo+m) ((lo+m - (lo+m - (e+1))) / 2)))):=by
     intro i j hij hj;show O.kle (ka O (mirror (arrOf τ) _ _ _) _) (ka O (mirror (arrOf τ) _ _ _) _);rw[Zcb hsz eq1,Zcb hsz eq1];exact d i j hij hj
    refine wpS_bind (ZbG ?_);have hF9:=FB.mir hF8 (i:=lo) (j:=lo+m) (Yak _) (by (clear hsz q m1 cg c hor n2 n1 h1;omega));refine wpS_bind (Zce hA h0 hF9 hn (by (clear hsz q m2 cg c hor n2 n1 h1 hn;omega)) m2 (Zgr d8 (by rw[FB.size hF8];(clear hsz q m1 cg c hor n2 n1 h1;omega))) fun m' m1' m2' u' _=>wpS_pure (h m' _ hF9 (by (clear m2' hsz q m2 cg c hor n2 n1 h1 hn;omega)) m2' u'))
   ·
    refine wpS_bind (ZbG ?_);have hF9:=FB.mir hT (i:=lo) (j:=lo+m) (Yak _) (by (clear hsz q m1 cg c hor n2 n1 h1;omega));refine wpS_bind (Zce hA h0 hF9 hn (by (clear hsz q m2 cg c hor n2 n1 h1 hn;omega)) m2 (Zgr d (by rw[FB.size hT];(clear hsz q m1 cg c hor n2 n1 h1;omega))) fun m' m1' m2' u' _=>wpS_pure (h m' _ hF9 (by (clear m2' hsz q m2 cg c hor n2 n1 h1 hn;omega)) m2' u'))
 ·rw[if_neg cg];obtain rfl:n=1:=by (clear hsz c hor n2 h1 hn;omega)
  have d7:Dn O lo (1+1) (arrOf st):=by
   intro i j hij hj;rcases Ybp i j with y | y
   ·obtain rfl:i=0:=by (clear hij cg hsz c hor n2 n1 h1 hn;omega)
    obtain rfl:j=1:=by (clear hij cg hsz c hor n2 n1 h1 hn;omega)
    exact Yb9 hlt
   ·obtain rfl:i=j:=by (clear hj cg hsz c hor n2 n1 h1 hn;omega)
    exact Yb5 _
  refine wpS_bind (wpS_lift (wpAny_rule ⟨rfl,?_⟩));refine wpS_bind (Zgo hA h0 hF hn (by (clear cg hsz c hor n2 n1 h1 hn;omega)) (by (clear cg hsz hor n2 n1 hn;omega)) d7 fun m e τ hT m1 m2 d q he=>?_);dsimp only;have hsz:lo+m<=(arrOf τ).size:=by rw[hT.size];(clear q m1 cg hsz c hor n2 n1 h1;omega)
  have eq1:∀ k,lo+m - (e+1)<=k->k<lo+m->ka O (arrOf τ) k=ka O (arrOf τ) (lo+m - 1):=fun k k1 k2=>by
   have:=he (k - lo) (by (clear k2 hsz q m2 m1 cg c hor n2 n1 h1 hn;omega)) (by (clear k1 hsz q m2 cg c hor n2 n1 h1 hn;omega))
   rwa [show lo+(k - lo)=k by (clear k2 hsz m2 m1 cg c hor n2 n1 h1 hn;omega)] at this
  refine ZaF (fun _=>?_) (fun _=>?_)
  ·refine wpS_bind (ZbG ?_);have hF8:=FB.mir hT (i:=lo+m - (e+1)) (j:=lo+m) (by (clear hsz m2 m1 cg c hor n2 n1 h1 hn;omega)) (by (clear hsz q m1 cg c hor n2 n1 h1;omega));have d8:Dn O lo m (arrOf (setArr τ (mirror (arrOf τ) (lo+m - (e+1)) (lo+m) ((lo+m - (lo+m - (e+1))) / 2)))):=by
    intro i j hij hj;show O.kle (ka O (mirror (arrOf τ) _ _ _) _) (ka O (mirror (arrOf τ) _ _ _) _);rw[Zcb hsz eq1,Zcb hsz eq1];exact d i j hij hj
   refine wpS_bind (ZbG ?_);have hF9:=FB.mir hF8 (i:=lo) (j:=lo+m) (Yak _) (by (clear hsz q m1 cg c hor n2 n1 h1;omega));refine wpS_bind (Zce hA h0 hF9 hn (by (clear hsz q m2 cg c hor n2 n1 h1 hn;omega)) m2 (Zgr d8 (by rw[FB.size hF8];(clear hsz q m1 cg c hor n2 n1 h1;omega))) fun m' m1' m2' u' _=>wpS_pure (h m' _ hF9 (by (clear m2' hsz q m2 cg c hor n2 n1 h1 hn;omega)) m2' u'))
  ·
   refine wpS_bind (ZbG ?_);have hF9:=FB.mir hT (i:=lo) (j:=lo+m) (Yak _) (by (clear hsz q m1 cg c hor n2 n1 h1;omega));refine wpS_bind (Zce hA h0 hF9 hn (by (clear hsz q m2 cg c hor n2 n1 h1 hn;omega)) m2 (Zgr d (by rw[FB.size hT];(clear hsz q m1 cg c hor n2 n1 h1;omega))) fun m' m1' m2' u' _=>wpS_pure (h m' _ hF9 (by (clear m2' hsz q m2 cg c hor n2 n1 h1 hn;omega)) m2' u'))
end
end
end L2
namespace L2
open PySem PyProof.Rows
section
variable {prog:Program}{w:World}{A:Around}{E:Value->Shared->Prop}{s:Shared}{O:KO}{knd:SortKind}{ok:Keyed->Prop}{st:SortSt}{b₀:Array Keyed}{p₀:Array (Nat × Nat × Nat)}{lo:Nat}
theorem Znf {l r:Nat} (h:l<r):l<=(l+r) / 2/\(l+r) / 2<r:=by omega
theorem Zn5 {l r k x N:Nat} (m1:l<=(l+r) / 2) (m2:(l+r) / 2<r) (hx:x<N) (e2:r<=k) (e3:r - l<=k - x):(l+r) / 2 - l<=k - (x+1):=by (clear e2 hx m2 m1;omega)
theorem Zn4 {l r k x N:Nat} (m1:l<=(l+r) / 2) (m2:(l+r) / 2<r) (hx:x<N) (e2:r<=k) (e3:r - l<=k - x):r - ((l+r) / 2+1)<=k - (x+1):=by (clear e2 hx m2 m1;omega)
theorem Zlh {n m:Nat}{Q:Bool->SortSt->Prop} (hA:Asks prog w A s O knd ok) (h0:∀ x∈b₀.toList,ok x) (hF:FB knd b₀ p₀ lo st) (hn:lo+n<=b₀.size) (h1:1<=m) (hm:m<=n) (hu:Up O lo m (arrOf st))
  (h:∀ τ,FB knd b₀ p₀ lo τ->Up O lo n (arrOf τ)->Q true τ):wpS (model prog w) A E s (binarySort' lo n m) Q st:=by
 rw[binarySort'_eq,Nat.max_eq_left h1];refine wpS_bind (wpS_mono (wpS_forRange (I:=fun k c τ=>c=(none,())/\FB knd b₀ p₀ lo τ/\Up O lo k (arrOf τ))
  (Q:=fun c τ=>c=(none,())/\FB knd b₀ p₀ lo τ/\Up O lo n (arrOf τ)) ?go ?out ⟨rfl,hF,hu⟩) ?fin)
 case fin=>
  rintro c τ ⟨rfl,hT,u⟩;exact wpS_pure (h τ hT u)
 case out=>
  rintro c τ ⟨hc,hT,u⟩;rw[YdI hm] at u;exact⟨hc,hT,u⟩
 case go=>
  rintro k c τ k1 k2 ⟨rfl,hT,u⟩;refine wpS_bind (wpS_mono (wpS_forRange (I:=fun x c τ'=>τ'=τ/\∃ l r,c=(none,l,r)/\l<=r/\r<=k/\r - l<=k - x /\
    (∀ i,i<l->O.kle (ka O (arrOf τ) (lo+i)) (ka O (arrOf τ) (lo+k)))/\∀ i,r<=i->i<k->O.klt (ka O (arrOf τ) (lo+k)) (ka O (arrOf τ) (lo+i)))
   (Q:=fun c τ'=>τ'=τ/\∃ l,c=(none,l,l)/\l<=k/\(∀ i,i<l->O.kle (ka O (arrOf τ) (lo+i)) (ka O (arrOf τ) (lo+k)))/\∀ i,l<=i->i<k->O.klt (ka O (arrOf τ) (lo+k)) (ka O (arrOf τ) (lo+i))) ?go2 ?out2
   ⟨rfl,0,k,rfl,YaT _,Yak _,Yak _,fun i hi=>absurd hi (Nat.not_lt_zero _),fun i i1 i2=>absurd i2 (Nat.not_lt.mpr i1)⟩) ?fin2)
  case out2=>
   rintro c τ' ⟨rfl,l,r,rfl,e1,e2,e3,e4,e5⟩;obtain rfl:l=r:=by (clear e2 k2 k1 hm h1 hn;omega)
   exact⟨rfl,l,rfl,e2,e4,e5⟩
  case go2=>
   rintro x c τ' _ hx ⟨rfl,l,r,rfl,e1,e2,e3,e4,e5⟩;dsimp only;by_cases hge:l ≥ r
   ·rw[if_pos hge];obtain rfl:l=r:=by (clear e3 e2 hx k2 k1 hm h1 hn;omega)
    exact wpS_pure ⟨rfl,l,rfl,e2,e4,e5⟩
   rw[if_neg hge];obtain⟨m1,m2⟩:=Znf (Nat.lt_of_not_le hge);have mk:(l+r) / 2<k:=Yaj m2 e2;have kn:lo+k<b₀.size:=Yaj (YeK k2 lo) hn;refine wpS_bind (Zc2 hA h0 hT kn (Nat.lt_trans (YeK mk lo) kn) ?_)
   cases e:O.blt (ka O (arrOf τ') (lo+k)) (ka O (arrOf τ') (lo+(l+r) / 2)) with
   | true=>
    simp only[if_true];exact wpS_pure ⟨rfl,l,(l+r) / 2,rfl,m1,YaW mk,Zn5 m1 m2 hx e2 e3,e4,fun i i1 i2=>KeyOrd.klt_of_klt_of_kle e (u _ _ i1 i2)⟩
   | false=>
    simp only[YaR,if_false];exact wpS_pure ⟨rfl,(l+r) / 2+1,r,rfl,m2,e2,Zn4 m1 m2 hx e2 e3,fun i i1=>YcH (u i ((l+r) / 2) (Nat.le_of_lt_succ i1) mk) e,e5⟩
  case fin2=>
   rintro c τ' ⟨rfl,l,rfl,e2,e4,e5⟩;dsimp only;rw[moveDown'_eq];have hks:lo+k<(arrOf τ').size:=by rw[hT.size];(clear e2 k1 hm h1;omega)
   refine wpS_bind (wpS_modify (wpS_pure ⟨rfl,hT.put (bubble_perm _ _ _) (fun i hi=>?_),?_⟩))
   ·rw[getElem?_bubble hks _ (by (clear hi hks e2 k2 k1 hm h1 hn;omega)),if_neg (by (clear hks e2 k2 k1 hm h1 hn;omega)),if_neg (by (clear hks e2 k2 k1 hm h1 hn;omega))]
   ·intro i j hij hj;show O.kle (ka O (bubble (arrOf τ') (lo+k) (lo+k - (lo+l))) _) (ka O (bubble (arrOf τ') (lo+k) (lo+k - (lo+l))) _);rw[Zk9 hks (by (clear hj hij hks e2 k2 k1 hm h1 hn;omega)),Zk9 hks (by (clear hj hij hks e2 k2 k1 hm h1 hn;omega)),show lo+k - (lo+k - (lo+l))=lo+l by (clear hj hij hks k2 k1 hm h1 hn;omega)]
    repeat' split
    all_goals first
     | (exfalso;omega)
     | exact Yb5 _
     | exact e4 _ (by omega)
     | (rw[show lo+j - 1=lo+(j - 1) by (clear hj hij hks e2 k2 k1 hm h1 hn;omega)];exact Yb9 (e5 _ (by (clear hj hij hks e2 k2 k1 hm h1 hn;omega)) (by (clear hj hij hks e2 k2 k1 hm h1 hn;omega))))
     | exact Yb9 (e5 _ (by omega) (by omega))
     | (rw[show lo+i - 1=lo+(i - 1) by (clear hj hij hks e2 k2 k1 hm h1 hn;omega),show lo+j - 1=lo+(j - 1) by (clear hj hij hks e2 k2 k1 hm h1 hn;omega)];exact u _ _ (by (clear hj hks e2 k2 k1 hm h1 hn;omega)) (by (clear hj hij hks e2 k2 k1 hm h1 hn;omega)))
     | (rw[show lo+j - 1=lo+(j - 1) by (clear hj hij hks e2 k2 k1 hm h1 hn;omega)];exact u _ _ (by (clear hj hks e2 k2 k1 hm h1 hn;omega)) (by (clear hj hij hks e2 k2 k1 hm h1 hn;omega)))
     | exact u _ _ (by (clear hj hks e2 k2 k1 hm h1 hn;omega)) (by (clear hij hks k2 k1 hm h1 hn;omega))
def pos:Nat->List (List Keyed)->List (Nat × Nat)
 | _,[]=>[]
 | o,r::rs=>(o,r.length)::pos (o+r.length) rs
theorem ZbU:∀ (o:Nat) (xs ys:List (List Keyed)),pos o (xs++ys)=pos o xs++pos (o+xs.flatten.length) ys
 | o,[],ys=>by simp[pos]
 | o,r::rs,ys=>by
  simp only[Ycn,pos,ZbU,YaS,Yan];rw[Nat.add_assoc]
theorem ZcF:∀ (o:Nat) (xs:List (List Keyed)),(pos o xs).length=xs.length
 | _,[]=>rfl
 | o,r::rs=>by simp only[pos,YaY,ZcF]
def pr (p:Nat × Nat × Nat):Nat × Nat:=(p.1,p.2.1)
structure RI (O:KO) (knd:SortKind) (a₀:List Keyed) (runs:List (List Keyed)) (rest:List Keyed) (st:SortSt):Prop where
 arr:(arrOf st).toList=runs.flatten++rest
 perm:(arrOf st).toList.Perm a₀
 srt:∀ r∈runs,O.Srt r
 ne:∀ r∈runs,1<=r.length
 kind:kindOf st=knd
 failed:failedOf st=none
 pend:(pendingOf st).toList.map pr=pos 0 runs
theorem ZdF:∀ (l:List Keyed) (n sa:Nat) (xs:Array Keyed) (P M S:List Keyed),xs.toList=P++M++S->M.length=l.length->P.length=sa+n ->
  ((l.zipIdx n).foldl (fun a (q:Keyed × Nat)=>a.setIfInBounds (sa+q.2) q.1) xs).toList=P++l++S
 | [],n,sa,xs,P,M,S,e,h1,h2=>by
  have:M=[]:=YbV.mp h1;subst this;simpa using e
 | x::l,n,sa,xs,P,[],S,e,h1,h2=>by cases h1
 | x::l,n,sa,xs,P,y::M,S,e,h1,h2=>by
  rw[YdB,List.foldl_cons];have q:=ZdF l (n+1) sa (xs.setIfInBounds (sa+n) x) (P++[x]) M S ?_ (by simpa using h1) (by simp;(clear h1;omega))
  ·rw[q];simp
  ·rw[YdV,e,<- h2];simp
theorem Ziz {α β:Type}{f:α->β}{l:List α}{X Z:List β}{x y:β} (h:l.map f=X++x::y::Z):∃ P p q S,l=P++p::q::S/\P.map f=X/\f p=x/\f q=y/\S.map f=Z:=by
 obtain⟨P,l2,e1,e2,e3⟩:=List.map_eq_append_iff.mp h;obtain⟨p,l3,e4,e5,e6⟩:=YeA.mp e3;obtain⟨q,S,e7,e8,e9⟩:=YeA.mp e6;exact⟨P,p,q,S,by rw[e1,e4,e7],e2,e5,e8,e9⟩
theorem ZcQ {α:Type}{pre m post:List α}{l:List α}{i:Nat} (e:l=pre++m++post) (hi:i<m.length):l[pre.length+i]?=m[i]?:=by
 rw[e,YaJ,YaA (by (clear hi;omega)),Yc5,YaK hi]
theorem ZkW {xs:Array Keyed}{pre m post:List Keyed} (e:xs.toList=pre++m++post) (sm:O.Srt m):∀ p q x y,pre.length<=p->p<=q->q<pre.length+m.length->xs[p]?=some x->xs[q]?=some y->O.le x y:=by
 intro p q x y h1 h2 h3 e1 e2;have f1:=ZcQ (i:=p - pre.length) e (by omega);have f2:=ZcQ (i:=q - pre.length) e (by omega);rw[show pre.length+(p - pre.length)=p by (clear h3 h2;omega),Yap,e1] at f1;rw[show pre.length+(q - pre.length)=q by (clear h3;omega),Yap,e2] at f2;exact Zch sm (by (clear h3 h1;omega)) f1.symm f2.symm
theorem Zi1 {xs:Array Keyed}{P M S:List Keyed}{i j:Nat} (e:xs.toList=P++M++S) (hi:i=P.length) (hj:j=P.length+M.length):(xs.extract i j).toList=M:=by
 rw[ZeH,e,hi,hj,YaJ,List.drop_left,Yc5,YcX]
theorem srt3 {x y z:List Keyed} (hx:O.Srt x) (hy:O.Srt y) (hz:O.Srt z) (xy:∀ p∈x,∀ q∈y,O.le p q) (yz:∀ p∈y,∀ q∈z,O.le p q) (xz:∀ p∈x,∀ q∈z,O.le p q):O.Srt (x++y++z):=by
 refine YaX.mpr ⟨YaX.mpr ⟨hx,hy,xy⟩,hz,fun p hp q hq=>?_⟩;rcases Yar.mp hp with hp | hp
 ·exact xz p hp q hq
 ·exact yz p hp q hq
theorem Zlf {M:Model}{σ:Type}{x y:σ}{Q:PUnit->σ->Prop} (h:Q ⟨⟩ x):wpS M A E s (set x:StateT σ Sem PUnit) Q y:=by
 unfold wpS;rw[StateT.run_set];exact wpAny_pure ⟨rfl,h⟩
theorem Zb5 {a₀ rest:List Keyed}{R1 R2:List (List Keyed)}{a b:List Keyed}{i:Nat}{Q:Bool->SortSt->Prop} (hA:Asks prog w A s O knd ok) (h0:∀ x∈a₀,ok x) (hR:RI O knd a₀ (R1++a::b::R2) rest st) (hi:R1.length=i)
  (h:∀ m τ,m.Perm (a++b)->RI O knd a₀ (R1++m::R2) rest τ->Q true τ):wpS (model prog w) A E s (mergeAt' i) Q st:=by
 have hp:=hR.pend;rw[ZbU] at hp;obtain⟨P,p,q,S,ep,e1,e2,e3,e4⟩:=Ziz hp;obtain⟨p1,p2,w1⟩:=p;obtain⟨q1,q2,w2⟩:=q;simp only[pr,Prod.mk.injEq,YbU] at e2 e3;obtain⟨rfl,rfl⟩:=e2;obtain⟨rfl,rfl⟩:=e3;have hP:P.length=i:=by rw[<- hi,<- ZcF 0 R1,<- e1,Yaa]
 have g1:(pendingOf st)[i]?=some (R1.flatten.length,a.length,w1):=by
  rw[<- Yap,ep,YaA (by (clear hi;omega)),hP,Nat.sub_self];rfl
 have g2:(pendingOf st)[i+1]?=some (R1.flatten.length+a.length,b.length,w2):=by
  rw[<- Yap,ep,YaA (by (clear hi;omega)),hP,Yc5];rfl
 have ea:(arrOf st).toList=R1.flatten++a++(b++(R2.flatten++rest)):=by
  rw[hR.arr];simp
 have eb:(arrOf st).toList=(R1.flatten++a)++b++(R2.flatten++rest):=by
  rw[hR.arr];simp
 have sa:O.Srt a:=hR.srt a (by simp);have sb:O.Srt b:=hR.srt b (by simp);have la:1<=a.length:=hR.ne a (by simp);have lb:1<=b.length:=hR.ne b (by simp);have oks:∀ x∈(arrOf st).toList,ok x:=fun x hx=>h0 x (hR.perm.mem_iff.mp hx);have oka:∀ x∈a,ok x:=fun x hx=>oks x (by rw[ea];simp[hx]);have okb:∀ x∈b,ok x:=fun x hx=>oks x (by rw[eb];simp[hx]);have fin:∀ (τ:SortSt) (m:List Keyed),m.Perm (a++b)->O.Srt m->(arrOf τ).toList=R1.flatten++m++(R2.flatten++rest)->kindOf τ=knd->failedOf τ=none->(pendingOf τ).toList=P++(R1.flatten.length,a.length+b.length,w1)::S->Q true τ:=by
  intro τ m pm sm em k1 k2 k3;have lm:m.length=a.length+b.length:=by rw[pm.length_eq,Yan]
  refine h m τ pm ⟨by rw[em];simp,?_,?_,?_,k1,k2,?_⟩
  ·refine Yds ?_ hR.perm;rw[em,ea];have:=Yb2 R1.flatten (Yc0 (R2.flatten++rest) pm);simpa using this
  ·intro r hr;rcases Yar.mp hr with hr | hr
   ·exact hR.srt r (YaV _ hr)
   ·rcases Yay.mp hr with hr | hr
    ·rw[hr];exact sm
    ·exact hR.srt r (by simp[hr])
  ·intro r hr;rcases Yar.mp hr with hr | hr
   ·exact hR.ne r (YaV _ hr)
   ·rcases Yay.mp hr with hr | hr
    ·rw[hr];(clear lb hP hi;omega)
    ·exact hR.ne r (by simp[hr])
  ·rw[k3,ZbU,YaM,e1,Yam,e4,YbU];simp only[pos,pr,lm,Nat.add_assoc]
 have new:(((pendingOf st).setIfInBounds i (R1.flatten.length,a.length+b.length,w1)).eraseIdxIfInBounds (i+1)).toList=P++(R1.flatten.length,a.length+b.length,w1)::S:=by
  rw[Array.toList_eraseIdxIfInBounds,YdV,ep,<- hP];simp[List.eraseIdx_append_of_length_le]
 refine wpS_bind (wpS_get ?_);rw[show (pendingOf st)[i]?=_ from g1,show (pendingOf st)[i+1]?=_ from g2];dsimp only;refine wpS_bind (Zlf ?_);have eb0:(arrOf st).toList[(R1.flatten++a).length+0]?=b[0]?:=ZcQ eb (by (clear la hP hi;omega));have hb0:b[0]?=some b[0]:=Yac lb;have eb1:(arrOf st)[R1.flatten.length+a.length]?=some b[0]:=by
  rw[<- Yap,<- hb0,<- eb0,Yan,Nat.add_zero]
 have mb0:b[0]∈b:=YbY _;refine wpS_bind (Zap eb1 ?_);have hlen:(arrOf st).size=R1.flatten.length+a.length+b.length+(R2.flatten++rest).length:=by
  rw[<- YaZ,eb];simp only[Yan]
 refine wpS_bind (Zb6 hA hR.kind (okb _ mb0) oks (show R1.flatten.length+a.length<=(arrOf st).size by (clear la hP hi;omega)) (ZkW ea sa) (by (clear hlen hP hi;omega)) fun k hk1 u1 u2=>?_);have ka1:∀ z∈a.take k,O.le z b[0]:=by
  intro z hz;obtain⟨j,hj,e⟩:=ZaY hz;refine u1 j z hj ?_;rw[<- Yap,ZcQ ea (by (clear hlen la hP hi;omega))];exact e
 have ka2:∀ z∈a.drop k,O.blt (O.ky b[0]) (O.ky z)=true:=by
  intro z hz;obtain⟨j,hj,e⟩:=ZaZ hz;have hj2:j<a.length:=(Yab.mp e).1
  refine u2 j z hj hj2 ?_;rw[<- Yap,ZcQ ea hj2];exact e
 have bb:∀ z∈b,O.le b[0] z:=fun z hz=>ZcG sb hb0 z (by simpa using hz);dsimp only;by_cases ck:a.length - k=0
 ·rw[if_pos (by simpa using ck)];have ek:a.take k=a:=Ybk (by (clear hk1 hlen la hP hi;omega));rw[ek] at ka1;refine wpS_pure (fin _ (a++b) (YeF _) (YaX.mpr ⟨sa,sb,fun x hx y hy=>KO.le_trans (ka1 x hx) (bb y hy)⟩) ?_ hR.kind hR.failed new);show (arrOf st).toList=_;rw[ea];simp
 rw[if_neg (by simpa using ck)];have hla:a[a.length - 1]?=some a[a.length - 1]:=Yac (by (clear ck hk1 hlen hP hi;omega));have mla:a[a.length - 1]∈a:=YbY _;have mla2:a[a.length - 1]∈a.drop k:=by
  refine List.mem_iff_getElem?.mpr ⟨a.length - 1 - k,?_⟩;rw[Ycw,show k+(a.length - 1 - k)=a.length - 1 by (clear hk1 hP hi;omega)];exact hla
 have ela:(arrOf st)[R1.flatten.length+k+(a.length - k) - 1]?=some a[a.length - 1]:=by
  rw[<- Yap,show R1.flatten.length+k+(a.length - k) - 1=R1.flatten.length+(a.length - 1) by (clear ck hP hi;omega),ZcQ ea (by (clear ck hk1 hP hi;omega))];exact hla
 refine wpS_bind (Zap ela ?_);refine wpS_bind (Zbj hA hR.kind (oka _ mla) oks (show R1.flatten.length+a.length+b.length<=(arrOf st).size by (clear ck hk1 hP hi;omega)) (by rw[<- Yan];exact ZkW eb sb) (by (clear ck hk1 hP hi;omega)) fun n hn1 v1 v2=>?_);have kb1:∀ z∈b.take n,O.blt (O.ky z) (O.ky a[a.length - 1])=true:=by
  intro z hz;obtain⟨j,hj,e⟩:=ZaY hz;refine v1 j z hj ?_;rw[<- Yap,<- Yan,ZcQ eb (by (clear ck hk1 hP hi;omega))];exact e
 have kb2:∀ z∈b.drop n,O.le a[a.length - 1] z:=by
  intro z hz;obtain⟨j,hj,e⟩:=ZaZ hz;have hj2:j<b.length:=(Yab.mp e).1
  refine v2 j z hj hj2 ?_;rw[<- Yap,<- Yan,ZcQ eb hj2];exact e
 have hn0:1<=n:=by
  rcases Ydr n with z | z
  ·subst z;have q1:=ka2 _ mla2;rw[show O.blt (O.ky b[0]) (O.ky a[a.length - 1])=false from kb2 b[0] (by simpa using mb0)] at q1;cases q1
  ·exact z
 have aa:∀ z∈a,O.le z a[a.length - 1]:=fun z hz=>ZiF sa hla z (by rw[show a.length - 1+1=a.length by (clear hn0 hn1 ck hk1 hP hi;omega),Yaz];exact hz);dsimp only;rw[if_neg (by simp;(clear hn1 ck hk1 hP hi;omega))];have exx:((arrOf st).extract (R1.flatten.length+k) (R1.flatten.length+a.length)).toList=a.drop k :=
  Zi1 (P:=R1.flatten++a.take k) (S:=b++(R2.flatten++rest)) (by rw[ea];simp[<- YaJ];simp[YaJ,YaO]) (by simp;(clear hn0 hn1 ck hP hi;omega)) (by simp;(clear hn0 hn1 ck hk1 hP hi;omega))
 have exy:((arrOf st).extract (R1.flatten.length+a.length) (R1.flatten.length+a.length+n)).toList=b.take n :=
  Zi1 (P:=R1.flatten++a) (S:=b.drop n++(R2.flatten++rest)) (by rw[eb];simp only[YaJ];rw[<- YaJ (b.take n),YaO]) (by simp) (by simp;(clear hn0 ck hk1 hP hi;omega))
 have sx:O.Srt (a.drop k):=sa.drop;have sy:O.Srt (b.take n):=sb.take;have after:∀ (r:Array Keyed) (τ:SortSt),Gal (Ydo (kindOf st) (arrOf st) (((pendingOf st).setIfInBounds i (R1.flatten.length,a.length+b.length,w1)).eraseIdxIfInBounds (i+1)) (gallopOf st) (failedOf st)) τ->Mg O (a.drop k) (b.take n) r.toList ->
   Q true (Ydo (kindOf τ) (r.toList.zipIdx.foldl (fun a (q:Keyed × Nat)=>a.setIfInBounds (R1.flatten.length+k+q.2) q.1) (arrOf τ)) (pendingOf τ) (gallopOf τ) (failedOf τ)):=by
  intro r τ hG hM;have mem:∀ z∈r.toList,z∈a.drop k∨z∈b.take n:=fun z hz=>Yar.mp (hM.1.mem_iff.mp hz);refine fin _ (a.take k++r.toList++b.drop n) ?_ (srt3 sa.take hM.2 sb.drop (fun p hp q hq=>?_) (fun p hp q hq=>?_) fun p hp q hq=>?_) ?_ (hG.1.trans hR.kind) (hG.2.2.2.trans hR.failed) (by rw[show pendingOf τ=_ from hG.2.2.1];exact new)
  ·have p1:(a.take k++r.toList++b.drop n).Perm (a.take k++(a.drop k++b.take n)++b.drop n):=Yc0 _ (Yb2 _ hM.1);refine p1.trans (List.Perm.of_eq ?_);rw[<- YaJ,YaO,YaJ,YaO]
  ·rcases mem q hq with m | m
   ·refine (YaX.mp (show O.Srt (a.take k++a.drop k) from by rw[YaO];exact sa)).2.2 p hp q m
   ·exact KO.le_trans (ka1 p hp) (bb q (Ybe m))
  ·rcases mem p hp with m | m
   ·exact KO.le_trans (aa p (YbO m)) (kb2 q hq)
   ·refine (YaX.mp (show O.Srt (b.take n++b.drop n) from by rw[YaO];exact sb)).2.2 p m q hq
  ·exact KO.le_trans (ka1 p hp) (bb q (YbO hq))
  ·show (Yed _ (arrOf τ) _).toList=_;rw[show arrOf τ=arrOf st from hG.2.1];have:=ZdF r.toList 0 (R1.flatten.length+k) (arrOf st) (R1.flatten++a.take k) (a.drop k++b.take n) (b.drop n++(R2.flatten++rest)) ?_ (by rw[hM.1.length_eq]) (by simp;(clear hn0 hn1 ck hP hi;omega))
   ·rw[this];simp
   ·rw[eb];simp only[YaJ];rw[<- YaJ (a.take k),YaO,<- YaJ (b.take n),YaO]
 have xsz:((arrOf st).extract (R1.flatten.length+k) (R1.flatten.length+a.length)).size=a.length - k:=by
  rw[<- YaZ,exx,YbG]
 have ysz:((arrOf st).extract (R1.flatten.length+a.length) (R1.flatten.length+a.length+n)).size=n:=by
  rw[<- YaZ,exy,YaL];(clear xsz hn0 ck hk1 hP hi;omega)
 have y0:∀ y,((arrOf st).extract (R1.flatten.length+a.length) (R1.flatten.length+a.length+n))[0]?=some y->y=b[0]:=by
  intro y e;rw[<- Yap,exy,YbS (by (clear ysz xsz hn1 ck hk1 hP hi;omega)),hb0] at e;exact (Yax e).symm
 have xl:∀ z,((arrOf st).extract (R1.flatten.length+k) (R1.flatten.length+a.length))[((arrOf st).extract (R1.flatten.length+k) (R1.flatten.length+a.length)).size - 1]?=some z->z=a[a.length - 1]:=by
  intro z e;rw[xsz,<- Yap,exx,Ycw,show k+(a.length - k - 1)=a.length - 1 by (clear ysz xsz hn0 hn1 hk1 hP hi;omega),hla] at e;exact (Yax e).symm
 have hx1:1<=((arrOf st).extract (R1.flatten.length+k) (R1.flatten.length+a.length)).size:=by rw[xsz];(clear ysz xsz hn0 hn1 hk1 hP hi;omega)
 have hy1:1<=((arrOf st).extract (R1.flatten.length+a.length) (R1.flatten.length+a.length+n)).size:=by rw[ysz];(clear hx1 ysz xsz hn1 ck hk1 hP hi;omega)
 refine ZaF (fun _=>?_) (fun _=>?_)
 ·refine wpS_bind (ZfH hA hR.kind (by rw[exx];exact fun x hx=>oka x (YbO hx)) (by rw[exy];exact fun x hx=>okb x (Ybe hx)) (by rw[exx];exact sx) (by rw[exy];exact sy) hx1 hy1 ?_ ?_ ?_)
  ·intro y e x hx;rw[y0 y e];rw[exx] at hx;exact KO.le_of_lt (ka2 x hx)
  ·intro z e y hy;rw[xl z e];rw[exy] at hy;exact kb1 y hy
  ·intro r τ hG hM;rw[exx,exy] at hM;refine wpS_bind (wpS_modify (wpS_bind (wpS_get ?_)));have e9:failedOf τ=none:=hG.2.2.2.trans hR.failed;refine wpS_pure ?_;show Q (failedOf τ).isNone _;rw[e9];exact after r τ hG hM
 ·refine wpS_bind (ZfI hA hR.kind (by rw[exx];exact fun x hx=>oka x (YbO hx)) (by rw[exy];exact fun x hx=>okb x (Ybe hx)) (by rw[exx];exact sx) (by rw[exy];exact sy) hx1 hy1 ?_ ?_ ?_)
  ·intro y e x hx;rw[y0 y e];rw[exx] at hx;exact ka2 x hx
  ·intro z e y hy;rw[xl z e];rw[exy] at hy;exact KO.le_of_lt (kb1 y hy)
  ·intro r τ hG hM;rw[exx,exy] at hM;refine wpS_bind (wpS_modify (wpS_bind (wpS_get ?_)));have e9:failedOf τ=none:=hG.2.2.2.trans hR.failed;refine wpS_pure ?_;show Q (failedOf τ).isNone _;rw[e9];exact after r τ hG hM
end
end L2
namespace L2
open PySem PyProof.Rows
section
variable {prog:Program}{w:World}{A:Around}{E:Value->Shared->Prop}{s:Shared}{O:KO}{knd:SortKind}{ok:Keyed->Prop}{st τ:SortSt}
theorem Zmc {c:Prop} [Decidable c] {a b n:Nat} (h1:a<=n) (h2:b<=n):(if c then a else b)<=n:=by split <;> assumption
theorem Zcf {α:Type}:∀ {l:List α}{i:Nat},i+1<l.length->∃ R1 a b R2,l=R1++a::b::R2/\R1.length=i
 | [],_,h=>by simp at h
 | [_],_,h=>by simp at h
 | a::b::l,0,_=>⟨[],a,b,l,rfl,rfl⟩
 | a::b::l,i+1,h=>by
  obtain⟨R1,x,y,R2,e,q⟩:=Zcf (l:=b::l) (i:=i) (by simpa using h);exact⟨a::R1,x,y,R2,by rw[e];rfl,by simp[q]⟩
theorem RI.len {a₀ rest:List Keyed}{runs:List (List Keyed)} (h:RI O knd a₀ runs rest st):(pendingOf st).size=runs.length:=by
 rw[<- YaZ,<- ZcF 0 runs,<- h.pend,Yaa]
theorem RI.size {a₀ rest:List Keyed}{runs:List (List Keyed)} (h:RI O knd a₀ runs rest st):(arrOf st).size=runs.flatten.length+rest.length:=by
 rw[<- YaZ,h.arr,Yan]
theorem RI.size0 {a₀ rest:List Keyed}{runs:List (List Keyed)} (h:RI O knd a₀ runs rest st):(arrOf st).size=a₀.length:=by
 rw[<- YaZ,h.perm.length_eq]
theorem ZhX:∀ {runs:List (List Keyed)},(∀ r∈runs,1<=r.length)->runs.length<=runs.flatten.length
 | [],_=>by simp
 | r::rs,h=>by
  have q:=ZhX (runs:=rs) fun x hx=>h x (by simp[hx]);have:=h r (by simp);simp only[YaY,YaS,Yan];omega
theorem Znx {a₀ rest:List Keyed}{runs:List (List Keyed)}{n:Nat} (h:RI O knd a₀ runs rest st) (hF:FB knd (arrOf st) (pendingOf st) runs.flatten.length τ) (hu:Up O runs.flatten.length n (arrOf τ)) (hn:n<=rest.length) :
  ∃ r rest',r.length=n/\O.Srt r/\rest.length=n+rest'.length/\RI O knd a₀ runs (r++rest') τ:=by
 have hpm:=YdW.mp hF.perm;have hsz:(arrOf τ).size=runs.flatten.length+rest.length:=by rw[hF.size,h.size]
 have e1:(arrOf τ).toList.take runs.flatten.length=runs.flatten:=by
  have:(arrOf τ).toList.take runs.flatten.length=(arrOf st).toList.take runs.flatten.length:=by
   apply Ydv;intro i;rcases Ybp i runs.flatten.length with hi | hi
   ·rw[YbS hi,YbS hi,Yap,Yap];exact hF.keep i hi
   ·rw[YbE (by rw[YaL];(clear hsz hn;omega)),YbE (by rw[YaL];(clear hsz hn;omega))]
  rw[this,h.arr,YcX]
 have e2:(arrOf τ).toList=runs.flatten++(arrOf τ).toList.drop runs.flatten.length:=by
  conv=>lhs;rw[<- YaO runs.flatten.length (arrOf τ).toList,e1]
 have lr:((arrOf τ).toList.drop runs.flatten.length).length=rest.length:=by
  rw[YbG,YaZ];(clear hn;omega)
 refine⟨((arrOf τ).toList.drop runs.flatten.length).take n,((arrOf τ).toList.drop runs.flatten.length).drop n,by rw[YaL];(clear hsz;omega),?_,by rw[YbG];(clear hsz;omega),⟨by rw[YaO];exact e2,hpm.trans h.perm,h.srt,h.ne,hF.kind,hF.failed,by rw[hF.pend];exact h.pend⟩⟩;refine Ycj.mpr fun i j hi hj hij=>?_;rw[YaL] at hi hj;have q:=hu i j (by (clear hj hi lr hsz hn;omega)) (by (clear hij hi lr hsz hn;omega));rw[Ydu,Ydu,YeT,YeT];have g:∀ k (hk:runs.flatten.length+k<(arrOf τ).toList.length),ka O (arrOf τ) (runs.flatten.length+k)=O.ky ((arrOf τ).toList[runs.flatten.length+k]):=by
  intro k hk;unfold ka;rw[<- Yap,Yac hk];rfl
 have hlt:(arrOf τ).toList.length=runs.flatten.length+rest.length:=by rw[YaZ];exact hsz
 rw[g i (by (clear hij hj lr hsz;omega)),g j (by (clear hij lr hsz;omega))] at q;exact q
theorem RI.push {a₀ rest r:List Keyed}{runs:List (List Keyed)}{lo n:Nat} (h:RI O knd a₀ runs (r++rest) st) (hs:O.Srt r) (hr:r.length=n) (hn:1<=n) (hl:lo=runs.flatten.length):RI O knd a₀ (runs++[r]) rest (setPending st ((pendingOf st).push (lo,n,0))):=by
 refine⟨?_,h.perm,?_,?_,h.kind,h.failed,?_⟩
 ·show (arrOf st).toList=_;rw[h.arr];simp
 ·intro x hx;rcases Yar.mp hx with hx | hx
  ·exact h.srt x hx
  ·rw[YaN.mp hx];exact hs
 ·intro x hx;rcases Yar.mp hx with hx | hx
  ·exact h.ne x hx
  ·rw[YaN.mp hx];(clear hl;omega)
 ·show ((pendingOf st).push (lo,n,0)).toList.map pr=_;rw[YcC,YaM,h.pend,ZbU,hl,<- hr];simp[pos,pr]
theorem RI.pow {a₀ rest:List Keyed}{runs:List (List Keyed)}{pw:Nat} (h:RI O knd a₀ runs rest st):RI O knd a₀ runs rest (setPending st ((pendingOf st).modify ((pendingOf st).size - 1) fun x=>(x.1,x.2.1,pw))):=by
 refine⟨h.arr,h.perm,h.srt,h.ne,h.kind,h.failed,?_⟩;show ((pendingOf st).modify _ _).toList.map pr=_;rw[<- h.pend];apply Ydv;intro i;rw[Yag,Yag,Yap,Yap,Array.getElem?_modify];split
 ·cases (pendingOf st)[i]? <;> rfl
 ·rfl
theorem ZfG {a₀:Array Keyed}{Q:Unit->SortSt->Prop} (hA:Asks prog w A s O knd ok) (h0:∀ x∈a₀.toList,ok x) (ha:arrOf st=a₀) (hk:kindOf st=knd) (hf:failedOf st=none) (hp:pendingOf st=#[])
  (h:∀ τ,(arrOf τ).toList.Perm a₀.toList->failedOf τ=none->O.Srt (arrOf τ).toList->Q () τ):wpS (model prog w) A E s sortRuns' Q st:=by
 refine wpS_bind (wpS_get ?_);dsimp only;have hN:(arrOf st).size=a₀.size:=by rw[ha]
 have hN2:a₀.toList.length=a₀.size:=YaZ;rw[hN];refine wpS_bind (wpS_mono (wpS_forRange
  (I:=fun x c τ=>∃ lo runs rest,c=((none:Option Unit),lo)/\RI O knd a₀.toList runs rest τ/\lo=runs.flatten.length/\(x<=lo))
  (Q:=fun c τ=>∃ lo runs,c=((none:Option Unit),lo)/\RI O knd a₀.toList runs [] τ) ?go ?out ⟨0,[],a₀.toList,rfl,⟨by rw[ha];simp,by rw[ha],(fun r hr=>nomatch hr),(fun r hr=>nomatch hr),hk,hf,by rw[hp];rfl⟩,rfl,Yak 0⟩) ?fin)
 case out=>
  rintro c τ ⟨lo,runs,rest,rfl,hR,e1,e2⟩;have q1:=hR.size;have q2:=hR.size0;have q3:=hN2;have:rest=[]:=YbV.mp (by
   have q4:max 0 a₀.size<=lo:=e2
   (clear q4 q3 hN;omega))
  subst this;exact⟨lo,runs,rfl,hR⟩
 case fin=>
  rintro c τ ⟨lo,runs,rfl,hR⟩;dsimp only;have q1:=hR.size;have q2:=ZhX hR.ne;have q3:=hN2;have q4:=hR.size0;refine wpS_bind (wpS_mono (wpS_forRange (I:=fun x c τ'=>c=((none:Option Unit),())/\∃ runs',RI O knd a₀.toList runs' [] τ'/\runs'.length+x<=a₀.size)
   (Q:=fun c τ'=>c=((none:Option Unit),())/\∃ runs',RI O knd a₀.toList runs' [] τ'/\runs'.length<=1) ?g2 ?o2 ⟨rfl,runs,hR,by simp only[Ydb] at q1;(clear q3 hN;omega)⟩) ?f2)
  case o2=>
   rintro c τ' ⟨hc,runs',hR',e⟩;have e:runs'.length+max 0 a₀.size<=a₀.size:=e;exact⟨hc,runs',hR',by (clear e q4 q3 q2 q1 hN2 hN;omega)⟩
  case f2=>
   rintro c τ' ⟨rfl,runs',hR',e⟩;refine wpS_pure (h τ' hR'.perm hR'.failed ?_);rw[hR'.arr,Ybf]
   match runs',e,hR' with
   | [],_,_=>exact Yco
   | [r],_,hR'=>simpa using hR'.srt r (by simp)
  case g2=>
   rintro x c τ' _ _ ⟨rfl,runs',hR',e⟩;refine wpS_bind (wpS_get ?_);by_cases c1:(pendingOf τ').size<=1
   ·rw[if_pos c1];exact wpS_pure ⟨rfl,runs',hR',by rw[<- hR'.len];exact c1⟩
   rw[if_neg c1];have key:∀ j,j<=(pendingOf τ').size - 2->wpS (model prog w) A E s (mergeAt' j) (fun b τ3=>b=true/\∃ runs',RI O knd a₀.toList runs' [] τ3/\runs'.length+(x+1)<=a₀.size) τ':=by
    intro j hj;obtain⟨R1,a,b,R2,e3,e4⟩:=Zcf (l:=runs') (i:=j) (by rw[<- hR'.len];(clear e q4 q3 q2 q1 hN2 hN;omega));subst e3;refine Zb5 hA h0 hR' e4 fun m τ3 pm hR3=>⟨rfl,_,hR3,?_⟩
    simp only[Yan,YaY] at e ⊢
    (clear e4 hj c1 q4 q3 q2 q1 hN2 hN;omega)
   refine wpS_bind (wpS_mono (key _ ?_) ?_)
   ·have:=hR'.len;rw[show (pendingOf τ').size=runs'.length from this];exact Zmc (by (clear this c1 e q4 q3 q2 q1 hN2 hN;omega)) (by (clear this c1 e q4 q3 q2 q1 hN2 hN;omega))
   ·rintro b τ3 ⟨rfl,runs3,hR3,e3⟩;simp only[YcN,YaR,if_false];exact wpS_pure ⟨rfl,runs3,hR3,e3⟩
 case go=>
  rintro x c τ _ hx ⟨lo,runs,rest,rfl,hR,e1,e2⟩;have q1:=hR.size;have q2:=hR.size0;have q3:=hN2;dsimp only;by_cases c0:lo ≥ a₀.size
  ·rw[if_pos c0];have:rest=[]:=YbV.mp (by (clear q3 e2 hx hN;omega));subst this;exact wpS_pure ⟨lo,runs,rfl,hR⟩
  rw[if_neg c0];have oks:∀ x∈(arrOf τ).toList,ok x:=fun x hx=>h0 x (hR.perm.mem_iff.mp hx);refine wpS_bind (Zlg (b₀:=arrOf τ) (p₀:=pendingOf τ) (lo:=lo) hA oks ⟨Array.Perm.refl _,fun _ _=>rfl,hR.kind,hR.failed,rfl⟩ (by (clear c0 q3 e2 hx hN;omega)) (by (clear q3 q2 q1 e2 e1 hx hN2 hN;omega)) fun m τ1 hF m1 m2 u=>?_);dsimp only;refine ZaF (fun cm=>?_) (fun cm=>?_)
  ·refine wpS_bind (wpS_lift (wpAny_rule ⟨rfl,?_⟩));refine wpS_bind (Zlh hA oks hF (by (clear cm m2 m1 c0 q3 e2 hx hN;omega)) m1 (by (clear m1 c0 q3 q2 q1 e2 e1 hx hN2 hN;omega)) u fun τ2 hF2 u2=>?_);simp only[YcN,YaR,if_false];rw[e1] at hF2 u2;obtain⟨r,rest',hr,hs,hl,hR2⟩:=Znx hR hF2 u2 (by (clear cm m2 m1 c0 q3 e2 e1 hx hN;omega));rw[<- e1] at hr;have h1n:1<=r.length:=by (clear hl m2 m1 q3 q2 q1 e2 e1 hx hN2 hN;omega)
   rw[hr] at h1n;refine wpS_bind (wpS_get ?_)
   cases eb:(pendingOf τ2).back? with
   | none=>
    dsimp only;exact wpS_bind (wpS_modify (wpS_pure ⟨_,runs++[r],rest',rfl,hR2.push hs hr h1n e1,by simp[hr,e1],by (clear h1n hl hr m2 m1 c0 q3 q2 q1 e1 hN2 hN;omega)⟩))
   | some p=>
    obtain⟨s1,n1,w1⟩:=p;dsimp only;refine wpS_bind (wpS_mono (wpS_forRange (I:=fun _ c τ'=>c=((none:Option Unit),())/\∃ runs',RI O knd a₀.toList runs' (r++rest') τ'/\runs'.flatten.length=lo)
     (Q:=fun c τ'=>c=((none:Option Unit),())/\∃ runs',RI O knd a₀.toList runs' (r++rest') τ'/\runs'.flatten.length=lo) ?g2 (fun _ _ z=>z) ⟨rfl,runs,hR2,e1.symm⟩) ?f2)
    case f2=>
     rintro c τ' ⟨rfl,runs',hR',e⟩;exact wpS_bind (wpS_modify (wpS_bind (wpS_modify (wpS_pure ⟨_,runs'++[r],rest',rfl,hR'.pow.push hs hr h1n e.symm,by simp[hr,e],by (clear e h1n hl hr m2 m1 c0 q3 q2 q1 e1 hN2 hN;omega)⟩))))
    case g2=>
     rintro y c τ' _ _ ⟨rfl,runs',hR',e⟩;refine wpS_bind (wpS_get ?_);by_cases c1:(pendingOf τ').size > 1
     ·rw[if_pos c1]
      cases ep:(pendingOf τ')[(pendingOf τ').size - 2]? with
      | none=>exact wpS_pure ⟨rfl,runs',hR',e⟩
      | some p=>
       obtain⟨s3,n3,w3⟩:=p;dsimp only;refine ZaF (fun _=>wpS_pure ⟨rfl,runs',hR',e⟩) (fun _=>?_);obtain⟨R1,a,b,R2,e3,e4⟩:=Zcf (l:=runs') (i:=(pendingOf τ').size - 2) (by rw[<- hR'.len];(clear e h1n hl hr cm m2 m1 c0 q3 q2 q1 e2 e1 hx hN2 hN;omega));subst e3;refine wpS_bind (Zb5 hA h0 hR' e4 fun m τ3 pm hR3=>?_);simp only[YcN,YaR,if_false];refine wpS_pure ⟨rfl,_,hR3,?_⟩;rw[<- e];have:=pm.length_eq;simp only[Ybo,YaS,Yan] at this ⊢
       (clear e e4 c1 h1n hl hr cm m2 m1 c0 q3 q2 q1 e2 e1 hx hN2 hN;omega)
     ·rw[if_neg c1];exact wpS_pure ⟨rfl,runs',hR',e⟩
  ·rw[e1] at hF u;obtain⟨r,rest',hr,hs,hl,hR2⟩:=Znx hR hF u (by (clear cm m1 c0 q3 e2 hx hN;omega));have h1n:1<=m:=m1;refine wpS_bind (wpS_get ?_)
   cases eb:(pendingOf τ1).back? with
   | none=>
    dsimp only;exact wpS_bind (wpS_modify (wpS_pure ⟨_,runs++[r],rest',rfl,hR2.push hs hr h1n e1,by simp[hr,e1],by (clear h1n hl hr cm m2 c0 q3 q2 q1 e1 hx hN2 hN;omega)⟩))
   | some p=>
    obtain⟨s1,n1,w1⟩:=p;dsimp only;refine wpS_bind (wpS_mono (wpS_forRange (I:=fun _ c τ'=>c=((none:Option Unit),())/\∃ runs',RI O knd a₀.toList runs' (r++rest') τ'/\runs'.flatten.length=lo)
     (Q:=fun c τ'=>c=((none:Option Unit),())/\∃ runs',RI O knd a₀.toList runs' (r++rest') τ'/\runs'.flatten.length=lo) ?g2 (fun _ _ z=>z) ⟨rfl,runs,hR2,e1.symm⟩) ?f2)
    case f2=>
     rintro c τ' ⟨rfl,runs',hR',e⟩;exact wpS_bind (wpS_modify (wpS_bind (wpS_modify (wpS_pure ⟨_,runs'++[r],rest',rfl,hR'.pow.push hs hr h1n e.symm,by simp[hr,e],by (clear e h1n hl hr cm m2 c0 q3 q2 q1 e1 hx hN2 hN;omega)⟩))))
    case g2=>
     rintro y c τ' _ _ ⟨rfl,runs',hR',e⟩;refine wpS_bind (wpS_get ?_);by_cases c1:(pendingOf τ').size > 1
     ·rw[if_pos c1]
      cases ep:(pendingOf τ')[(pendingOf τ').size - 2]? with
      | none=>exact wpS_pure ⟨rfl,runs',hR',e⟩
      | some p=>
       obtain⟨s3,n3,w3⟩:=p;dsimp only;refine ZaF (fun _=>wpS_pure ⟨rfl,runs',hR',e⟩) (fun _=>?_);obtain⟨R1,a,b,R2,e3,e4⟩:=Zcf (l:=runs') (i:=(pendingOf τ').size - 2) (by rw[<- hR'.len];(clear e h1n hl hr cm m2 m1 c0 q3 q2 q1 e2 e1 hx hN2 hN;omega));subst e3;refine wpS_bind (Zb5 hA h0 hR' e4 fun m τ3 pm hR3=>?_);simp only[YcN,YaR,if_false];refine wpS_pure ⟨rfl,_,hR3,?_⟩;rw[<- e];have:=pm.length_eq;simp only[Ybo,YaS,Yan] at this ⊢
       (clear e e4 c1 h1n hl hr cm m2 m1 c0 q3 q2 q1 e2 e1 hx hN2 hN;omega)
     ·rw[if_neg c1];exact wpS_pure ⟨rfl,runs',hR',e⟩
end
end L2
namespace L2
open PySem PyProof.Rows
section
variable {prog:Program}{w:World}{A:Around}{E:Value->Shared->Prop}{s:Shared}{O:KO}{knd:SortKind}{ok:Keyed->Prop}
def Ord2 (O:KO) (b:Bool) (us:List Value):Prop:=us.Pairwise fun u v=>if b=true then O.le (v,v) (u,u) else O.le (u,u) (v,v)
theorem Zm3 {vs:List Value}{out:List Keyed} (hp:out.Perm (vs.zip vs)) (hs:O.Srt out) (b:Bool):∃ us:List Value,(if b=true then (out.map (·.2)).reverse else out.map (·.2))=us/\us.Perm vs/\Ord2 O b us:=by
 have hm:∀ p∈out,p=(p.2,p.2):=fun p hp'=>by
  have:=(mem_zip_self (hp.mem_iff.mp hp')).1
  exact YeI this rfl
 have p1:(out.map (·.2)).Perm vs:=by
  have:=hp.map (·.2)
  rwa [List.map_snd_zip (Yak _)] at this
 have s1:(out.map (·.2)).Pairwise fun u v=>O.le (u,u) (v,v):=by
  rw[YbJ];refine hs.imp_of_mem fun {x y} hx hy q=>?_;rw[hm x hx,hm y hy] at q;exact q
 cases b with
 | false=>exact⟨_,rfl,p1,by simpa[Ord2] using s1⟩
 | true=>exact⟨_,rfl,(YcD _).trans p1,by simp only[Ord2,if_true,List.pairwise_reverse];exact s1⟩
theorem ZhV {a:Addr}{vs:List Value}{n:Nat}{h:Heap} (ho:h.get? a=some (seqObj "list" vs.toArray n)) {b:Addr}{o:Obj} (hb:h.get? b=some o) (hne:b≠a):(((h.update a (Ybs fun _=>#[])).push (seqObj "tuple" vs.toArray 0)).push (seqObj "list" #[] 0)).get? b=some o :=
 Yad _ (Yad _ (by rw[YeG _ _ _ _ hne];exact hb))
theorem Zer {a:Addr}{vs:List Value}{n:Nat}{P:PySem.Fin->Shared->Prop} (ho:s.heap.get? a=some (seqObj "list" vs.toArray n)) (hz:vs.length<=sizeLine)
  (hkk:∀ h',(∀ b o,s.heap.get? b=some o->b≠a->h'.get? b=some o)->2<=vs.length->∀ Q:SortKind->Shared->Prop,Q knd { s with heap:=h' }->wpAny (model prog w) A (keyKind' vs.toArray) Q E { s with heap:=h' })
  (hA:∀ h',(∀ b o,s.heap.get? b=some o->b≠a->h'.get? b=some o)->Asks prog w A { s with heap:=h' } O knd ok) (hok:∀ v∈vs,ok (v,v))
  (h:∀ us:List Value,us.Perm vs->Ord2 O false us->P (.done (.ret .none)) { s with heap:=sortedHeap s.heap a vs us.toArray }):wpAny (model prog w) A (Builtin.«list.sort» ⟨[.ref a],[]⟩) P E s:=by
 have ha:a<s.heap.objs.size:=Yai ho;have keep:=fun (b:Addr) (o:Obj) (hb:s.heap.get? b=some o) (hne:b≠a)=>ZhV ho hb hne;obtain⟨e1,ho1⟩:∃ c,(s.heap.update a (Ybs fun _=>#[])).get? a=some (seqObj "list" #[] c):=⟨_,get?_update_seq ho (fun _=>#[])⟩
 have ho6:=Yad (seqObj "list" #[] 0) (Yad (seqObj "tuple" vs.toArray 0) ho1);have hsv:vs.toArray.size=vs.length:=Yal;have hz1:vs.toArray.size<=sizeLine:=by rw[hsv];exact hz
 have fin:∀ (τ:SortSt),(arrOf τ).toList.Perm (vs.zip vs)->O.Srt (arrOf τ).toList->P (.done (.ret .none)) { s with heap:=sortedHeap s.heap a vs ((arrOf τ).map (·.2)) }:=by
  intro τ hp hs;obtain⟨us,e,p1,p2⟩:=Zm3 hp hs false;have e2:(arrOf τ).map (·.2)=us.toArray:=by rw[<- e];apply Array.toList_inj.mp;simp
  rw[e2];exact h us p1 p2
 have osz:∀ τ:SortSt,(arrOf τ).toList.Perm (vs.zip vs)->((arrOf τ).map (·.2)).size<=sizeLine+1:=by
  intro τ hp;rw[Array.size_map,<- YaZ,hp.length_eq,List.length_zip]
  (clear hz1 hsv ha;omega)
 rw[list_sort_plain];refine wpAny_bind (listItems_at ho rfl (wpAny_bind (listUpdate_at ho rfl ?_ hz1 (YaT _))));refine wpAny_bind (seqEpoch_at ho1 rfl (wpAny_bind (wpAny_newTuple ?_ hz)));refine wpAny_bind (wpAny_newList ?_ (YaT _));refine wpAny_holding ?_;show wpAny (model prog w) A _ P E ({ s with heap:=((s.heap.update a (Ybs fun _=>#[])).push (seqObj "tuple" vs.toArray 0)).push (seqObj "list" #[] 0) }:Shared);dsimp only;by_cases h2:vs.toArray.size<2
 ·rw[if_pos h2,if_pos h2];refine wpAny_bind (wpAny_pure ?_);rw[StateT.run_pure];have hp0:(vs.toArray.zip vs.toArray).toList.Perm (vs.zip vs):=by simp
  refine wpAny_bind (wpAny_pure (wpAny_bind (seqEpoch_at ho6 rfl (wpAny_bind (listUpdate_at ho6 rfl ?_ (YaT _) (osz (Ydo general' (vs.toArray.zip vs.toArray) #[] 7 none) hp0))))));simp only[bne_self_eq_false,YaR,if_false];refine wpAny_pure (fin (Ydo general' (vs.toArray.zip vs.toArray) #[] 7 none) hp0 ?_);show O.Srt (vs.toArray.zip vs.toArray).toList;rw[show (vs.toArray.zip vs.toArray).toList=vs.zip vs by simp]
  match vs,h2 with
  | [],_=>exact Yco
  | [v],_=>exact Yee _ _
 ·rw[if_neg h2,if_neg h2];refine wpAny_bind (hkk _ keep (by (clear hz1 ha hz;omega)) _ ?_);refine wpAny_bind (wpAny_mono (ZfG (a₀:=vs.toArray.zip vs.toArray) (st:=Ydo knd (vs.toArray.zip vs.toArray) #[] 7 none) (Q:=fun _ τ=>(arrOf τ).toList.Perm (vs.zip vs)/\failedOf τ=none/\O.Srt (arrOf τ).toList)
   (hA _ keep) (fun x hx=>?_) rfl rfl rfl rfl fun τ a1 a2 a3=>⟨by simpa using a1,a2,a3⟩) ?_ fun _ _ z=>z)
  ·have hx:x∈vs.zip vs:=by simpa using hx
   have q:=mem_zip_self hx;rw[show x=(x.1,x.1) from YeI rfl q.1.symm];exact hok _ q.2
  ·rintro⟨⟨⟩,τ⟩ s' ⟨rfl,hp,hf,hs⟩;refine wpAny_bind (seqEpoch_at ho6 rfl (wpAny_bind (listUpdate_at ho6 rfl ?_ (YaT _) (osz τ hp))));dsimp only;rw[hf];simp only[bne_self_eq_false,YaR,if_false];exact wpAny_pure (fin τ hp hs)
theorem ZdL {l:Addr}{vs:List Value} (h:Heap):∀ b o,h.get? b=some o->(((h.push (seqObj "list" #[] 0)).update h.objs.size (Ybs (·++vs.toArray))).push (seqObj "list" vs.toArray 0)).get? b=some o:=by
 intro b o q;have hlt:b<h.objs.size:=Yai q;refine Yad _ ?_;rw[YeG _ _ _ _ (YaB hlt)];exact Yad _ q
structure Sortable (prog:Program) (w:World) (s:Shared) (O:KO) (vs:List Value):Prop where
 ex:∃ (knd:SortKind) (ok:Keyed->Prop),(∀ v∈vs,ok (v,v))/\(∀ A h',(∀ b o,s.heap.get? b=some o->h'.get? b=some o)->Asks prog w A { s with heap:=h' } O knd ok) /\
  ∀ (A:Around) (E:Value->Shared->Prop) h',(∀ b o,s.heap.get? b=some o->h'.get? b=some o)->2<=vs.length->∀ Q:SortKind->Shared->Prop,Q knd { s with heap:=h' }->wpAny (model prog w) A (keyKind' vs.toArray) Q E { s with heap:=h' }
theorem ZfS {l:Addr}{vs:List Value}{Q:Value->Shared->Prop} (hl:s.heap.IsList l vs.toArray) (hz:vs.length<=sizeLine) (hS:Sortable prog w s O vs)
  (h:∀ us:List Value,us.Perm vs->Ord2 O false us->Q (.ref (s.heap.objs.size+1)) { s with heap:=sortedAll s.heap vs us.toArray }):wpAny (model prog w) A (call (.builtin "sorted") [.ref l]) Q E s:=by
 obtain⟨knd,ok,h1,h2,h3⟩:=hS.ex;have zz:((s.heap.push (seqObj "list" #[] 0)).update s.heap.objs.size (Ybs (·++vs.toArray))).objs.size=s.heap.objs.size+1:=by rw[Ye2,size_push']
 have at1:(((s.heap.push (seqObj "list" #[] 0)).update s.heap.objs.size (Ybs (·++vs.toArray))).push (seqObj "list" vs.toArray 0)).get? (s.heap.objs.size+1)=some (seqObj "list" vs.toArray 0):=by
  have:=Yav ((s.heap.push (seqObj "list" #[] 0)).update s.heap.objs.size (Ybs (·++vs.toArray))) (o:=seqObj "list" vs.toArray 0) rfl
  rwa [zz] at this
 refine YcV kind_sorted plain_sorted entry_sorted (args_sorted1 _) ?_;unfold Builtin.«sorted»;refine wpAny_bind (m:=checkCount "sorted" 1 1 _) (wpAny_pure (wpAny_bind (collect_list hl (wpAny_bind (wpAny_newList ?_ hz)) hz)));show wpAny _ _ _ _ _ { s with heap:=((s.heap.push (seqObj "list" #[] 0)).update s.heap.objs.size (Ybs (·++vs.toArray))).push (seqObj "list" vs.toArray 0) };rw[zz];have up:∀ h':Heap,(∀ b o,(((s.heap.push (seqObj "list" #[] 0)).update s.heap.objs.size (Ybs (·++vs.toArray))).push (seqObj "list" vs.toArray 0)).get? b=some o->b≠s.heap.objs.size+1->h'.get? b=some o)->∀ b o,s.heap.get? b=some o->h'.get? b=some o:=fun h' k b o q=>
  k b o (ZdL (l:=l) s.heap b o q) (YaB (YcE (Yai q)))
 exact wpAny_bind (wpAny_holding (wpAny_call_entry slot_list_sort ⟨_,at1,rfl⟩ entry_list_sort (Zer at1 hz (fun h' k hl2 Q' q=>h3 _ _ h' (up h' k) hl2 Q' q) (fun h' k=>h2 _ h' (up h' k)) h1 fun us p1 p2=>⟨_,rfl,wpAny_pure ⟨_,rfl,h us p1 p2⟩⟩) (args_list_sort _)))
theorem ZfR {l:Addr}{vs:List Value}{Q:Value->Shared->Prop} (hl:s.heap.IsTuple l vs.toArray) (hz:vs.length<=sizeLine) (hS:Sortable prog w s O vs)
  (h:∀ us:List Value,us.Perm vs->Ord2 O false us->Q (.ref (s.heap.objs.size+1)) { s with heap:=sortedAll s.heap vs us.toArray }):wpAny (model prog w) A (call (.builtin "sorted") [.ref l]) Q E s:=by
 obtain⟨knd,ok,h1,h2,h3⟩:=hS.ex;have zz:((s.heap.push (seqObj "list" #[] 0)).update s.heap.objs.size (Ybs (·++vs.toArray))).objs.size=s.heap.objs.size+1:=by rw[Ye2,size_push']
 have at1:(((s.heap.push (seqObj "list" #[] 0)).update s.heap.objs.size (Ybs (·++vs.toArray))).push (seqObj "list" vs.toArray 0)).get? (s.heap.objs.size+1)=some (seqObj "list" vs.toArray 0):=by
  have:=Yav ((s.heap.push (seqObj "list" #[] 0)).update s.heap.objs.size (Ybs (·++vs.toArray))) (o:=seqObj "list" vs.toArray 0) rfl
  rwa [zz] at this
 refine YcV kind_sorted plain_sorted entry_sorted (args_sorted1 _) ?_;unfold Builtin.«sorted»;refine wpAny_bind (m:=checkCount "sorted" 1 1 _) (wpAny_pure (wpAny_bind (Zhk hl (wpAny_bind (wpAny_newList ?_ hz)) hz)));show wpAny _ _ _ _ _ { s with heap:=((s.heap.push (seqObj "list" #[] 0)).update s.heap.objs.size (Ybs (·++vs.toArray))).push (seqObj "list" vs.toArray 0) };rw[zz];have up:∀ h':Heap,(∀ b o,(((s.heap.push (seqObj "list" #[] 0)).update s.heap.objs.size (Ybs (·++vs.toArray))).push (seqObj "list" vs.toArray 0)).get? b=some o->b≠s.heap.objs.size+1->h'.get? b=some o)->∀ b o,s.heap.get? b=some o->h'.get? b=some o:=fun h' k b o q=>
  k b o (ZdL (l:=l) s.heap b o q) (YaB (YcE (Yai q)))
 exact wpAny_bind (wpAny_holding (wpAny_call_entry slot_list_sort ⟨_,at1,rfl⟩ entry_list_sort (Zer at1 hz (fun h' k hl2 Q' q=>h3 _ _ h' (up h' k) hl2 Q' q) (fun h' k=>h2 _ h' (up h' k)) h1 fun us p1 p2=>⟨_,rfl,wpAny_pure ⟨_,rfl,h us p1 p2⟩⟩) (args_list_sort _)))
def KOi:KO where
 α:=Int
 blt a b:=decide (a<b)
 irrefl a:=by simp
 trans a b c h1 h2:=by simp only[decide_eq_true_eq] at *;omega
 negTrans a b c h:=by simp only[decide_eq_true_eq] at *;omega
 total a b h1 h2:=by simp only[decide_eq_false_iff_not] at *;omega
 ky p:=numOf p.1
theorem Zci {vs:List Value}{ns:List Int} (hI:IntsAre vs ns):Sortable prog w s KOi vs:=by
 refine⟨oneType',(fun p=>∃ n t,p.1=.int n t),fun v hv=>?_,fun A h' _ x y hx hy E Q q=>?_,fun A E h' _ h2 Q q=>?_⟩
 ·obtain⟨n,t,e⟩:=hI.all v hv;exact⟨n,t,e⟩
 ·obtain⟨n,t,e1⟩:=hx;obtain⟨m,u,e2⟩:=hy;rw[keyLt'_oneType,e1,e2];refine oneLt_int ?_;have q:Q (decide (numOf x.1<numOf y.1)) { s with heap:=h' }:=q;rw[e1,e2] at q;exact q
 ·match vs,h2,hI with
  | v1::v2::r,_,hI=>
   rw[keyKind_ints hI];exact wpAny_pure q
theorem ZgI {us:List Value}{ms:List Int}{b:Bool} (hI:IntsAre us ms) (h:Ord2 KOi b us):if b=true then ms.Pairwise (· ≥ ·) else ms.Pairwise (·<=·):=by
 have e:=hI.nums;subst e
 cases b with
 | false=>
  simp only[YaR,if_false,Ord2] at h ⊢;rw[YbJ];exact h.imp fun {x y} q=>by
   have q:decide (numOf y<numOf x)=false:=q;simpa using q
 | true=>
  simp only[if_true,Ord2] at h ⊢;rw[YbJ];exact h.imp fun {x y} q=>by
   have q:decide (numOf x<numOf y)=false:=q;simpa using q
theorem Zfl {vs us:List Value}{ns:List Int} (hI:IntsAre vs ns) (hp:us.Perm vs):∃ ms,IntsAre us ms/\ms.Perm ns:=by
 refine⟨us.map numOf,intsAre_map us fun v hv=>hI.all v (hp.mem_iff.mp hv),?_⟩;rw[<- hI.nums];exact hp.map _
def lxB:List Int->List Int->Bool
 | _,[]=>false
 | [],_::_=>true
 | a::as,b::bs=>if a=b then lxB as bs else decide (a<b)
theorem Zd2:∀ a,lxB a a=false
 | []=>rfl
 | a::as=>by rw[lxB,if_pos rfl];exact Zd2 as
theorem Zdi:∀ a b c,lxB a b=true->lxB b c=true->lxB a c=true
 | _,[],_,h,_=>by rw[lxB] at h;cases h
 | _,_::_,[],_,h=>by rw[lxB] at h;cases h
 | [],_::_,_::_,_,_=>rfl
 | a::as,b::bs,c::cs,h1,h2=>by
  rw[lxB] at h1 h2 ⊢;by_cases e1:a=b
  ·subst e1;rw[if_pos rfl] at h1;by_cases e2:a=c
   ·subst e2;rw[if_pos rfl] at h2 ⊢;exact Zdi as bs cs h1 h2
   ·rw[if_neg e2] at h2 ⊢;exact h2
  ·rw[if_neg e1] at h1;have h1:=of_decide_eq_true h1;by_cases e2:b=c
   ·subst e2;rw[if_neg e1];exact decide_eq_true h1
   ·rw[if_neg e2] at h2;have h2:=of_decide_eq_true h2;rw[if_neg (by (clear e2 e1;omega))];exact decide_eq_true (by (clear e2 e1;omega))
theorem Zdj:∀ a b,lxB a b=false->lxB b a=false->a=b
 | [],[],_,_=>rfl
 | _::_,[],_,h=>by rw[lxB] at h;cases h
 | [],_::_,h,_=>by rw[lxB] at h;cases h
 | a::as,b::bs,h1,h2=>by
  rw[lxB] at h1 h2;by_cases e:a=b
  ·subst e;rw[if_pos rfl] at h1 h2;rw[Zdj as bs h1 h2]
  ·rw[if_neg e] at h1;rw[if_neg (fun z=>e z.symm)] at h2;have h1:=of_decide_eq_false h1;have h2:=of_decide_eq_false h2;omega
theorem Zl9 (a b c:List Int) (h:lxB a c=true):lxB a b=true∨lxB b c=true:=by
 cases e1:lxB a b with
 | true=>exact .inl rfl
 | false=>
  right
  cases e2:lxB b a with
  | true=>exact Zdi b a c e2 h
  | false=>rw[<- Zdj a b e1 e2];exact h
def KOt (ks:Addr->List Int):KO where
 α:=List Int
 blt:=lxB
 irrefl:=Zd2
 trans:=Zdi
 negTrans:=Zl9
 total:=Zdj
 ky p:=match p.1 with
  | .ref a=>ks a
  | _=>[]
theorem ZiD {b:Bool}{Q:Bool->Shared->Prop}{τ:Shared}{fin:Bool}:∀ {xs ys:List Int}{us vs:List Value}{i:Nat},IntsAre us xs->IntsAre vs ys->(Q (lxB xs ys) τ)->(fin=decide (xs.length<ys.length)) ->
  PySem.W.KatLex prog w A b fin Q (us.zip vs) i τ
 | [],[],_,_,i,.nil,.nil,q,e=>by
  rw[e];exact Ydx q
 | [],y::ys,_,_,i,.nil,.cons _ _ _,q,e=>by
  rw[e];exact Ydx (by simpa[lxB] using q)
 | x::xs,[],_,_,i,.cons _ _ _,.nil,q,e=>by
  rw[e];exact Ydx (by simpa[lxB] using q)
 | x::xs,y::ys,_,_,i,.cons _ t h1,.cons _ u h2,q,e=>by
  rw[YeL];refine PySem.W.kat_cons (wpAny_eqBool_int ?_);rw[lxB] at q;by_cases c:x=y
  ·subst c;rw[if_pos rfl] at q;rw[show (x == x)=true by simp];exact PySem.W.kat_yes (ZiD h1 h2 q (by rw[e];simp))
  ·rw[if_neg c] at q;rw[show (x == y)=false by simpa using c];refine PySem.W.kat_no ?_
   cases b && i == 0 with
   | true=>exact oneLt_int q
   | false=>exact PySem.W.kat_one _ _ (PySem.P.lt_int q)
def TupI (h:Heap) (ks:Addr->List Int) (v:Value):Prop:=∃ a o its n,v=.ref a/\h.get? a=some o/\o.cls=.type "tuple"/\o.data=.seq its n/\IntsAre its.toList (ks a)/\ks a≠[]
theorem Zd4 {h:Heap}{ks:Addr->List Int}:∀ {vs:List Value},(∀ v∈vs,TupI h ks v)->∃ fs:List Value,fs.length=vs.length/\PySem.W.KatTups h vs fs/\∀ f∈fs,∃ n t,f=.int n t
 | [],_=>⟨[],rfl,PySem.W.KatTups.nil,fun f hf=>nomatch hf⟩
 | v::vs,hv=>by
  obtain⟨fs,e,k,q⟩:=Zd4 (vs:=vs) fun u hu=>hv u (YaC _ hu);obtain⟨a,o,its,n,rfl,ho,hc,hd,hI,hne⟩:=hv v (YaD ..);obtain⟨l⟩:=its;have hI:IntsAre l (ks a):=hI
  revert hI hd
  generalize ks a=z at hne ⊢;intro hd hI
  cases hI with
  | nil=>exact absurd rfl hne
  | cons m t hI=>exact⟨.int m t::fs,by simp[e],PySem.W.KatTups.cons ho hc hd rfl k,fun f hf=>by
    rcases Yay.mp hf with z | z
    ·exact⟨m,t,z⟩
    ·exact q f z⟩
theorem Zeq {vs:List Value}{ks:Addr->List Int} (hT:∀ v∈vs,TupI s.heap ks v):Sortable prog w s (KOt ks) vs:=by
 refine⟨tuples' (YcZ "int" != YcZ "tuple"),(fun p=>TupI s.heap ks p.1),hT,fun A h' kp x y hx hy E Q q=>?_,fun A E h' kp h2 Q q=>?_⟩
 ·obtain⟨a,o,its,n,e1,ho,hc,hd,hI,hne⟩:=hx;obtain⟨b,o',its',n',e2,ho',hc',hd',hI',hne'⟩:=hy;have q:Q (lxB ((KOt ks).ky x) ((KOt ks).ky y)) { s with heap:=h' }:=q;have k1:(KOt ks).ky x=ks a:=by show (match x.1 with | .ref a=>ks a | _=>[])=_;rw[e1]
  have k2:(KOt ks).ky y=ks b:=by show (match y.1 with | .ref a=>ks a | _=>[])=_;rw[e2]
  rw[k1,k2] at q;rw[e1,e2];refine PySem.W.kat_lt (kp _ _ ho) hd (kp _ _ ho') hd' (ZiD hI hI' q ?_);rw[<- hI.nums,<- hI'.nums,Yaa,Yaa,YaZ,YaZ]
 ·obtain⟨fs,e,k,hi⟩:=Zd4 (h:=h') (ks:=ks) (vs:=vs) fun v hv=>by
   obtain⟨a,o,its,n,e1,ho,r⟩:=hT v hv;exact⟨a,o,its,n,e1,kp _ _ ho,r⟩
  refine PySem.W.kat_kind (T:=YcZ "int") k (by omega) (fun v hv=>?_) rfl q;obtain⟨n,t,rfl⟩:=hi v hv;exact PySem.W.Looks.now
end
end L2
namespace L2
open PySem PySem.Spec PyProof.Rows PySem.SeqAt
section
variable {X:Cx}
theorem Zbv:ZbD X (.builtin "sorted") (fun xs H Q=>∃ (a:Addr) (ns:List Int),xs=[.ref a]/\SqL X.K H a (ns.map V.int)/\∀ (l:Addr) (ms:List Int),H l=none->ms.Perm ns->ms.Pairwise (·<=·)->Q (.ref l) (upd H l (.lst (ms.map V.int)))):=by
 intro pins s σ H xs us Q I r h;obtain⟨a,ns,rfl,hq,q⟩:=h;obtain⟨u,rfl,r1⟩:=Zc3 r;cases r1;obtain⟨its,rv,p,hz⟩:=I.list hq;have hl:its.length=ns.length:=by rw[<- rv.length,Yaa]
 rw[Yaa] at hz;refine ZfS p.isList (by rw[hl];exact hz) (Zci (ZbW rv)) fun us p1 p2=>?_;obtain⟨ms,hI,pm⟩:=Zfl (ZbW rv) p1;obtain⟨e,he⟩:=sortedAll_at s.heap its us.toArray;have hle:s.heap.objs.size<=s.heap.objs.size+1:=YcF _;refine⟨.ref (s.heap.objs.size+1),_,I.laid (a:=s.heap.objs.size+1) (o:=.lst (ms.map V.int)) (t':=s.toks) (fun b o q=>sortedAll_old q) hle ⟨?_,us,e,ZcJ hI,he⟩,rfl,q _ ms (I.hok.fresh hle) pm (ZgI hI p2)⟩;rw[Yaa,pm.length_eq];exact hz
theorem Zgi:ZbD X (.builtin "sorted") (fun xs H Q=>∃ (a:Addr) (ns:List Int),xs=[.ref a]/\SqT X.K H a (ns.map V.int)/\∀ (l:Addr) (ms:List Int),H l=none->ms.Perm ns->ms.Pairwise (·<=·)->Q (.ref l) (upd H l (.lst (ms.map V.int)))):=by
 intro pins s σ H xs us Q I r h;obtain⟨a,ns,rfl,hq,q⟩:=h;obtain⟨u,rfl,r1⟩:=Zc3 r;cases r1;obtain⟨its,rv,p,hz⟩:=I.tuple hq;have hl:its.length=ns.length:=by rw[<- rv.length,Yaa]
 rw[Yaa] at hz;refine ZfR (show s.heap.IsTuple a its.toArray from p) (by rw[hl];exact hz) (Zci (ZbW rv)) fun us p1 p2=>?_;obtain⟨ms,hI,pm⟩:=Zfl (ZbW rv) p1;obtain⟨e,he⟩:=sortedAll_at s.heap its us.toArray;have hle:s.heap.objs.size<=s.heap.objs.size+1:=YcF _;refine⟨.ref (s.heap.objs.size+1),_,I.laid (a:=s.heap.objs.size+1) (o:=.lst (ms.map V.int)) (t':=s.toks) (fun b o q=>sortedAll_old q) hle ⟨?_,us,e,ZcJ hI,he⟩,rfl,q _ ms (I.hok.fresh hle) pm (ZgI hI p2)⟩;rw[Yaa,pm.length_eq];exact hz
theorem Ze4:∀ (ps:List Addr),Vals (ps.map V.ref) (ps.map Ybd)
 | []=>.nil
 | p::ps=>.cons rfl (Ze4 ps)
def adr:Value->Addr
 | .ref a=>a
 | _=>0
theorem Zh1 {ps:List Addr}{us:List Value} (h:us.Perm (ps.map Ybd)):∃ qs:List Addr,us=qs.map Ybd/\qs.Perm ps:=by
 refine⟨us.map adr,?_,?_⟩
 ·rw[Ybc];refine (Ydg us).symm.trans (Ybv fun v hv=>?_);obtain⟨p,_,e⟩:=YaU.mp (h.mem_iff.mp hv);rw[<- e];rfl
 ·have:=h.map adr
  rwa [Ybc,show (adr ∘ Ybd)=id from rfl,Ydg] at this
end
end L2
namespace Lv
open PySem L2
def prs:Nat->List (List Int)->List Nat->List (Int × Nat)
 | k,x::N,m::ms=>(x.drop m).map (fun z=>(z,k))++prs (k+1) N ms
 | _,_,_=>[]
def Zng (p q:Int × Nat):Prop:=p.1<q.1∨(p.1=q.1/\p.2<=q.2)
structure MgS (N:List (List Int)) (m:List Nat) (tk:List (Int × Nat)):Prop where
 inm:InM N m
 perm:(tk++prs 0 N m).Perm (prs 0 N (N.map fun _=>0))
 srt:tk.Pairwise Zng
 le:∀ p∈tk,∀ q∈prs 0 N m,Zng p q
 sm:m.sum=tk.length
theorem ZmP {a b:List Int} (h:a.Perm b) (h1:a.Pairwise (·<=·)) (h2:b.Pairwise (·<=·)):a=b :=
 List.Perm.eq_of_pairwise (fun a b _ _ h1 h2=>Int.le_antisymm h1 h2) h1 h2 h
def SeqI (H:Hp) (r:Addr) (xs:List V):Prop:=H r=some (.lst xs)∨H r=some (.tup xs)
theorem SeqI.both {H:Hp}{r:Addr}{xs:List V} (h:SeqI H r xs):∃ b,∀ (K:Yae) (H':Hp),Same H H'->SqB b K H' r xs:=by
 rcases h with h | h
 ·exact⟨true,fun K H' s=>SqL.of (s _ _ h)⟩
 ·exact⟨false,fun K H' s=>SqT.of (s _ _ h)⟩
structure RwS (H:Hp) (a:Addr) (rs:List Addr) (N:List (List Int)):Prop where
 top:SeqI H a (rs.map V.ref)
 len:rs.length=N.length
 row:∀ (j:Nat) r xs,rs[j]?=some r->N[j]?=some xs->SeqI H r (xs.map V.int)
theorem RwS.of {H:Hp}{a:Addr}{rs:List Addr}{N:List (List Int)} (h1:H a=some (.lst (rs.map V.ref))) (h2:LLs H rs N):RwS H a rs N:=⟨.inl h1,h2.1,fun j r xs e1 e2=>.inl (h2.2 j r xs e1 e2)⟩
theorem RwS.get {H:Hp}{a:Addr}{rs:List Addr}{N:List (List Int)} (h:RwS H a rs N) {i:Nat}{x:V} (hx:(rs.map V.ref)[i]?=some x):∃ r xs,x=.ref r/\rs[i]?=some r/\N[i]?=some xs/\SeqI H r (xs.map V.int):=by
 have hi:=(Yab.mp hx).1
 rw[Yaa] at hi;have e:rs[i]?=some rs[i]:=Yac hi;have hN:i<N.length:=by rw[<- h.len];exact hi
 have e2:N[i]?=some N[i]:=Yac hN;refine⟨rs[i],N[i],?_,e,e2,h.row i _ _ e e2⟩;rw[Yag,e] at hx;exact (Yax hx).symm
theorem Zfo {N:List (List Int)}{i:Nat}{xs:List Int} (h:N[i]?=some xs):(N.take (i+1)).flatten=(N.take i).flatten++xs:=by
 rw[YaI,h,Ybz,Ybo];simp
theorem Zmi {N:List (List Int)} (i:Nat):(N.take i).flatten.length<=(lenN N).sum:=by
 have:(lenN N).sum=N.flatten.length:=by unfold lenN;rw[Ydh]
 rw[this]
 conv=>rhs;rw[<- YaO i N,Ybo,Yan]
 (clear this;omega)
theorem Zkz {N:List (List Int)}{i j:Nat}{xs:List Int} (h:N[i]?=some xs) (hj:j<=xs.length):(N.take i).flatten.length+j<=(lenN N).sum:=by
 have:=Zmi (N:=N) (i+1);rw[Zfo h,Yan] at this;omega
structure GoodT (N:List (List Int)):Prop where
 many:N.length<=12
 tot:(lenN N).sum<=400
 bnd:∀ xs∈N,∀ z∈xs,-ZdD<z/\z<ZdD
 srt:∀ xs∈N,xs.Pairwise (·<=·)
structure GoodB (b:Nat) (N:List (List Int)):Prop where
 len:∀ xs∈N,xs.length<=b
 bnd:∀ xs∈N,∀ z∈xs,-ZdD<z/\z<ZdD
 srt:∀ xs∈N,xs.Pairwise (·<=·)
end Lv
namespace L2
open PySem PySem.Spec PyProof.Rows PySem.SeqAt
section
variable {P:Program}{w:World}{H:Hp}{s:Shared}
end
section
variable {X:Cx}
end
end L2
namespace L2
open PySem PySem.Spec PyProof.Rows PySem.SeqAt
def LBs (H:Hp) (rs:List Addr) (N:List (List Bool)):Prop:=rs.length=N.length/\∀ (j:Nat) r xs,rs[j]?=some r->N[j]?=some xs->H r=some (.lst (xs.map V.bl))
theorem LBs.same {H H':Hp}{rs:List Addr}{N:List (List Bool)} (h:LBs H rs N) (s:Same H H'):LBs H' rs N:=⟨h.1,fun j r xs a b=>s _ _ (h.2 j r xs a b)⟩
theorem LBs.lst {H:Hp}{rs:List Addr}{N:List (List Bool)}{acc:Addr}{ys:List V} (h:LBs H rs N) (e:acc ∉ rs):LBs (upd H acc (.lst ys)) rs N:=⟨h.1,fun j r xs a b=>by
 rw[upd_ne (by intro z;subst z;exact e (Yah a))];exact h.2 j r xs a b⟩
theorem LBs.snoc {H:Hp}{rs:List Addr}{N:List (List Bool)}{r:Addr}{x:List Bool} (h:LBs H rs N) (e:H r=some (.lst (x.map V.bl))):LBs H (rs++[r]) (N++[x]):=⟨by simp[h.1],fun j r' xs a b=>by
 rcases Zbd a with a | ⟨a,rfl⟩
 ·rcases Zbd b with b | ⟨b,_⟩
  ·exact h.2 j r' xs a b
  ·have:=(Yab.mp a).1;have:=h.1;omega
 ·rcases Zbd b with b | ⟨_,rfl⟩
  ·have:=(Yab.mp b).1;have:=h.1;omega
  ·exact e⟩
section
variable {X:Cx}
end
end L2
namespace Lv
open PySem L2
def Fr (S:List Addr) (H H':Hp):Prop:=∀ b o,H b=some o->b ∉ S->H' b=some o
abbrev Rows:=List (Option (List Int))
def datO:Option (List Int)->PyData
 | none=>.none
 | some xs=>.list (xs.map YcB)
def ZnU (ds:Rows):PyData:=.list (ds.map datO)
def shp (D:List Rows):List (List Bool):=D.map fun ds=>ds.map Option.isSome
abbrev Cell:=Option (Addr × List Int)
abbrev Reel:=Addr × List Cell
def cA:Cell->List Addr
 | none=>[]
 | some (r,_)=>[r]
def tA (t:Reel):List Addr:=t.1::t.2.flatMap cA
def adr (T:List Reel):List Addr:=T.flatMap tA
def TB (H:Hp) (tr:List Addr) (B:List (List Bool)):Prop:=tr.length=B.length/\∀ (j:Nat) r bs,tr[j]?=some r->B[j]?=some bs->H r=some (.tup (bs.map V.bl))
end Lv
namespace Lv
open PySem L2
def St (S:List Addr) (H:Hp) (Φ:Hp->Prop):Prop:=∀ H',Fr S H H'->Φ H'
structure Bld (S:List Addr) (H:Hp) (us:List V) (rs tr:List Addr) (D:List Rows) (R:List (List Int)):Prop where
 due:St S H fun H'=>RdL H' us (D.map ZnU)
 rows:St S H fun H'=>LLs H' rs R
 lay:St S H fun H'=>TB H' tr (shp D)
end Lv
namespace Lv
open PySem L2
end Lv
namespace Lv
open PySem L2
def les (m x:Int):Int:=if x - m > 0 then x - m else 0
def Zmp (c:List Int) (out:Nat) (m:Int):List Int:=(c.map (les m)).set out m
def Zog (a b:List Int):Prop:=a.length=b.length/\∀ j:Nat,a.getD j 0<=b.getD j 0
def Cov (c L:List Int):Prop:=∃ l:List Int,l.Perm (c)/\Zog l (L++[0])
end Lv
namespace L2
open PySem PySem.Spec PyProof.Rows PySem.SeqAt
section
variable {X:Cx}
end
end L2
namespace L2
open PySem PySem.Spec PyProof.Rows PySem.SeqAt
section
variable {X:Cx}
end
end L2
namespace L2
open PySem PySem.Spec PyProof.Rows PySem.SeqAt
section
variable {X:Cx}
end
end L2
namespace Lv
open PySem L2
def rk (st:List Int):List Int:=st.mergeSort fun a b=>decide (a ≥ b)
def CovL (L r:List Int):Prop:=∀ j,j<L.length->r.getD j 0<=L.getD j 0
instance (L r:List Int):Decidable (CovL L r):=inferInstanceAs (Decidable (∀ j,j<L.length->r.getD j 0<=L.getD j 0))
def big:Int:=1000000000000000000000000000000000000000000000000000000000000
structure Stand (p:Nat) (st:List Int):Prop where
 p2:2<=p
 p7:p<=7
 len:st.length=p+1
 nn:∀ x∈st,0<=x
 le:∀ x∈st,x<=big
 zero:(0:Int)∈st
 pos:∃ x∈st,1<=x
def mxl:List Int->Int
 | []=>0
 | x::r=>if mxl r > x then mxl r else x
def mn (a b:Int):Int:=if b<a then b else a
def ph (p:Nat) (c:List Int) (n:Nat):Int:=mn (hd p n) (mxl c)
structure On (p:Nat) (c:List Int) (n:Nat):Prop where
 len:c.length=p+1
 cov:Cov c (cnt p n)
 nn:∀ x∈c,0<=x
 pos:∃ x∈c,1<=x
def fb (L r:List Int):Nat:=((YaH L.length).filter fun j=>decide (r.getD j 0 > L.getD j 0)).headD 0
end Lv
namespace Lv
open PySem L2
end Lv
namespace Lv
open PySem L2
theorem Zll {p:Nat} (hp:2<=p) {m n:Nat} (h:m<n):tot p m+1<=tot p n:=by
 have h1:=ZkP hp m;have h2:=ZbT hp (show m+1<=n from h)
 (clear h hp;omega)
end Lv
namespace L2
open PySem PySem.Spec PyProof.Rows
section
variable {X:Cx}
end
end L2
namespace Lv
open PySem L2
end Lv
namespace L2
open PySem PySem.Spec PyProof.Rows
end L2
namespace L2
open PySem PySem.Spec PyProof.Rows
def Fly (H:Hp) (h0 h:Heap) (ea:Addr) (cls:Value) (od:Option Addr) (fl:Value):Prop :=
 ∃ (a0:Value) (T:Addr) (oe oT:Obj) (vs ts:Array Value),(H ea=none/\H T=none/\h0.get? ea=none/\h0.get? T=none) /\
  h.get? ea=some oe/\((oe.cls=cls/\vs[0]?=some a0)/\oe.dict=od)/\oe.data=.fields vs/\vs[1]?=some (.ref T)/\T≠ea/\h.get? T=some oT/\oT.data=.fields ts/\ts[3]?=some fl
def CX1 (P:Program) (w:World):CXT:=fun outer H s E e s'=>∃ (ea:Addr) (cls:Value) (od:Option Addr) (H':Hp),e=.ref ea/\s'.os=s.os/\AllBare s'.gens/\Un (frs outer) [] H H' s.heap s'.heap/\HOk P w H' s'.heap/\Fly H' s.heap s'.heap ea cls od .none/\E cls od H'
section
variable {P:Program}{w:World}{K:Yae}{mg:Str->Option Value}{base:Heap}{N:List Str}{qual:Str}{scope:Scope}{f:Addr}{cd:Value}{A:Around}{outer:List Env}{s:Shared}{H:Hp}{E:XK}
end
end L2
namespace L2
open PySem PySem.Spec PyProof.Rows PySem.W
section
variable {prog:Program}{w:World}{A:Around}{E:Value->Shared->Prop}{s:Shared}{K:Frag}{x C D:Addr}{ox:Obj}
def Zi2 (K:Frag) (C:Addr):Bool:=findIn K (.ref C) "__getattribute__" == some (some (.builtin "BaseException.__getattribute__")) && (findIn K (.ref C) "__getattr__" == some none &&
 (findIn K (.ref C) "__class__" == some (some (.builtin "object.__class__")) && (mroIn K C (.type "object") == some true && (mroIn K C (.type "BaseException") == some true && ((clsIn K C).isSome &&
 (specialIn K (.builtin "object.__class__") "__get__" == some (some (.builtin "getset_descriptor.__get__")) && takesIn K (.builtin "object.__class__") == some true))))))
def Znz (K:Frag) (C:Addr):Bool:=excIn K C [.type "ValueError",.type "Exception",.type "BaseException",.type "object"] "ValueError.__new__" && Zi2 K C
end
section
variable {X:Cx}
end
end L2
namespace L2
open PySem PySem.Spec PyProof.Rows PySem.W
section
variable {P:Program}{w:World}{K:Yae}{mg:Str->Option Value}{base:Heap}
end
structure CalE (P:Program) (w:World) (K:Yae) (mg:Str->Option Value) (base:Heap) (k:Nat) (x:Str) (ps:List Str) (dvs:List V) (sp:Sp) (f:Addr) (fd:FuncData):Prop where
 ok:FnOk P w K mg base (CX1 P w) k f fd ps sp
 mg:mg x=some (.ref f)
 kp:Yaq K (.ref f)=true
 bd:∃ ds,Binds K fd ps ds/\Vals dvs ds
section
variable {X:Cx}
inductive FParts (X:Cx):List Expr->List TE->Prop
 | nil:FParts X [] []
 | con {x:Str}{j pos}{es:List Expr}{ts:List TE} (h:x.length<=1000) (r:FParts X es ts):FParts X (.Constant (.str x) j pos::es) ts
 | val {v:Expr}{t:TE}{pos:Pos}{es:List Expr}{ts:List TE} (h:PE X v t) (r:FParts X es ts):FParts X (.FormattedValue v (-1) none pos::es) (t::ts)
end
section
variable {X:Cx}{pins:List (Addr × Obj)}{σ:St}{H:Hp}{s:Shared}
end
def Ends.without (D:Ends) (i:Nat):Ends:={ nx:=fun σ H=>D.nx (σ.set i none) H,rt:=D.rt,bk:=fun σ H=>D.bk (σ.set i none) H,ct:=fun σ H=>D.ct (σ.set i none) H }
section
variable {X:Cx}
end
end L2
namespace Lv
open PySem L2 PySem.W
structure ExcTab (K:Frag) (reel C:Addr) (all:List Addr):Prop where
 ok:Znz K C=true
 exm:exmOne K (.ref C) (.ref reel)=some true
 isR:kitOne K (.ref C) (.ref reel)=some true
 isV:kitOne K (.ref C) (.type "ValueError")=some true
 one:∀ D∈all,kitOne K (.ref C) (.ref D)=some (D == C)
structure Excs (K:Frag) (mg:Str->Option Value) where
 reel:Addr
 nWays:Addr
 nRoom:Addr
 nLevel:Addr
 nStand:Addr
 tMany:Addr
 tFew:Addr
 nPlace:Addr
 nText:Addr
 nLine:Addr
 nBack:Addr
 nPhase:Addr
 clash:Addr
 mReel:mg "ReelError"=some (.ref reel)
 mWays:mg "NoWays"=some (.ref nWays)
 mRoom:mg "NoRoom"=some (.ref nRoom)
 mLevel:mg "NoLevel"=some (.ref nLevel)
 mStand:mg "NoStanding"=some (.ref nStand)
 mMany:mg "TooMany"=some (.ref tMany)
 mFew:mg "TooFew"=some (.ref tFew)
 mPlace:mg "NoPlace"=some (.ref nPlace)
 mText:mg "NoText"=some (.ref nText)
 mLine:mg "NoLine"=some (.ref nLine)
 mBack:mg "NoBack"=some (.ref nBack)
 mPhase:mg "NoPhase"=some (.ref nPhase)
 mClash:mg "Clash"=some (.ref clash)
 nd:([nWays,nRoom,nLevel,nStand,tMany,tFew,nPlace,nText,nLine,nBack,nPhase,clash]:List Addr).Nodup
def Excs.all {K:Frag}{mg:Str->Option Value} (X:Excs K mg):List Addr:=[X.nWays,X.nRoom,X.nLevel,X.nStand,X.tMany,X.tFew,X.nPlace,X.nText,X.nLine,X.nBack,X.nPhase,X.clash]
def anT:List String:=["NoneType","bool","int","str","list","tuple","dict"]
structure Thing (K:Frag) (H:Hp) (v:V) (T:String):Prop where
 ty:TyOf K H v (.type T)
 mem:T∈anT
def NotIn (lo hi:Int) (v:V) (T:String):Prop:=T≠"int"∨∃ i,v=.int i/\¬ (lo<=i/\i<=hi)
end Lv
namespace Lv
open PySem L2 PySem.W
end Lv
namespace Lv
open PySem L2 PySem.W
end Lv
namespace Lv
open PySem L2 PySem.W
end Lv
namespace L2
open PySem PySem.Spec PyProof.Rows PySem.W
end L2
namespace Lv
open PySem L2 PySem.W
end Lv
namespace L2
open PySem PySem.Spec PyProof.Rows PySem.W
abbrev VB:List Value:=[.type "ValueError",.type "Exception",.type "BaseException",.type "object"]
def Zny (K:Frag) (C:Addr):Bool:=match K.lookup C with
 | some ⟨.type "type",_,.cls cd,sl⟩=>(match cd.mro,sl.toList with
  | .ref D::bm,[_,_,_,_,some (.builtin n),_]=>D == C && (n == "ValueError.__new__" && (!cd.hasDel && (tailIn K VB bm && (nsOkIn K cd.ns && cd.hasDict))))
  | _,_=>false)
 | _=>false
def Zmj (K:Frag) (C fI:Addr):Bool:=Zny K C && (Zi2 K C && (findIn K (.ref C) "__setattr__" == some (some (.builtin "object.__setattr__")) && (findIn K (.ref C) "at" == some none && (isFn K (.ref fI) && (keepIn K (.ref C) && findIn K (.ref C) "__init__" == some (some (.ref fI)))))))
section
variable {prog:Program}{w:World}{A:Around}{E:Value->Shared->Prop}{s:Shared}{K:Frag}{x C fI:Addr}{v:Value}
abbrev newExc (C t:Addr):Obj:={ cls:=.ref C,data:=.fields #[.ref t,.none,.none,.none,.bool false,.none] }
end
end L2
namespace L2
open PySem PySem.Spec PyProof.Rows PySem.W
section
variable {X:Cx}{o value:Expr}{pos pos':Pos}{ta tv:TE}{C fI:Addr}
end
end L2
namespace Lv
open PySem L2 PySem.W
structure ExcTabI (K:Frag) (reel C fI:Addr) (all:List Addr):Prop where
 ok:Zmj K C fI=true
 exm:exmOne K (.ref C) (.ref reel)=some true
 exmS:exmOne K (.ref C) (.ref C)=some true
 isR:kitOne K (.ref C) (.ref reel)=some true
 isV:kitOne K (.ref C) (.type "ValueError")=some true
 one:∀ D∈all,kitOne K (.ref C) (.ref D)=some (D == C)
end Lv
namespace Lv
open PySem L2
def PhOk (c:List Int) (out m:Int):Prop:=(0<=out/\out<(c.length:Int))/\(c.getD out.toNat 0<=0/\(1<=m/\m<=mxl c))
instance (c:List Int) (out m:Int):Decidable (PhOk c out m):=by unfold PhOk;infer_instance
end Lv
namespace Lv
open PySem L2
def prT (p:Int × Int):List Int:=[p.1,p.2]
def wk:List Int->List (Int × Int)->Nat->Except Nat (List Int)
 | c,[],_=>.ok c
 | c,(o,m)::r,i=>if PhOk c o m then wk (Zmp c o.toNat m) r (i+1) else .error i
def fin (c:List Int) (ps:List (Int × Int)):Except Nat (List Int):=match wk c ps 0 with
 | .ok d=>if 1<d.sum then .error ps.length else .ok d
 | .error i=>.error i
structure Way (c0:List Int) (ps:List (Int × Int)) (i:Nat) (c:List Int):Prop where
 wk:wk c0 ps 0=wk c (ps.drop i) i
 len:c.length=c0.length
 nn:∀ x∈c,0<=x
structure Cts (p:Nat) (c:List Int):Prop where
 len:c.length=p+1
 nn:∀ x∈c,0<=x
 le:∀ x∈c,x<=big
 pos:∃ x∈c,1<=x
end Lv
namespace Lv
open PySem L2
end Lv
namespace Lv
open PySem L2
def srt (xs:List Int):List Int:=xs.mergeSort fun a b=>decide (a<=b)
theorem ZaH (xs:List Int):(srt xs).Perm xs:=List.mergeSort_perm _ _
theorem ZdJ (xs:List Int):(srt xs).Pairwise (·<=·):=by
 have h:=List.pairwise_mergeSort (le:=fun a b:Int=>decide (a<=b)) (fun a b c h1 h2=>by simp at *;omega) (fun a b=>by simp;omega) xs;exact h.imp fun h=>by simpa using h
theorem ZbE {ms xs:List Int} (h:ms.Perm xs) (hs:ms.Pairwise (·<=·)):ms=srt xs:=ZmP (h.trans (ZaH xs).symm) hs (ZdJ xs)
theorem Zcv {n:Nat} (h:n<=15001):n<sizeLine:=by rw[sizeLine_eq];omega
def Zek:Sp:=fun vs H Q _=>∃ (a:Addr) (rs:List Addr) (N:List (List Int)),vs=[.ref a]/\RwS H a rs N/\(lenN N).sum<=15000/\∀ l (ms:List Int) H',H l=none->H' l=some (.lst (ms.map V.int))->ms.Perm N.flatten->ms.Pairwise (·<=·)->Same H H'->Q (.ref l) H'
end Lv
namespace Lv
open PySem L2
def fstN (N:List (List Int)):List Int:=(N.headD []).map (·+1)
def ZdC (N:List (List Int)):List (List Int):=(N.tail.map (fstN N++·))++[fstN N]
def num0 (p:Nat):List (List Int):=[0]::Yaf (p - 1) []
def num (p:Nat):Nat->List (List Int)
 | 0=>num0 p
 | n+1=>ZdC (num p n)
def lens (N:List (List Int)):List Int:=N.map fun l=>(l.length:Int)
theorem ZiE (N:List (List Int)):lens (ZdC N)=Zbn (lens N):=by
 cases N with
 | nil=>simp[lens,ZdC,Zbn,fstN]
 | cons a r=>
  simp[lens,ZdC,Zbn,fstN,Function.comp_def]
theorem ZcZ (p:Nat):∀ n,lens (num p n)=cnt p n
 | 0=>by simp[lens,num,num0,cnt,Zco]
 | n+1=>by
  show lens (ZdC (num p n))=Zbn (cnt p n);rw[ZiE,ZcZ p n]
theorem Zdh {p:Nat} (hp:1<=p) (n:Nat):(num p n).length=p:=by
 have:=congrArg Ycs (ZcZ p n);rw[Zbs hp] at this;simpa[lens] using this
theorem Zk8 {c:List Int} (h:∀ x∈c,0<=x) {x:Int} (hx:x∈c):x<=c.sum:=by
 induction c with
 | nil=>cases hx
 | cons a r ih=>
  have nn:∀ l:List Int,(∀ x∈l,0<=x)->0<=l.sum:=by
   intro l
   induction l with
   | nil=>intro _;simp
   | cons x y ih=>
    intro h;rw[YaF];have:=h x (by simp);have:=ih fun z hz=>h z (by simp[hz])
    (clear ih;omega)
  rw[YaF];have ha:=h a (by simp);have hr:∀ x∈r,0<=x:=fun x hx=>h x (by simp[hx]);rcases Yay.mp hx with rfl | hx
  ·have:=nn r hr
   (clear ha ih;omega)
  ·have:=ih hr hx
   (clear ih;omega)
theorem Znd {p n:Nat}{xs:List Int} (h:xs∈num p n):(xs.length:Int)<=tot p n:=by
 refine Zk8 (ZbC p n).2 ?_;rw[<- ZcZ p n];exact YaU.mpr ⟨xs,h,rfl⟩
theorem Zkr {p:Nat} (hp:2<=p) (n:Nat):∃ a r,num p n=a::r/\a≠[]/\r.length=p - 1:=by
 have h:=Zdh (p:=p) (by omega) n
 cases e:num p n with
 | nil=>rw[e] at h;simp at h;omega
 | cons a r=>
  rw[e] at h;refine⟨a,r,rfl,?_,by simp at h;(clear hp;omega)⟩;rintro rfl;have h1:=Zfm hp n;unfold hd at h1;rw[<- ZcZ p n,e] at h1;simp[lens] at h1
theorem ZaS {n:Nat} (h:n<=8000):n<sizeLine:=Ydq h (by decide)
def ZcV:Sp:=fun vs H Q _=>∃ p n:Nat,vs=[.int p,.int n]/\2<=p/\p<=7/\n<=300/\tot p n<=4000/\∀ H',Same H H'->Q .non H'
def Zej:Sp:=fun vs H Q _=>∃ (a:Addr) (rs:List Addr) (N:List (List Int)),vs=[.ref a]/\H a=some (.tup (rs.map V.ref))/\TTs H rs N/\2<=N.length/\N.length<=7/\N.headD []≠[]/\(∀ xs∈N,xs.length<=4000) /\
 ∀ l qs H',H l=none->H' l=some (.tup (qs.map V.ref))->TTs H' qs (ZdC N)->Same H H'->Q (.ref l) H'
def Zg5:Sp:=fun vs H Q _=>∃ p n:Nat,vs=[.int p,.int n]/\2<=p/\p<=7/\n<=300/\tot p n<=4000/\∀ l qs H',H l=none->H' l=some (.tup (qs.map V.ref))->TTs H' qs (num p n)->Same H H'->Q (.ref l) H'
theorem Zh0 {α:Type}{n j:Nat}{x y:α} (h:(Yaf n x)[j]?=some y):y=x:=by
 rw[Yc3] at h;split at h
 ·exact (Yax h).symm
 ·cases h
theorem Zam {rs:List Addr}{i:Nat}{x:V} (h:(rs.map V.ref)[i]?=some x):∃ r,rs[i]?=some r/\x=.ref r:=by
 rw[Yag] at h
 cases e:rs[i]? with
 | none=>rw[e] at h;cases h
 | some p=>rw[e] at h;exact⟨p,rfl,(Yax h).symm⟩
def Zlq:Sp:=fun vs H Q _=>∃ i,vs=[.int i]/\i<=4000/\Q .non H
def Zem:Sp:=fun vs H Q _=>∃ p:Nat,vs=[.int p]/\2<=p/\p<=7/\∀ l qs H',H l=none->H' l=some (.tup (qs.map V.ref))->TTs H' qs (num0 p)->Same H H'->Q (.ref l) H'
def ZfQ (fn:Addr):Sp:=fun vs H Q _=>∃ p n:Nat,vs=[.int p,.int n,.ref fn]/\2<=p/\p<=7/\n<=300/\tot p n<=4000/\∀ l qs H',H l=none->H' l=some (.tup (qs.map V.ref))->TTs H' qs (num p n)->Same H H'->Q (.ref l) H'
end Lv
namespace L2
open PySem PySem.Spec PyProof.Rows
def Zez:Expr->Bool
 | .Starred ..=>false
 | _=>true
theorem ZdI {e:Expr}{es:List Expr}{env:Env} (h:Zez e=true):starEach (e::es) env=(false,eval e env)::starEach es env:=by
 cases e <;> first | rfl | (cases h)
structure WA (X:Cx) (es:List Expr) (t:TA):Prop where
 out:PA X es t
structure WS (X:Cx) (st:Stmt) (t:TS):Prop where
 out:PS X st t
structure WSs (X:Cx) (sts:List Stmt) (t:TS):Prop where
 out:PSs X sts t
section
variable {X:Cx}{st:Stmt}{rest a b:List Stmt}{t u:TS}{c e:Expr}{tc:TT}{pos:Pos}{es:List Expr}{te:TE}{ta:TA}
theorem Zag (h1:WS X st t) (h2:WSs X rest u):WSs X (st::rest) (tSeq t u):=⟨Zal h1.out h2.out⟩
theorem Zax (h:WS X st t):WSs X [st] t:=⟨Zaq h.out⟩
theorem Zbi:WSs X [] ZmG:=⟨ZcD⟩
theorem wss {sts:List Stmt} (h:PSs X sts t):WSs X sts t:=⟨h⟩
theorem Zc1 (hc:PT X c tc) (ha:WSs X a t) (hb:WSs X b u):WS X (.If c a b pos) (tIfS tc t u):=⟨Zhd hc ha.out hb.out⟩
theorem ws (h:PS X st t):WS X st t:=⟨h⟩
theorem ZeU:WA X [] tNil:=⟨Zad⟩
theorem Zbw (hn:Zez e=true) (ha:PE X e te) (hr:WA X es ta):WA X (e::es) (Zlp te ta):=⟨Zab ha hr.out (ZdI hn)⟩
end
section
variable {P:Program}{w:World}{K:Yae}{mg:Str->Option Value}{base:Heap}
theorem okW {x qual:Str}{st:Stmt}{f:Addr}{fd:FuncData}{N ps:List Str}{k:Nat}{sp:Sp} (F:Fun K x qual st f fd) (S:FnScope N ps (Zac st)) (len:∀ vs H Q E,sp vs H Q E->vs.length=ps.length)
  (hbody:∀ (cdv:Value) (A:Around) (outer:List Env) (s:Shared) (H:Hp) (vs:List V) (Q:VK) (E:XK),Room k (A.deeper (envOfC qual (Zac st) s.heap.objs.size f cdv))->sp vs H Q E ->
   ∃ t,WSs (cxOf CX0 P w K mg base N qual (Zac st) f cdv A outer s H E).nox (Zai st) t/\t { nx:=fun _ H'=>Q .non H',rt:=Q } (ZdA N vs) H):FnOk P w K mg base CX0 (k+1) f fd ps sp :=
 F.ok S len fun cdv A outer s H vs Q E hr hsp=>by
  obtain⟨t,h,q⟩:=hbody cdv A outer s H vs Q E hr hsp;exact⟨t,h.out,q⟩
end
end L2
namespace L2
open PySem PySem.Spec PyProof.Rows PySem.SeqAt
theorem Znn {P:Program}{w:World}{k:Key}{u:Value} (h:(ZaB P w).is k u=true):RelV (kV k) u:=by
 rw[Zhg] at h;rcases ZaG h with ⟨i,t,rfl,rfl⟩ | ⟨x,t,rfl,rfl⟩
 ·exact⟨t,rfl⟩
 ·exact⟨t,rfl⟩
section
variable {X:Cx}{pins:List (Addr × Obj)}{σ:St}{H:Hp}{s:Shared}{a:Addr}{u v:HO}{kvs:List (Key × V)}
theorem Inv.refit (I:Inv X pins σ H s) (e:H a=some u) (h1:∀ xs,u≠.tup xs) (h2:∀ x,u≠.own x) (h3:∀ ps,u≠.tbl ps)
  (h4:∀ o u',X.H₀ a≠some (.frz o u')) (new:ObjOk X.prog X.w (upd H a v) s.heap a v):Inv X pins σ (upd H a v) s:=by
 have nn:∀ b,H b=none->b≠a:=fun b z q=>by rw[q,e] at z;cases z
 refine⟨I.ok,I.os,I.bare,⟨I.base.keep,I.base.slot,fun b o q n hx=>?_,I.base.there,fun b xs q=>?_,fun b o u' q=>?_,fun b ps q=>?_⟩,I.loc,I.cell,?_,fun x c q=>?_,fun p hp=>?_,fun b ob q=>?_,I.len⟩
 ·have:=I.base.free b o q n hx;rw[upd_ne (nn b this)];exact this
 ·have z:=I.base.tups b xs q;rw[upd_ne (by rintro rfl;rw[e] at z;exact h1 xs (Yax z))];exact z
 ·have z:=I.base.frzs b o u' q;rw[upd_ne (by rintro rfl;exact h4 o u' q)];exact z
 ·obtain⟨more,z⟩:=I.base.tbls b ps q;exact⟨more,by rw[upd_ne (by rintro rfl;rw[e] at z;exact h3 _ (Yax z))];exact z⟩
 ·rw[upd_ne (nn _ I.free)];exact I.free
 ·rw[upd_ne (nn _ (I.freeC x c q))];exact I.freeC x c q
 ·obtain⟨z1,z2,z3⟩:=I.pin p hp;exact⟨z1,by rw[upd_ne (nn _ z2)];exact z2,z3⟩
 ·by_cases hb:b=a
  ·subst hb;rw[Zaa] at q;cases q;exact new
  ·rw[upd_ne hb] at q;refine (I.hok b ob q).stay (fun _ _ _ z=>z) (fun c z=>?_) fun c xs z=>?_
   ·rw[upd_ne (by rintro rfl;rw[e] at z;exact h2 _ (Yax z))];exact z
   ·rw[upd_ne (by rintro rfl;rw[e] at z;exact h1 _ (Yax z))];exact z
theorem Inv.freeze (I:Inv X pins σ H s) (e:H a=some (.dK kvs)):∃ o,(∀ o u',X.H₀ a≠some (.frz o u'))/\Inv X pins σ (upd H a (.frz o (.dK kvs))) s:=by
 have q:ObjOk X.prog X.w H s.heap a (.dK kvs):=I.hok a _ e;obtain⟨z,hd,vs,r,o,es,ep,ho,rest⟩:=id q;have hn:∀ o u',X.H₀ a≠some (.frz o u'):=fun o u' q=>by
  have:=I.base.frzs a o u' q;rw[e] at this;cases this
 exact⟨o,hn,I.refit e (fun _ z=>nomatch z) (fun _ z=>nomatch z) (fun _ z=>nomatch z) hn ⟨ho,z,hd,vs,r,o,es,ep,ho,rest⟩⟩
theorem Inv.thaw {o:Obj} (I:Inv X pins σ H s) (e:H a=some (.frz o (.dK kvs))) (hn:∀ o u',X.H₀ a≠some (.frz o u')):Inv X pins σ (upd H a (.dK kvs)) s:=by
 obtain⟨_,z,hd,vs,r,q⟩:=(show ObjOk X.prog X.w H s.heap a (.frz o (.dK kvs)) from I.hok a _ e)
 exact I.refit e (fun _ z=>nomatch z) (fun _ z=>nomatch z) (fun _ z=>nomatch z) hn ⟨z,hd,vs,r,q⟩
end
def ZnJ (a:Addr) (o:Obj) (kvs:List (Key × V)) (D:Ends):Ends where
 nx:=fun σ H=>H a=some (.frz o (.dK kvs))/\D.nx σ (upd H a (.dK kvs))
 rt:=fun v H=>H a=some (.frz o (.dK kvs))/\D.rt v (upd H a (.dK kvs))
 bk:=fun σ H=>H a=some (.frz o (.dK kvs))/\D.bk σ (upd H a (.dK kvs))
 ct:=fun σ H=>H a=some (.frz o (.dK kvs))/\D.ct σ (upd H a (.dK kvs))
def sFrz (t:TS):TS:=fun D σ H=>(∃ a kvs,H a=some (.dK kvs)/\∀ o,t (ZnJ a o kvs D) σ (upd H a (.frz o (.dK kvs))))∨t D σ H
def tFrz (t:TE):TE:=fun σ H Q=>(∃ a kvs,H a=some (.dK kvs)/\∀ o,t σ (upd H a (.frz o (.dK kvs))) fun v H'=>H' a=some (.frz o (.dK kvs))/\Q v (upd H' a (.dK kvs)))∨t σ H Q
section
variable {X:Cx}
theorem ZmZ {st:Stmt}{t:TS} (h:PS X st t):PS X st (sFrz t):=by
 intro pins s σ H D I q;rcases q with ⟨a,kvs,e,q⟩ | q
 ·obtain⟨o,hn,I1⟩:=I.freeze e;refine wpAny_mono (h pins s σ _ _ I1 (q o)) (fun f s' z=>?_) fun _ _ z=>z
  cases f with
  | next=>obtain⟨σ',H',I',e',q'⟩:=z;exact⟨σ',_,I'.thaw e' hn,q'⟩
  | brk=>obtain⟨σ',H',I',e',q'⟩:=z;exact⟨σ',_,I'.thaw e' hn,q'⟩
  | cont=>obtain⟨σ',H',I',e',q'⟩:=z;exact⟨σ',_,I'.thaw e' hn,q'⟩
  | ret u=>obtain⟨v,σ',H',I',r,e',q'⟩:=z;exact⟨v,σ',_,I'.thaw e' hn,r,q'⟩
 ·exact h pins s σ H D I q
theorem Zm1 {x:Expr}{t:TE} (h:PE X x t):PE X x (tFrz t):=by
 intro pins s σ H Q I q;rcases q with ⟨a,kvs,e,q⟩ | q
 ·obtain⟨o,hn,I1⟩:=I.freeze e;refine wpAny_mono (h pins s σ _ _ I1 (q o)) (fun f s' z=>?_) fun _ _ z=>z;obtain⟨v,H',I',r,e',q'⟩:=z;exact⟨v,_,I'.thaw e' hn,r,q'⟩
 ·exact h pins s σ H Q I q
end
def VwI (v a:Addr):HO:=.ext fun h=>h.IsItemsView v a
theorem Zmy {P:Program}{w:World}{H:Hp}{h:Heap}{v a:Addr} (x:h.IsItemsView v a):ObjOk P w H h v (VwI v a) :=
 ⟨x,let ⟨o,e,_⟩:=x;⟨o,e⟩,fun _ _ ⟨o,e,r⟩ k=>⟨o,k o e,r⟩⟩
theorem ZkN {X:Cx}{pins:List (Addr × Obj)}{σ:St}{H:Hp}{s:Shared}{v a:Addr} (I:Inv X pins σ H s) (e:H v=some (VwI v a)):s.heap.IsItemsView v a :=
 (show ObjOk X.prog X.w H s.heap v (VwI v a) from I.hok v _ e).1
def ZmI (to:TE):TE:=fun σ H Q=>to σ H fun x H1=>∃ a kvs,x=.ref a/\Rd H1 a (.dK kvs)/\∀ v,H1 v=none->Q (.ref v) (upd H1 v (VwI v a))
theorem ZcY {X:Cx}{o:Expr}{to:TE}{apos cpos:Pos} (ho:PE X o to) (hbase:attributeBase o "items" X.env (eval o X.env)=eval o X.env:=by rfl) (hline:(apos.endLine == cpos.line)=true:=by rfl) :
  PE X (.Call (.Attribute o "items" apos) [] [] cpos) (ZmI to):=by
 intro pins s σ H Q I h;refine wpAny_Call_method0_late hbase hline (thn (ho pins s σ H _ I h) fun v s1 ⟨x,H1,I1,r1,a,kvs,ex,hd,q1⟩=>?_);subst ex;cases r1;obtain⟨t1,t2,t3⟩:=Zla I1 (.inl ⟨kvs,hd⟩);obtain⟨_,_,vs,rel,dd⟩:=Zhl I1.hok hd;refine⟨"dict","dict.items",Yd0,YdZ,PySem.F.type_dict_items,t1,t2,Yc6 rfl (PySem.evalArgs_none ?_)⟩;refine call_meetsIn YdZ dd.typeIs PySem.F.entry_dict_items (PySem.F.args_dict_items_1 _) (meets_dict_items (ZaB X.prog X.w) a t3) ⟨⟨vs,dd⟩,?_⟩;exact⟨.ref s1.heap.objs.size,_,I1.laid (o:=VwI s1.heap.objs.size a) (t':=s1.toks) (fun b o e=>Yad _ e) (Yak _) (Zmy ⟨_,Yav _ rfl,rfl,rfl⟩),rfl,q1 _ (I1.hok.fresh (Yak _))⟩
theorem ZiX {X:Cx}{pins:List (Addr × Obj)}{σ:St}{H:Hp}{s:Shared}{a:Addr}{o:Obj}{kvs:List (Key × V)} (I:Inv X pins σ H s) (e:H a=some (.frz o (.dK kvs))) :
  ∃ vs es ep,KV kvs vs/\kvs.length<=sizeLine/\(a == sysModules)=false/\o.data=.dict es ep/\es.size=kvs.length/\s.heap.DictAt (ZaB X.prog X.w) a vs ep:=by
 obtain⟨ho,z,hd,vs,r,o',es,ep,ho',ex,hdat,hk,hp,hn⟩:=(show ObjOk X.prog X.w H s.heap a (.frz o (.dK kvs)) from I.hok a _ e)
 rw[ho] at ho';cases ho';refine⟨vs,es,ep,r,z,hd,hdat,?_,o,es,ho,ex,hdat,hk,hp,hn⟩;rw[r.length,<- hp.length];simp
theorem KV.get {κ:Type}:∀ {kvs:List (κ × V)}{vs:List (κ × Value)}{i:Nat}{k:κ}{v:V},KV kvs vs->kvs[i]?=some (k,v)->∃ u,vs[i]?=some (k,u)/\RelV v u
 | _,_,_,_,_,.nil,e=>by simp at e
 | _,_,0,k,v,.cons (a:=p) (b:=q) r _,e=>by
  simp at e;subst e;obtain⟨e1,r⟩:=r;obtain⟨q1,q2⟩:=q;cases e1;exact⟨q2,rfl,r⟩
 | _,_,i+1,k,v,.cons _ t,e=>by
  obtain⟨u,h1,h2⟩:=KV.get (i:=i) (k:=k) (v:=v) t (by simpa using e);exact⟨u,by simpa using h1,h2⟩
def Itd (o:Obj) (a:Addr):It :=
 ⟨fun i H=>∃ kvs p,H a=some (.frz o (.dK kvs))/\kvs[i]?=some p,fun i H y H'=>∃ p k v,H p=none/\y=.ref p/\H'=upd H p (.tup [kV k,v])/\∀ kvs,H a=some (.frz o (.dK kvs))->kvs[i]?=some (k,v),
  fun i H=>∃ kvs,H a=some (.frz o (.dK kvs))/\kvs.length<=i⟩
theorem Zjf {o:Obj}{es es':Array DictEntry}{ep ep':Nat} (h:o.data=.dict es ep) (h':o.data=.dict es' ep'):es=es'/\ep=ep':=by
 rw[h] at h';cases h';exact⟨rfl,rfl⟩
theorem Zg2 {P:Program}{w:World}{K:Yae}{xs:List Expr}{x1}{pos:Pos} (a it:Addr) (o:Obj) (es:Array DictEntry) (ep:Nat) (hdat:o.data=.dict es ep) :
  Turn P w K (.Tuple xs x1 pos) (Itd o a) [it] it (fun i h=>∃ ok ov,IsItemIter h it a i es.size ep ok ov) where
 mem:=by simp
 obj:=fun i h st b hb=>by
  have e:b=it:=by simpa using hb
  subst e;obtain⟨ok,ov,st⟩:=st;exact⟨_,st,fun v z=>nomatch z⟩
 keep:=fun i h h' st k=>by
  obtain⟨ok,ov,st⟩:=st;exact⟨ok,ov,k it (by simp) _ st⟩
 item:=by
  intro X hP hw hK hc i pins s σ H E I hf st hg;subst hP hw hK;obtain⟨ok,ov,st⟩:=st;obtain⟨kvs,⟨k,v⟩,hq,hx⟩:=hg;obtain⟨vs,es',ep',r,_,_,hdat',hsz,da⟩:=ZiX I hq;obtain⟨rfl,rfl⟩:=Zjf hdat hdat';obtain⟨u,hu,ru⟩:=r.get hx;have st':IsItemIter s.heap it a i vs.length ep ok ov:=by rw[<- r.length,<- hsz];exact st
  refine wpAny_pyNext_items_item st' da hu fun key h' hkey ho ht hz hk=>?_;refine⟨_,rfl,wpAny_letOwnedTupleGo_items ho fun h'' he hs=>?_⟩;have lt:it<s.heap.objs.size:=Yai st;have live:∀ b∈[it],b<s.heap.objs.size:=fun b hb=>by
   have e:b=it:=by simpa using hb
   rw[e];exact lt
  have hsz':s.heap.objs.size≠it:=Ybx lt;have fresh:H s.heap.objs.size=none:=I.hok.fresh (Yak _);refine⟨.ref s.heap.objs.size,_,I.pairOut (fp:=[it]) (tk:=s.toks) hf (fun b o hb q=>?_) ((hs.2 _ hsz').trans ht) live (fun b hb=>?_) (Znn hkey) ru,rfl,⟨s.heap.objs.size,k,v,fresh,rfl,rfl,fun kvs' h'=>?_⟩,⟨key,u,?_⟩,fun b hb=>?_⟩
  ·have hb:b≠it:=by simpa using hb
   exact (hs.2 b hb).trans (hk b o hb q)
  ·have e:b=it:=by simpa using hb
   rw[e];exact⟨_,he⟩
  ·rw[hq] at h';cases h';exact hx
  ·rw[hsz,r.length];exact he
  ·rw[upd_ne (YaB (live b hb))];exact (hf b hb).1
 done:=by
  intro X hP hw hK hc i pins s σ H E I hf st hg;subst hP hw hK;obtain⟨ok,ov,st⟩:=st;obtain⟨kvs,hq,hx⟩:=hg;obtain⟨vs,es',ep',r,_,_,hdat',hsz,da⟩:=ZiX I hq;obtain⟨rfl,rfl⟩:=Zjf hdat hdat';have st':IsItemIter s.heap it a i vs.length ep ok ov:=by rw[<- r.length,<- hsz];exact st
  obtain⟨f0,f1,f2,f3,f4,f5⟩:=hf it (by simp);exact wpAny_pyNext_items_end (I.ok.hd hc) st' da (YbE (by rw[<- r.length];exact hx)) fun h' eb=>⟨rfl,I.turned (t':=s.toks) (fun b o hb q=>eb b o hb q) f0 f1 f3 f4 f5⟩
 self:=fun _ _ _ _ _ st h=>by
  obtain⟨ok,ov,st⟩:=st;exact PySem.W.kcp_self st h
section
variable {X:Cx}
def Znq (tl:TE):TI:=fun σ H R=>tl σ H fun x H1=>∃ v a o kvs,x=.ref v/\H1 v=some (VwI v a)/\H1 a=some (.frz o (.dK kvs))/\R (Itd o a) H1
theorem ZgF {xs:List Expr}{x1}{tpos:Pos}{l:Expr}{tl:TE} (hl:PE X l tl):PI X (.Tuple xs x1 tpos) l (Znq tl):=by
 intro pins s σ H R I h;refine thn (hl pins s σ H _ I h) fun v s1 ⟨x,H1,I1,r1,vw,a,o,kvs,e,hv,hq,q⟩=>?_;subst e;cases r1;obtain⟨vs,es,ep,r,_,_,hdat,hsz,da⟩:=ZiX I1 hq;refine wpAny_pyIter_items (ZkN I1 hv) da ?_;refine⟨s1.heap.objs.size,[s1.heap.objs.size],_,_,H1,rfl,I1.kept (t':=s1.toks) fun b o e=>Yad _ e,Zg2 a _ o es ep hdat,⟨.none,.none,?_⟩,fun b hb=>?_,q⟩
 ·rw[hsz,r.length];exact Yav _ rfl
 ·have e:b=s1.heap.objs.size:=by simpa using hb
  subst e;exact I1.fpOk (Yak _) (I1.hok.fresh (Yak _))
end
theorem ZiZ {o:Obj}{a:Addr}{kvs:List (Key × V)}{g:TG}{tb:TS}{D:Ends}{σ:St}{H:Hp} (Pv:Nat->St->Hp->Prop) (h0:Pv 0 σ H) (hl:∀ i σ H,i<=kvs.length->Pv i σ H->H a=some (.frz o (.dK kvs)))
  (hs:∀ i k v p σ H,kvs[i]?=some (k,v)->Pv i σ H->H p=none->g (.ref p) σ (upd H p (.tup [kV k,v])) fun σ2 H2=>tb { D with nx:=Pv (i+1),ct:=Pv (i+1),bk:=D.nx } σ2 H2) (hd:∀ σ H,Pv kvs.length σ H->D.nx σ H) :
  ∃ W:Nat->Nat->St->Hp->Prop,(∃ m,W 0 m σ H)/\∀ i m σ H,W i m σ H ->
   ((Itd o a).stop i H/\D.nx σ H)∨((Itd o a).go i H/\∃ N:St->Hp->Prop,(∀ σ' H',N σ' H'->∃ m',m'<m/\W (i+1) m' σ' H')/\∀ x H',(Itd o a).yld i H x H'->g x σ H' fun σ2 H2=>tb { D with nx:=N,ct:=N,bk:=D.nx } σ2 H2):=by
 refine⟨fun i m σ H=>m=kvs.length - i/\i<=kvs.length/\Pv i σ H,⟨kvs.length,by simp,YaT _,h0⟩,?_⟩;rintro i m σ H ⟨rfl,hi,p⟩;have q:=hl i σ H hi p;by_cases hlt:i<kvs.length
 ·refine .inr ⟨⟨kvs,kvs[i],q,Yac hlt⟩,Pv (i+1),fun σ' H' z=>⟨kvs.length - (i+1),by (clear hi;omega),rfl,hlt,z⟩,fun x H' y=>?_⟩;obtain⟨pa,k,v,hp,e1,e2,y⟩:=y;subst e1 e2;exact hs i k v pa σ H (y kvs q) p hp
 ·obtain rfl:i=kvs.length:=by omega
  exact .inl ⟨⟨kvs,q,Yak _⟩,hd σ H p⟩
section
variable {prog:Program}{w:World}{A:Around}{R:Result->Shared->Prop}{s:Shared}
theorem ZbZ {kx vx target iter:Expr}{ifs:List Expr}{scope:Scope}{pos:Pos}{it:Value}{D:Addr}{env:Env} (I:Nat->Shared->Prop)
  (turn:∀ n s,I n s->wpAny (model prog w) A (pyNext it) (fun r s₁=>match r with
   | none=>R (.ok .next) s₁
   | some v=>wpAny (model prog w) A (letOwnedTupleGo target it v) (fun _ s₁'=>wpAny (model prog w) A (assign target env v) (fun _ s₂=>
     wpAny (model prog w) A (forIn ifs true fun c r=>if r=true then do let ok <- isTrue c env (eval c env);pure (Ya6 ok) else pure (Ya6 r)) (fun ok s₃=>
      if ok=true then wpAny (model prog w) A (eval kx env) (fun kv s₄=>wpAny (model prog w) A (eval vx env) (fun vv s₅=>
       wpAny (model prog w) A (dictSet D kv vv) (fun _ s₆=>∃ m,m<n/\I m s₆) (fun _ _=>False) s₅) (fun _ _=>False) s₄) (fun _ _=>False) s₃
      else ∃ m,m<n/\I m s₃) (fun _ _=>False) s₂) (fun _ _=>False) s₁') (fun _ _=>False) s₁) (fun _ _=>False) s)
  (n:Nat) (h:I n s) :
  codeAny (model prog w) A (.compLoop (.DictComp kx vx [⟨target,iter,ifs,0⟩] scope pos) 0 it (.ref D) env) R s:=by
 refine codeAny_loop rfl I (fun n s hI=>?_) n h;show wpAny _ A ((compTurn (.DictComp kx vx [⟨target,iter,ifs,0⟩] scope pos) 0 it (.ref D) env).onRaise (fun x=>do noteFrame x env;theTreesLotGoes x)) _ _ s;refine wpAny_noted ?_;rw[compTurn_dict];refine wpAny_bind (wpAny_standAt (wpAny_bind (wpAny_mono (turn n s hI) (fun r s₁ h₁=>?_) fun _ _ h'=>h'.elim)))
 cases r with
 | none=>exact wpAny_pure h₁
 | some v=>
  refine wpAny_bind (wpAny_mono h₁ (fun _ s₁' h₁=>?_) fun _ _ h'=>h'.elim);refine wpAny_bind (wpAny_mono h₁ (fun _ s₂ h₂=>wpAny_bind (wpAny_mono h₂ (fun ok s₃ h₃=>?_) fun _ _ h'=>h'.elim)) fun _ _ h'=>h'.elim)
  cases ok with
  | false=>exact wpAny_pure ⟨rfl,h₃⟩
  | true=>
   exact wpAny_bind (wpAny_bind (wpAny_mono h₃ (fun kv s₄ h₄=>wpAny_bind (wpAny_holding (wpAny_mono h₄ (fun vv s₅ h₅=>wpAny_bind (wpAny_standAt (wpAny_holding (wpAny_mono h₅ (fun _ s₆ h₆=>wpAny_pure ⟨rfl,h₆⟩) fun _ _ h'=>h'.elim)))) fun _ _ h'=>h'.elim))) fun _ _ h'=>h'.elim))
end
section
variable {X:Cx}{pins:List (Addr × Obj)}{σ:St}{H H':Hp}{s s':Shared}{scope:Scope}{own:List Str}{js:List Nat}{C:Addr}{fp:List Addr}
theorem Zhr {ob:HO}{acc:Addr}{m:Str->Option Value}{tk:Nat}{h':Heap} (c:CompOk X scope own js) (I:Inv X pins σ H s) (hC:s.heap.objs.size<=C) (hf:∀ b∈fp,FpOk X pins H b) (ho:∀ b∈fp,∃ o,s.heap.get? b=some o)
  (hn:h'.Ns C m) (k:∀ b u,s.heap.get? b=some u->h'.get? b=some u) (hacc:s.heap.objs.size<=acc) (haC:acc≠C) (new:ObjOk X.prog X.w (upd H acc ob) h' acc ob) :
  Inv (X.blk scope own js s H C fp pins) [] (blkσ own js σ) (upd H acc ob) { s with heap:=h',toks:=tk }:=by
 have ok:=Zle c I hC hf ho;have fresh:∀ {a:Addr},s.heap.objs.size<=a->H a=none:=fun h=>I.hok.fresh h;have neA:∀ b o,s.heap.get? b=some o->b≠acc:=fun b o e=>YaB (Yaj (Yai e) hacc);refine⟨ok,rfl,I.bare,Un.laid k hacc (fresh hacc),⟨m,hn,fun i x v e1 e2 e3=>?_⟩,fun x a e=>?_,?_,fun x a e=>?_,fun p hp=>?_,I.hok.laid k hacc new,Zdz own js σ X⟩
 ·
  have hi:own.length<=i:=by
   refine YdJ fun hi=>?_;unfold blkσ at e2;rw[YaK (by simpa using hi),Yag] at e2
   cases q:own[i]? with
   | none=>rw[q] at e2;cases e2
   | some z=>rw[q] at e2;cases e2
  have e1':(js.map fun j=>X.N.getD j YcO)[i - own.length]?=some x:=by
   have e1:(own++js.map fun j=>X.N.getD j YcO)[i]?=some x:=e1
   rwa [YaA hi] at e1
  have e2':(js.map fun j=>(σ[j]?).join)[i - own.length]?=some (some v):=by
   unfold blkσ at e2;rw[YaA (by simpa using hi)] at e2;simpa using e2
  rw[Yag] at e1' e2'
  cases q:js[i - own.length]? with
  | none=>rw[q] at e1';cases e1'
  | some j=>
   rw[q] at e1' e2';obtain⟨x',hx',hfree⟩:=c.out j (Yah q);have ex:x'=x:=by
    have:X.N.getD j YcO=x:=Yax e1';rw[Yao,hx'] at this;exact this
   subst ex;have eσ:σ[j]?=some (some v):=by
    have e2'':(σ[j]?).join=some v:=Yax e2'
    cases r:σ[j]? with
    | none=>rw[r] at e2'';cases e2''
    | some z=>rw[r] at e2'';cases z with
     | none=>cases e2''
     | some y=>cases e2'';rfl
   have hmem:(x',YbP)∈scope.names:=Ybt hfree;have hkX:=c.free _ hmem rfl;have vis:Vis X.env.scope x':=by
    rcases hkX with z | z
    ·exact .inr (.inl z)
    ·exact .inr (.inr z)
   obtain⟨m0,hn0,hl0⟩:=I.loc;obtain⟨u,r,l⟩:=hl0 j x' v hx' eσ vis;refine⟨u,r,.inr ⟨ZbJ hfree,?_⟩⟩;obtain⟨a,ha⟩:=ZgW (env:=X.env) scope.names [] hmem;refine⟨a,ha,?_⟩;have haX:=c.look I ha;rcases l with ⟨z,_⟩ | ⟨_,a',ha',⟨o,ho',hd⟩⟩
   ·have z:X.env.kindOf x'=some .local:=z;rcases hkX with y | y
    ·have y:X.env.kindOf x'=some .cell:=y;rw[z] at y;cases y
    ·have y:X.env.kindOf x'=some .free:=y;rw[z] at y;cases y
   ·rw[haX] at ha';cases ha';exact⟨o,k _ o ho',hd⟩
 ·obtain⟨v,o,ho',hd⟩:=I.cell x a (c.look I e);exact⟨v,o,k _ o ho',hd⟩
 ·show upd H acc ob C=none;rw[upd_ne (Ybl haC)];exact fresh hC
 ·have e':=c.look I e;obtain⟨v,o,ho',hd⟩:=I.cell x a e';rw[upd_ne (neA a o ho')];exact I.freeC x a e'
 ·have hp:p∈X.pn++pins:=by simpa[Cx.blk] using hp
  obtain⟨e,n,ne,nf,d⟩:=I.pin p hp;refine⟨k _ _ e,by rw[upd_ne (neA _ _ e)];exact n,YaB (Yaj (Yai e) hC),fun z=>?_,d⟩;rcases Yay.mp (I.stkSub _ z) with q | q
  ·exact ne q
  ·exact nf q
end
theorem Zjh {X:Cx}{pins:List (Addr × Obj)}{σ:St}{H:Hp}{s:Shared}{a:Addr}{kvs:List (Key × V)}{k:Key}{v:V}{u r:Value}{A:Around}{E:Value->Shared->Prop}{Q:Unit->Shared->Prop} (I:Inv X pins σ H s) (e:H a=some (.dK kvs)) (l:kvs.length<sizeLine) (ry:RelV (kV k) u) (rv:RelV v r) (h:∀ s',Inv X pins σ (upd H a (.dK (putK kvs k v))) s'->Q () s') :
  wpAny (model X.prog X.w) A (dictSet a u r) Q E s:=by
 obtain⟨z,hd,vs,rel,dd⟩:=Zml I.hok e;have hz:vs.length<=sizeLine:=by rw[<- rel.length];exact z
 have hl:(putK kvs k v).length<=sizeLine:=by have:=ZbA kvs k v;(clear hz z;omega)
 refine wpAny_dictSet_pairs (hsz:=hz) (ZiN ry) dd fun h' dd' hs=>h _ ?_;have he:∃ q,h'.get? a=some q:=let ⟨q,_,_,hq,_⟩:=dd';⟨q,hq⟩
 exact ZeL I (by rw[e];exact Yb0) hs he (ZgU hl hd (rel.put k rv) dd')
def ZfK (own:List Str) (js:List Nat) (g:TG) (tt:TT) (tk tv:TE) (σ:St) (J:It) (H1:Hp) (Q:VK):Prop :=
 ∀ acc,H1 acc=none->∃ (W:Nat->Hp->Prop) (n:Nat),W 0 (upd H1 acc (.dK []))/\∀ i H2,W i H2 ->
  (J.stop i H2/\Q (.ref acc) H2)∨(i<n/\J.go i H2/\∀ x H3,J.yld i H2 x H3->g x (blkσ own js σ) H3 fun τ H4=>tt τ H4 fun c H5=>
   if c=true then tk τ H5 fun y H6=>tv τ H6 fun z H7=>∃ k kvs,y=kV k/\H7 acc=some (.dK kvs)/\kvs.length<sizeLine/\W (i+1) (upd H7 acc (.dK (putK kvs k z))) else W (i+1) H5)
def ZmL (own:List Str) (js:List Nat) (wi:TI) (g:TG) (tt:TT) (tk tv:TE):TE:=fun σ H Q=>wi σ H fun J H1=>ZfK own js g tt tk tv σ J H1 Q
section
variable {X:Cx}{scope:Scope}{own:List Str}{js:List Nat}{kx vx iter target:Expr}{ifs:List Expr}{wi:TI}{g:TG}{tt:TT}{tk tv:TE}{pos:Pos}
theorem ZkJ {pins:List (Addr × Obj)}{σ:St}{H2:Hp}{s₂:Shared}{it:Addr}{fp:List Addr}{tn:Nat->Heap->Prop}{J:It}{Q:VK}{E:Value->Shared->Prop}{RR:Value->Addr->Result->Shared->Prop}
  (c:CompOk X scope own js) (hc:X.calm=true) (hgk:Zgn own g)
  (hg:∀ s H C fp pins,PG (X.blk scope own js s H C fp pins) target g) (ht:∀ s H C fp pins,PTs (X.blk scope own js s H C fp pins) ifs tt) (hk:∀ s H C fp pins,PE (X.blk scope own js s H C fp pins) kx tk) (hv:∀ s H C fp pins,PE (X.blk scope own js s H C fp pins) vx tv)
  (I:Inv X pins σ H2 s₂) (T:Turn X.prog X.w X.K target J fp it tn) (st:tn 0 s₂.heap) (hf:∀ b∈fp,FpOk X pins H2 b) (h:ZfK own js g tt tk tv σ J H2 Q)
  (hRR:∀ acc C H' s' m,s₂.heap.objs.size<=C->H' C=none->Inv X pins σ H' s'->s'.heap.Ns C m->Q (.ref acc) H'->RR (.ref acc) C (.ok .next) s') :
  wpAny (model X.prog X.w) X.A newDict (fun acc s₃=>wpAny (model X.prog X.w) X.A (newFunctionEnv scope X.env.globals (clOf scope X.env) [] X.env.qual none .none (some X.env)) (fun cenv s₄=>
   codeAny (model X.prog X.w) X.A (.compStart (.DictComp kx vx [⟨target,iter,ifs,0⟩] scope pos) 0 (.ref it) acc { cenv with scope:=relabel scope X.env }) (RR acc cenv.locals) s₄) E s₃) E s₂:=by
 refine wpAny_newObj_type (wpAny_newFunctionEnv c.cell (by intro y hy;simp at hy) (fun h₁ hns₁ hsb₁=>?_) c.kind);dsimp only at hns₁ hsb₁ ⊢;generalize hH2:s₂.heap.push { cls:=.type "dict",dict:=none,data:=.dict #[] }=G2 at hns₁ hsb₁ ⊢;have hC:G2.objs.size=s₂.heap.objs.size+1:=by rw[<- hH2,Ybi]
 have hDC:s₂.heap.objs.size≠G2.objs.size:=by rw[hC];exact YaB (Yb1 _)
 have hCle:s₂.heap.objs.size<=G2.objs.size:=by rw[hC];exact YcF _
 have old:∀ b o,s₂.heap.get? b=some o->h₁.get? b=some o:=fun b o e=>hsb₁.extBut b o (YaB (Yaj (Yai e) hCle)) (Yad _ (hH2 ▸ Yad _ e));have hacc:ObjOk X.prog X.w (upd H2 s₂.heap.objs.size (.dK [])) h₁ s₂.heap.objs.size (.dK []):=by
  refine (ZeK (H:=upd H2 s₂.heap.objs.size (.dK [])) s₂.heap I.big).stay (h':=h₁) (fun b u hb e=>?_) (fun _ q=>q) fun _ _ q=>q;have hb':b≠G2.objs.size:=by
   have:=Yai e;rw[hC];rw[Ybi] at this;exact YaB this
  exact hsb₁.extBut _ _ hb' (Yad _ (hH2 ▸ e))
 have ho2:∀ b∈fp,∃ o,s₂.heap.get? b=some o:=fun b hb=>let ⟨o,e,_⟩:=T.obj 0 _ st b hb;⟨o,e⟩
 have I0:∀ tk,Inv (X.blk scope own js s₂ H2 G2.objs.size fp pins) [] (blkσ own js σ) (upd H2 s₂.heap.objs.size (.dK [])) { s₂ with heap:=h₁,toks:=tk }:=fun tk=>
  Zhr c I hCle hf ho2 hns₁ old (Yak _) hDC hacc
 obtain⟨W,nn,w0,turn⟩:=h s₂.heap.objs.size (I.hok.fresh (Yak _));generalize hacc':s₂.heap.objs.size=acc at *;generalize hGC:G2.objs.size=C at *;have st1:tn 0 h₁:=T.keep 0 _ _ st fun b _ o e=>old b o e;have fOk:∀ {H':Hp},(∀ b∈fp,H' b=none)->∀ b∈fp,FpOk (X.blk scope own js s₂ H2 C fp pins) [] H' b:=fun hn b hb=>by
  obtain⟨f0,f1,f2,f3,f4,f5⟩:=hf b hb;obtain⟨o,e⟩:=ho2 b hb;refine⟨hn b hb,YaB (Yaj (Yai e) (by rw[<- hacc'] at hCle;exact hCle)),fun z=>?_,.inl hb,fun x a h=>f4 x a (c.look I h),fun p hp=>f5 p (by simpa[Cx.blk] using hp)⟩;rcases Yay.mp (I.stkSub b z) with q | q
  ·exact f1 q
  ·exact f2 q
 have loop:∀ s₃:Shared,s₃={ s₂ with heap:=h₁,toks:=s₂.toks+([]:List (Str × Value)).length } ->
   codeAny (model X.prog X.w) X.A (.compLoop (.DictComp kx vx [⟨target,iter,ifs,0⟩] scope pos) 0 (.ref it) (.ref acc) (compEnvC scope (clOf scope X.env) C X.env)) (RR (.ref acc) C) s₃:=by
  rintro s₃ rfl;refine ZbZ (fun n s'=>∃ i H',n=nn - i/\Inv (X.blk scope own js s₂ H2 C fp pins) [] (blkσ own js σ) H' s'/\tn i s'.heap/\(∀ b∈fp,H' b=none)/\W i H') ?_ nn ⟨0,_,rfl,I0 _,st1,fun b hb=>?_,w0⟩
  ·rintro n s3 ⟨i,H3,en,I3,st3,fr3,w3⟩;rcases turn i H3 w3 with ⟨stop,qn⟩ | ⟨hin,go,step⟩
   ·refine thn (T.done (X.blk scope own js s₂ H2 C fp pins) rfl rfl rfl hc i [] s3 _ H3 (fun _ _=>False) I3 (fOk fr3) st3 stop) fun r s4 ⟨hr,I4⟩=>?_;subst hr;obtain⟨m,hn,_⟩:=I4.loc;exact hRR acc C H3 s4 m hCle I4.free (Zgk I hf I4) hn qn
   ·refine thn (T.item (X.blk scope own js s₂ H2 C fp pins) rfl rfl rfl hc i [] s3 _ H3 (fun _ _=>False) I3 (fOk fr3) st3 go) fun r s4 ⟨u,hr,h4⟩=>?_;subst hr;refine thn h4 fun _ s5 ⟨x,H5,I5,r5,y5,st5,fr5⟩=>?_;have I5':=I5.pinned (fOk fr5) (T.obj _ _ st5);have again:∀ {σ7:St}{H7:Hp}{s7:Shared},Inv (X.blk scope own js s₂ H2 C fp pins) ([]++ZcM fp s5.heap) σ7 H7 s7->(∀ (j:Nat) v,(blkσ own js σ)[j]?=some (some v)->σ7[j]?=some (some v))->W (i+1) H7 ->
      ∃ m,m<n/\∃ i H',m=nn - i/\Inv (X.blk scope own js s₂ H2 C fp pins) [] (blkσ own js σ) H' s7/\tn i s7.heap/\(∀ b∈fp,H' b=none)/\W i H':=fun {σ7 H7 s7} I7 hw w7=>by
     refine⟨nn - (i+1),by (clear hCle hDC hC hGC hacc';omega),i+1,H7,rfl,(I7.unpinned).weak ((Zdz own js σ X).trans I7.len.symm) hw,T.keep _ _ _ st5 fun b hb o e=>(I7.pin (b,o) (Yau _ (Yau _ (ZaL hb e)))).1,fun b hb=>?_,w7⟩;obtain⟨o,e,d⟩:=T.obj _ _ st5 b hb;exact (I7.pin (b,o) (Yau _ (Yau _ (ZaL hb e)))).2.1
    refine thn (hg s₂ H2 C fp pins _ s5 _ H5 x u _ I5' r5 (hgk _ _ _ _ _ (step x H5 y5))) fun _ s6 ⟨σ6,H6,I6,kp,q6⟩=>?_;refine thn (ht s₂ H2 C fp pins _ s6 σ6 H6 _ I6 q6) fun ok s7 ⟨H7,I7,q7⟩=>?_
    cases ok with
    | false=>
     exact again I7 kp q7
    | true=>
     refine thn (hk s₂ H2 C fp pins _ s7 σ6 H7 _ I7 q7) fun y s8 ⟨v,H8,I8,r8,q8⟩=>?_;refine thn (hv s₂ H2 C fp pins _ s8 σ6 H8 _ I8 q8) fun z s9 ⟨zv,H9,I9,r9,k,kvs,ek,hl,hz,w9⟩=>?_;subst ek;exact Zjh (X:=X.blk scope own js s₂ H2 C fp pins) I9 hl hz r8 r9 fun s10 I10=>again I10 kp w9
  ·rw[upd_ne ?_]
   ·exact (hf b hb).1
   ·obtain⟨o,e⟩:=ho2 b hb;rw[<- hacc'];exact YaB (Yai e)
 exact codeAny_compStart_dict (loop _ rfl) (T.self _ 0 _ _ _ st1 (loop _ rfl))
theorem Zj4 (c:CompOk X scope own js) (hc:X.calm=true) (hi:PI X target iter wi) (hgk:Zgn own g)
  (hg:∀ s H C fp pins,PG (X.blk scope own js s H C fp pins) target g) (ht:∀ s H C fp pins,PTs (X.blk scope own js s H C fp pins) ifs tt) (hk:∀ s H C fp pins,PE (X.blk scope own js s H C fp pins) kx tk) (hv:∀ s H C fp pins,PE (X.blk scope own js s H C fp pins) vx tv)
  (hs:∀ x,foldedSetIterable iter X.env x=pure x:=by intro _;rfl):PE X (.DictComp kx vx [⟨target,iter,ifs,0⟩] scope pos) (ZmL own js wi g tt tk tv):=by
 intro pins s σ H Q I h;rw[arm_eval_DictComp];refine wpAny_comprehension_free (use:=none) rfl hs (Zbu (c.cl I)) c.kind c.names (thn (hi pins s σ H _ I h) fun v s1 h1=>thn h1 fun itv s2 h2=>?_);obtain⟨it,fp,tn,J,H2,e,I2,T,st2,f2,hw⟩:=h2;subst e;refine ZkJ (RR:=fun acc C=>compPost (model X.prog X.w) X.A X.xe none (EP X pins σ Q) acc C) c hc hgk hg ht hk hv I2 T st2 f2 hw ?_;intro acc C H' s' m hCs hCn I' hn q;refine⟨m,hn,fun h' hs'=>⟨.ref acc,H',I'.other hs' hCn ?_ ?_ ?_ ?_,rfl,q⟩⟩
 ·exact Ybx (Yaj I2.lt hCs)
 ·exact Ybj I2.sz hCs
 ·intro x a e z;obtain⟨v,q⟩:=I2.cell x a e;exact absurd (Yaj q.lt (by rw[z];exact hCs)) (Yba _)
 ·intro p hp z;exact absurd (Yaj (Yai (I2.pin p hp).1) (by rw[z];exact hCs)) (Yba _)
end
theorem Zgf {o:Obj}{own:List Str}{js:List Nat}{g:TG}{tt:TT}{tk tv:TE}{σ:St}{H1:Hp}{Q:VK}{a:Addr}{kvs:List (Key × V)} (Pv:Addr->Nat->Hp->Prop) (h0:∀ acc,H1 acc=none->Pv acc 0 (upd H1 acc (.dK []))) (hl:∀ acc i H,H1 acc=none->i<=kvs.length->Pv acc i H->H a=some (.frz o (.dK kvs)))
  (hs:∀ acc i k v p H,H1 acc=none->kvs[i]?=some (k,v)->Pv acc i H->H p=none->g (.ref p) (blkσ own js σ) (upd H p (.tup [kV k,v])) fun τ H4=>tt τ H4 fun c H5=>
   if c=true then tk τ H5 fun y H6=>tv τ H6 fun z H7=>∃ k kvs',y=kV k/\H7 acc=some (.dK kvs')/\kvs'.length<sizeLine/\(i+1<=kvs.length/\Pv acc (i+1) (upd H7 acc (.dK (putK kvs' k z)))) else (i+1<=kvs.length/\Pv acc (i+1) H5))
  (hd:∀ acc H,H1 acc=none->Pv acc kvs.length H->Q (.ref acc) H):ZfK own js g tt tk tv σ (Itd o a) H1 Q:=by
 intro acc hacc;refine⟨fun i H=>i<=kvs.length/\Pv acc i H,kvs.length,⟨YaT _,h0 acc hacc⟩,?_⟩;rintro i H ⟨hi,p⟩;have q:=hl acc i H hacc hi p;by_cases hlt:i<kvs.length
 ·refine .inr ⟨hlt,⟨kvs,kvs[i],q,Yac hlt⟩,fun x H' y=>?_⟩;obtain⟨pa,k,v,hp,e1,e2,y⟩:=y;subst e1 e2;exact hs acc i k v pa _ hacc (y kvs q) p hp
 ·obtain rfl:i=kvs.length:=by omega
  exact .inl ⟨⟨kvs,q,Yak _⟩,hd acc H hacc p⟩
theorem Zgj {X:Cx}:ZbD X (.type "dict") (fun xs H Q=>∃ a kvs,xs=[.ref a]/\Rd H a (.dK kvs)/\∀ p,H p=none->Q (.ref p) (upd H p (.dK kvs))):=by
 intro pins s σ H xs us Q I r h;obtain⟨a,kvs,rfl,e,q⟩:=h;obtain⟨u,rfl,r1⟩:=Zc3 r;cases r1;exact ZkE I e fun p s' hp I'=>⟨.ref p,_,I',rfl,q p hp⟩
end L2
namespace L2
open PySem PySem.Spec PyProof.Rows PySem.SeqAt
section
variable {prog:Program}{w:World}{A:Around}{E:Value->Shared->Prop}{s:Shared}{O:KO}
theorem Zlw {x:Value}{Pv:List Value->Shared->Prop}{Q:Value->Shared->Prop} (hcol:∀ (R:List Value->Shared->Prop) (E':Value->Shared->Prop),(∀ vs s1,Pv vs s1->R vs s1)->wpAny (model prog w) A.in1 (collect x) R E' s)
  (hz:∀ vs s1,Pv vs s1->vs.length<=sizeLine) (hS:∀ vs s1,Pv vs s1->∃ O,Sortable prog w s1 O vs /\
   ∀ us:List Value,us.Perm vs->Ord2 O false us->Q (.ref s1.heap.objs.size) { s1 with heap:=sortedHeap (s1.heap.push (seqObj "list" vs.toArray 0)) s1.heap.objs.size vs us.toArray }):wpAny (model prog w) A (call (.builtin "sorted") [x]) Q E s:=by
 refine YcV kind_sorted plain_sorted entry_sorted (args_sorted1 _) ?_;unfold Builtin.«sorted»;refine wpAny_bind (m:=checkCount "sorted" 1 1 _) (wpAny_pure (wpAny_bind (hcol _ _ fun vs s1 hp=>wpAny_bind (wpAny_newList ?_ (hz vs s1 hp)))));obtain⟨O,hS1,h⟩:=hS vs s1 hp;obtain⟨knd,ok,h1,h2,h3⟩:=hS1.ex;show wpAny _ _ _ _ _ { s1 with heap:=s1.heap.push (seqObj "list" vs.toArray 0) };have at1:(s1.heap.push (seqObj "list" vs.toArray 0)).get? s1.heap.objs.size=some (seqObj "list" vs.toArray 0):=Yav _ rfl;have up:∀ h':Heap,(∀ b o,(s1.heap.push (seqObj "list" vs.toArray 0)).get? b=some o->b≠s1.heap.objs.size->h'.get? b=some o)->∀ b o,s1.heap.get? b=some o->h'.get? b=some o:=fun h' k b o q=>
  k b o (Yad _ q) (YaB (Yai q))
 exact wpAny_bind (wpAny_holding (wpAny_call_entry slot_list_sort ⟨_,at1,rfl⟩ entry_list_sort (Zer (s:={ s1 with heap:=s1.heap.push (seqObj "list" vs.toArray 0) }) at1 (hz vs s1 hp) (fun h' k hl2 Q' q=>h3 _ _ h' (up h' k) hl2 Q' q) (fun h' k=>h2 _ h' (up h' k)) h1 fun us p1 p2=>⟨_,rfl,wpAny_pure ⟨_,rfl,h us p1 p2⟩⟩) (args_list_sort _)))
end
section
variable {X:Cx}{pins:List (Addr × Obj)}{σ:St}{H:Hp}{s:Shared}{h':Heap}
def Zc5 (H:Hp) (as:List Addr) (f:Addr->HO):Hp:=fun b=>if b∈as then some (f b) else H b
theorem Zc4 {as:List Addr}{f:Addr->HO}{b:Addr} (h:b∈as):Zc5 H as f b=some (f b):=if_pos h
theorem Zbe {as:List Addr}{f:Addr->HO}{b:Addr} (h:b ∉ as):Zc5 H as f b=H b:=if_neg h
theorem Inv.laidAll {as:List Addr}{f:Addr->HO}{t':Nat} (I:Inv X pins σ H s) (k:∀ b u,s.heap.get? b=some u->h'.get? b=some u) (hp:∀ a∈as,s.heap.objs.size<=a)
  (new:∀ a∈as,ObjOk X.prog X.w (Zc5 H as f) h' a (f a)):Inv X pins σ (Zc5 H as f) { s with heap:=h',toks:=t' }:=by
 have nn:∀ b o,H b=some o->b ∉ as:=fun b o q z=>absurd (Yaj (I.hok.lt q) (hp b z)) (Yba _);have kk:∀ b o,H b=some o->Zc5 H as f b=some o:=fun b o q=>by rw[Zbe (nn b o q)];exact q
 refine I.un ⟨fun b u q _ _ _=>k b u q,fun b u q _ _ _=>⟨u.slots,k b u q⟩,fun b u q n _=>?_,fun b u q _=>⟨u,k b u q⟩,fun b xs q=>kk b _ q,fun b u xs q=>kk b _ q,fun b ps q=>⟨#[],by rw[kk b _ q];simp⟩⟩ fun b u q=>?_
 ·rw[Zbe fun z=>absurd (Yaj (Yai q) (hp b z)) (Yba _)];exact n
 ·by_cases hb:b∈as
  ·rw[Zc4 hb] at q;cases q;exact new b hb
  ·rw[Zbe hb] at q;exact (I.hok b u q).stay (fun c v _ r=>k c v r) (fun c r=>kk c _ r) fun c xs r=>kk c _ r
end
theorem ZdE {β:Type}{q:β}:∀ {as:List Addr}{ps:List β}{j:Nat}{a:Addr},as.Pairwise (·<·)->as[j]?=some a->ps[j]?=some q->(as.zip ps).lookup a=some q
 | [],_,_,_,_,h,_=>by simp at h
 | _::_,[],_,_,_,_,h=>by simp at h
 | x::as,y::ps,0,a,hp,h1,h2=>by
  simp at h1 h2;subst h1 h2;simp
 | x::as,y::ps,j+1,a,hp,h1,h2=>by
  have hp:=YbA.mp hp;have h1:as[j]?=some a:=by simpa using h1
  have h2:ps[j]?=some q:=by simpa using h2
  have hne:(a == x)=false:=by
   have:=hp.1 a (Yah h1);simpa using (Ybx this)
  rw[YeL,YbB,hne];exact ZdE hp.2 h1 h2
def ZkR (tk tv:TE):TE:=fun σ H Q=>∀ p,H p=none->tk σ (upd H p (.dK [])) fun x H1=>tv σ H1 fun y H2=>H2 p=some (.dK [])/\∃ kvs:List (Key × V),[(x,y)]=kvs.map (fun kv=>(kV kv.1,kv.2))/\kvs.length<=15/\Q (.ref p) (upd H2 p (.dK (ZcN [] kvs)))
theorem Zj3 {X:Cx}{pos:Pos}{k v:Expr}{tk tv:TE} (hk:PE X k tk) (hv:PE X v tv):PE X (.Dict [some k] [v] pos) (ZkR tk tv):=by
 intro pins s σ H Q I q;exact ZlM (ZjY hk hv ZlL) rfl rfl (by intro z;cases z) (by show 1<=15;decide) pins s σ H Q I q
abbrev dI (ps:List (Int × Int)):HO:=.dK (ps.map fun q=>(Ybq q.1,V.int q.2))
section
variable {X:Cx}
theorem Zd9 (hc:X.calm=true):ZbD X (.builtin "sorted") (fun xs H Q=>∃ (v a:Addr) (ps:List (Int × Int)),xs=[.ref v]/\H v=some (VwI v a)/\Rd H a (dI ps) /\
  ∀ l qs (ms:List (Int × Int)) H',H l=none->(∀ q∈qs,H q=none)->ms.Perm ps->ms.Pairwise (fun p q=>lxB [q.1,q.2] [p.1,p.2]=false)->H' l=some (.lst (qs.map V.ref))->TTs H' qs (ms.map fun q=>[q.1,q.2])->Same H H'->Q (.ref l) H'):=by
 intro pins s σ H xs us Q I r h;obtain⟨v,a,ps,rfl,hv,hd,q⟩:=h;obtain⟨u,rfl,r1⟩:=Zc3 r;cases r1;obtain⟨hz,hsm,vs,rel,dd⟩:=Zhl I.hok hd;obtain⟨ep,da⟩:=dd.dictAt;have hl:vs.length=ps.length:=by rw[<- rel.length,Yaa]
 rw[Yaa] at hz;refine Zlw (Pv:=fun us s1=>∃ h' tk as,us=as.map Ybd/\s1={ s with heap:=h',toks:=tk }/\(∀ b o,s.heap.get? b=some o->h'.get? b=some o)/\as.length=vs.length/\PySem.W.KdxG (ZaB X.prog X.w) vs s.heap.objs.size h' as)
  (fun R E' hR=>PySem.W.kdx_collect (A:=X.A.in1) (I.ok.hd hc) (ZkN I hv) da (by rw[hl];exact hz) fun h' tk as hk hn hG=>hR _ _ ⟨h',tk,as,rfl,rfl,hk,hn,hG⟩) ?_ ?_
 ·rintro us s1 ⟨h',tk,as,rfl,rfl,hk,hn,hG⟩;rw[Yaa,hn,hl];exact hz
 ·rintro us s1 ⟨h',tk,as,rfl,rfl,hk,hn,hG⟩;have pr:∀ (j:Nat) (b:Addr),as[j]?=some b->∃ m c t t',ps[j]?=some (m,c)/\h'.get? b=some { cls:=.type "tuple",data:=.seq #[.int m t,.int c t'] }:=fun j b hj=>by
   obtain⟨key,k,x,e1,e2,e3⟩:=hG.pairs j b hj;have hj':j<ps.length:=by rw[<- hl,<- hn];exact (Yab.mp hj).1
   obtain⟨⟨m,c⟩,hm⟩:∃ q,ps[j]?=some q:=⟨ps[j],Yac hj'⟩
   obtain⟨u,hu,ru⟩:=rel.get (i:=j) (k:=Ybq m) (v:=V.int c) (by rw[Yag,hm];rfl);rw[e1] at hu;cases hu;obtain⟨t,rfl⟩:=Znn e2;obtain⟨t',rfl⟩:=ru;exact⟨m,c,t,t',hm,e3⟩
  let pq:Addr->Int × Int:=fun b=>((as.zip ps).lookup b).getD (0,0)
  have pqj:∀ (j:Nat) (b:Addr) q,as[j]?=some b->ps[j]?=some q->pq b=q:=fun j b q h1 h2=>by
   show ((as.zip ps).lookup b).getD (0,0)=q;rw[ZdE hG.rise h1 h2];rfl
  let ks:Addr->List Int:=fun b=>[(pq b).1,(pq b).2]
  have at_:∀ b∈as,∃ t t',h'.get? b=some { cls:=.type "tuple",data:=.seq #[.int (pq b).1 t,.int (pq b).2 t'] }:=fun b hb=>by
   obtain⟨j,hj⟩:=Ya8 hb;obtain⟨m,c,t,t',e1,e2⟩:=pr j b hj;exact⟨t,t',by rw[pqj j b _ hj e1];exact e2⟩
  have hT:∀ v∈as.map Ybd,TupI h' ks v:=fun v hv=>by
   obtain⟨b,hb,rfl⟩:=YaU.mp hv;obtain⟨t,t',e⟩:=at_ b hb;exact⟨b,_,_,_,rfl,e,rfl,rfl,.cons _ _ (.cons _ _ .nil),by show [_,_]≠[];exact fun z=>nomatch z⟩
  refine⟨KOt ks,Zeq (s:={ s with heap:=h',toks:=tk }) hT,fun us p1 p2=>?_⟩;obtain⟨qs,rfl,pm⟩:=Zh1 p1;have I1:Inv X pins σ (Zc5 H as fun b=>.tup ((ks b).map V.int)) { s with heap:=h',toks:=tk }:=by
   refine I.laidAll hk (fun b hb=>YaW (hG.above b hb)) fun b hb=>?_;obtain⟨t,t',e⟩:=at_ b hb;refine⟨?_,[.int (pq b).1 t,.int (pq b).2 t'],.cons ⟨_,rfl⟩ (.cons ⟨_,rfl⟩ .nil),⟨_,e,rfl,rfl,0,rfl⟩⟩;show 2<=sizeLine
   decide
  have nas:∀ b∈as,H b=none:=fun b hb=>I.hok.fresh (YaW (hG.above b hb));obtain⟨e,he⟩:=sortedHeap_at (h:=h'.push (seqObj "list" (as.map Ybd).toArray 0)) (a:=h'.objs.size) (vs:=as.map Ybd) (out:=(qs.map Ybd).toArray) (Yav _ rfl);have keep:∀ b o,h'.get? b=some o->(sortedHeap (h'.push (seqObj "list" (as.map Ybd).toArray 0)) h'.objs.size (as.map Ybd) (qs.map Ybd).toArray).get? b=some o:=fun b o q=>by
   rw[sortedHeap_old (YaB (Yai q)) (by rw[Ybi];exact YcE (Yai q))];exact Yad _ q
  have fl:Zc5 H as (fun b=>.tup ((ks b).map V.int)) h'.objs.size=none:=I1.hok.fresh (Yak _);have hna:h'.objs.size ∉ as:=fun z=>by rw[Zc4 z] at fl;cases fl
  have I2:=I1.laid (a:=h'.objs.size) (o:=.lst (qs.map V.ref)) (t':=tk) keep (Yak _) ⟨by rw[Yaa,pm.length_eq,hn,hl];exact hz,qs.map Ybd,e,Ze4 qs,he⟩;refine⟨.ref h'.objs.size,_,I2,rfl,q _ qs (qs.map pq) _ ?_ (fun b hb=>nas b (pm.mem_iff.mp hb)) ?_ ?_ Zaa ?_ ?_⟩
  ·rw[Zbe hna] at fl;exact fl
  ·have e1:as.map pq=ps:=by
    refine Ydv fun j=>?_;rw[Yag]
    cases ej:as[j]? with
    | none=>
     have:as.length<=j:=Yck.mp ej;exact (Yck.mpr (by (clear hna hz;omega))).symm
    | some b=>
     obtain⟨m,c,t,t',e1,e2⟩:=pr j b ej;rw[e1];show some (pq b)=_;rw[pqj j b _ ej e1]
   rw[<- e1];exact pm.map pq
  ·simp only[Ord2,YaR,if_false] at p2;exact YbJ.mpr (YbJ.mp p2)
  ·refine⟨by simp,fun j b xs h1 h2=>?_⟩;rw[Yag,Yag,h1] at h2;cases h2;have hb:b∈as:=pm.mem_iff.mp (Yah h1);rw[upd_ne (fun z=>hna (by rw[<- z];exact hb)),Zc4 hb]
  ·intro b o hb;have nb:b ∉ as:=fun z=>by rw[nas b z] at hb;cases hb
   have nb2:b≠h'.objs.size:=YaB (I1.hok.lt (a:=b) (o:=o) (by rw[Zbe nb];exact hb));rw[upd_ne nb2,Zbe nb];exact hb
end
end L2
namespace L2
open PySem PySem.Spec PyProof.Rows
structure WE (X:Cx) (e:Expr) (t:TE):Prop where
 out:PE X e t
section
variable {X:Cx}{a b e k v:Expr}{ta tb te tk tv:TE}{pos:Pos}{es:List Expr}{t:TA}
theorem we (h:PE X e te):WE X e te:=⟨h⟩
theorem Zmv {op:Operator}{r:R2} (ho:OpR X (binaryOp op) r) (ha:WE X a ta) (hb:WE X b tb):WE X (.BinOp a op b pos) (tOp r ta tb):=⟨Zau ho ha.out hb.out⟩
theorem ZnI {r:R2} (hr:IxR X r) (ha:WE X a ta) (hb:WE X b tb) (hs:Zjz b):WE X (.Subscript a b pos) (tOp r ta tb):=⟨ZaR hr ha.out hb.out hs⟩
theorem ZjD (h1:WE X k tk) (h2:WE X v tv):WE X (.Dict [some k] [v] pos) (ZkR tk tv):=⟨Zj3 h1.out h2.out⟩
theorem ZkM {i:Int}{j}:WE X (.Constant (.int i) j pos) (tC (.int i)):=⟨Zaf⟩
theorem ZeT (h:WA X es t):WE X (.List es pos) (tLst t):=⟨ZaJ h.out⟩
theorem Zgp (hn:Zez e=true) (ha:WE X e te) (hr:WA X es t):WA X (e::es) (Zlp te t):=⟨Zab ha.out hr.out (ZdI hn)⟩
theorem Zhv (he:WE X e te):WS X (.Return (some e) pos) (tRet te):=⟨Zay he.out⟩
theorem Zhu {i:Nat}{x:Str}{pos':Pos} (hN:X.N.Nodup) (hi:X.N[i]?=some x) (hx:Loc X.env.scope x) (he:WE X e te) (hs:swapsWith e (some (.Name x pos')) pos.line X.env=pure false:=by rfl) (hf:X.fn x=true∨X.env.scope.names.lookup x=some .local:=by first | exact .inl rfl | exact .inr rfl | assumption) :
  WS X (.Assign [.Name x pos'] e pos) (tAsg te (ZcS i)):=⟨Zar hN hi hx he.out hs hf⟩
theorem Zmw {te:TE} (h:WE X e te):WE X e (tFrz te):=⟨Zm1 h.out⟩
end
end L2
namespace Lv
open PySem L2
def oz (c:Int):Option V:=if c=0 then none else some (.int c)
theorem oz1 {c:Int} (h:c≠0):oz c=some (.int c):=if_neg h
def Rep (kvs:List (Key × V)) (f:Int->Int):Prop:=(∀ p∈kvs,∃ m c:Int,p=(Ybq m,V.int c))/\(kvs.map (·.1)).Nodup/\∀ m:Int,valV kvs (Ybq m)=oz (f m)
theorem Rep.nil:Rep [] (fun _=>0):=⟨(fun p h=>absurd h YbK),YcY,(fun m=>rfl)⟩
theorem Rep.congr {kvs:List (Key × V)}{f g:Int->Int} (h:Rep kvs f) (e:∀ m,f m=g m):Rep kvs g:=by
 have:f=g:=funext e;rw[<- this];exact h
theorem Zkw {kvs:List (Key × V)}{k:Key}{v:V}:(putK kvs k v).map (·.1)=kvs.map (·.1)∨(k ∉ kvs.map (·.1)/\(putK kvs k v).map (·.1)=kvs.map (·.1)++[k]):=by
 unfold putK;by_cases h:(kvs.any fun kv=>decide (kv.1=k))=true
 ·rw[if_pos h];left;rw[Ybc];refine Ybv fun p _=>?_;show (if p.1=k then (p.1,v) else p).1=p.1;split <;> rfl
 ·rw[if_neg h];right;refine⟨fun hm=>h ?_,by simp⟩;obtain⟨p,hp,e⟩:=YaU.mp hm;exact YdC.mpr ⟨p,hp,decide_eq_true e⟩
theorem Zl8 {kvs:List (Key × V)}{k:Key}{v:V}{p:Key × V} (h:p∈putK kvs k v):p∈kvs∨p=(k,v):=by
 unfold putK at h;split at h
 ·obtain⟨q,hq,e⟩:=YaU.mp h;split at e
  ·rename_i e2;right;rw[<- e,e2]
  ·left;rw[<- e];exact hq
 ·rcases Yar.mp h with h | h
  ·exact .inl h
  ·exact .inr (YaN.mp h)
theorem Rep.put {kvs:List (Key × V)}{f:Int->Int}{m c:Int} (h:Rep kvs f) (hc:c≠0):Rep (putK kvs (Ybq m) (.int c)) (fun j=>if j=m then c else f j):=by
 obtain⟨h1,h2,h3⟩:=h;refine⟨fun p hp=>?_,?_,fun j=>?_⟩
 ·rcases Zl8 hp with hp | rfl
  ·exact h1 p hp
  ·exact⟨m,c,rfl⟩
 ·rcases Zkw (kvs:=kvs) (k:=Ybq m) (v:=.int c) with e | ⟨hn,e⟩
  ·rw[e];exact h2
  ·rw[e];exact Zix h2 hn
 ·rw[ZjF];by_cases e:j=m
  ·subst e;rw[if_pos rfl];show _=oz (if j=j then c else f j);rw[if_pos rfl,oz1 hc]
  ·rw[if_neg (by intro z;exact e (Ydw z))];show _=oz (if j=m then c else f j);rw[if_neg e];exact h3 j
theorem ZjH {kvs:List (Key × V)}{k:Key}{v:V} (hn:(kvs.map (·.1)).Nodup) (h:(k,v)∈kvs):valV kvs k=some v:=by
 induction kvs with
 | nil=>cases h
 | cons p r ih=>
  rw[Yam,YbQ] at hn;rcases Yay.mp h with rfl | h
  ·exact ZaW rfl
  ·rw[ZaX (fun e=>hn.1 (by rw[e];exact YaU.mpr ⟨_,h,rfl⟩))];exact ih hn.2 h
theorem Rep.at {kvs:List (Key × V)}{f:Int->Int}{k:Key}{v:V} (h:Rep kvs f) (hm:(k,v)∈kvs):∃ m:Int,k=Ybq m/\v=.int (f m)/\f m≠0:=by
 obtain⟨m,c,e⟩:=h.1 _ hm;cases e;have e2:=ZjH h.2.1 hm;rw[h.2.2 m] at e2;by_cases hz:f m=0
 ·rw[hz] at e2;cases e2
 ·rw[oz1 hz] at e2;exact⟨m,rfl,(Yax e2).symm,hz⟩
theorem Rep.key {kvs:List (Key × V)}{f:Int->Int}{m:Int} (h:Rep kvs f) (hm:f m≠0):(Ybq m:Key)∈kvs.map (·.1):=by
 have:=h.2.2 m;rw[oz1 hm] at this;exact Zli this
theorem Rep.nkey {kvs:List (Key × V)}{f:Int->Int}{m:Int} (h:Rep kvs f) (hm:f m=0):(Ybq m:Key) ∉ kvs.map (·.1):=by
 have:=h.2.2 m;rw[hm] at this;exact ZjG this
theorem Rep.get {kvs:List (Key × V)}{f:Int->Int} (h:Rep kvs f) (m:Int):(valV kvs (Ybq m)).getD (.int 0)=.int (f m):=by
 rw[h.2.2 m];by_cases hz:f m=0
 ·rw[hz];rfl
 ·rw[oz1 hz];rfl
def dec (p:Key × V):Int × Int:=(match p.1 with | .inl m=>m | .inr _=>0,match p.2 with | .int c=>c | _=>0)
def enc (q:Int × Int):Key × V:=(Ybq q.1,V.int q.2)
theorem Rep.dec {kvs:List (Key × V)}{f:Int->Int} (h:Rep kvs f):kvs=(kvs.map Lv.dec).map enc:=by
 rw[Ybc];refine (Ydg kvs).symm.trans (Ybv fun p hp=>?_);obtain⟨m,c,rfl⟩:=h.1 p hp;rfl
theorem Rep.nd {kvs:List (Key × V)}{f:Int->Int} (h:Rep kvs f):((kvs.map Lv.dec).map (·.1)).Nodup:=by
 have h2:=h.2.1;rw[h.dec,Ybc] at h2;have h3:((kvs.map Lv.dec).map fun q=>(Ybq q.1:Key)).Nodup:=h2;unfold List.Nodup at h3 ⊢;rw[YbJ] at h3 ⊢;exact h3.imp fun {a b} z e=>z (by rw[e])
theorem Zne {l:List Int}{B:Nat} (hn:l.Nodup) (hb:∀ x∈l,0<=x/\x<=(B:Int)):l.length<=B+1:=by
 have:∀ (B:Nat) (l:List Int),l.Nodup->(∀ x∈l,0<=x/\x<(B:Int))->l.length<=B:=by
  intro B
  induction B with
  | zero=>
   intro l _ hb
   cases l with
   | nil=>exact YaT _
   | cons x r=>have:=hb x (by simp);omega
  | succ B ih=>
   intro l hn hb;by_cases h:(B:Int)∈l
   ·have h1:=ih (l.erase B) (hn.erase _) fun x hx=>by
     have h2:=(List.Nodup.mem_erase_iff hn).mp hx;have:=hb x h2.2;have:=h2.1
     (clear this;omega)
    rw[List.length_erase_of_mem h] at h1;omega
   ·have:=ih l hn fun x hx=>by
     have h2:=hb x hx;have:x≠B:=by rintro rfl;exact h hx
     (clear h;omega)
    (clear h;omega)
 exact this (B+1) l hn fun x hx=>by have:=hb x hx;omega
theorem Rep.len {kvs:List (Key × V)}{f:Int->Int}{B:Nat} (h:Rep kvs f) (hb:∀ m,f m≠0->0<=m/\m<=(B:Int)):kvs.length<=B+1:=by
 have:=Zne (B:=B) h.nd fun x hx=>by
  rw[Ybc] at hx;obtain⟨⟨k,v⟩,hp,rfl⟩:=YaU.mp hx;obtain⟨m,rfl,rfl,hz⟩:=h.at hp;exact hb m hz
 simpa using this
open Classical in
noncomputable def tkn (g:Int->Int) (ks:List Key) (m:Int):Int:=if (Ybq m:Key)∈ks then g m else 0
theorem ZhD (g:Int->Int) (m:Int):tkn g [] m=0:=if_neg YbK
theorem Zed {g:Int->Int}{ks:List Key}{m:Int} (h:(Ybq m:Key) ∉ ks):tkn g ks m=0:=if_neg h
theorem Zgw {g:Int->Int}{ks:List Key}{m:Int} (h:(Ybq m:Key)∈ks):tkn g ks m=g m:=if_pos h
theorem ZhE {g:Int->Int}{kvs:List (Key × V)} (h:Rep kvs g) (m:Int):tkn g (kvs.map (·.1)) m=g m:=by
 by_cases e:g m=0
 ·rw[Zed (h.nkey e),e]
 ·exact Zgw (h.key e)
theorem Zgu {g:Int->Int}{ks:List Key}{m:Int} (h:g m=0):tkn g ks m=0:=by
 unfold tkn;split
 ·exact h
 ·rfl
theorem Zgv {g:Int->Int}{ks:List Key}{m j:Int} (h:(Ybq m:Key) ∉ ks):tkn g (ks++[Ybq m]) j=if j=m then g m else tkn g ks j:=by
 by_cases e:j=m
 ·subst e;rw[if_pos rfl,Zgw (by simp)]
 ·rw[if_neg e];by_cases h2:(Ybq j:Key)∈ks
  ·rw[Zgw h2,Zgw (YaV _ h2)]
  ·rw[Zed h2,Zed fun z=>?_];rcases Yar.mp z with z | z
   ·exact h2 z
   ·have z:(Ybq j:Key)=Ybq m:=by simpa using z
    exact e (Ydw z)
theorem Zfj {kvs:List (Key × V)}{i:Nat}{k:Key}{v:V} (h:kvs[i]?=some (k,v)):(kvs.take (i+1)).map (·.1)=(kvs.take i).map (·.1)++[k]:=by
 rw[YaI,h];simp
theorem ZiJ {kvs:List (Key × V)}{i:Nat}{k:Key}{v:V} (nd:(kvs.map (·.1)).Nodup) (hi:kvs[i]?=some (k,v)):k ∉ (kvs.take i).map (·.1):=fun hm=>by
 obtain⟨q,hq,e⟩:=YaU.mp hm;obtain⟨j,hj⟩:=Ya8 hq;have hji:j<i:=by
  have:=(Yab.mp hj).1
  rw[YaL] at this;omega
 rw[YbS hji] at hj;have a1:(kvs.map (·.1))[j]?=some k:=by rw[Yag,hj,<- e];rfl
 have a2:(kvs.map (·.1))[i]?=some k:=by rw[Yag,hi];rfl
 have hj2:=(Yab.mp a1).1
 have:=(List.getElem?_inj hj2 nd).mp (a1.trans a2.symm)
 (clear hj2;omega)
def SprL (L:List (Int × Int)) (f:Int->Int):Prop:=L.Pairwise (fun p q=>p.1<q.1)/\∀ m c,(m,c)∈L↔(c=f m/\c≠0)
theorem ZkU {kvs:List (Key × V)}{f:Int->Int}{ms:List (Int × Int)} (h:Rep kvs f) (hp:ms.Perm (kvs.map Lv.dec)) (hs:ms.Pairwise (fun p q=>lxB [q.1,q.2] [p.1,p.2]=false)):SprL ms f:=by
 have nd:(ms.map (·.1)).Nodup:=(hp.map (·.1)).nodup_iff.mpr h.nd;unfold List.Nodup at nd;rw[YbJ] at nd;refine⟨(hs.and nd).imp ?_,fun m c=>?_⟩
 ·rintro p q ⟨a,b⟩;have a:(if q.1=p.1 then lxB [q.2] [p.2] else decide (q.1<p.1))=false:=a;rw[if_neg (Ybl b)] at a;have:=of_decide_eq_false a;omega
 ·rw[hp.mem_iff];constructor
  ·intro hm;obtain⟨⟨k,v⟩,hp,e⟩:=YaU.mp hm;obtain⟨m',rfl,rfl,hz⟩:=h.at hp;have e1:m'=m:=congrArg Prod.fst e;have e2:f m'=c:=congrArg Prod.snd e;subst e1 e2;exact⟨rfl,hz⟩
  ·rintro⟨rfl,hz⟩;have hk:=h.key hz;obtain⟨⟨k,v⟩,hp,e⟩:=YaU.mp hk;obtain⟨m',rfl,rfl,_⟩:=h.at hp;have e1:m'=m:=Ydw e;subst e1;exact YaU.mpr ⟨_,hp,rfl⟩
theorem ZhM:∀ {L M:List (Int × Int)},L.Pairwise (fun p q=>p.1<q.1)->M.Pairwise (fun p q=>p.1<q.1)->(∀ x,x∈L↔x∈M)->L=M
 | [],[],_,_,_=>rfl
 | [],b::M,_,_,h=>absurd ((h b).mpr YaD) (by simp)
 | a::L,[],_,_,h=>absurd ((h a).mp YaD) (by simp)
 | a::L,b::M,h1,h2,h=>by
  obtain⟨a1,a2⟩:=YbA.mp h1;obtain⟨b1,b2⟩:=YbA.mp h2;have e:a=b:=by
   rcases Yay.mp ((h a).mp YaD) with e | z
   ·exact e
   ·rcases Yay.mp ((h b).mpr YaD) with e | y
    ·exact e.symm
    ·have:=b1 a z;have:=a1 b y;omega
  subst e;congr 1;refine ZhM a2 b2 fun x=>?_;constructor
  ·intro hx;rcases Yay.mp ((h x).mp (YaC _ hx)) with e | z
   ·subst e;have:=a1 x hx;omega
   ·exact z
  ·intro hx;rcases Yay.mp ((h x).mpr (YaC _ hx)) with e | z
   ·subst e;have:=b1 x hx;omega
   ·exact z
theorem SprL.uniq {L M:List (Int × Int)}{f:Int->Int} (h:SprL L f) (g:SprL M f):L=M:=ZhM h.1 g.1 fun ⟨m,c⟩=>by rw[h.2,g.2]
theorem SprL.congr {L:List (Int × Int)}{f g:Int->Int} (h:SprL L f) (e:∀ m,f m=g m):SprL L g:=by
 have:f=g:=funext e;rw[<- this];exact h
def cn (xs:List Int) (m:Int):Int:=(xs.count m:Int)
theorem Zfv (m:Int):cn [] m=0:=by simp[cn]
theorem Zfu (xs:List Int) (m:Int):0<=cn xs m:=by unfold cn;omega
theorem Zfw (xs ys:List Int) (m:Int):cn (xs++ys) m=cn xs m+cn ys m:=by unfold cn;rw[YeU];omega
theorem Zmo {xs:List Int}{m:Int}:cn xs m=0↔m ∉ xs:=by unfold cn;rw[<- List.count_eq_zero];omega
theorem cn_ne {xs:List Int}{m:Int}:cn xs m≠0↔m∈xs:=by
 rw[Ne,Zmo,Classical.not_not]
theorem ZeP (x:Int) (xs:List Int) (m:Int):cn (x::xs) m=(if m=x then 1 else 0)+cn xs m:=by
 unfold cn;rw[List.count_cons];by_cases h:m=x
 ·subst h;simp;omega
 ·have:¬ x=m:=fun z=>h z.symm;simp[h,this]
theorem ZgV (xs:List Int) (m:Int):cn (xs.map (·+1)) m=cn xs (m - 1):=by
 induction xs with
 | nil=>simp[cn]
 | cons x xs ih=>
  rw[Yam,ZeP,ZeP,ih];by_cases h:m=x+1
  ·rw[if_pos h,if_pos (by (clear ih;omega))]
  ·rw[if_neg h,if_neg (by (clear ih;omega))]
def DDs (H:Hp) (rs:List Addr) (N:List (List Int)):Prop:=rs.length=N.length/\∀ (j:Nat) r xs,rs[j]?=some r->N[j]?=some xs->∃ kvs,H r=some (.dK kvs)/\Rep kvs (cn xs)
theorem DDs.same {H H':Hp}{rs:List Addr}{N:List (List Int)} (h:DDs H rs N) (s:Same H H'):DDs H' rs N:=⟨h.1,fun j r xs a b=>let ⟨kvs,e,q⟩:=h.2 j r xs a b;⟨kvs,s _ _ e,q⟩⟩
theorem DDs.nil {H:Hp}:DDs H [] []:=⟨rfl,fun j r xs a=>by simp at a⟩
theorem DDs.snoc {H:Hp}{rs:List Addr}{N:List (List Int)}{r:Addr}{x:List Int}{kvs:List (Key × V)} (h:DDs H rs N) (e:H r=some (.dK kvs)) (q:Rep kvs (cn x)):DDs H (rs++[r]) (N++[x]):=⟨by simp[h.1],fun j r' xs a b=>by
 rcases YeY j rs.length with z | z | z
 ·rw[YaK z] at a;rw[YaK (by rw[<- h.1];exact z)] at b;exact h.2 j r' xs a b
 ·subst z;rw[YaA (Yak _)] at a;rw[h.1,YaA (Yak _)] at b;simp at a b;subst a b;exact⟨kvs,e,q⟩
 ·rw[YbE (by simp;omega)] at a;cases a⟩
theorem DDs.cons {H:Hp}{rs:List Addr}{N:List (List Int)}{r:Addr}{x:List Int}{kvs:List (Key × V)} (h:DDs H rs N) (e:H r=some (.dK kvs)) (q:Rep kvs (cn x)):DDs H (r::rs) (x::N):=⟨by simp[h.1],fun j r' xs a b=>by
 cases j with
 | zero=>simp at a b;subst a b;exact⟨kvs,e,q⟩
 | succ j=>exact h.2 j r' xs (by simpa using a) (by simpa using b)⟩
theorem DDs.tail {H:Hp}{rs:List Addr}{N:List (List Int)}{r:Addr}{x:List Int} (h:DDs H (r::rs) (x::N)):DDs H rs N:=⟨by simpa using h.1,fun j r' xs a b=>h.2 (j+1) r' xs (by simpa using a) (by simpa using b)⟩
theorem DDs.at {H:Hp}{rs:List Addr}{N:List (List Int)}{j:Nat}{r:Addr} (h:DDs H rs N) (e:rs[j]?=some r):∃ xs kvs,N[j]?=some xs/\H r=some (.dK kvs)/\Rep kvs (cn xs):=by
 have hj:=(Yab.mp e).1
 rw[h.1] at hj;have e2:N[j]?=some N[j]:=Yac hj;obtain⟨kvs,a,b⟩:=h.2 j r _ e e2;exact⟨_,kvs,e2,a,b⟩
def Bd (B:Int) (N:List (List Int)):Prop:=∀ xs∈N,∀ m∈xs,0<=m/\m<=B
theorem Bd.mono {B B':Int}{N:List (List Int)} (h:Bd B N) (hb:B<=B'):Bd B' N:=fun xs a m b=>by have:=h xs a m b;omega
theorem Zjv (p:Nat):∀ n:Nat,Bd n (num p n)
 | 0=>fun xs a m b=>by
  rcases Yay.mp (show xs∈[0]::Yaf (p - 1) [] from a) with rfl | h
  ·have:m=0:=by simpa using b
   omega
  ·rw[(Ydp.mp h).2] at b;cases b
 | n+1=>fun xs a m b=>by
  have ih:=Zjv p n;have hf:∀ m∈fstN (num p n),0<=m/\m<=((n+1:Nat):Int):=fun m hm=>by
   unfold fstN at hm;obtain⟨y,hy,rfl⟩:=YaU.mp hm
   cases e:num p n with
   | nil=>rw[e] at hy;cases hy
   | cons c r=>
    rw[e] at hy;have:=ih c (by rw[e];exact YaD) y hy;omega
  rcases Yar.mp (show xs∈((num p n).tail.map (fstN (num p n)++·))++[fstN (num p n)] from a) with h | h
  ·obtain⟨y,hy,rfl⟩:=YaU.mp h;rcases Yar.mp b with b | b
   ·exact hf m b
   ·have:=ih y (List.mem_of_mem_tail hy) m b;omega
  ·rw[YaN.mp h] at b;exact hf m b
theorem Zjw {B:Int}{N:List (List Int)} (h:Bd B N):∀ m,cn N.flatten m≠0->0<=m/\m<=B:=fun m hm=>by
 obtain⟨xs,a,b⟩:=Ycl.mp (cn_ne.mp hm);exact h xs a m b
def pr2 (q:Int × Int):List Int:=[q.1,q.2]
def Zel:Sp:=fun vs H Q _=>∃ p:Nat,vs=[.int p]/\2<=p/\p<=7/\∀ l qs H',H l=none->H' l=some (.lst (qs.map V.ref))->DDs H' qs (num0 p)->Same H H'->Q (.ref l) H'
def Zeo:Sp:=fun vs H Q _=>∃ (a b:Addr) (k1 k2:List (Key × V)) (f g:Int->Int),vs=[.ref a,.ref b]/\H a=some (.dK k1)/\H b=some (.dK k2)/\Rep k1 f/\Rep k2 g/\(∀ m,0<=f m)/\(∀ m,0<=g m)/\(∀ m,f m≠0->0<=m/\m<=400)/\(∀ m,g m≠0->0<=m/\m<=400) /\
 ∀ l kvs H',H l=none->H' l=some (.dK kvs)->Rep kvs (fun m=>f m+g m)->Same H H'->Q (.ref l) H'
def Zei (nx:List (List Int)->List (List Int)):Sp:=fun vs H Q _=>∃ (a:Addr) (rs:List Addr) (N:List (List Int)),vs=[.ref a]/\H a=some (.lst (rs.map V.ref))/\DDs H rs N/\2<=N.length/\N.length<=7/\Bd 399 N /\
 ∀ l qs H',H l=none->H' l=some (.lst (qs.map V.ref))->DDs H' qs (nx N)->Same H H'->Q (.ref l) H'
def ZfN:Sp:=fun vs H Q _=>∃ (a:Addr) (rs:List Addr) (N:List (List Int)),vs=[.ref a]/\H a=some (.lst (rs.map V.ref))/\DDs H rs N/\N.length<=7/\Bd 400 N /\
 ∀ l qs L H',H l=none->H' l=some (.tup (qs.map V.ref))->TTs H' qs (L.map pr2)->SprL L (cn N.flatten)->Same H H'->Q (.ref l) H'
def Zep (fn:Addr) (S:Nat->Nat->List (List Int)):Sp:=fun vs H Q _=>∃ p n:Nat,vs=[.int p,.int n,.ref fn]/\2<=p/\p<=7/\n<=300/\∀ l qs L H',H l=none->H' l=some (.tup (qs.map V.ref))->TTs H' qs (L.map pr2)->SprL L (cn (S p n).flatten)->Same H H'->Q (.ref l) H'
def ZhP (S:Nat->Nat->List (List Int)) (top:Nat):Sp:=fun vs H Q _=>∃ p n:Nat,vs=[.int p,.int n]/\2<=p/\p<=7/\n<=top/\∀ l qs L H',H l=none->H' l=some (.tup (qs.map V.ref))->TTs H' qs (L.map pr2)->SprL L (cn (S p n).flatten)->Same H H'->Q (.ref l) H'
end Lv
namespace L2
open PySem PySem.Spec PyProof.Rows
section
variable {X:Cx}
end
end L2
namespace Lv
open PySem L2
def rl (p n i:Nat):List Int:=(num p n).getD i []
end Lv
namespace Lv
open PySem L2
theorem Zit {p:Nat} (hp:2<=p) (n:Nat):∃ x r,num p n=x::r/\r.length+1=p:=by
 have hl:=Zdh (p:=p) (by omega) n
 cases h:num p n with
 | nil=>rw[h] at hl;simp at hl;omega
 | cons x r=>exact⟨x,r,rfl,by rw[h] at hl;simpa using hl⟩
end Lv
namespace Lv
open PySem L2
section
variable {α:Type}
structure Adds (g:List α->Int):Prop where
 nil:g []=0
 app:∀ a b,g (a++b)=g a+g b
def dt (g:List α->Int):List (List α)->List Int->Int
 | r::rs,n::ns=>n*g r+dt g rs ns
 | _,_=>0
def sg (g:List α->Int) (rs:List (List α)):Int:=(rs.map g).sum
def es:List Int->(Nat->Int)->Int
 | [],_=>0
 | n::ns,h=>(n+1)*h 0+es ns fun j=>h (j+1)
end
def rot {β:Type} (a:Nat) (l:List β):List β:=l.drop a++l.take a
theorem ZlE {β:Type} (a:Nat) (l:List β):(rot a l).length=l.length:=by
 simp[rot];omega
theorem ZlD {β γ:Type} (f:β->γ) (a:Nat) (l:List β):(rot a l).map f=rot a (l.map f):=by simp[rot,List.map_drop,List.map_take]
theorem ZhY {β:Type}{a:Nat}{l:List β}{x:β}:x∈rot a l↔x∈l:=by
 unfold rot;rw[Yar];constructor
 ·rintro (h | h)
  ·exact YbO h
  ·exact Ybe h
 ·intro h;rw[<- YaO a l] at h;rcases Yar.mp h with h | h
  ·exact .inr h
  ·exact .inl h
theorem ZlC {β:Type}{p a:Nat}{l:List β}{v:β} (hl:l.length=p+1) (ha:a<=p):(rot a l).set (p - a) v=rot a (l.set p v):=by
 unfold rot;have h:(l.take a).set p v=l.take a:=List.set_eq_of_length_le (by rw[YaL];(clear hl;omega));rw[List.set_append_left _ _ (by rw[YbG];omega),List.drop_set,List.take_set,if_neg (by (clear hl;omega)),h]
theorem ZhZ {β:Type}{a b:Nat}{l:List β} (h:a+b<=l.length):rot a (rot b l)=rot (a+b) l:=by
 unfold rot;rw[List.drop_append_of_le_length (by rw[YbG];omega),List.take_append_of_le_length (by rw[YbG];omega),List.drop_drop,YaJ];congr 1
 ·congr 1
  (clear h;omega)
 ·rw[show l.take (a+b)=l.take b++(l.drop b).take a by rw[Nat.add_comm,List.take_add]]
theorem ZlG {β:Type}{l:List β}:rot l.length l=rot 0 l:=by simp[rot]
theorem ZlF {β:Type}{p a:Nat}{l:List β} (hl:l.length=p+1) (ha:a<=p):(rot a l)[p - a]?=l[p]?:=by
 unfold rot;rw[YaK (by rw[YbG];omega),Ycw,show a+(p - a)=p by (clear hl;omega)]
theorem Ziu {p:Nat} (hp:2<=p) (n:Nat):∃ x r,num p n=x::r/\r.length+1=p/\num p (n+1)=(r.map (x.map (·+1)++·))++[x.map (·+1)]:=by
 obtain⟨x,r,e,hr⟩:=Zit hp n;refine⟨x,r,e,hr,?_⟩;show ZdC (num p n)=_;rw[e];rfl
end Lv
namespace Lv
open PySem L2
section
variable {S:List Addr}{H H':Hp}{a w:Addr}
end
end Lv
namespace Lv
open PySem L2
section
variable {α:Type}
def ones (RR:List (List (List α))):List (List Int):=RR.map fun R=>R.map fun _=>1
def tl (g:List α->Int) (RR:List (List (List α))):Int:=(RR.map fun R=>sg g R).sum
end
end Lv
namespace L2
open PySem PySem.Spec PyProof.Rows PySem.SeqAt
theorem ZdW {α:Type}:∀ ys:List α,(YaH ys.length).filterMap (ys[·]?)=ys
 | []=>rfl
 | y::ys=>by
  rw[YaY,Yei,YaQ];show y::(List.map Nat.succ (YaH ys.length)).filterMap ((y::ys)[·]?)=_;rw[Ycy];exact congrArg (y::·) (ZdW ys)
theorem ZgS {α β:Type}{f g:α->Option β}:∀ {l:List α},(∀ x∈l,f x=g x)->l.filterMap f=l.filterMap g
 | [],_=>rfl
 | x::l,h=>by rw[YaQ,YaQ,h x (by simp),ZgS fun y hy=>h y (by simp[hy])]
theorem ZdB (its:List Value):slicePick its.toArray none none (some (-1))=its.reverse.toArray:=by
 unfold slicePick;have e1:sliceBounds none none (some (-1)) its.toArray.size=((its.length:Int) - 1,-1,-1):=by
  simp[sliceBounds]
 rw[e1];have e2:sliceRange ((its.length:Int) - 1) (-1) (-1)=(YaH its.length).map fun k=>its.length - 1 - k:=by
  unfold sliceRange;have:(if (its.length:Int) - 1 > -1 then ((its.length:Int) - 1 - (-1) - (-1) - 1) / (-(-1)) else 0).toNat=its.length:=by
   by_cases h:(its.length:Int) - 1 > -1
   ·rw[if_pos h,show (-(-1):Int)=1 by decide,Int.ediv_one]
    (clear h;omega)
   ·rw[if_neg h];omega
  dsimp only;rw[if_neg (by decide),this];apply Ybv;intro k hk;have:=YbL.mp hk
  (clear this;omega)
 show (List.filterMap _ (sliceRange ((its.length:Int) - 1) (-1) (-1))).toArray=_;rw[e2,Ycy];congr 1;have e3:=ZdW its.reverse;rw[Ybw] at e3;rw[<- e3];apply ZgS;intro k hk;have:=YbL.mp hk;show its.toArray[its.length - 1 - k]?=_;rw[List.getElem?_toArray,YcG this]
def ZnW (K:Yae):V->Hp->VK->Prop:=fun x H Q=>∃ a xs,x=.ref a/\SqL K H a xs/\∀ p,H p=none->Q (.ref p) (upd H p (.lst xs.reverse))
def ZmF (K:Yae) (te:TE) (ts:TO):TE:=fun σ H Q=>te σ H fun x H1=>ts σ H1 fun k H2=>k=some (-1)/\ZnW K x H2 Q
section
variable {X:Cx}{e st:Expr}{te:TE}{ts:TO}{pos p2:Pos}
theorem Zfa (he:PE X e te) (hst:PO X (some st) ts):PE X (.Subscript e (.Slice none none (some st) p2) pos) (ZmF X.K te ts):=by
 intro pins s σ H Q I h;refine Subscript_ (thn (he pins s σ H _ I h) fun v s1 ⟨x,H1,I1,r1,q1⟩=>?_);refine wpAny_Slice ?_;rw[evalPart_none];refine wpAny_pure ?_;refine wpAny_pure ?_;refine thn (hst pins s1 σ H1 _ I1 q1) fun vu s3 ⟨u,H3,I3,pu,ek,q3⟩=>?_;subst ek;obtain⟨a,xs,rfl,hx,q⟩:=q3;cases r1;have I4:Inv X pins σ H3 { s3 with heap:=s3.heap.push { cls:=.type "slice",data:=.fields #[.none,.none,vu] } }:=I3.kept (t':=s3.toks) fun b ob q=>Yad _ q;obtain⟨its,r,ht,hz⟩:=I4.list hx;have hlen:=r.length;show wpAny (model X.prog X.w) X.A (subscriptTail e (.Slice none none (some st) p2) (.ref a) (.ref s3.heap.objs.size)) (EP X pins σ Q) X.xe { s3 with heap:=s3.heap.push { cls:=.type "slice",data:=.fields #[.none,.none,vu] } };refine tail_any (ops:=[.ref a,.ref s3.heap.objs.size]) ht.isList.typeIs slot_list_getitem.lookup ?_ (by with_unfolding_all rfl);refine wpAny_getItem_list_slice ht.isList (YdK ..) .none .none pu (by simp) ?_ (by rw[Yal] <;> omega);rw[ZdB];refine⟨.ref (s3.heap.push { cls:=.type "slice",data:=.fields #[.none,.none,vu] }).objs.size,_,I4.laid (t':=s3.toks) (o:=.lst xs.reverse) (fun b ob q=>Yad _ q) (Yak _) ?_,rfl,q _ (I4.hok.fresh (Yak _))⟩;exact⟨by rw[Ybw];(clear hlen;omega),_,0,Vals.reverse r,Yav _ rfl⟩
end
end L2
namespace Lv
open PySem L2
def pre:Int->List Int->List Int
 | _,[]=>[]
 | s,x::r=>(s+x)::pre (s+x) r
end Lv
namespace L2
open PySem PySem.Spec PyProof.Rows PySem.SeqAt
section
variable {X:Cx}
end
end L2
namespace Lv
open PySem L2
def ZbL (N:List (List Int)):List Int:=N.map fun xs=>(xs.length:Int)
def ZnT (r:List (List Int)) (t:Nat):List Int:=r.getD t []
def S (q:Int) (g:Nat->List Int) (a:List Int):Int:=((YaH a.length).map fun t=>((g t).count q:Int)*a.getD t 0).sum
def pot (q:Int):List (List (List Int))->List (List Int)->Int
 | r::R,a::N=>S q (ZnT r) a+pot q R N
 | _,_=>0
end Lv
namespace Lv
open PySem L2
end Lv
namespace Lv
open PySem L2
end Lv
namespace Lv
open PySem L2
theorem LLs.get {H:Hp}{as:List Addr}{Rw:List (List Int)}{x:Addr} (h:LLs H as Rw) (hx:x∈as):∃ xs:List Int,H x=some (.lst (xs.map V.int)):=by
 obtain⟨i,hi,rfl⟩:=Ydi hx;have:=h.1;exact⟨Rw[i]'(by omega),h.2 i _ _ (Yac hi) (Yac (by omega))⟩
end Lv
namespace L2
open PySem PySem.Spec PyProof.Rows PySem.SeqAt
section
variable {X:Cx}{scope:Scope}{own:List Str}{js fr:List Nat}{elt i1 t1 i2 t2:Expr}{f1 f2:List Expr}{wi wi2:TI}{g1 g2:TG}{tt1 tt2:TT}{te:TE}{pos:Pos}
theorem ZjX {i:Nat}{y:Str}{py spos:Pos} (hN:X.N.Nodup) (hy:X.N[i]?=some y) (hyl:X.env.scope.names.lookup y=some .local) (c:CompOk X scope own js) (hc:X.calm=true) (hi:PI X t1 i1 wi) (hgk:Zg0 own fr g1) (hgt:ZfF fr g2)
  (hg:∀ s H C fp pins,PG (X.blk scope own js s H C fp pins) t1 g1) (ht:∀ s H C fp pins,PTs (X.blk scope own js s H C fp pins) f1 tt1) (hi2:∀ s H C fp pins,PI (X.blk scope own js s H C fp pins) t2 i2 wi2)
  (hg2:∀ s H C fp pins,PG (X.blk scope own js s H C fp pins) t2 g2) (ht2:∀ s H C fp pins,PTs (X.blk scope own js s H C fp pins) f2 tt2) (he:∀ s H C fp pins,PE (X.blk scope own js s H C fp pins) elt te)
  (hsw:swapsWith (two elt t1 i1 f1 t2 i2 f2 scope pos) (some (.Name y py)) spos.line X.env=pure true:=by rfl)
  (hs:∀ x,foldedSetIterable i1 X.env x=pure x:=by intro _;rfl) (hs2:∀ env x,foldedSetIterable i2 env x=pure x:=by intro _ _;rfl):PS X (.Assign [.Name y py] (two elt t1 i1 f1 t2 i2 f2 scope pos) spos) (tAsg (ZkS own js wi g1 tt1 wi2 g2 tt2 te) (ZcS i)):=by
 intro pins s σ H D I h;rw[exec_Assign_Name_used _ _ _ _ hsw];refine wpAny_bind (wpAny_standAt (wpAny_bind ?_));show wpAny _ X.A (do let _ <- comprehension (two elt t1 i1 f1 t2 i2 f2 scope pos) scope X.env _ (newList []) false (eval i1 X.env) (some (assign (.Name y py) X.env))) _ _ s;refine wpAny_bind (wpAny_mono (wpAny_comprehension_free (use:=some (assign (.Name y py) X.env)) (Q:=fun _ s'=>SP X pins D .next s') rfl hs (Zbu (c.cl I)) c.kind c.names
  (thn (hi pins s σ H _ I h) fun v s1 h1=>thn h1 fun itv s2 h2=>?_)) (fun _ s' hq=>wpAny_pure (wpAny_pure hq)) fun _ _ e=>e)
 obtain⟨it,fp,tn,J,H2,e,I2,T,st2,f2',hw⟩:=h2;subst e;refine ZgY (Q:=fun x H1=>ZcS i x σ H1 D.nx) (RR:=fun acc C=>compPost (model X.prog X.w) X.A X.xe (some (assign (.Name y py) X.env)) (fun _ s'=>SP X pins D .next s') acc C) c hc hgk hgt hg ht hi2 hg2 ht2 he hs2 I2 T st2 f2' hw ?_;intro acc C H' s' m hCs hCn I' hn q;have hL:C≠X.env.locals:=Ybx (Yaj I2.lt hCs);have hcell:∀ x a,X.env.cells.lookup x=some a->a≠C:=by
  intro x a e z;obtain⟨v,q⟩:=I2.cell x a e;exact absurd (Yaj q.lt (by rw[z];exact hCs)) (Yba _)
 refine wpAny_assign_Name (Zc7 I' hN hy (.inl hyl) (v:=.ref acc) rfl (fun s2 I'' hch=>?_) (.inr hyl));obtain⟨a,sb,ha⟩:=hch;have hCa:C≠a:=by
  rcases ha with rfl | ha
  ·exact hL
  ·exact Ybl (hcell _ _ ha)
 refine⟨m,hn.sameBut sb hCa,fun h' hs'=>⟨_,H',I''.other hs' hCn hL (Ybj I2.sz hCs) hcell ?_,q⟩⟩;intro p hp z;exact absurd (Yaj (Yai (I2.pin p hp).1) (by rw[z];exact hCs)) (Yba _)
end
end L2
namespace L2
open PySem PySem.Spec PyProof.Rows PySem.SeqAt
section
variable {b:Bool}{K:Yae}{g2:TG}{tt2:TT}{te:TE}{τ:St}{H6:Hp}{a acc:Addr}{xs:List V}
end
end L2
namespace Lv
open PySem L2
def intW:V->Int
 | .int i=>i
 | _=>0
def kf (H:Hp) (p:Addr):List Int:=match H p with
 | some (.tup vs)=>vs.map intW
 | _=>[]
theorem Zni {H:Hp}{p:Addr}{k:List Int} (h:H p=some (.tup (k.map V.int))):kf H p=k:=by
 unfold kf;rw[h];show (k.map V.int).map intW=k;rw[Ybc];exact (Ybv fun _ _=>rfl).trans (Ydg k)
def TuM (H:Hp) (ps:List Addr) (ks:List (List Int)):Prop:=(∀ p∈ps,∃ k:List Int,k≠[]/\H p=some (.tup (k.map V.int)))/\ps.map (kf H)=ks
theorem TuM.nil {H:Hp}:TuM H [] []:=⟨fun p hp=>(nomatch hp),rfl⟩
theorem TuM.keep {H H':Hp}{ps:List Addr}{ks:List (List Int)} (h:TuM H ps ks) (k:∀ p∈ps,H' p=H p):TuM H' ps ks:=by
 refine⟨fun p hp=>by rw[k p hp];exact h.1 p hp,?_⟩;rw[<- h.2];refine Ybv fun p hp=>?_;unfold kf;rw[k p hp]
theorem TuM.same {H H':Hp}{ps:List Addr}{ks:List (List Int)} (h:TuM H ps ks) (s:Same H H'):TuM H' ps ks:=h.keep fun p hp=>by
 obtain⟨k,_,e⟩:=h.1 p hp;rw[e,s _ _ e]
theorem TuM.snoc {H:Hp}{ps:List Addr}{ks:List (List Int)}{p:Addr}{k:List Int} (h:TuM H ps ks) (e:H p=some (.tup (k.map V.int))) (hk:k≠[]):TuM H (ps++[p]) (ks++[k]):=by
 refine⟨fun q hq=>?_,by rw[YaM,h.2,Yam,Yb8,Zni e]⟩;rcases Yar.mp hq with hq | hq
 ·exact h.1 q hq
 ·rw[YaN.mp hq];exact⟨k,hk,e⟩
theorem TuM.at {H:Hp}{ps:List Addr}{ks:List (List Int)} (h:TuM H ps ks) {j:Nat}{p:Addr} (e:ps[j]?=some p):∃ k,ks[j]?=some k/\H p=some (.tup (k.map V.int)):=by
 obtain⟨k,_,e2⟩:=h.1 p (Yah e);exact⟨k,by rw[<- h.2,Yag,e,YcL,Zni e2],e2⟩
theorem TuM.len {H:Hp}{ps:List Addr}{ks:List (List Int)} (h:TuM H ps ks):ps.length=ks.length:=by rw[<- h.2,Yaa]
end Lv
namespace L2
open PySem PySem.Spec PyProof.Rows PySem.SeqAt
end L2
namespace Lv
open PySem L2
end Lv
namespace Lv
open PySem L2
def phO (p t:Nat):Int:=((p:Int) - t) % ((p:Int)+1)
def phs (p n:Nat):Nat->List (List Int)
 | 0=>[]
 | t+1=>phs p n t++[[phO p t,hd p (n - 1 - t)]]
theorem Zic (p n:Nat):∀ t,(phs p n t).length=t
 | 0=>rfl
 | t+1=>by rw[phs,Yan,Zic p n t];rfl
end Lv
namespace Lv
open PySem L2
def mxAt:List Int->Nat
 | []=>0
 | x::r=>if r.all (·<=x) then 0 else mxAt r+1
structure IsTop (d:List Int) (r:Nat):Prop where
 lt:r<d.length
 ge:∀ j (h:j<d.length),d[j]<=d[r]
 fst:∀ j (h:j<r),d[j]<d[r]
def Zn7 (c v:List Int):List Int:=YcT (· - ·) c v
def came (p:Nat):Nat->Nat × List Int
 | 0=>(0,Yaf p 0)
 | n+1=>
  let L:=if (came p n).2=cnt p (came p n).1 then (came p n).1+1 else (came p n).1
  let r:=mxAt (Zn7 (cnt p L) (came p n).2)
  (L,(came p n).2.set r ((came p n).2.getD r 0+1))
end Lv
namespace Lv
open PySem L2
end Lv
namespace Lv
open PySem L2
end Lv
namespace Lv
open PySem L2
def fill (x y:Int):List Bool:=Yaf x.toNat false++Yaf y.toNat true
def layB (c v:List Int):List (List Bool):=YcT (fun x y=>fill (x - y) y) c v
def lay (p n:Nat):List (List Bool):=layB (cnt p (came p n).1) (came p n).2
end Lv
namespace L2
open PySem PySem.Spec PyProof.Rows
end L2
namespace Lv
open PySem L2
end Lv
namespace Lv
open PySem L2
def gl (r:List Int):Int:=(r.length:Nat)
def phL (p:Nat):Nat->Nat->List (Int × Int)
 | _,0=>[]
 | t,m+1=>(phO p t,hd p m)::phL p (t+1) m
theorem Zib (p n:Nat):∀ (m t:Nat),t+m=n->phs p n t++(phL p t m).map prT=phs p n n
 | 0,t,h=>by
  have:t=n:=by omega
  rw[phL,Yb8,Ybf,this]
 | m+1,t,h=>by
  rw[<- Zib p n m (t+1) (by omega),phL,phs,Yam,YaJ,Yc8,show n - 1 - t=m by omega];rfl
theorem Zid (p n:Nat):phs p n n=(phL p 0 n).map prT:=by
 rw[<- Zib p n n 0 (by omega)];rfl
theorem Zk1 (p t:Nat):phO p t=((p - t % (p+1):Nat):Int):=by
 unfold phO;have h1:=YeX t (show 0<p+1 by omega);have h2:=Nat.mod_add_div t (p+1);have e:(p:Int) - t=((p - t % (p+1):Nat):Int)+((p:Int)+1)*(-((t / (p+1):Nat):Int)):=by
  have:((p:Int)+1)*(-((t / (p+1):Nat):Int)) = -(((p+1)*(t / (p+1)):Nat):Int):=by
   rw[Int.mul_neg];congr 1
  rw[this]
  (clear this;omega)
 rw[e,Int.add_mul_emod_self_left];exact Int.emod_eq_of_lt (by (clear e h2 h1;omega)) (by (clear e h2 h1;omega))
theorem ZjL (p t:Nat):(t+1) % (p+1)=if t % (p+1)=p then 0 else t % (p+1)+1:=by
 have h1:=YeX t (show 0<p+1 by omega);rw[Nat.add_mod];split
 ·next h=>
  rw[h];by_cases z:p=0
  ·subst z;rfl
  ·rw[YdH (show 1<p+1 by (clear h h1;omega)),Nat.mod_self]
 ·next h=>
  rw[YdH (show 1<p+1 by omega),YdH (by omega)]
end Lv
namespace L2
open PySem PySem.Spec PyProof.Rows PySem.SeqAt
section
variable {prog:Program}{w:World}{A:Around}{E:Value->Shared->Prop}{s:Shared}
end
section
variable {X:Cx}{tg:Expr}
end
end L2
namespace L2
open PySem PySem.Spec PyProof.Rows
section
variable {X:Cx}{tg:Expr}
end
end L2
namespace Lv
open PySem L2
inductive Chain (p:Nat):Int->List Int->List (List Int)->Prop
 | one (m x:Int):Chain p m [x] []
 | step (m:Int) (th T rest:List Int) (L:List (List Int)) (h1:th.Perm (T++rest)) (h2:T≠[]) (h3:T.length<=p) (h:Chain p (m+1) (rest++[m]) L):Chain p m th (T::L)
def pw (p D:Nat) (f:Int->Nat) (xs:List Int):Nat:=(xs.map fun x=>p ^ (D - f x)).sum
inductive Built (p r:Nat):List (List Int)->List Int->Prop
 | nil:Built p r [] ((YaH r).map fun (i:Nat)=>(i:Int))
 | snoc (L:List (List Int)) (th T rest:List Int) (h:Built p r L th) (h1:th.Perm (T++rest)) (h2:T≠[]) (h3:T.length<=p):Built p r (L++[T]) (rest++[((r+L.length:Nat):Int)])
end Lv
namespace L2
open PySem PySem.Spec PyProof.Rows PySem.SeqAt
section
variable {X:Cx}
end
end L2
namespace L2
open PySem PySem.Spec PyProof.Rows PySem.SeqAt
end L2
namespace L2
open PySem PySem.Spec PyProof.Rows PySem.SeqAt
end L2
namespace Lv
open PySem L2
theorem Same.sqB {b:Bool}{K:Yae}{H H':Hp}{a:Addr}{xs:List V} (e:Same H H') (h:SqB b K H a xs):SqB b K H' a xs:=by
 cases b with
 | true=>exact e.seq h
 | false=>exact e.tup h
theorem ZbO {b:Bool}{K:Yae}{own:List Str}{js:List Nat}{g:TG}{te:TE}{σ:L2.St}{H1:Hp}{Q:VK}{a:Addr}{xs:List V} (ys:List V) (hq:SqB b K H1 a xs) (hl:xs.length=ys.length) (hlen:xs.length<=20000)
  (hs:∀ (i:Nat) x y,xs[i]?=some x->ys[i]?=some y->∀ H,Same H1 H->∀ R:VK,(∀ H',Same H H'->R y H')->g x (blkσ own js σ) H fun τ H4=>te τ H4 R)
  (hd:∀ acc H,H1 acc=none->Same H1 H->H acc=some (.lst ys)->Q (.ref acc) H):Za0 own js g ZbH te σ (ItlB b K a) H1 Q:=by
 refine Zcq (b:=b) (K:=K) (a:=a) (xs:=xs) (fun acc i H=>Same H1 H/\H acc=some (.lst (ys.take i))) (fun acc h0=>⟨Same.new h0,Zaa⟩) (fun acc i H h0 _ z=>?_) ?_ ?_
 ·exact Same.sqB z.1 hq
 ·rintro acc i x H h0 hx ⟨s1,hacc⟩;have hi:=(Yab.mp hx).1
  have hy:=Yac (l:=ys) (i:=i) (by (clear hlen;omega));refine (cast ?_ (hs i x _ hx hy H s1 (fun y H6=>∃ zs,H6 acc=some (.lst zs)/\zs.length<sizeLine/\(i+1<=xs.length/\(Same H1 (upd H6 acc (.lst (zs++[y])))/\upd H6 acc (.lst (zs++[y])) acc=some (.lst (ys.take (i+1)))))) fun H' s'=>?_))
  ·unfold ZbH;simp only[if_true]
  ·refine⟨_,s' _ _ hacc,?_,hi,(s1.trans s').put h0,?_⟩
   ·rw[sizeLine_eq,YaL];omega
   ·rw[Zaa,YaI,hy];simp
 ·rintro acc H h0 ⟨s1,hacc⟩;rw[hl,Yaz] at hacc;exact hd acc H h0 s1 hacc
end Lv
namespace L2
open PySem PySem.Spec PyProof.Rows PySem.SeqAt
section
variable {X:Cx}{tg:Expr}
end
end L2
namespace L2
open PySem PySem.Spec PyProof.Rows
section
variable {own:List Str}{js:List Nat}{g:TG}{tt:TT}{te:TE}{σ:L2.St}{H1:Hp}{Q:VK}
theorem Zjj {b1 b2:Bool}{K:Yae}{a b:Addr}{xs ys:List V} (zs:List V) (hq1:SqB b1 K H1 a xs) (hq2:SqB b2 K H1 b ys) (hl:ys.length<=xs.length) (hz:zs.length=ys.length) (hlen:ys.length<=20000)
  (hs:∀ (i:Nat) x y z,xs[i]?=some x->ys[i]?=some y->zs[i]?=some z->∀ p H,Same H1 H->H p=some (.tup [x,y])->∀ R:VK,(∀ H',Same H H'->R z H')->g (.ref p) (blkσ own js σ) H fun τ H4=>te τ H4 R)
  (hd:∀ acc H,H1 acc=none->Same H1 H->H acc=some (.lst zs)->Q (.ref acc) H):Za0 own js g ZbH te σ (ItzB b1 b2 K a b) H1 Q:=by
 refine Zji (xs:=xs) (ys:=ys) hl (fun acc i H=>Same H1 H/\H acc=some (.lst (zs.take i))) (fun acc h0=>⟨Same.new h0,Zaa⟩) (fun acc i H h0 _ z=>⟨Lv.Same.sqB z.1 hq1,Lv.Same.sqB z.1 hq2⟩) ?_ ?_
 ·rintro acc i x y p H h0 hx hy ⟨s1,hacc⟩ hp;have hi:=(Yab.mp hy).1
  have hy':=Yac (l:=zs) (i:=i) (by (clear hlen hl;omega));have s2:Same H (upd H p (.tup [x,y])):=Same.new hp;refine (cast ?_ (hs i x y _ hx hy hy' p _ (s1.trans s2) Zaa (fun y H6=>∃ zs',H6 acc=some (.lst zs')/\zs'.length<sizeLine/\(i+1<=ys.length/\(Same H1 (upd H6 acc (.lst (zs'++[y])))/\upd H6 acc (.lst (zs'++[y])) acc=some (.lst (zs.take (i+1)))))) fun H' s'=>?_))
  ·unfold ZbH;simp only[if_true]
  ·refine⟨_,s' _ _ (s2 _ _ hacc),?_,hi,((s1.trans s2).trans s').put h0,?_⟩
   ·rw[sizeLine_eq,YaL]
    (clear hl;omega)
   ·rw[Zaa,YaI,hy'];simp
 ·rintro acc H h0 ⟨s1,hacc⟩;rw[<- hz,Yaz] at hacc;exact hd acc H h0 s1 hacc
theorem Zb4 {f:Nat->Option V} (i:Nat):(YaH (i+1)).filterMap f=(YaH i).filterMap f++(f i).toList:=by
 rw[List.range_succ,Ydc];cases e:f i <;> simp[e]
theorem ZcO (f:Nat->Option V) (i:Nat):((YaH i).filterMap f).length<=i:=by
 have:=YbR f (YaH i)
 rwa [Yc1] at this
theorem Zjl {lo:Int}{n:Nat} (f:Nat->Option V) (hlen:n<=20000)
  (hs:∀ i,i<n->∀ H,Same H1 H->∀ (A:VK) (B:Hp->Prop),(match f i with | some y=>∀ H',Same H H'->A y H' | none=>∀ H',Same H H'->B H')->g (.int (lo+i)) (blkσ own js σ) H fun τ H4=>tt τ H4 fun c H5=>if c=true then te τ H5 A else B H5)
  (hd:∀ acc H,H1 acc=none->Same H1 H->H acc=some (.lst ((YaH n).filterMap f))->Q (.ref acc) H):Za0 own js g tt te σ (Itr lo n) H1 Q:=by
 refine Zbh (fun acc i H=>Same H1 H/\H acc=some (.lst ((YaH i).filterMap f))) (fun acc h0=>⟨Same.new h0,Zaa⟩) ?_ fun acc H h0 ⟨s1,hacc⟩=>hd acc H h0 s1 hacc;rintro acc i H h0 hi ⟨s1,hacc⟩;refine hs i hi H s1 _ _ ?_;have e:=Zb4 (f:=f) i
 cases ef:f i with
 | none=>
  intro H' s';rw[ef] at e;exact⟨hi,s1.trans s',by rw[e,s' _ _ hacc];simp⟩
 | some y=>
  intro H' s';rw[ef] at e;have:=ZcO f i;exact⟨_,s' _ _ hacc,by rw[sizeLine_eq];omega,hi,(s1.trans s').put h0,by rw[Zaa,e];rfl⟩
theorem Zcp {b:Bool}{K:Yae}{a:Addr}{xs:List V} (f:Nat->Option V) (hq:SqB b K H1 a xs) (hlen:xs.length<=20000)
  (hs:∀ i x,xs[i]?=some x->∀ H,Same H1 H->∀ (A:VK) (B:Hp->Prop),(match f i with | some y=>∀ H',Same H H'->A y H' | none=>∀ H',Same H H'->B H')->g x (blkσ own js σ) H fun τ H4=>tt τ H4 fun c H5=>if c=true then te τ H5 A else B H5)
  (hd:∀ acc H,H1 acc=none->Same H1 H->H acc=some (.lst ((YaH xs.length).filterMap f))->Q (.ref acc) H):Za0 own js g tt te σ (ItlB b K a) H1 Q:=by
 refine Zcq (b:=b) (K:=K) (a:=a) (xs:=xs) (fun acc i H=>Same H1 H/\H acc=some (.lst ((YaH i).filterMap f))) (fun acc h0=>⟨Same.new h0,Zaa⟩) (fun acc i H h0 _ z=>Lv.Same.sqB z.1 hq) ?_ fun acc H h0 ⟨s1,hacc⟩=>hd acc H h0 s1 hacc;rintro acc i x H h0 hx ⟨s1,hacc⟩;have hi:=(Yab.mp hx).1
 refine hs i x hx H s1 _ _ ?_;have e:=Zb4 (f:=f) i
 cases ef:f i with
 | none=>
  intro H' s';rw[ef] at e;exact⟨hi,s1.trans s',by rw[e,s' _ _ hacc];simp⟩
 | some y=>
  intro H' s';rw[ef] at e;have:=ZcO f i;exact⟨_,s' _ _ hacc,by rw[sizeLine_eq];omega,hi,(s1.trans s').put h0,by rw[Zaa,e];rfl⟩
end
theorem ZgA (K:Yae) {X:Cx} (hK:X.K=K:=by rfl):SlR X (rSlL K):=by subst hK;exact Zet
end L2
namespace L2
open PySem PySem.Spec PyProof.Rows
section
variable {own:List Str}{js:List Nat}{g:TG}{te:TE}{σ:St}{H1:Hp}{Q:VK}
end
end L2
namespace L2
open PySem PySem.Spec PyProof.Rows PySem.SeqAt Lv
end L2
namespace L2
open PySem PySem.Spec PyProof.Rows PySem.SeqAt
theorem ZiY {b1 b2:Bool}{K:Yae}{a b:Addr}{xs ys:List V}{g:TG}{tb:TS}{D:Ends}{σ:St}{H:Hp} (hlen:xs.length<=ys.length) (Pv:Nat->St->Hp->Prop) (h0:Pv 0 σ H)
  (hl:∀ i σ H,i<=xs.length->Pv i σ H->SqB b1 K H a xs/\SqB b2 K H b ys)
  (hs:∀ i x y p σ H,xs[i]?=some x->ys[i]?=some y->Pv i σ H->H p=none->g (.ref p) σ (upd H p (.tup [x,y])) fun σ2 H2=>tb { D with nx:=Pv (i+1),ct:=Pv (i+1),bk:=D.nx } σ2 H2) (hd:∀ σ H,Pv xs.length σ H->D.nx σ H) :
  ∃ W:Nat->Nat->St->Hp->Prop,(∃ m,W 0 m σ H)/\∀ i m σ H,W i m σ H ->
   ((ItzB b1 b2 K a b).stop i H/\D.nx σ H)∨((ItzB b1 b2 K a b).go i H/\∃ N:St->Hp->Prop,(∀ σ' H',N σ' H'->∃ m',m'<m/\W (i+1) m' σ' H')/\∀ x H',(ItzB b1 b2 K a b).yld i H x H'->g x σ H' fun σ2 H2=>tb { D with nx:=N,ct:=N,bk:=D.nx } σ2 H2):=by
 refine⟨fun i m σ H=>m=xs.length - i/\i<=xs.length/\Pv i σ H,⟨xs.length,by simp,YaT _,h0⟩,?_⟩;rintro i m σ H ⟨rfl,hi,p⟩;obtain⟨q1,q2⟩:=hl i σ H hi p;by_cases hlt:i<xs.length
 ·have gx:xs[i]?=some xs[i]:=Yac hlt;have gy:ys[i]?=some ys[i]:=Yac (by (clear hi;omega));refine .inr ⟨⟨xs,ys,xs[i],ys[i],q1,q2,gx,gy⟩,Pv (i+1),fun σ' H' z=>⟨xs.length - (i+1),by (clear hi;omega),rfl,hlt,z⟩,fun x H' y=>?_⟩;obtain⟨pa,z,z',hp,e1,e2,y1,y2⟩:=y;subst e1 e2;exact hs i z z' pa σ H (y1 xs q1) (y2 ys q2) p hp
 ·obtain rfl:i=xs.length:=by (clear hlen;omega)
  exact .inl ⟨⟨xs,ys,q1,q2,.inl (Yak _)⟩,hd σ H p⟩
end L2
namespace L2
open PySem PySem.Spec PyProof.Rows
end L2
namespace PySem.AutoSeq1
open PySem PySem.Spec PyProof.Rows
end PySem.AutoSeq1
namespace L2
open PySem PySem.Spec PyProof.Rows
section
variable {X:Cx}
end
end L2
namespace Lv
open PySem L2
theorem Zky (N:List (List Int)):(N.flatten.length:Int)=(ZbL N).sum:=by
 induction N with
 | nil=>rfl
 | cons A N ih=>
  rw[YaS,Yan];show ((A.length+N.flatten.length:Nat):Int)=((A.length:Int)::ZbL N).sum;rw[YaF,<- ih]
  (clear ih;omega)
end Lv
namespace Lv
open PySem L2
def tfst (N:List (List Int)):List Int:=(N.headD []).reverse.map (·+1)
def Zfe (N:List (List Int)):List (List Int):=(N.tail++[[]]).map (·++tfst N)
def tnum (p:Nat):Nat->List (List Int)
 | 0=>num0 p
 | n+1=>Zfe (tnum p n)
theorem ZjI (N:List (List Int)):(tfst N).length=(N.headD []).length:=by simp[tfst]
theorem Zhi (N:List (List Int)):ZbL (Zfe N)=Zbn (ZbL N):=by
 cases N with
 | nil=>simp[Zfe,ZbL,tfst,Zbn]
 | cons A r=>
  simp only[Zfe,ZbL,Zbn,tfst,YdQ,List.tail_cons,YaM,Yam,Yb8,Ybc];congr 1
  ·apply Ybv;intro x _;simp;omega
  ·simp
theorem Za8 {p:Nat} (hp:1<=p):∀ n,ZbL (tnum p n)=cnt p n
 | 0=>by simp[tnum,ZbL,num0,cnt,Zco]
 | n+1=>by rw[tnum,Zhi,Za8 hp n];rfl
theorem ZaM {p:Nat} (hp:1<=p) (n:Nat):(tnum p n).length=p:=by
 have:=congrArg Ycs (Za8 hp n);rw[Zbs hp] at this;simpa[ZbL] using this
theorem ZhB {p:Nat} (hp:1<=p) (n:Nat):((tnum p n).flatten.length:Int)=tot p n:=by
 rw[Zky,Za8 hp];rfl
def Zn6 (r:List (List Int)):List Int:=r.getLastD []
def wr (L:List (List (List Int))):List Int:=(L.map Zn6).flatten
theorem Znv {arr:List Addr} (nd:arr.Nodup) {i j:Nat}{a:Addr} (hi:arr[i]?=some a) (hj:arr[j]?=some a):i=j:=by
 obtain⟨h1,e1⟩:=Yab.mp hi;obtain⟨h2,e2⟩:=Yab.mp hj;rcases YeY i j with z | z | z
 ·exact absurd (e1.trans e2.symm) ((Ycj.mp nd) i j h1 h2 z)
 ·exact z
 ·exact absurd (e2.trans e1.symm) ((Ycj.mp nd) j i h2 h1 z)
end Lv
namespace Lv
open PySem L2
def ZfO:Sp:=fun vs H Q _=>∃ (a:Addr) (rs:List Addr) (N:List (List Int)),vs=[.ref a]/\H a=some (.lst (rs.map V.ref))/\LLs H rs N/\2<=N.length/\N.length<=7/\(∀ xs∈N,xs.length<=4000)/\∀ l qs H',H l=none->H' l=some (.lst (qs.map V.ref))->LLs H' qs (Zfe N)->qs.Nodup->(∀ q∈qs,H q=none/\q≠l)->Same H H'->Q (.ref l) H'
def Zgz:Sp:=fun vs H Q _=>∃ p n:Nat,vs=[.int p,.int n]/\2<=p/\p<=7/\n<=300/\tot p n<=4000/\∀ l qs H',H l=none->H' l=some (.lst (qs.map V.ref))->LLs H' qs (tnum p n)->qs.Nodup->(∀ q∈qs,H q=none/\q≠l)->Same H H'->Q (.ref l) H'
def evB (x:Int):Bool:=decide (x % 2=0)
def upsT (N:List (List Int)):List (List Bool):=N.map fun xs=>xs.map evB
def ZhO:Sp:=fun vs H Q _=>∃ p n:Nat,vs=[.int p,.int n]/\2<=p/\p<=7/\n<=300/\tot p n<=4000/\∀ l qs H',H l=none->H' l=some (.lst (qs.map V.ref))->LBs H' qs (upsT (tnum p n))->qs.Nodup->(∀ q∈qs,H q=none/\q≠l)->Same H H'->Q (.ref l) H'
theorem Zec {p n:Nat} (hp:1<=p) {xs:List Int} (h:xs∈tnum p n):(xs.length:Int)<=tot p n:=by
 have h1:(xs.length:Int)∈ZbL (tnum p n):=YaU.mpr ⟨xs,h,rfl⟩;rw[Za8 hp] at h1;exact Zk8 (ZbC p n).2 h1
theorem ZnC (r0:V) (rr:List V):cutV (r0::rr) (some 1) none=rr:=by
 unfold cutV;show ((r0::rr).drop (HT.sIx (r0::rr).length 0 (some ((1:Nat):Int)))).take (HT.sIx (r0::rr).length (r0::rr).length none - HT.sIx (r0::rr).length 0 (some ((1:Nat):Int)))=_;rw[HT.sIx_nat];rw[show min 1 (r0::rr).length=1 by simp];show rr.take ((r0::rr).length - 1)=_;rw[Ybk (by simp)]
theorem ZbV {qs:List Addr}{q:Addr} (h:qs.Nodup) (hn:q ∉ qs):(qs++[q]).Nodup:=by
 rw[List.nodup_append];refine⟨h,by simp,fun a ha b hb z=>?_⟩;have:b=q:=by simpa using hb
 subst this;subst z;exact hn ha
theorem LLs.none {H:Hp}{qs:List Addr}{N:List (List Int)}{q:Addr} (h:LLs H qs N) (hq:H q=YdA):q ∉ qs:=fun z=>by
 obtain⟨xs,e⟩:=LLs.get h z;rw[e] at hq;cases hq
theorem LBs.get {H:Hp}{as:List Addr}{Rw:List (List Bool)}{x:Addr} (h:LBs H as Rw) (hx:x∈as):∃ xs:List Bool,H x=some (.lst (xs.map V.bl)):=by
 obtain⟨i,hi,rfl⟩:=Ydi hx;have:=h.1;exact⟨Rw[i]'(by omega),h.2 i _ _ (Yac hi) (Yac (by omega))⟩
theorem LBs.none {H:Hp}{qs:List Addr}{N:List (List Bool)}{q:Addr} (h:LBs H qs N) (hq:H q=YdA):q ∉ qs:=fun z=>by
 obtain⟨xs,e⟩:=LBs.get h z;rw[e] at hq;cases hq
def PotT (H:Hp) (p:Addr):Prop:=∃ a b:Int,H p=some (.lst [.int a,.int b])/\0<=b/\b<2147483648
theorem PotT.put {H:Hp}{p q:Addr}{o:HO} (h:PotT H p) (hq:H q=none):PotT (upd H q o) p:=by
 obtain⟨a,b,e,z⟩:=h;exact⟨a,b,by rw[upd_ne (Zae e hq)];exact e,z⟩
theorem PotT.ne {H:Hp}{p q:Addr} (h:PotT H p) (hq:H q=none):q≠p:=by
 obtain⟨a,b,e,_⟩:=h;exact Ybl (Zae e hq)
theorem PotT.same {H H':Hp}{p:Addr} (h:PotT H p) (s:Same H H'):PotT H' p:=by
 obtain⟨a,b,e,z⟩:=h;exact⟨a,b,s p _ e,z⟩
def ZhR (K:Yae):Sp:=fun vs H Q _=>∃ (a:Addr) (ns:List Int) (k:Int),vs=[.ref a,.int k]/\SqL K H a (ns.map V.int)/\0<=k/\k<=1000/\∀ p H',H p=none->PotT H' p->Same H H'->Q (.ref p) H'
def Zcu:Sp:=fun vs H Q _=>∃ p m,vs=[.ref p,.int m]/\PotT H p/\0<m/\YbI m<=8000/\∀ d H',0<=d->d<m->PotT H' p->Sm p H H'->Q (.int d) H'
def ZhT:Sp:=fun vs H Q _=>∃ (pl:Addr) (p:Nat) (m:Int),vs=[.ref pl,.int p,.int m]/\PotT H pl/\2<=p/\p<=7/\1<=m/\m<=4000/\∀ (n:Nat) H',n<24->tot p n<=m->PotT H' pl->Sm pl H H'->Q (.int n) H'
theorem ZnZ:(0:Int)<10 ^ Ydt 60*10 ^ Ydt 60*10 ^ Ydt 60/\YbI ((10:Int) ^ Ydt 60)<=1000/\YbI ((10:Int) ^ Ydt 60*10 ^ Ydt 60)<=1000:=by decide +kernel
end Lv
namespace L2
open PySem PySem.Spec PyProof.Rows PySem.SeqAt
end L2
namespace Fi58
open PySem L2 Lv
def top (i:Nat):Stmt:=PySem.Challenge.pw_fewreels_k58_whole_turned_as_numbered.main.body.getD i (.Pass ⟨0,0,0,0⟩)
abbrev ZdN:Stmt:=top 7
abbrev Zg7:Stmt:=top 12
abbrev ZdS:Stmt:=top 13
abbrev ZdT:Stmt:=top 14
abbrev ZfW:Stmt:=top 15
abbrev ZcA:Stmt:=top 16
abbrev ZdO:Stmt:=top 17
abbrev sTot:Stmt:=top 20
abbrev Zcw:Stmt:=top 21
abbrev Zcz:Stmt:=top 22
abbrev ZcL:Stmt:=top 23
abbrev ZdV:Stmt:=top 24
abbrev ZdR:Stmt:=top 25
abbrev sLN:Stmt:=top 26
abbrev Zcx:Stmt:=top 28
abbrev ZfU:Stmt:=top 30
abbrev ZfT:Stmt:=top 31
abbrev sLPh:Stmt:=top 32
abbrev ZcK:Stmt:=top 34
abbrev ZfV:Stmt:=top 35
abbrev Zg8:Stmt:=top 36
abbrev sLW:Stmt:=top 37
abbrev Zhb:Stmt:=top 38
abbrev Zeu:Stmt:=top 39
abbrev sThT:Stmt:=top 40
abbrev sPhT:Stmt:=top 41
abbrev Zb0:Stmt:=top 42
abbrev Zcy:Stmt:=top 44
abbrev ZdU:Stmt:=top 45
abbrev Zdc:Stmt:=top 46
abbrev ZdQ:Stmt:=top 47
abbrev ZcB:Stmt:=top 48
abbrev Zg9:Stmt:=top 49
abbrev Zbg:Stmt:=top 51
abbrev Zha:Stmt:=top 52
abbrev ZdP:Stmt:=top 53
abbrev Zby:Stmt:=top 54
abbrev ZfX:Stmt:=top 55
abbrev Zbx:Stmt:=top 56
abbrev Za1:Stmt:=top 57
abbrev ZaD:Stmt:=top 58
abbrev Zbf:Stmt:=top 59
abbrev sLaw:Stmt:=top 60
end Fi58
namespace Lv
open PySem L2
abbrev TD:=Option (Bool × List Int)
def TV (Hb H:Hp) (v:V):TD->Prop
 | none=>v=.non
 | some d=>∃ q t:Addr,v=.ref q/\H q=some (.tup [.bl d.1,.ref t])/\H t=some (.lst (d.2.map V.int))/\Hb t=none
theorem TV.same {Hb H H':Hp}{v:V}{d:TD} (h:TV Hb H v d) (s:Same H H'):TV Hb H' v d:=by
 cases d with
 | none=>exact h
 | some d=>
  obtain⟨q,t,e,a,b,c⟩:=h;exact⟨q,t,e,s _ _ a,s _ _ b,c⟩
theorem TV.base {Hb Hc H:Hp}{v:V}{d:TD} (h:TV Hb H v d) (s:∀ a,Hb a=none->Hc a=none):TV Hc H v d:=by
 cases d with
 | none=>exact h
 | some d=>
  obtain⟨q,t,e,a,b,c⟩:=h;exact⟨q,t,e,a,b,s _ c⟩
def TVs (Hb H:Hp) (vs:List V) (ds:List TD):Prop:=vs.length=ds.length/\∀ (i:Nat) v d,vs[i]?=some v->ds[i]?=some d->TV Hb H v d
theorem TVs.same {Hb H H':Hp}{vs:List V}{ds:List TD} (h:TVs Hb H vs ds) (s:Same H H'):TVs Hb H' vs ds:=⟨h.1,fun i v d a b=>(h.2 i v d a b).same s⟩
theorem TVs.base {Hb Hc H:Hp}{vs:List V}{ds:List TD} (h:TVs Hb H vs ds) (s:∀ a,Hb a=none->Hc a=none):TVs Hc H vs ds:=⟨h.1,fun i v d a b=>(h.2 i v d a b).base s⟩
theorem TVs.nil (Hb H:Hp):TVs Hb H [] []:=⟨rfl,fun i v d a=>by simp at a⟩
theorem TVs.cons {Hb H:Hp}{v:V}{d:TD}{vs:List V}{ds:List TD} (h:TV Hb H v d) (t:TVs Hb H vs ds):TVs Hb H (v::vs) (d::ds):=by
 refine⟨by rw[YaY,YaY,t.1],fun i w e a b=>?_⟩
 cases i with
 | zero=>cases a;cases b;exact h
 | succ i=>exact t.2 i w e a b
theorem TVs.uncons {Hb H:Hp}{v:V}{d:TD}{vs:List V}{ds:List TD} (h:TVs Hb H (v::vs) (d::ds)):TV Hb H v d/\TVs Hb H vs ds :=
 ⟨h.2 0 v d rfl rfl,by have:=h.1;simpa using this,fun i w e a b=>h.2 (i+1) w e a b⟩
theorem TVs.take {Hb H:Hp}{vs:List V}{ds:List TD} (h:TVs Hb H vs ds) (m:Nat):TVs Hb H (vs.take m) (ds.take m):=by
 refine⟨by rw[YaL,YaL,h.1],fun i v d a b=>?_⟩;rw[List.getElem?_take] at a b;split at a
 ·rename_i hi;rw[if_pos hi] at b;exact h.2 i v d a b
 ·cases a
theorem TVs.rev {Hb H:Hp}{vs:List V}{ds:List TD} (h:TVs Hb H vs ds):TVs Hb H vs.reverse ds.reverse:=by
 refine⟨by rw[Ybw,Ybw,h.1],fun i v d a b=>?_⟩;have hi:i<vs.length:=by
  have:=(Yab.mp a).1
  rwa [Ybw] at this
 rw[YcG hi] at a;rw[YcG (by rw[<- h.1];exact hi),<- h.1] at b;exact h.2 _ v d a b
theorem TVs.app {Hb H:Hp}:∀ {vs ws:List V}{ds es:List TD},TVs Hb H vs ds->TVs Hb H ws es->TVs Hb H (vs++ws) (ds++es)
 | [],_,[],_,_,h=>h
 | [],_,_::_,_,h,_=>absurd h.1 (by simp)
 | _::_,_,[],_,h,_=>absurd h.1 (by simp)
 | v::vs,ws,d::ds,es,h,g=>TVs.cons h.uncons.1 (TVs.app h.uncons.2 g)
theorem TVs.at {Hb H:Hp}{vs:List V}{ds:List TD} (h:TVs Hb H vs ds) {i:Nat}{v:V} (a:vs[i]?=some v):∃ d,ds[i]?=some d/\TV Hb H v d:=by
 have hi:=(Yab.mp a).1
 have hj:i<ds.length:=by rw[<- h.1];exact hi
 have e:ds[i]?=some ds[i]:=Yac hj;exact⟨_,e,h.2 i v _ a e⟩
def Za6 (ds:List TD):List (Bool × List Int):=ds.filterMap id
def tm (ds:List TD):TD:=match Za6 ds with
 | []=>none
 | d::r=>if d.1 then some (false,(srt ((d::r).map (·.2)).flatten).reverse) else some (true,srt ((d::r).map (·.2)).flatten)
def NoCl (ds:List TD):Prop:=¬ (true∈(Za6 ds).map (·.1)/\false∈(Za6 ds).map (·.1))
def tth (ds:List TD):Int:=((Za6 ds).map fun d=>(d.2.length:Int)).sum
def tkT (D:List (List TD)) (m i:Nat):List TD:=D.filterMap fun r=>(r.reverse.take m)[i]?
def phT (D:List (List TD)) (o m:Nat):List (List TD):=(D.map fun r=>r.take (r.length - m)).set o ((YaH m).map fun i=>tm (tkT D m i))
def rdT (D:List (List TD)) (m:Nat):List Int:=D.map fun r=>tth (r.reverse.take m)
abbrev RT:=Addr × Addr × (Bool × List Int)
def RTok (Hb H:Hp) (r:RT):Prop:=H r.1=some (.tup [.bl r.2.2.1,.ref r.2.1])/\H r.2.1=some (.lst (r.2.2.2.map V.int))/\Hb r.2.1=none
theorem RTok.same {Hb H H':Hp}{r:RT} (h:RTok Hb H r) (s:Same H H'):RTok Hb H' r:=⟨s _ _ h.1,s _ _ h.2.1,h.2.2⟩
def nonV:V->Option V
 | .non=>none
 | v=>some v
theorem TVs.reals {Hb H:Hp}:∀ {vs:List V}{ds:List TD},TVs Hb H vs ds->∃ rs:List RT,vs.filterMap nonV=rs.map (fun r=>V.ref r.1)/\rs.map (·.2.2)=Za6 ds/\∀ r∈rs,RTok Hb H r
 | [],[],_=>⟨[],rfl,rfl,fun r hr=>(nomatch hr)⟩
 | [],_::_,h=>absurd h.1 (by simp)
 | _::_,[],h=>absurd h.1 (by simp)
 | v::vs,d::ds,h=>by
  obtain⟨h1,h2⟩:=h.uncons;obtain⟨rs,a,b,c⟩:=h2.reals
  cases d with
  | none=>
   have:v=.non:=h1;subst this;refine⟨rs,?_,?_,c⟩
   ·rw[YaQ];exact a
   ·rw[b];rfl
  | some d=>
   obtain⟨q,t,rfl,e1,e2,e3⟩:=h1;refine⟨(q,t,d)::rs,?_,?_,fun r hr=>?_⟩
   ·rw[YaQ,Yam,<- a];rfl
   ·rw[Yam,b];rfl
   ·rcases Yay.mp hr with rfl | hr
    ·exact⟨e1,e2,e3⟩
    ·exact c r hr
theorem Zcn {α β:Type} (g:α->Option β):∀ l:List α,(YaH l.length).filterMap (fun j=>l[j]?.bind g)=l.filterMap g
 | []=>rfl
 | x::l=>by
  have ih:=Zcn g l;rw[YaY,Yei,YaQ,Ycy,YaQ];have e:((fun j=>(x::l)[j]?.bind g) ∘ Nat.succ)=fun j=>l[j]?.bind g:=by
   funext j
   simp
  rw[e,ih];simp
def Zlr:Sp:=fun vs H Q _=>∃ (l:Addr) (as:List Addr) (W:List (List V)) (i:Nat),vs=[.ref l,.int i]/\H l=some (.lst (as.map V.ref))/\as.length=W.length/\(∀ (j:Nat) a ws,as[j]?=some a->W[j]?=some ws->H a=some (.lst ws))/\as.length<=20/\∀ a H',H a=none->H' a=some (.lst (W.filterMap (·[i]?)))->Same H H'->Q (.ref a) H'
def Zlt:Sp:=fun vs H Q _=>∃ (l:Addr) (as:List Addr) (N:List (List Int)),vs=[.ref l]/\H l=some (.lst (as.map V.ref))/\LLs H as N/\N.length<=15000/\∀ H',Same H H'->Q (.int (N.map fun xs=>(xs.length:Int)).sum) H'
def ZhU:Sp:=fun vs H Q _=>∃ (v:V) (d:TD),vs=[v]/\TV (fun _=>none) H v d/\∀ v' H',TV H H' v' d->Same H H'->Q v' H'
def ZhS:Sp:=fun vs H Q _=>∃ (l:Addr) (ws:List V) (ds:List TD) (at_:Int),vs=[.ref l,.int at_]/\H l=some (.lst ws)/\TVs (fun _=>none) H ws ds/\ws.length<=20/\NoCl ds/\(((Za6 ds).map (·.2)).flatten).length<=15000/\∀ v H',TV H H' v (tm ds)->Same H H'->Q v H'
def Zls:Sp:=fun vs H Q _=>∃ (l:Addr) (ws:List V) (ds:List TD),vs=[.ref l]/\H l=some (.lst ws)/\TVs (fun _=>none) H ws ds/\ws.length<=15000/\∀ H',Same H H'->Q (.int (tth ds)) H'
end Lv
namespace Fi58
open PySem L2 Lv
section
variable {P:Program}{w:World}{K:Yae}{mg:Str->Option Value}{base:Heap}
theorem ZmS:FnScope ["rows"] ["rows"] (Zac ZfU):=⟨rfl,rfl,rfl,by decide +kernel,rfl,by decide +kernel,by decide +kernel⟩
theorem Zi0 {α β:Type} (f:α->β):∀ l:List α,l.filterMap (fun x=>some (f x))=l.map f
 | []=>rfl
 | x::l=>by rw[YaQ,Yam,<- Zi0 f l]
theorem Zkc {f:Addr}{fd:FuncData} (F:Fun K "things_in" "things_in" ZfU f fd) (T:Txt mg):FnOk P w K mg base CX0 1 f fd ["rows"] Zlt:=by
 refine okW F ZmS (fun vs H Q E h=>?_) (fun cdv A outer s H vs Q E hr h=>?_)
 ·obtain⟨l,as,N,rfl,_⟩:=h;rfl
 ·obtain⟨l,as,N,rfl,hl,hL,h5,k⟩:=h;refine⟨_,(Zax (ws (Zay (Zan (Zcs rfl) rfl T.sum Zgl (Zab (Zaz (own:=["row"]) (js:=[]) (CompOk.by (sc:=Zac ZfU) (N:=["rows"]) rfl rfl (by decide +kernel)) rfl (ZaQ (pv 0)) Zak (fun _ _ _ _ _=>(Zah (i:=0) (by show (["row"]:List Str).Nodup;decide +kernel) rfl (YaG rfl) (.inr rfl))) (fun _ _ _ _ _=>(ZcC (ZdY (Zdg (pv 0))))) (fun _ _ _ _ _=>(Zan (Zbm K) rfl T.len Ybr (Zab (pv 0) Zad)))) Zad))))),?_⟩;have hal:as.length=N.length:=hL.1;refine⟨_,rfl,l,true,rfl,⟨_,SqL.of hl⟩,?_⟩;refine Zcp (b:=true) (K:=K) (a:=l) (xs:=as.map V.ref) (fun i=>N[i]?.bind fun xs=>some (V.int (xs.length:Int))) (SqL.of hl) (by rw[Yaa];omega) (fun i x hx H1 s1 A B hf=>?_) fun acc H1 h0 s1 hacc=>?_
  ·obtain⟨q,hq,rfl⟩:=Zam hx;have hi:=(Yab.mp hq).1
   have hN:N[i]?=some N[i]:=Yac (by (clear h5;omega));rw[hN] at hf;refine⟨_,rfl,_,rfl,iteT ?_⟩;exact⟨_,rfl,q,_,rfl,.inl (SqL.of (s1 _ _ (hL.2 i q _ hq hN))),by rw[Yaa];exact hf H1 (Same.refl _)⟩
  have e:(YaH (as.map V.ref).length).filterMap (fun i=>N[i]?.bind fun xs=>some (V.int (xs.length:Int)))=(N.map fun xs=>(xs.length:Int)).map V.int:=by
   rw[Yaa,hal,Zcn,Zi0,Ybc];rfl
  rw[e] at hacc;exact⟨acc,_,rfl,SqL.of hacc,k H1 s1⟩
theorem ZmR:FnScope ["taken","at"] ["taken","at"] (Zac ZfT):=⟨rfl,rfl,rfl,by decide +kernel,rfl,by decide +kernel,by decide +kernel⟩
theorem Zm8 {f:Addr}{fd:FuncData} (F:Fun K "taken_at" "taken_at" ZfT f fd) (T:Txt mg):FnOk P w K mg base CX0 1 f fd ["taken","at"] Zlr:=by
 refine okW F ZmR (fun vs H Q E h=>?_) (fun cdv A outer s H vs Q E hr h=>?_)
 ·obtain⟨l,as,W,i,rfl,_⟩:=h;rfl
 ·obtain⟨l,as,W,i,rfl,hl,hal,hA,h20,k⟩:=h;refine⟨_,(Zax (ws (Zay (Zaz (own:=["rows"]) (js:=[1]) (CompOk.by (sc:=Zac ZfT) (N:=["taken","at"]) rfl rfl (by decide +kernel)) rfl (ZaQ (pv 0)) Zak (fun _ _ _ _ _=>(Zah (i:=0) (by show (["rows","at"]:List Str).Nodup;decide +kernel) rfl (YaG rfl) (.inr rfl))) (fun _ _ _ _ _=>(ZcC (ZaP Zj7 (pv 1) (Zan (Zbm K) rfl T.len Ybr (Zab (pv 0) Zad)) (ZaV _)))) (fun _ _ _ _ _=>(ZaR (ZeC K) (pv 0) (pv 1) (fun _ _=>rfl))))))),?_⟩;refine⟨_,rfl,l,true,rfl,⟨_,SqL.of hl⟩,?_⟩;refine Zcp (b:=true) (K:=K) (a:=l) (xs:=as.map V.ref) (fun j=>W[j]?.bind (·[i]?)) (SqL.of hl) (by rw[Yaa];(clear hal;omega)) (fun j x hx H1 s1 A B hf=>?_) fun acc H1 h0 s1 hacc=>?_
  ·obtain⟨q,hq,rfl⟩:=Zam hx;have hj:=(Yab.mp hq).1
   have hW:W[j]?=some W[j]:=Yac (by (clear h20;omega));have hw:=s1 _ _ (hA j q _ hq hW);rw[hW] at hf;have hf:(match W[j][i]? with | some y=>∀ H',Same H1 H'->A y H' | none=>∀ H',Same H1 H'->B H'):=hf;refine⟨_,rfl,_,rfl,q,_,rfl,.inl (SqL.of hw),_,_,rfl,rfl,_,rfl,?_⟩;by_cases hi:i<W[j].length
   ·rw[Yac hi] at hf;rw[decide_eq_true (show (i:Int)<(W[j].length:Int) by (clear h20;omega))];exact iteT ⟨_,rfl,_,rfl,q,_,(i:Int),W[j][i],rfl,rfl,SqL.of hw,ZaO (Yac hi),hf H1 (Same.refl _)⟩
   ·rw[YbE (by (clear h20;omega))] at hf;rw[decide_eq_false (show ¬ (i:Int)<(W[j].length:Int) by (clear h20;omega))];exact iteF (hf H1 (Same.refl _))
  rw[Yaa,hal,Zcn] at hacc;exact k acc H1 h0 hacc s1
theorem scCopT:FnScope ["row","up","things"] ["row"] (Zac Zhb):=⟨rfl,rfl,rfl,by decide +kernel,rfl,by decide +kernel,by decide +kernel⟩
theorem Zl5 {f:Addr}{fd:FuncData} (F:Fun K "copied_turned" "copied_turned" Zhb f fd) (T:Txt mg):FnOk P w K mg base CX0 1 f fd ["row"] ZhU:=by
 refine okW F scCopT (fun vs H Q E h=>?_) (fun cdv A outer s H vs Q E hr h=>?_)
 ·obtain⟨v,d,rfl,_⟩:=h;rfl
 ·obtain⟨v,d,rfl,hv,k⟩:=h;refine⟨_,(Zag (Zc1 (ZdY (Zk6 (pv 0)))
   (Zax (ws (Zay Zfb)))
   Zbi)
   (Zag (ws (Zb1 (pv 0) (Zb2 rfl (Zas (Zah (i:=1) scCopT.nd rfl (YaG rfl)) (Zas (Zah (i:=2) scCopT.nd rfl (YaG rfl)) Za5)))))
   (Zax (ws (Zay (Zbo (Zab (pv 1) (Zab (ZaU Zfy rfl T.list ZnD (Zab (pv 2) Zad)) Zad)))))))),?_⟩
  refine⟨_,rfl,_,rfl,?_⟩
  cases d with
  | none=>
   have:v=.non:=hv;subst this;exact iteT (k _ _ rfl (Same.refl _))
  | some d=>
   obtain⟨q,t,rfl,hq,ht,_⟩:=hv;refine iteF ?_;refine⟨_,rfl,q,_,rfl,SqT.of hq,rfl,_,_,rfl,_,_,rfl,rfl,?_⟩;refine⟨_,rfl,_,rfl,t,_,rfl,.inl (SqL.of ht),fun l nl=>⟨(by show 2<=sizeLine;decide),fun a na=>?_⟩⟩;have s1:=Same.new (o:=.lst (d.2.map V.int)) nl;have s2:=Same.new (o:=.tup [V.bl d.1,.ref l]) na;exact k _ _ ⟨a,l,rfl,Zaa,s2 _ _ Zaa,nl⟩ (s1.trans s2)
theorem scMrgT:FnScope ["rows","at","real","ups","things"] ["rows","at"] (Zac Zeu):=⟨rfl,rfl,rfl,by decide +kernel,rfl,by decide +kernel,by decide +kernel⟩
theorem Zn8 {c:Bool}{A B:Prop} (e:c=false) (h:B):if c=true then A else B:=by
 rw[e];exact iteF h
theorem ZnG {c1 c2:Bool}{T B Y:Prop} (e:(c1 && c2)=false) (hT:c2=false->Y->T) (hB:Y->B) (y:Y):if c1=true then T else B:=by
 cases c1 with
 | false=>exact iteF (hB y)
 | true=>exact iteT (hT (by simpa using e) y)
theorem ZiU (b:Bool):∀ bs:List Bool,inV (V.bl b) (bs.map V.bl)=decide (b∈bs)
 | []=>rfl
 | c::bs=>by
  have ih:=ZiU b bs;unfold inV at ih ⊢;rw[Yam,YcM,ih];cases b <;> cases c <;> simp[eqV]
theorem Zl3 {f f1:Addr}{fd d1:FuncData} (F:Fun K "merged_turned" "merged_turned" Zeu f fd) (T:Txt mg) (CM:Cal P w K mg base 1 "merged_row" ["rows"] Zek f1 d1):FnOk P w K mg base CX0 2 f fd ["rows","at"] ZhS:=by
 refine okW F scMrgT (fun vs H Q E h=>?_) (fun cdv A outer s H vs Q E hr h=>?_)
 ·obtain⟨l,wv,ds,at_,rfl,_⟩:=h;rfl
 ·obtain⟨l,wv,ds,at_,rfl,hl,hT,h20,hc,h15,k⟩:=h;have hr1:Room 1 _:=hr.mono (by decide);refine⟨_,(Zag (ws (ZcE (i:=2) scMrgT.nd rfl rfl (own:=["row"]) (js:=[]) (CompOk.by (sc:=Zac Zeu) (N:=["rows","at","real","ups","things"]) rfl rfl (by decide +kernel)) rfl (ZaQ (pv 0)) Zak (fun _ _ _ _ _=>(Zah (i:=0) (by show (["row"]:List Str).Nodup;decide +kernel) rfl (YaG rfl) (.inr rfl))) (fun _ _ _ _ _=>(ZcC (ZdY (Zdg (pv 0))))) (fun _ _ _ _ _=>(pv 0))))
   (Zag (Zc1 (ZdX (ZjU (pv 2) (fun _=>rfl)))
   (Zax (ws (Zay Zfb)))
   Zbi)
   (Zag (ws (ZcE (i:=3) scMrgT.nd rfl rfl (own:=["up","things"]) (js:=[]) (CompOk.by (sc:=Zac Zeu) (N:=["rows","at","real","ups","things"]) rfl rfl (by decide +kernel)) rfl (ZaQ (pv 2)) (ZbN (i:=0) (k:=1) (K:=K)) (fun _ _ _ _ _=>(Zdf K rfl (Zas (Zah (i:=0) (by show (["up","things"]:List Str).Nodup;decide +kernel) rfl (YaG rfl) (.inr rfl)) (Zas (Zah (i:=1) (by show (["up","things"]:List Str).Nodup;decide +kernel) rfl (YaG rfl) (.inr rfl)) Za5)))) (fun _ _ _ _ _=>Zav) (fun _ _ _ _ _=>(pv 0))))
   (Zag (Zc1 (PW.pt (Zh5 (ZaP Zfd Zfc (pv 3) rfl) (ZfZ (ZaP Zfd Zfc (pv 3) rfl))))
   (wss ZaT)
   Zbi)
   (Zag (ws (Zar (i:=4) scMrgT.nd rfl (YaG rfl) (Zao CM hr1 rfl (Zab (Zaz (own:=["up","things"]) (js:=[]) (CompOk.by (sc:=Zac Zeu) (N:=["rows","at","real","ups","things"]) rfl rfl (by decide +kernel)) rfl (ZaQ (pv 2)) (ZbN (i:=0) (k:=1) (K:=K)) (fun _ _ _ _ _=>(Zdf K rfl (Zas (Zah (i:=0) (by show (["up","things"]:List Str).Nodup;decide +kernel) rfl (YaG rfl) (.inr rfl)) (Zas (Zah (i:=1) (by show (["up","things"]:List Str).Nodup;decide +kernel) rfl (YaG rfl) (.inr rfl)) Za5)))) (fun _ _ _ _ _=>Zav) (fun _ _ _ _ _=>(pv 1))) Zad))))
   (Zax (ws (Zay (Zj2 (Ze7 (ZaR ZaA (pv 3) Zaf (fun _ _=>rfl))) (Zbo (Zab Zfc (Zab (Zfa (pv 4) (Za9 (Zie ZeY Zaf))) Zad))) (Zbo (Zab Zfc (Zab (pv 4) Zad)))))))))))),?_⟩
  obtain⟨rs,e1,e2,e3⟩:=hT.reals;have hrl:rs.length<=20:=by
   have h1:=congrArg Ycs e1;rw[Yaa] at h1;have:=YbR nonV wv
   (clear h15;omega)
  refine⟨_,rfl,l,true,rfl,⟨_,SqL.of hl⟩,?_⟩;refine Zcp (b:=true) (K:=K) (a:=l) (xs:=wv) (fun i=>wv[i]?.bind nonV) (SqL.of hl) (by (clear hrl h15;omega)) (fun i x hx H1 s1 A B hf=>?_) fun acc H1 h0 s1 hacc=>?_
  ·rw[hx] at hf;obtain⟨d,_,hv⟩:=hT.at hx;refine⟨_,rfl,_,rfl,?_⟩
   cases d with
   | none=>
    have:x=.non:=hv;subst this;exact iteF (hf H1 (Same.refl _))
   | some d=>
    obtain⟨q,t,rfl,_⟩:=hv;exact iteT ⟨_,rfl,hf H1 (Same.refl _)⟩
  rw[Zcn,e1] at hacc;refine⟨_,rfl,!(rs.map fun r=>V.ref r.1).isEmpty,.inl ⟨_,SqL.of hacc,rfl⟩,?_⟩
  match rs,e2,e3,hrl,hacc with
  | [],e2,_,_,_=>
   refine iteT ?_;have e:tm ds=none:=by
    unfold tm;rw[<- e2];rfl
   refine k _ _ ?_ s1;rw[e];exact rfl
  | r0::rr,e2,e3,hrl,hacc=>
   refine iteF ?_;generalize hrs:r0::rr=rs at e2 e3 hrl hacc;have hne:rs≠[]:=by rw[<- hrs];exact List.cons_ne_nil _ _
   have get:∀ {i:Nat}{x:V},(rs.map fun r=>V.ref r.1)[i]?=some x->∃ r,rs[i]?=some r/\x=.ref r.1:=fun {i x} h=>by
    rw[Yag] at h
    cases e:rs[i]? with
    | none=>rw[e] at h;cases h
    | some r=>rw[e] at h;exact⟨r,rfl,(Yax h).symm⟩
   refine⟨_,rfl,acc,true,rfl,⟨_,SqL.of hacc⟩,?_⟩;refine ZbO (b:=true) (K:=K) ((rs.map fun r=>r.2.2.1).map V.bl) (show SqB true K H1 acc (rs.map fun r=>V.ref r.1) from SqL.of hacc) (by simp) (by rw[Yaa];(clear h15 h20;omega)) (fun i x y hx hy Hc sc Rr hRr=>?_) fun a2 H2 n2 s2 ha2=>?_
   ·obtain⟨r,hr,rfl⟩:=get hx;rw[Yag,Yag,hr] at hy;have hy:some (V.bl r.2.2.1)=some y:=hy;cases hy;have hk:=(e3 r (Yah hr)).same (s1.trans sc);exact⟨r.1,_,rfl,SqT.of hk.1,rfl,_,_,rfl,_,_,rfl,rfl,_,rfl,hRr Hc (Same.refl _)⟩
   have hup:rs.map (fun r=>r.2.2.1)=(Za6 ds).map (·.1):=by rw[<- e2,Ybc];rfl
   have fl:((rs.map fun r=>r.2.2.1).map V.bl).all ZeF=true:=by
    rw[YbH];intro x hx;obtain⟨b,_,rfl⟩:=YaU.mp hx;rfl
   have nc:(inV (V.bl true) ((rs.map fun r=>r.2.2.1).map V.bl) && inV (V.bl false) ((rs.map fun r=>r.2.2.1).map V.bl))=false:=by
    rw[ZiU,ZiU,hup]
    cases h1:decide (true∈(Za6 ds).map (·.1)) with
    | false=>rfl
    | true=>
     cases h2:decide (false∈(Za6 ds).map (·.1)) with
     | false=>rfl
     | true=>exact absurd ⟨of_decide_eq_true h1,of_decide_eq_true h2⟩ hc
   refine⟨_,rfl,a2,_,rfl,.inl (SqL.of ha2),rfl,fl,_,rfl,?_⟩;refine ZnG nc (fun h2 y=>⟨_,rfl,a2,_,rfl,.inl (SqL.of ha2),rfl,fl,_,rfl,Zn8 h2 y⟩) (fun y=>iteF y) ?_;have s12:=s1.trans s2;have hacc2:=s2 _ _ hacc;refine⟨_,rfl,acc,true,rfl,⟨_,SqL.of hacc2⟩,?_⟩;refine ZbO (b:=true) (K:=K) ((rs.map fun r=>r.2.1).map V.ref) (show SqB true K H2 acc (rs.map fun r=>V.ref r.1) from SqL.of hacc2) (by simp) (by rw[Yaa];(clear h15 h20;omega)) (fun i x y hx hy Hc sc Rr hRr=>?_) fun a3 H3 n3 s3 ha3=>?_
   ·obtain⟨r,hr,rfl⟩:=get hx;rw[Yag,Yag,hr] at hy;have hy:some (V.ref r.2.1)=some y:=hy;cases hy;have hk:=(e3 r (Yah hr)).same (s12.trans sc);exact⟨r.1,_,rfl,SqT.of hk.1,rfl,_,_,rfl,_,_,rfl,rfl,_,rfl,hRr Hc (Same.refl _)⟩
   have s13:=s12.trans s3;have hLL:LLs H3 (rs.map fun r=>r.2.1) (rs.map fun r=>r.2.2.2):=by
    refine⟨by rw[Yaa,Yaa],fun j a xs h1 h2=>?_⟩;rw[Yag] at h1 h2
    cases e:rs[j]? with
    | none=>rw[e] at h1;cases h1
    | some r=>
     rw[e] at h1 h2;cases h1;cases h2;exact ((e3 r (Yah e)).same s13).2.1
   have hN:rs.map (fun r=>r.2.2.2)=(Za6 ds).map (·.2):=by rw[<- e2,Ybc];rfl
   refine⟨a3,_,_,rfl,RwS.of ha3 hLL,?_,fun l4 ms H4 nl4 hl4 hp hs s4=>?_⟩
   ·have:(lenN (rs.map fun r=>r.2.2.2)).sum=((rs.map fun r=>r.2.2.2).flatten).length:=by unfold lenN;rw[Ydh]
    rw[this,hN];exact h15
   have ems:=ZbE hp hs;have ha24:=s4 _ _ (s3 _ _ ha2);have s14:=s13.trans s4;have e:tm ds=if r0.2.2.1 then some (false,ms.reverse) else some (true,ms):=by
    have e0:Za6 ds=r0.2.2::rr.map (·.2.2):=by rw[<- e2,<- hrs];rfl
    unfold tm;rw[e0,ems,hN,e0]
   refine⟨_,rfl,a2,_,0,.bl r0.2.2.1,rfl,rfl,SqL.of ha24,by rw[<- hrs];exact ZaO (xs:=((r0::rr).map fun r=>r.2.2.1).map V.bl) (j:=0) rfl,_,rfl,?_⟩
   cases hu:r0.2.2.1 with
   | true=>
    rw[hu] at e;refine iteT ⟨_,rfl,1,rfl,_,rfl,rfl,l4,_,rfl,SqL.of hl4,fun lr nlr=>⟨(by show 2<=sizeLine;decide),fun q nq=>?_⟩⟩;rw[<- Ycm] at nq ⊢;have s5:=Same.new (o:=.lst (ms.reverse.map V.int)) nlr;have s6:=Same.new (o:=.tup [V.bl false,.ref lr]) nq;refine k _ _ ?_ ((s14.trans s5).trans s6);rw[e];exact⟨q,lr,rfl,Zaa,s6 _ _ Zaa,s14.free nlr⟩
   | false=>
    rw[hu] at e;refine iteF ⟨_,rfl,(by show 2<=sizeLine;decide),fun q nq=>?_⟩;have s6:=Same.new (o:=.tup [V.bl true,.ref l4]) nq;refine k _ _ ?_ (s14.trans s6);rw[e];exact⟨q,l4,rfl,Zaa,s6 _ _ hl4,s13.free nl4⟩
theorem ZnR:FnScope ["rows"] ["rows"] (Zac sThT):=⟨rfl,rfl,rfl,by decide +kernel,rfl,by decide +kernel,by decide +kernel⟩
def thV (H:Hp):V->Option V
 | .ref q=>match H q with
  | some (.tup [_,y])=>some y
  | _=>none
 | _=>none
theorem ZhF {H:Hp}{q:Addr}{x y:V} (h:H q=some (.tup [x,y])):thV H (.ref q)=some y:=by
 show (match H q with | some (.tup [_,y])=>some y | _=>none)=some y;rw[h]
theorem Zew {H:Hp}:∀ {vs:List V}{ds:List TD}{rs:List RT},TVs (fun _=>none) H vs ds->vs.filterMap nonV=rs.map (fun r=>V.ref r.1)->(∀ r∈rs,RTok (fun _=>none) H r)->vs.filterMap (thV H)=(rs.map fun r=>r.2.1).map V.ref
 | [],_,[],_,_,_=>rfl
 | [],_,r::rs,_,e,_=>by simp at e
 | v::vs,[],_,h,_,_=>absurd h.1 (by simp)
 | v::vs,none::ds,rs,h,e,hr=>by
  have:v=.non:=h.uncons.1;subst this;rw[YaQ] at e ⊢;exact Zew h.uncons.2 e hr
 | v::vs,some d::ds,rs,h,e,hr=>by
  obtain⟨q,t,rfl,hq,ht,_⟩:=h.uncons.1;rw[YaQ] at e;have e:V.ref q::vs.filterMap nonV=rs.map (fun r=>V.ref r.1):=e
  cases rs with
  | nil=>simp at e
  | cons r rs=>
   rw[Yam] at e;injection e with e1 e2;injection e1 with e1;have ih:=Zew h.uncons.2 e2 fun x hx=>hr x (YaC _ hx);have h1:=(hr r YaD).1
   rw[<- e1,hq] at h1;injection h1 with h1;injection h1 with h1;injection h1 with _ h1;injection h1 with h1 _;injection h1 with h1;rw[YaQ,ih,Yam,Yam,<- h1];have e9:thV H (V.ref q)=some (.ref t):=ZhF hq;rw[e9]
theorem Zm9 {f f1:Addr}{fd d1:FuncData} (F:Fun K "things_turned" "things_turned" sThT f fd) (T:Txt mg) (CI:Cal P w K mg base 1 "things_in" ["rows"] Zlt f1 d1):FnOk P w K mg base CX0 2 f fd ["rows"] Zls:=by
 refine okW F ZnR (fun vs H Q E h=>?_) (fun cdv A outer s H vs Q E hr h=>?_)
 ·obtain⟨l,wv,ds,rfl,_⟩:=h;rfl
 ·obtain⟨l,wv,ds,rfl,hl,hT,h15,k⟩:=h;have hr1:Room 1 _:=hr.mono (by decide);refine⟨_,(Zax (ws (Zay (Zao CI hr1 rfl (Zab (Zaz (own:=["row"]) (js:=[]) (CompOk.by (sc:=Zac sThT) (N:=["rows"]) rfl rfl (by decide +kernel)) rfl (ZaQ (pv 0)) Zak (fun _ _ _ _ _=>(Zah (i:=0) (by show (["row"]:List Str).Nodup;decide +kernel) rfl (YaG rfl) (.inr rfl))) (fun _ _ _ _ _=>(ZcC (ZdY (Zdg (pv 0))))) (fun _ _ _ _ _=>(ZaR (Zmb K) (pv 0) Zaf (fun _ _=>rfl)))) Zad))))),?_⟩;obtain⟨rs,e1,e2,e3⟩:=hT.reals;have hrl:rs.length<=15000:=by
   have h1:=congrArg Ycs e1;rw[Yaa] at h1;have:=YbR nonV wv;omega
  refine⟨_,rfl,l,true,rfl,⟨_,SqL.of hl⟩,?_⟩;refine Zcp (b:=true) (K:=K) (a:=l) (xs:=wv) (fun i=>wv[i]?.bind (thV H)) (SqL.of hl) (by (clear hrl;omega)) (fun i x hx H1 s1 A B hf=>?_) fun acc H1 h0 s1 hacc=>?_
  ·rw[hx] at hf;obtain⟨d,_,hv⟩:=hT.at hx;refine⟨_,rfl,_,rfl,?_⟩
   cases d with
   | none=>
    have:x=.non:=hv;subst this;exact iteF (hf H1 (Same.refl _))
   | some d=>
    obtain⟨q,t,rfl,hq,ht,_⟩:=hv;have e:thV H (V.ref q)=some (.ref t):=ZhF hq;have hf:(match thV H (V.ref q) with | some y=>∀ H',Same H1 H'->A y H' | none=>∀ H',Same H1 H'->B H'):=hf;rw[e] at hf;exact iteT ⟨_,rfl,q,_,1,.ref t,rfl,rfl,SqT.of (s1 _ _ hq),rfl,hf H1 (Same.refl _)⟩
  rw[Zcn,Zew hT e1 e3] at hacc;have hLL:LLs H1 (rs.map fun r=>r.2.1) (rs.map fun r=>r.2.2.2):=by
   refine⟨by rw[Yaa,Yaa],fun j a xs h1 h2=>?_⟩;rw[Yag] at h1 h2
   cases e:rs[j]? with
   | none=>rw[e] at h1;cases h1
   | some r=>
    rw[e] at h1 h2;cases h1;cases h2;exact ((e3 r (Yah e)).same s1).2.1
  refine⟨acc,_,_,rfl,hacc,hLL,by rw[Yaa];(clear h15;omega),fun H2 s2=>?_⟩;have e:((rs.map fun r=>r.2.2.2).map fun xs=>(xs.length:Int)).sum=tth ds:=by
   unfold tth;rw[<- e2,Ybc,Ybc];rfl
  rw[e];exact k H2 (s1.trans s2)
end
end Fi58
namespace Lv
open PySem L2
def wT (g:List Int->Int):TD->Int
 | none=>0
 | some d=>g d.2
structure WT (h:TD->Int):Prop where
 non:h none=0
 tm:∀ ds,h (tm ds)=(ds.map h).sum
theorem ZeV {g:List Int->Int} (hg:Adds g):∀ ds:List TD,(ds.map (wT g)).sum=g ((Za6 ds).map (·.2)).flatten
 | []=>hg.nil.symm
 | none::ds=>by
  have ih:=ZeV hg ds;rw[Yam,YaF,ih];show 0+_=g ((Za6 ds).map (·.2)).flatten;rw[Ycc]
 | some d::ds=>by
  have ih:=ZeV hg ds;rw[Yam,YaF,ih];show g d.2+g ((Za6 ds).map (·.2)).flatten=g (d.2++((Za6 ds).map (·.2)).flatten);rw[hg.app]
theorem Zmx {g:List Int->Int} (hg:Adds g) (hp:∀ a b:List Int,a.Perm b->g a=g b):WT (wT g):=⟨rfl,fun ds=>by
 rw[ZeV hg];unfold tm
 cases e:Za6 ds with
 | nil=>exact hg.nil.symm
 | cons d r=>
  dsimp only;split
  ·exact hp _ _ ((YcD _).trans (ZaH _))
  ·exact hp _ _ (ZaH _)⟩
def gl58 (xs:List Int):Int:=(xs.length:Int)
theorem Zdp:Adds gl58:=⟨rfl,fun a b=>by unfold gl58;rw[Yan];omega⟩
def lenT:TD->Int:=wT gl58
theorem lenT_ok:WT lenT:=Zmx Zdp fun a b h=>by unfold gl58;rw[h.length_eq]
def gc58 (x:Int) (xs:List Int):Int:=(xs.count x:Int)
theorem Zcm (x:Int):Adds (gc58 x):=⟨rfl,fun a b=>by unfold gc58;rw[YeU];omega⟩
theorem Zjo (x:Int):WT (wT (gc58 x)):=Zmx (Zcm x) fun a b h=>by unfold gc58;rw[h.count_eq]
def dtT (h:TD->Int):List TD->List Int->Int
 | d::ds,n::ns=>n*h d+dtT h ds ns
 | _,_=>0
def ptT (h:TD->Int):List (List TD)->List (List Int)->Int
 | ds::D,ws::W=>dtT h ds ws+ptT h D W
 | _,_=>0
def ez:List Int->(Nat->Int)->Int
 | [],_=>0
 | n::ns,k=>n*k 0+ez ns fun j=>k (j+1)
theorem Zlc:∀ (ns:List Int) (h k:Nat->Int),ez ns (fun j=>h j+k j)=ez ns h+ez ns k
 | [],_,_=>rfl
 | n::ns,h,k=>by
  rw[ez,ez,ez,Zlc ns (fun j=>h (j+1)) fun j=>k (j+1),Int.mul_add];omega
theorem Zgb:∀ ns:List Int,ez ns (fun _=>0)=0
 | []=>rfl
 | n::ns=>by rw[ez,Zgb ns];omega
theorem ZeG:∀ (ns:List Int) (h k:Nat->Int),(∀ j,j<ns.length->h j=k j)->ez ns h=ez ns k
 | [],_,_,_=>rfl
 | n::ns,h,k,e=>by
  rw[ez,ez,e 0 (by simp),ZeG ns (fun j=>h (j+1)) (fun j=>k (j+1)) fun j hj=>e (j+1) (by simpa using hj)]
theorem Zi6 {h:TD->Int} (h0:h none=0):∀ (ds:List TD) (ns:List Int),dtT h ds ns=ez ns fun j=>h (ds.getD j none)
 | [],ns=>by
  have e:(fun j:Nat=>h (([]:List TD).getD j none))=fun _=>(0:Int):=funext fun j=>by simpa using h0
  rw[e,Zgb];cases ns <;> rfl
 | d::ds,[]=>rfl
 | d::ds,n::ns=>by
  rw[dtT,ez,Zi6 h0 ds ns];rfl
theorem colT {h:TD->Int} (h0:h none=0) (A:List Int):∀ T:List (List TD),(T.map fun r=>dtT h r A).sum=ez A fun j=>((T.filterMap (·[j]?)).map h).sum
 | []=>by
  have e:(fun j:Nat=>((([]:List (List TD)).filterMap (·[j]?)).map h).sum)=fun _=>(0:Int):=rfl;rw[e,Zgb];rfl
 | r::T=>by
  rw[Yam,YaF,colT h0 A T,Zi6 h0,<- Zlc];refine ZeG A _ _ fun j _=>?_;rw[YaQ,Yao]
  cases r[j]? with
  | none=>show h none+_=_;rw[h0,Ycc]
  | some d=>show h d+_=_;rw[Yam,YaF]
theorem newT {h:TD->Int} (hh:WT h) (A:List Int) (T:List (List TD)):dtT h ((YaH A.length).map fun i=>tm (T.filterMap (·[i]?))) A=(T.map fun r=>dtT h r A).sum:=by
 rw[colT hh.non,Zi6 hh.non];refine ZeG A _ _ fun j hj=>?_;rw[Yao,Yag,YbW hj];exact hh.tm _
theorem Zi5 (h:TD->Int):∀ (ds:List TD) (A:List Int),ds.length<=A.length->dtT h ds (A.map (·+1))=dtT h ds A+(ds.map h).sum
 | [],A,_=>by cases A <;> rfl
 | d::ds,[],z=>by simp at z
 | d::ds,n::ns,z=>by
  rw[Yam,dtT,dtT,Zi5 h ds ns (by simpa using z),Yam,YaF,Int.add_mul]
  (clear z;omega)
theorem Zgd (h:TD->Int):∀ (ds:List TD) (m:Nat),ds.length<=m->dtT h ds (Yaf m 1)=(ds.map h).sum
 | [],m,_=>by cases m <;> rfl
 | d::ds,0,z=>by simp at z
 | d::ds,m+1,z=>by
  rw[Ybh,dtT,Zgd h ds m (by simpa using z),Yam,YaF]
  (clear z;omega)
theorem ZeJ (h:TD->Int):∀ {a b:List TD}{x y:List Int},a.length=x.length->dtT h (a++b) (x++y)=dtT h a x+dtT h b y
 | [],b,[],y,_=>by show dtT h b y=0+_;rw[Ycc]
 | [],_,_::_,_,z=>by simp at z
 | _::_,_,[],_,z=>by simp at z
 | d::a,b,n::x,y,z=>by
  rw[Ycn,Ycn,dtT,dtT,ZeJ h (by simpa using z)]
  (clear z;omega)
theorem Zi4 (h:TD->Int):∀ (a:List TD) (x:List Int),a.length=x.length->dtT h a.reverse x.reverse=dtT h a x
 | [],[],_=>rfl
 | [],_::_,z=>by simp at z
 | _::_,[],z=>by simp at z
 | d::a,n::x,z=>by
  have z':a.length=x.length:=by simpa using z
  rw[YbC,YbC,ZeJ h (by rw[Ybw,Ybw];exact z'),Zi4 h a x z',dtT,dtT];have e:dtT h [] []=0:=rfl;rw[e]
  (clear e z' z;omega)
def dirT (up:Bool) (xs:List Int):List Int:=if up then srt xs else (srt xs).reverse
def GdT (fl:Bool) (d:TD) (x:Int):Prop:=∀ e,d=some e->e.1=(evB x != fl)/\e.2=dirT e.1 e.2
def GdR (fl:Bool):List TD->List Int->Prop
 | [],[]=>True
 | d::ds,x::xs=>GdT fl d x/\GdR fl ds xs
 | _,_=>False
def GdD (fl:Bool):List (List TD)->List (List Int)->Prop
 | [],[]=>True
 | d::ds,x::xs=>GdR fl d x/\GdD fl ds xs
 | _,_=>False
theorem GdR.len {fl:Bool}:∀ {ds:List TD}{xs:List Int},GdR fl ds xs->ds.length=xs.length
 | [],[],_=>rfl
 | [],_::_,h=>h.elim
 | _::_,[],h=>h.elim
 | d::ds,x::xs,h=>by rw[YaY,YaY,GdR.len h.2]
theorem GdD.len {fl:Bool}:∀ {ds:List (List TD)}{xs:List (List Int)},GdD fl ds xs->ds.length=xs.length
 | [],[],_=>rfl
 | [],_::_,h=>h.elim
 | _::_,[],h=>h.elim
 | d::ds,x::xs,h=>by rw[YaY,YaY,GdD.len h.2]
theorem GdR.app {fl:Bool}:∀ {a b:List TD}{x y:List Int},GdR fl a x->GdR fl b y->GdR fl (a++b) (x++y)
 | [],_,[],_,_,k=>k
 | [],_,_::_,_,h,_=>h.elim
 | _::_,_,[],_,h,_=>h.elim
 | d::a,b,n::x,y,h,k=>⟨h.1,GdR.app h.2 k⟩
theorem GdR.rev {fl:Bool}:∀ {a:List TD}{x:List Int},GdR fl a x->GdR fl a.reverse x.reverse
 | [],[],_=>trivial
 | [],_::_,h=>h.elim
 | _::_,[],h=>h.elim
 | d::a,n::x,h=>by
  rw[YbC,YbC];exact GdR.app (GdR.rev h.2) ⟨h.1,trivial⟩
theorem GdR.split {fl:Bool}:∀ {ds:List TD}{x y:List Int},GdR fl ds (x++y)->∃ c t,ds=c++t/\GdR fl c x/\GdR fl t y
 | ds,[],y,h=>⟨[],ds,rfl,trivial,h⟩
 | [],x::xs,y,h=>h.elim
 | d::ds,x::xs,y,h=>by
  obtain⟨c,t,rfl,a,b⟩:=GdR.split (x:=xs) (y:=y) h.2;exact⟨d::c,t,rfl,⟨h.1,a⟩,b⟩
theorem GdR.at {fl:Bool}:∀ {ds:List TD}{xs:List Int},GdR fl ds xs->∀ {i:Nat}{d:TD},ds[i]?=some d->∃ x,xs[i]?=some x/\GdT fl d x
 | [],[],_,i,d,e=>by simp at e
 | [],_::_,h,_,_,_=>h.elim
 | _::_,[],h,_,_,_=>h.elim
 | d::ds,x::xs,h,0,e,z=>by cases z;exact⟨x,rfl,h.1⟩
 | d::ds,x::xs,h,i+1,e,z=>GdR.at h.2 (i:=i) (by simpa using z)
theorem GdR.of {fl:Bool}:∀ {ds:List TD}{xs:List Int},ds.length=xs.length->(∀ (i:Nat) d x,ds[i]?=some d->xs[i]?=some x->GdT fl d x)->GdR fl ds xs
 | [],[],_,_=>trivial
 | [],_::_,z,_=>by simp at z
 | _::_,[],z,_=>by simp at z
 | d::ds,x::xs,z,h=>⟨h 0 d x rfl rfl,GdR.of (by simpa using z) fun i e y a b=>h (i+1) e y (by simpa using a) (by simpa using b)⟩
theorem GdD.at {fl:Bool}:∀ {ds:List (List TD)}{xs:List (List Int)},GdD fl ds xs->∀ {i:Nat}{d:List TD},ds[i]?=some d->∃ x,xs[i]?=some x/\GdR fl d x
 | [],[],_,i,d,e=>by simp at e
 | [],_::_,h,_,_,_=>h.elim
 | _::_,[],h,_,_,_=>h.elim
 | d::ds,x::xs,h,0,e,z=>by cases z;exact⟨x,rfl,h.1⟩
 | d::ds,x::xs,h,i+1,e,z=>GdD.at h.2 (i:=i) (by simpa using z)
theorem GdD.set {fl:Bool}:∀ {D:List (List TD)}{W:List (List Int)} (i:Nat) {ds:List TD}{ws:List Int},GdD fl D W->GdR fl ds ws->GdD fl (D.set i ds) (W.set i ws)
 | [],[],_,_,_,_,_=>trivial
 | [],_::_,_,_,_,h,_=>h.elim
 | _::_,[],_,_,_,h,_=>h.elim
 | d::D,w::W,0,_,_,h,k=>⟨k,h.2⟩
 | d::D,w::W,i+1,_,_,h,k=>⟨h.1,GdD.set i h.2 k⟩
theorem Zh6 (h:TD->Int):∀ {D:List (List TD)}{W:List (List Int)}{i:Nat}{ds:List TD}{ws:List Int},D.length=W.length->D[i]?=some []->W[i]?=some []->ptT h (D.set i ds) (W.set i ws)=ptT h D W+dtT h ds ws
 | [],_,_,_,_,_,e,_=>by simp at e
 | _::_,[],_,_,_,z,_,_=>by simp at z
 | d::D,w::W,0,ds,ws,_,e,k=>by
  cases e;cases k;show dtT h ds ws+ptT h D W=0+ptT h D W+dtT h ds ws;omega
 | d::D,w::W,i+1,ds,ws,z,e,k=>by
  show dtT h d w+ptT h (D.set i ds) (W.set i ws)=dtT h d w+ptT h D W+dtT h ds ws;rw[Zh6 h (by simpa using z) (by simpa using e) (by simpa using k)]
  (clear z;omega)
def cutT {α:Type} (f:Nat) (l:List α):List α:=l.take (l.length - f)
def Shp (A:List Int) (ws:List Int):Prop:=ws=[]∨∃ w,ws=w++(A.map (·+1)).reverse
theorem ZeM {α:Type}{f:Nat}:cutT f ([]:List α)=[]:=List.take_nil
theorem ZjR {fl:Bool}{ds:List TD}{w A:List Int} (h:GdR fl ds (w++(A.map (·+1)).reverse)):GdR fl (cutT A.length ds) w/\GdR fl (ds.reverse.take A.length) (A.map (·+1))/\∀ hh:TD->Int,dtT hh ds (w++(A.map (·+1)).reverse)=dtT hh (cutT A.length ds) w+dtT hh (ds.reverse.take A.length) (A.map (·+1)):=by
 obtain⟨c,t,rfl,hc,ht⟩:=h.split;have l1:=hc.len;have l2:=ht.len;have l3:t.length=A.length:=by simpa using l2
 have e1:cutT A.length (c++t)=c:=by
  unfold cutT;rw[Yan,show c.length+t.length - A.length=c.length by (clear l2 l1;omega),YcX]
 have e2:(c++t).reverse.take A.length=t.reverse:=by
  rw[Ycr,<- l3,<- Ybw (as:=t),YcX]
 rw[e1,e2];refine⟨hc,by have:=ht.rev;rwa [Yex] at this,fun hh=>?_⟩;rw[ZeJ hh l1,<- Zi4 hh t ((A.map (·+1)).reverse) l2,Yex]
theorem Zmm {w A:List Int}:cutT A.length (w++(A.map (·+1)).reverse)=w:=by
 unfold cutT;rw[Yan,Ybw,Yaa,Nat.add_sub_cancel,YcX]
theorem Ze8 {fl:Bool}{A:List Int}:∀ {D:List (List TD)}{W:List (List Int)},GdD fl D W->(∀ ws∈W,Shp A ws)->GdD fl (D.map (cutT A.length)) (W.map (cutT A.length))/\(∀ ds∈D,GdR fl (ds.reverse.take A.length) (A.map (·+1))∨ds=[])/\∀ h:TD->Int,ptT h D W=ptT h (D.map (cutT A.length)) (W.map (cutT A.length))+(D.map fun ds=>dtT h (ds.reverse.take A.length) (A.map (·+1))).sum
 | [],[],_,_=>⟨trivial,fun _ z=>by simp at z,fun h=>rfl⟩
 | [],_::_,h,_=>h.elim
 | _::_,[],h,_=>h.elim
 | d::D,w::W,g,s=>by
  obtain⟨i1,i2,i3⟩:=Ze8 g.2 fun ws hw=>s ws (YaC _ hw);rcases s w YaD with rfl | ⟨v,rfl⟩
  ·have hd:d=[]:=YbV.mp g.1.len;subst hd;refine⟨⟨by rw[ZeM,ZeM];trivial,i1⟩,fun ds hds=>?_,fun h=>?_⟩
   ·rcases Yay.mp hds with rfl | z
    ·exact .inr rfl
    ·exact i2 ds z
   ·have e9:dtT h [] []=0:=rfl;have e:dtT h (([]:List TD).reverse.take A.length) (A.map (·+1))=0:=by rw[YcJ,List.take_nil];cases A <;> rfl
    rw[Yam,Yam,Yam,YaF,ptT,ptT,ZeM,ZeM,e,e9,i3 h]
    (clear e e9;omega)
  ·obtain⟨j1,j2,j3⟩:=ZjR g.1;refine⟨⟨by rw[Zmm];exact j1,i1⟩,fun ds hds=>?_,fun h=>?_⟩
   ·rcases Yay.mp hds with rfl | z
    ·exact .inl j2
    ·exact i2 ds z
   ·rw[Yam,Yam,Yam,YaF,ptT,ptT,j3 h,Zmm,i3 h];omega
theorem ZkA (x:Int):evB (x+1) = !evB x:=by
 unfold evB;by_cases h:x % 2=0
 ·rw[decide_eq_true h,decide_eq_false (by omega)];rfl
 ·rw[decide_eq_false h,decide_eq_true (by omega)];rfl
theorem Zgy (s:List Int):srt (srt s)=srt s:=(ZbE (YeF _) (ZdJ s)).symm
theorem ZhL (s:List Int):srt (srt s).reverse=srt s:=(ZbE (YcD _).symm (ZdJ s)).symm
theorem realT_mem {ds:List TD}{e:Bool × List Int}:e∈Za6 ds↔some e∈ds:=by
 unfold Za6;rw[Yb3];exact⟨fun ⟨a,h,z⟩=>by cases z;exact h,fun h=>⟨_,h,rfl⟩⟩
theorem ZhC {fl:Bool}{x:Int}{ds:List TD} (h:∀ d∈ds,GdT fl d (x+1)):NoCl ds/\GdT fl (tm ds) x:=by
 have hr:∀ e∈Za6 ds,e.1=(evB (x+1) != fl):=fun e he=>(h _ (realT_mem.mp he) e rfl).1
 refine⟨fun ⟨a,b⟩=>?_,fun e z=>?_⟩
 ·obtain⟨e1,h1,z1⟩:=YaU.mp a;obtain⟨e2,h2,z2⟩:=YaU.mp b;have q1:=hr e1 h1;have q2:=hr e2 h2;rw[z1] at q1;rw[z2,<- q1] at q2;cases q2
 ·unfold tm at z
  cases q:Za6 ds with
  | nil=>rw[q] at z;cases z
  | cons d r=>
   have hd:=hr d (by rw[q];exact YaD);rw[q] at z;dsimp only at z;rw[ZkA] at hd;split at z
   ·next u=>
    cases z;rw[u] at hd;refine⟨?_,?_⟩
    ·revert hd
     generalize evB x=q;cases q <;> cases fl <;> first | exact fun _=>rfl | exact fun z=>(nomatch z)
    ·show _=(srt (srt _).reverse).reverse;rw[ZhL]
   ·next u=>
    cases z;have u:d.1=false:=by simpa using u
    rw[u] at hd;refine⟨?_,?_⟩
    ·revert hd
     generalize evB x=q;cases q <;> cases fl <;> first | exact fun _=>rfl | exact fun z=>(nomatch z)
    ·show _=srt (srt _);rw[Zgy]
theorem Zks {fl:Bool}{A:List Int}{D:List (List TD)} (h:∀ ds∈D,GdR fl (ds.reverse.take A.length) (A.map (·+1))∨ds=[]):(∀ i,i<A.length->NoCl (tkT D A.length i))/\GdR fl ((YaH A.length).map fun i=>tm (tkT D A.length i)) A:=by
 have key:∀ (i:Nat) x,A[i]?=some x->∀ d∈tkT D A.length i,GdT fl d (x+1):=fun i x hx d hd=>by
  unfold tkT at hd;obtain⟨ds,hds,e⟩:=Yb3.mp hd;rcases h ds hds with g | rfl
  ·obtain⟨y,hy,gy⟩:=g.at e;rw[Yag,hx] at hy;cases hy;exact gy
  ·simp at e
 refine⟨fun i hi=>(ZhC (key i _ (Yac hi))).1,GdR.of (by simp) fun i d x hd hx=>?_⟩;have hi:=(Yab.mp hx).1
 rw[Yag,YbW hi] at hd;cases hd;exact (ZhC (key i x hx)).2
def Tm (p m:Nat):List (List Int):=tnum p m++[[]]
theorem ZfE {p:Nat} (hp:2<=p) (m:Nat):(Tm p m).length=p+1:=by rw[Tm,Yan,ZaM (by omega)];rfl
theorem Zmu {p:Nat} (hp:2<=p) (k a:Nat) (ha:a<=p):∃ A r,tnum p k=A::r/\(∀ ws∈rot a (Tm p (k+1)),Shp A ws) /\
  (rot a (Tm p (k+1)))[p - a]?=some []/\((rot a (Tm p (k+1))).map (cutT A.length)).set (p - a) A=rot (if a=p then 0 else a+1) (Tm p k):=by
 have hpl:=ZaM (show 1<=p by (clear ha;omega)) k;obtain⟨A,r,e⟩:∃ A r,tnum p k=A::r:=by
  cases q:tnum p k with
  | nil=>rw[q] at hpl;simp at hpl;(clear ha;omega)
  | cons A r=>exact⟨A,r,rfl⟩
 have hr:r.length+1=p:=by rw[e] at hpl;simpa using hpl
 have e2:tnum p (k+1)=(r++[[]]).map (·++(A.map (·+1)).reverse):=by
  show Zfe (tnum p k)=_;rw[e,<- Ycm];rfl
 have hl:=ZfE hp (k+1);refine⟨A,r,e,fun ws hw=>?_,?_,?_⟩
 ·rw[ZhY,Tm,e2] at hw;rcases Yar.mp hw with hw | hw
  ·obtain⟨y,_,rfl⟩:=YaU.mp hw;exact .inr ⟨y,rfl⟩
  ·exact .inl (by simpa using hw)
 ·rw[ZlF hl ha,Tm,YaA (by rw[ZaM (by (clear hl hr hpl ha;omega))];(clear hl hr hpl ha hp;omega)),ZaM (by (clear hl hr hpl ha;omega))];simp
 ·have hm:(Tm p (k+1)).map (cutT A.length)=r++[[],[]]:=by
   rw[Tm,e2,YaM,Ybc];have h1:(cutT A.length ∘ (·++(A.map (·+1)).reverse))=id:=funext fun y=>Zmm;rw[h1,Ydg];simp[cutT]
  rw[ZlD,hm];have hl2:(r++[([]:List Int),[]]).length=p+1:=by simp;(clear hl hpl ha hp;omega)
  rw[ZlC hl2 ha];have hs:(r++[([]:List Int),[]]).set p A=rot 1 (Tm p k):=by
   rw[List.set_append_right _ _ (by (clear hl2 hl hpl ha hp;omega)),show p - r.length=1 by (clear hl2 hl hpl ha hp;omega),Tm,e];simp[rot]
  rw[hs];by_cases z:a=p
  ·rw[if_pos z,ZhZ (by rw[ZfE hp];(clear z hl2 hl hr hpl hp;omega)),z,show p+1=(Tm p k).length from (ZfE hp k).symm,ZlG]
  ·rw[if_neg z,ZhZ (by rw[ZfE hp];(clear z hl2 hl hr hpl hp;omega))]
theorem ZfJ (D:List (List TD)) (m i:Nat):tkT D m i=(D.map fun r=>r.reverse.take m).filterMap (·[i]?):=by
 unfold tkT;rw[Ycy];rfl
theorem ph58 {p:Nat} (hp:2<=p) {k a:Nat} (ha:a<=p) {fl:Bool}{D:List (List TD)} (hG:GdD fl D (rot a (Tm p (k+1)))):∃ f:Nat,hd p k=f/\D[p - a]?=some []/\(∀ i,i<f->NoCl (tkT D f i)) /\
  GdD fl (phT D (p - a) f) (rot (if a=p then 0 else a+1) (Tm p k))/\∀ h:TD->Int,WT h->ptT h D (rot a (Tm p (k+1)))=ptT h (phT D (p - a) f) (rot (if a=p then 0 else a+1) (Tm p k))+(D.map fun ds=>((ds.reverse.take f).map h).sum).sum:=by
 obtain⟨A,r,ek,hS,h0,hn⟩:=Zmu hp k a ha;have hx:hd p k=(A.length:Nat):=by
  unfold hd;rw[<- Za8 (show 1<=p by (clear ha;omega)),ek];rfl
 obtain⟨g1,g2,g3⟩:=Ze8 hG hS;obtain⟨n1,n2⟩:=Zks g2;have hl:=hG.len;have hll:(rot a (Tm p (k+1))).length=p+1:=by rw[ZlE,ZfE hp]
 have hDn:D[p - a]?=some []:=by
  have hi:p - a<D.length:=by (clear hx ha hp;omega)
  obtain⟨W,e1,e2⟩:=hG.at (Yac hi);rw[h0] at e1;cases e1;rw[Yac hi,YbV.mp e2.len]
 refine⟨A.length,hx,hDn,n1,?_,fun h hh=>?_⟩
 ·rw[<- hn];exact GdD.set _ g1 n2
 ·rw[g3 h,<- hn];have e1:ptT h (phT D (p - a) A.length) (((rot a (Tm p (k+1))).map (cutT A.length)).set (p - a) A)=ptT h (D.map (cutT A.length)) ((rot a (Tm p (k+1))).map (cutT A.length))+dtT h ((YaH A.length).map fun i=>tm (tkT D A.length i)) A :=
   Zh6 h (by rw[Yaa,Yaa,hl]) (by rw[Yag,hDn];simp[cutT]) (by rw[Yag,h0];simp[cutT])
  have e2:(fun i=>tm (tkT D A.length i))=fun i=>tm ((D.map fun r=>r.reverse.take A.length).filterMap (·[i]?)):=funext fun i=>by rw[ZfJ]
  have e3:=newT hh A (D.map fun r=>r.reverse.take A.length);rw[e1,e2,e3,Ybc];have e4:∀ E:List (List TD),(E.map fun ds=>dtT h (ds.reverse.take A.length) (A.map (·+1))).sum=(E.map ((fun r=>dtT h r A) ∘ fun r=>r.reverse.take A.length)).sum+(E.map fun ds=>((ds.reverse.take A.length).map h).sum).sum:=fun E=>by
   induction E with
   | nil=>rfl
   | cons d E ih=>
    rw[Yam,Yam,Yam,YaF,YaF,YaF,ih,Zi5 h _ A (by rw[YaL];(clear ih e3 e1 hll hl hx ha hp;omega))];show _=(dtT h (d.reverse.take A.length) A+_)+_
    (clear ih e3 e1 hll hl hx ha hp;omega)
  rw[e4]
  (clear e3 e1 hll hl hx ha hp;omega)
def totT (h:TD->Int) (D:List (List TD)):Int:=(D.map fun ds=>(ds.map h).sum).sum
theorem Za2 (h:TD->Int) (d:List TD) (E:List (List TD)):totT h (d::E)=(d.map h).sum+totT h E:=by
 unfold totT;rw[Yam,YaF]
theorem Zgs (h:TD->Int):∀ {D:List (List TD)}{i:Nat}{ds:List TD},D[i]?=some []->totT h (D.set i ds)=totT h D+(ds.map h).sum
 | [],_,_,e=>by simp at e
 | d::D,0,ds,e=>by
  cases e;show (ds.map h).sum+totT h D=0+totT h D+(ds.map h).sum;omega
 | d::D,i+1,ds,e=>by
  show (d.map h).sum+totT h (D.set i ds)=(d.map h).sum+totT h D+(ds.map h).sum;rw[Zgs h (by simpa using e)];omega
theorem Zmn (h:TD->Int) (m:Nat) (ds:List TD):(ds.map h).sum=((cutT m ds).map h).sum+((ds.reverse.take m).map h).sum:=by
 unfold cutT;have e:(ds.reverse.take m)=(ds.drop (ds.length - m)).reverse:=by
  rw[YeS]
 rw[e,Ycm,List.sum_reverse,<- YdN,<- YaM,YaO]
theorem ZkO {h:TD->Int} (hh:WT h) {D:List (List TD)}{o m:Nat} (ho:D[o]?=some []):totT h (phT D o m)=totT h D:=by
 have e1:totT h (phT D o m)=totT h (D.map (cutT m))+(((YaH m).map fun i=>tm (tkT D m i)).map h).sum:=Zgs h (by rw[Yag,ho];simp[cutT]);have e2:(((YaH m).map fun i=>tm (tkT D m i)).map h).sum=(D.map fun ds=>((ds.reverse.take m).map h).sum).sum:=by
  rw[<- Zgd h _ m (by simp)];have e3:=newT hh (Yaf m 1) (D.map fun r=>r.reverse.take m);rw[YaP] at e3;have e4:(fun i=>tm (tkT D m i))=fun i=>tm ((D.map fun r=>r.reverse.take m).filterMap (·[i]?)):=funext fun i=>by rw[ZfJ]
  rw[e4,e3,Ybc];congr 1;refine Ybv fun ds _=>?_;exact Zgd h _ m (by rw[YaL];(clear e3 e1;omega))
 have e5:∀ E:List (List TD),totT h E=totT h (E.map (cutT m))+(E.map fun ds=>((ds.reverse.take m).map h).sum).sum:=fun E=>by
  induction E with
  | nil=>rfl
  | cons d E ih=>
   rw[Yam,Yam,YaF,Za2,Za2,ih,Zmn h m d]
   (clear ih e2 e1;omega)
 rw[e1,e2,e5 D]
def HasT (D:List (List TD)):Prop:=∃ ds∈D,∃ e,some e∈ds
theorem tm_some {ds:List TD}:(∃ e,tm ds=some e)↔∃ e,some e∈ds:=by
 unfold tm
 cases q:Za6 ds with
 | nil=>
  refine⟨fun ⟨e,z⟩=>(nomatch z),fun ⟨e,z⟩=>?_⟩;have:=realT_mem.mpr z;rw[q] at this;simp at this
 | cons d r=>
  refine⟨fun _=>⟨d,realT_mem.mp (by rw[q];exact YaD)⟩,fun _=>?_⟩;dsimp only;split
  ·exact⟨_,rfl⟩
  ·exact⟨_,rfl⟩
theorem Znu {D:List (List TD)}{o m:Nat} (ho:D[o]?=some []):HasT (phT D o m)↔HasT D:=by
 have hi:=(Yab.mp ho).1
 constructor
 ·rintro⟨ds,hds,e,he⟩;rcases Yd8 hds with z | rfl
  ·obtain⟨ds',h',rfl⟩:=YaU.mp z;exact⟨ds',h',e,Ybe he⟩
  ·obtain⟨i,_,z⟩:=YaU.mp he;obtain⟨e',h'⟩:=tm_some.mp ⟨e,z⟩;unfold tkT at h';obtain⟨r,hr,h2⟩:=Yb3.mp h';exact⟨r,hr,e',YbX.mp (Ybe (Yah h2))⟩
 ·rintro⟨ds,hds,e,he⟩;by_cases z:some e∈ds.reverse.take m
  ·obtain⟨i,hz⟩:=Ya8 z;have hm:i<m:=by
    have:=(Yab.mp hz).1
    rw[YaL] at this
    (clear hi;omega)
   obtain⟨e',h'⟩:=tm_some.mpr ⟨e,(show some e∈tkT D m i from Yb3.mpr ⟨ds,hds,hz⟩)⟩;refine⟨_,Yah (i:=o) (show (phT D o m)[o]?=some _ by unfold phT;rw[Ya5 (by rw[Yaa];exact hi)]),e',YaU.mpr ⟨i,YbL.mpr hm,h'⟩⟩
  ·obtain⟨j,hj⟩:=Ya8 hds;have hne:j≠o:=fun q=>by rw[q,ho] at hj;cases hj;simp at he
   refine⟨ds.take (ds.length - m),Yah (i:=j) (show (phT D o m)[j]?=some _ by unfold phT;rw[Ya0 (Ybl hne),Yag,hj];rfl),e,?_⟩;rw[<- YaO (ds.length - m) ds] at he;rcases Yar.mp he with he | he
   ·exact he
   ·rw[YeS,YbX] at z;exact absurd he z
def plT:List (List TD)->List (Int × Int)->List (List TD)
 | D,[]=>D
 | D,(o,m)::r=>plT (phT D o.toNat m.toNat) r
def rdTP:List (List TD)->List Int->List (Int × Int)->List Int
 | _,rd,[]=>rd
 | D,rd,(o,m)::r=>rdTP (phT D o.toNat m.toNat) (YcT (·+·) rd (rdT D m.toNat)) r
def OkP:List (List TD)->List (Int × Int)->Prop
 | _,[]=>True
 | D,(o,m)::r=>(0<=o/\0<=m/\D[o.toNat]?=some []/\∀ i,i<m.toNat->NoCl (tkT D m.toNat i))/\OkP (phT D o.toNat m.toNat) r
theorem Zde (D:List (List TD)) (o m:Nat):(phT D o m).length=D.length:=by unfold phT;rw[Ybn,Yaa]
theorem Zlk (ds:List TD):tth ds=(ds.map lenT).sum:=by
 induction ds with
 | nil=>rfl
 | cons d ds ih=>
  rw[Yam,YaF,<- ih];unfold tth
  cases d with
  | none=>show _=0+_;rw[Ycc];rfl
  | some d=>rfl
theorem ZlH (D:List (List TD)) (m:Nat):(rdT D m).sum=(D.map fun ds=>((ds.reverse.take m).map lenT).sum).sum:=by
 unfold rdT;congr 1;exact Ybv fun ds _=>Zlk _
theorem ZhJ:∀ {a b:List Int},a.length=b.length->(YcT (·+·) a b).sum=a.sum+b.sum
 | [],[],_=>rfl
 | [],_::_,z=>by simp at z
 | _::_,[],z=>by simp at z
 | x::a,y::b,z=>by
  rw[List.zipWith_cons_cons,YaF,YaF,YaF,ZhJ (by simpa using z)]
  (clear z;omega)
theorem ZgZ {p:Nat}{h:TD->Int}:∀ {D:List (List TD)}{W:List (List Int)},(∀ ws∈W,∀ x∈ws,x=0)->ptT h D W=0
 | [],W,_=>by cases W <;> rfl
 | _::_,[],_=>rfl
 | d::D,w::W,z=>by
  rw[ptT,ZgZ (p:=p) fun ws hw=>z ws (YaC _ hw),dz d w (z w YaD)];rfl
where
 dz:∀ (d:List TD) (w:List Int),(∀ x∈w,x=0)->dtT h d w=0
  | [],w,_=>by cases w <;> rfl
  | _::_,[],_=>rfl
  | e::d,x::w,z=>by rw[dtT,dz d w fun y hy=>z y (YaC _ hy),z x YaD];omega
theorem Zjy {p a:Nat}:∀ ws∈rot a (Tm p 0),∀ x∈ws,x=0:=fun ws hw x hx=>by
 rw[ZhY,Tm] at hw;have e:tnum p 0=num0 p:=rfl;rw[e] at hw;rcases Yar.mp hw with h | h
 ·unfold num0 at h;rcases Yay.mp h with rfl | h
  ·simpa using hx
  ·have:=YbF h;rw[this] at hx;simp at hx
 ·have:ws=[]:=by simpa using h
  rw[this] at hx;simp at hx
theorem Zk0 {p:Nat} (hp:2<=p) {fl:Bool}:∀ (m t:Nat) (D:List (List TD)),GdD fl D (rot (t % (p+1)) (Tm p m))->OkP D (phL p t m)/\GdD fl (plT D (phL p t m)) (rot ((t+m) % (p+1)) (Tm p 0)) /\
  (∀ rd:List Int,rd.length=D.length->(rdTP D rd (phL p t m)).sum=rd.sum+ptT lenT D (rot (t % (p+1)) (Tm p m)))/\(∀ h,WT h->totT h (plT D (phL p t m))=totT h D)/\(HasT (plT D (phL p t m))↔HasT D)
 | 0,t,D,h=>⟨trivial,h,fun rd _=>by rw[ZgZ (p:=p) Zjy];simp[phL,rdTP],fun _ _=>rfl,Iff.rfl⟩
 | m+1,t,D,h=>by
  have ha:t % (p+1)<=p:=by have:=YeX t (show 0<p+1 by (clear hp;omega));(clear hp;omega)
  obtain⟨f,e1,hn,hc,hG,hpt⟩:=ph58 hp ha h;rw[<- ZjL] at hG hpt;obtain⟨i1,i2,i3,i4,i5⟩:=Zk0 hp m (t+1) _ hG;have e2:(phO p t).toNat=p - t % (p+1):=by rw[Zk1,Ybg]
  have e3:(hd p m).toNat=f:=by rw[e1,Ybg]
  have eP:plT D (phL p t (m+1))=plT (phT D (p - t % (p+1)) f) (phL p (t+1) m):=by rw[phL,plT,e2,e3]
  have et:t+1+m=t+(m+1):=by (clear e3 e2 i5 e1 ha hp;omega)
  rw[et] at i2;rw[eP];refine⟨?_,i2,fun rd hrd=>?_,fun g hg=>(i4 g hg).trans (ZkO hg hn),i5.trans (Znu hn)⟩
  ·rw[phL,OkP,e2,e3];exact⟨⟨by rw[Zk1];(clear et e3 e2 i5 e1 ha hp;omega),by rw[e1];(clear et e3 e2 i5 e1 ha hp;omega),hn,hc⟩,i1⟩
  ·rw[phL,rdTP,e2,e3,i3 _ (by rw[Zde,YeD,rdT,Yaa,hrd];(clear hrd et e3 e2 i5 e1 ha hp;omega)),ZhJ (by rw[rdT,Yaa,hrd]),ZlH,hpt lenT lenT_ok]
   (clear hrd et e3 e2 i5 e1 ha hp;omega)
theorem Zob {p:Nat} (hp:2<=p) {a:Nat}{fl:Bool}{D:List (List TD)} (hG:GdD fl D (rot a (Tm p 0))):∃ d,D.flatten=[d]/\GdT fl d 0:=by
 have hlen:∀ {D:List (List TD)}{W:List (List Int)},GdD fl D W->D.flatten.length=W.flatten.length:=fun {D}=>by
  induction D with
  | nil=>intro W h;cases W with
   | nil=>rfl
   | cons=>exact h.elim
  | cons d D ih=>intro W h;cases W with
   | nil=>exact h.elim
   | cons w W=>rw[YaS,YaS,Yan,Yan,ih h.2,h.1.len]
 have h2:(rot a (Tm p 0)).flatten.length=1:=by
  have h3:(Tm p 0).flatten.length=1:=by
   have e:tnum p 0=num0 p:=rfl;unfold Tm;rw[e];simp[num0,Ydh]
  rw[<- YaO a (Tm p 0),Ybo,Yan] at h3;unfold rot;rw[Ybo,Yan]
  (clear hp;omega)
 rw[<- hlen hG] at h2;obtain⟨d,e⟩:=List.length_eq_one_iff.mp h2;refine⟨d,e,?_⟩;have hm:d∈D.flatten:=by rw[e];exact Yef d
 obtain⟨ds,hds,hd⟩:=Ycl.mp hm;obtain⟨i,hi⟩:=Ya8 hds;obtain⟨ws,hw,g⟩:=hG.at hi;obtain⟨j,hj⟩:=Ya8 hd;obtain⟨x,hx,gx⟩:=g.at hj;rw[Zjy ws (Yah hw) x (Yah hx)] at gx;exact gx
def Zba (D:List (List TD)):List Int:=((Za6 D.flatten).map (·.2)).flatten
theorem Zc6 {g:List Int->Int} (hg:Adds g):∀ D:List (List TD),totT (wT g) D=g (Zba D)
 | []=>hg.nil.symm
 | ds::D=>by
  have ih:=Zc6 hg D;show (ds.map (wT g)).sum+totT (wT g) D=g (Zba (ds::D));rw[ih,ZeV hg];unfold Zba Za6;rw[YaS,Ydc,YaM,Ybo,hg.app]
theorem ZnH {p n:Nat} (hp:2<=p) {fl:Bool}{D:List (List TD)} (hG:GdD fl D (Tm p n)):OkP D (phL p 0 n)/\∃ d,(plT D (phL p 0 n)).flatten=[d]/\(∀ rd:List Int,rd.length=D.length->(rdTP D rd (phL p 0 n)).sum=rd.sum+ptT lenT D (Tm p n))/\(d=none↔¬ HasT D)/\∀ e,d=some e->e=(!fl,dirT (!fl) (Zba D)):=by
 have e0:∀ l:List (List Int),rot (0 % (p+1)) l=l:=fun l=>by rw[Nat.zero_mod];simp[rot]
 obtain⟨i1,i2,i3,i4,i5⟩:=Zk0 hp (fl:=fl) n 0 D (by rw[e0];exact hG);obtain⟨d,ed,gd⟩:=Zob hp i2;rw[e0] at i3;have hh:HasT (plT D (phL p 0 n))↔d≠none:=by
  constructor
  ·rintro⟨ds,hds,e,he⟩ z;have:some e∈(plT D (phL p 0 n)).flatten:=Ycl.mpr ⟨ds,hds,he⟩;rw[ed,YaN,z] at this;cases this
  ·intro z
   cases d with
   | none=>exact absurd rfl z
   | some e=>
    have:some e∈(plT D (phL p 0 n)).flatten:=by rw[ed];exact Yef _
    obtain⟨ds,hds,he⟩:=Ycl.mp this;exact⟨ds,hds,e,he⟩
 refine⟨i1,d,ed,i3,⟨fun z h=>hh.mp (i5.mpr h) z,fun z=>?_⟩,fun e he=>?_⟩
 ·cases d with
  | none=>rfl
  | some e=>exact absurd (i5.mp (hh.mpr (fun q=>by cases q))) z
 ·subst he;obtain⟨u,v⟩:=gd e rfl;have pm:e.2.Perm (Zba D):=by
   rw[YeC];intro x;have h1:=i4 _ (Zjo x);rw[Zc6 (Zcm x),Zc6 (Zcm x)] at h1;have h2:Zba (plT D (phL p 0 n))=e.2:=by unfold Zba;rw[ed];simp[Za6]
   rw[h2] at h1;unfold gc58 at h1
   (clear hh i5 hp;omega)
  have u':e.1 = !fl:=by rw[u];cases fl <;> decide
  have sv:srt e.2=srt (Zba D):=ZbE ((ZaH _).trans pm) (ZdJ _);rw[u'] at v;refine YeI u' ?_;show e.2=dirT (!fl) (Zba D);rw[v];unfold dirT at v ⊢;have:∀ b:Bool,(if b=true then srt e.2 else (srt e.2).reverse)=if b=true then srt (Zba D) else (srt (Zba D)).reverse:=fun b=>by rw[sv]
  rw[<- v];rw[v,this]
end Lv
namespace Lv
open PySem L2
theorem Zdu {b:Bool}{K:Yae}{own:List Str}{js:List Nat}{g:TG}{te:TE}{σ:L2.St}{H1:Hp}{Q:VK}{a:Addr}{xs:List V} (Ph:Addr->Nat->Hp->V->Prop) (hq:SqB b K H1 a xs) (hlen:xs.length<=20000)
  (st1:∀ {acc i H H' y},Ph acc i H y->Same H H'->Ph acc i H' y) (st2:∀ {acc i H zs ys y},H acc=some (.lst zs)->Ph acc i H y->Ph acc i (upd H acc (.lst ys)) y)
  (hs:∀ acc,H1 acc=none->∀ (i:Nat) x,xs[i]?=some x->∀ H,Same H1 H->H acc≠none->∀ R:VK,(∀ y H',Same H H'->Ph acc i H' y->R y H')->g x (blkσ own js σ) H fun τ H4=>te τ H4 R)
  (hd:∀ acc ys H,H1 acc=none->H acc=some (.lst ys)->ys.length=xs.length->(∀ (i:Nat) y,ys[i]?=some y->Ph acc i H y)->Same H1 H->Q (.ref acc) H):Za0 own js g ZbH te σ (ItlB b K a) H1 Q:=by
 refine Zcq (b:=b) (K:=K) (a:=a) (xs:=xs) (fun acc i H=>∃ ys,H acc=some (.lst ys)/\ys.length=i/\(∀ (j:Nat) y,ys[j]?=some y->Ph acc j H y)/\Same H1 H) (fun acc h0=>⟨[],Zaa,rfl,fun j y z=>by simp at z,Same.new h0⟩) (fun acc i H h0 _ z=>?_) ?_ ?_
 ·obtain⟨_,_,_,_,s⟩:=z;exact Same.sqB s hq
 ·rintro acc i x H h0 hx ⟨ys,hacc,hl,hP,s1⟩;have hi:=(Yab.mp hx).1
  refine (cast ?_ (hs acc h0 i x hx H s1 (by rw[hacc];exact fun z=>nomatch z) (fun y H6=>∃ zs,H6 acc=some (.lst zs)/\zs.length<sizeLine/\(i+1<=xs.length/\∃ ys,upd H6 acc (.lst (zs++[y])) acc=some (.lst ys)/\ys.length=i+1/\(∀ (j:Nat) y',ys[j]?=some y'->Ph acc j (upd H6 acc (.lst (zs++[y]))) y')/\Same H1 (upd H6 acc (.lst (zs++[y]))))) fun y H6 s6 hy=>?_))
  ·unfold ZbH;simp only[if_true]
  ·have h6:=s6 _ _ hacc;refine⟨ys,h6,by rw[sizeLine_eq];omega,hi,_,Zaa,by simp[hl],fun j y' hj=>?_,(s1.trans s6).put h0⟩;rcases Ybp j ys.length with z | z
   ·rw[YaK z] at hj;exact st2 h6 (st1 (hP j y' hj) s6)
   ·rw[YaA z] at hj;obtain⟨h1,h2⟩:=Yab.mp hj;have:j=i:=by simp at h1;(clear hi hlen;omega)
    subst this;have:y=y':=by simpa using h2
    subst this;exact st2 h6 hy
 ·rintro acc H h0 ⟨ys,hacc,hl,hP,s1⟩;exact hd acc ys H h0 hacc hl hP s1
theorem Zjm {own:List Str}{js:List Nat}{g:TG}{te:TE}{σ:L2.St}{H1:Hp}{Q:VK}{lo:Int}{n:Nat} (Ph:Addr->Nat->Hp->V->Prop) (hlen:n<=20000)
  (st1:∀ {acc i H H' y},Ph acc i H y->Same H H'->Ph acc i H' y) (st2:∀ {acc i H zs ys y},H acc=some (.lst zs)->Ph acc i H y->Ph acc i (upd H acc (.lst ys)) y)
  (hs:∀ acc,H1 acc=none->∀ (i:Nat),i<n->∀ H,Same H1 H->H acc≠none->∀ R:VK,(∀ y H',Same H H'->Ph acc i H' y->R y H')->g (.int (lo+i)) (blkσ own js σ) H fun τ H4=>te τ H4 R)
  (hd:∀ acc ys H,H1 acc=none->H acc=some (.lst ys)->ys.length=n->(∀ (i:Nat) y,ys[i]?=some y->Ph acc i H y)->Same H1 H->Q (.ref acc) H):Za0 own js g ZbH te σ (Itr lo n) H1 Q:=by
 refine Zbh (fun acc i H=>∃ ys,H acc=some (.lst ys)/\ys.length=i/\(∀ (j:Nat) y,ys[j]?=some y->Ph acc j H y)/\Same H1 H) (fun acc h0=>⟨[],Zaa,rfl,fun j y z=>by simp at z,Same.new h0⟩) ?_ ?_
 ·rintro acc i H h0 hi ⟨ys,hacc,hl,hP,s1⟩;refine (cast ?_ (hs acc h0 i hi H s1 (by rw[hacc];exact fun z=>nomatch z) (fun y H6=>∃ zs,H6 acc=some (.lst zs)/\zs.length<sizeLine/\(i+1<=n/\∃ ys,upd H6 acc (.lst (zs++[y])) acc=some (.lst ys)/\ys.length=i+1/\(∀ (j:Nat) y',ys[j]?=some y'->Ph acc j (upd H6 acc (.lst (zs++[y]))) y')/\Same H1 (upd H6 acc (.lst (zs++[y]))))) fun y H6 s6 hy=>?_))
  ·unfold ZbH;simp only[if_true]
  ·have h6:=s6 _ _ hacc;refine⟨ys,h6,by rw[sizeLine_eq];omega,hi,_,Zaa,by simp[hl],fun j y' hj=>?_,(s1.trans s6).put h0⟩;rcases Ybp j ys.length with z | z
   ·rw[YaK z] at hj;exact st2 h6 (st1 (hP j y' hj) s6)
   ·rw[YaA z] at hj;obtain⟨h1,h2⟩:=Yab.mp hj;have:j=i:=by simp at h1;(clear hi hlen;omega)
    subst this;have:y=y':=by simpa using h2
    subst this;exact st2 h6 hy
 ·rintro acc H h0 ⟨ys,hacc,hl,hP,s1⟩;exact hd acc ys H h0 hacc hl hP s1
theorem pick {P:Nat->Addr->Prop}:∀ {ys:List V},(∀ (i:Nat) y,ys[i]?=some y->∃ q,y=.ref q/\P i q)->∃ qs:List Addr,ys=qs.map V.ref/\∀ (i:Nat) q,qs[i]?=some q->P i q:=fun {ys}=>by
 induction ys generalizing P with
 | nil=>exact fun _=>⟨[],rfl,fun i q z=>by simp at z⟩
 | cons y ys ih=>
  intro h;obtain⟨q,rfl,hq⟩:=h 0 y rfl;obtain⟨qs,rfl,hqs⟩:=ih (P:=fun i=>P (i+1)) fun i z hz=>h (i+1) z (by simpa using hz);refine⟨q::qs,rfl,fun i r hr=>?_⟩
  cases i with
  | zero=>cases hr;exact hq
  | succ i=>exact hqs i r (by simpa using hr)
theorem Zn0 {P:Nat->Addr->List V->Prop}:∀ {qs:List Addr},(∀ (i:Nat) q,qs[i]?=some q->∃ vs,P i q vs)->∃ Vs:List (List V),qs.length=Vs.length/\∀ (i:Nat) q vs,qs[i]?=some q->Vs[i]?=some vs->P i q vs:=fun {qs}=>by
 induction qs generalizing P with
 | nil=>exact fun _=>⟨[],rfl,fun i q vs z=>by simp at z⟩
 | cons q qs ih=>
  intro h;obtain⟨vs,hq⟩:=h 0 q rfl;obtain⟨Vs,hl,hqs⟩:=ih (P:=fun i=>P (i+1)) fun i z hz=>h (i+1) z (by simpa using hz);refine⟨vs::Vs,by rw[YaY,YaY,hl],fun i r ws hr hw=>?_⟩
  cases i with
  | zero=>cases hr;cases hw;exact hq
  | succ i=>exact hqs i r ws (by simpa using hr) (by simpa using hw)
def RL (H:Hp) (as:List Addr) (Vs:List (List V)):Prop:=as.length=Vs.length/\∀ (j:Nat) a vs,as[j]?=some a->Vs[j]?=some vs->H a=some (.lst vs)
theorem RL.same {H H':Hp}{as:List Addr}{Vs:List (List V)} (h:RL H as Vs) (s:Same H H'):RL H' as Vs:=⟨h.1,fun j a vs x y=>s _ _ (h.2 j a vs x y)⟩
theorem RL.off {H:Hp}{as:List Addr}{Vs:List (List V)}{a:Addr}{o:HO} (h:RL H as Vs) (n:∀ q∈as,q≠a):RL (upd H a o) as Vs:=⟨h.1,fun j q vs x y=>by rw[upd_ne (n q (Yah x))];exact h.2 j q vs x y⟩
theorem RL.set {H:Hp}{as:List Addr}{Vs:List (List V)}{o:Nat}{q:Addr}{vs:List V} (h:RL H as Vs) (e:H q=some (.lst vs)):RL H (as.set o q) (Vs.set o vs):=⟨by rw[Ybn,Ybn,h.1],fun j r ws x y=>by
 by_cases z:o=j
 ·subst z;have h1:=(Yab.mp x).1
  rw[Ybn] at h1;rw[Ya5 h1] at x;rw[Ya5 (by rw[<- h.1];exact h1)] at y;cases x;cases y;exact e
 ·rw[Ya0 z] at x y;exact h.2 j r ws x y⟩
theorem RL.at {H:Hp}{as:List Addr}{Vs:List (List V)} (h:RL H as Vs) {j:Nat}{a:Addr} (e:as[j]?=some a):∃ vs,Vs[j]?=some vs/\H a=some (.lst vs):=by
 have hi:=(Yab.mp e).1
 have hj:j<Vs.length:=by rw[<- h.1];exact hi
 have e2:Vs[j]?=some Vs[j]:=Yac hj;exact⟨_,e2,h.2 j a _ e e2⟩
def TVD (Hb H:Hp) (Vs:List (List V)) (D:List (List TD)):Prop:=Vs.length=D.length/\∀ (j:Nat) vs ds,Vs[j]?=some vs->D[j]?=some ds->TVs Hb H vs ds
theorem TVD.same {Hb H H':Hp}{Vs:List (List V)}{D:List (List TD)} (h:TVD Hb H Vs D) (s:Same H H'):TVD Hb H' Vs D:=⟨h.1,fun j a vs x y=>(h.2 j a vs x y).same s⟩
theorem TVD.base {Hb Hc H:Hp}{Vs:List (List V)}{D:List (List TD)} (h:TVD Hb H Vs D) (s:∀ a,Hb a=none->Hc a=none):TVD Hc H Vs D:=⟨h.1,fun j a vs x y=>(h.2 j a vs x y).base s⟩
theorem TVD.at {Hb H:Hp}{Vs:List (List V)}{D:List (List TD)} (h:TVD Hb H Vs D) {j:Nat}{vs:List V} (e:Vs[j]?=some vs):∃ ds,D[j]?=some ds/\TVs Hb H vs ds:=by
 have hi:=(Yab.mp e).1
 have hj:j<D.length:=by rw[<- h.1];exact hi
 have e2:D[j]?=some D[j]:=Yac hj;exact⟨_,e2,h.2 j vs _ e e2⟩
theorem TVD.map {Hb H:Hp}{Vs:List (List V)}{D:List (List TD)} (h:TVD Hb H Vs D) {f:List V->List V}{g:List TD->List TD} (k:∀ vs ds,TVs Hb H vs ds->TVs Hb H (f vs) (g ds)):TVD Hb H (Vs.map f) (D.map g):=⟨by rw[Yaa,Yaa,h.1],fun j vs ds x y=>by
 rw[Yag] at x y
 cases e1:Vs[j]? with
 | none=>rw[e1] at x;cases x
 | some v=>
  cases e2:D[j]? with
  | none=>rw[e2] at y;cases y
  | some d=>
   rw[e1] at x;rw[e2] at y;cases x;cases y;exact k _ _ (h.2 j v d e1 e2)⟩
theorem TVD.set {Hb H:Hp}{Vs:List (List V)}{D:List (List TD)}{o:Nat}{vs:List V}{ds:List TD} (h:TVD Hb H Vs D) (e:TVs Hb H vs ds):TVD Hb H (Vs.set o vs) (D.set o ds):=⟨by rw[Ybn,Ybn,h.1],fun j r ws x y=>by
 by_cases z:o=j
 ·subst z;have h1:=(Yab.mp x).1
  rw[Ybn] at h1;rw[Ya5 h1] at x;rw[Ya5 (by rw[<- h.1];exact h1)] at y;cases x;cases y;exact e
 ·rw[Ya0 z] at x y;exact h.2 j r ws x y⟩
theorem TVD.uncons {Hb H:Hp}{vs:List V}{Vs:List (List V)}{ds:List TD}{D:List (List TD)} (h:TVD Hb H (vs::Vs) (ds::D)):TVs Hb H vs ds/\TVD Hb H Vs D :=
 ⟨h.2 0 vs ds rfl rfl,by have:=h.1;simpa using this,fun i w e a b=>h.2 (i+1) w e a b⟩
theorem TVD.col {Hb H:Hp} (i:Nat):∀ {Vs:List (List V)}{D:List (List TD)},TVD Hb H Vs D->TVs Hb H (Vs.filterMap (·[i]?)) (D.filterMap (·[i]?))
 | [],[],_=>TVs.nil _ _
 | [],_::_,h=>absurd h.1 (by simp)
 | _::_,[],h=>absurd h.1 (by simp)
 | vs::Vs,ds::D,h=>by
  obtain⟨h1,h2⟩:=h.uncons;have ih:=TVD.col i h2;rw[YaQ,YaQ];by_cases z:i<vs.length
  ·have z2:i<ds.length:=by rw[<- h1.1];exact z
   have e1:vs[i]?=some vs[i]:=Yac z;have e2:ds[i]?=some ds[i]:=Yac z2;rw[e1,e2];exact TVs.cons (h1.2 i _ _ e1 e2) ih
  ·have e1:vs[i]?=none:=YbE (by omega);have e2:ds[i]?=none:=YbE (by have:=h1.1;omega);rw[e1,e2];exact ih
theorem TVD.flat {Hb H:Hp}:∀ {Vs:List (List V)}{D:List (List TD)},TVD Hb H Vs D->TVs Hb H Vs.flatten D.flatten
 | [],[],_=>TVs.nil _ _
 | [],_::_,h=>absurd h.1 (by simp)
 | _::_,[],h=>absurd h.1 (by simp)
 | vs::Vs,ds::D,h=>by
  obtain⟨h1,h2⟩:=h.uncons;rw[YaS,YaS];exact h1.app h2.flat
theorem TV.put {Hb H:Hp}{v:V}{d:TD}{a:Addr}{zs:List V}{o:HO} (h:TV Hb H v d) (e:H a=some (.lst zs)) (x:Hb a≠none):TV Hb (upd H a o) v d:=by
 cases d with
 | none=>exact h
 | some d=>
  obtain⟨q,t,e1,e2,e3,e4⟩:=h;refine⟨q,t,e1,?_,?_,e4⟩
  ·rw[upd_ne (fun z=>by rw[z,e] at e2;cases e2)];exact e2
  ·rw[upd_ne (fun z=>x (by rw[<- z];exact e4))];exact e3
theorem TVs.put {Hb H:Hp}{vs:List V}{ds:List TD}{a:Addr}{zs:List V}{o:HO} (h:TVs Hb H vs ds) (e:H a=some (.lst zs)) (x:Hb a≠none):TVs Hb (upd H a o) vs ds:=⟨h.1,fun i v d y z=>(h.2 i v d y z).put e x⟩
theorem TVD.put {Hb H:Hp}{vs:List (List V)}{ds:List (List TD)}{a:Addr}{zs:List V}{o:HO} (h:TVD Hb H vs ds) (e:H a=some (.lst zs)) (x:Hb a≠none):TVD Hb (upd H a o) vs ds:=⟨h.1,fun i v d y z=>(h.2 i v d y z).put e x⟩
theorem ZcT {H:Hp}{a:Addr}{o:HO}:upd H a o a≠none:=by rw[Zaa];exact fun z=>nomatch z
theorem ZeA {H H1:Hp}{a t:Addr}{o:HO} (s:Same H1 H) (h:H a≠none) (e:H t=none):upd H1 a o t=none:=by
 rw[upd_ne fun z=>h (by rw[<- z];exact e)];exact s.free e
theorem Zbk {H1:Hp}{a t:Addr}{o:HO} (e:upd H1 a o t=none):H1 t=none:=by
 by_cases z:t=a
 ·rw[z,Zaa] at e;cases e
 ·rw[upd_ne z] at e;exact e
theorem ZbY {b:Bool}{K:Yae}{own:List Str}{js:List Nat}{g:TG}{te:TE}{σ:L2.St}{H1:Hp}{Q:VK}{a:Addr}{xs:List V} (F:Nat->List V) (hq:SqB b K H1 a xs) (hlen:xs.length<=20000)
  (hs:∀ (i:Nat) x,xs[i]?=some x->∀ H,Same H1 H->∀ R:VK,(∀ q H',H q=none->H' q=some (.lst (F i))->Same H H'->R (.ref q) H')->g x (blkσ own js σ) H fun τ H4=>te τ H4 R)
  (hd:∀ acc (qs:List Addr) H,H1 acc=none->H acc=some (.lst (qs.map V.ref))->qs.length=xs.length->(∀ (j:Nat) q,qs[j]?=some q->q≠acc/\H1 q=none/\H q=some (.lst (F j)))->Same H1 H->Q (.ref acc) H):Za0 own js g ZbH te σ (ItlB b K a) H1 Q:=by
 refine Zdu (fun acc i H y=>∃ q,y=.ref q/\q≠acc/\H1 q=none/\H q=some (.lst (F i))) hq hlen (fun h s=>?_) (fun e h=>?_) (fun acc h0 i x hx H s1 na R hR=>?_) fun acc ys H h0 ha hl hP s1=>?_
 ·obtain⟨q,e,n,f,z⟩:=h;exact⟨q,e,n,f,s _ _ z⟩
 ·obtain⟨q,e1,n,f,z⟩:=h;exact⟨q,e1,n,f,by rw[upd_ne n];exact z⟩
 ·exact hs i x hx H s1 R fun q H' hq hq2 s=>hR _ H' s ⟨q,rfl,fun z=>na (by rw[<- z];exact hq),s1.free hq,hq2⟩
 ·obtain⟨qs,rfl,hqs⟩:=pick hP;exact hd acc qs H h0 ha (by rw[<- hl,Yaa]) hqs s1
theorem ZkG {b:Bool}{K:Yae}{own:List Str}{js:List Nat}{g:TG}{te:TE}{σ:L2.St}{H1:Hp}{Q:VK}{a:Addr}{xs:List V} (F:Nat->TD) (hq:SqB b K H1 a xs) (hlen:xs.length<=20000)
  (hs:∀ (i:Nat) x,xs[i]?=some x->∀ H,Same H1 H->∀ R:VK,(∀ y H',TV H H' y (F i)->Same H H'->R y H')->g x (blkσ own js σ) H fun τ H4=>te τ H4 R)
  (hd:∀ acc ys H,H1 acc=none->H acc=some (.lst ys)->TVs (upd H1 acc (.lst [])) H ys ((YaH xs.length).map F)->Same H1 H->Q (.ref acc) H):Za0 own js g ZbH te σ (ItlB b K a) H1 Q:=by
 refine Zdu (fun acc i H y=>TV (upd H1 acc (.lst [])) H y (F i)) hq hlen (fun h s=>h.same s) (fun e h=>h.put e ZcT) (fun acc h0 i x hx H s1 na R hR=>?_) fun acc ys H h0 ha hl hP s1=>?_
 ·exact hs i x hx H s1 R fun y H' h s=>hR _ H' s (h.base fun t ht=>ZeA s1 na ht)
 ·refine hd acc ys H h0 ha ⟨by simp[hl],fun i v d hv hd'=>?_⟩ s1;have hi:i<xs.length:=by rw[<- hl];exact (Yab.mp hv).1
  rw[Yag,YbW hi] at hd';cases hd';exact hP i v hv
theorem Zjk {own:List Str}{js:List Nat}{g:TG}{te:TE}{σ:L2.St}{H1:Hp}{Q:VK}{lo:Int}{n:Nat} (F:Nat->TD) (hlen:n<=20000)
  (hs:∀ (i:Nat),i<n->∀ H,Same H1 H->∀ R:VK,(∀ y H',TV H H' y (F i)->Same H H'->R y H')->g (.int (lo+i)) (blkσ own js σ) H fun τ H4=>te τ H4 R)
  (hd:∀ acc ys H,H1 acc=none->H acc=some (.lst ys)->TVs (upd H1 acc (.lst [])) H ys ((YaH n).map F)->Same H1 H->Q (.ref acc) H):Za0 own js g ZbH te σ (Itr lo n) H1 Q:=by
 refine Zjm (fun acc i H y=>TV (upd H1 acc (.lst [])) H y (F i)) hlen (fun h s=>h.same s) (fun e h=>h.put e ZcT) (fun acc h0 i hx H s1 na R hR=>?_) fun acc ys H h0 ha hl hP s1=>?_
 ·exact hs i hx H s1 R fun y H' h s=>hR _ H' s (h.base fun t ht=>ZeA s1 na ht)
 ·refine hd acc ys H h0 ha ⟨by simp[hl],fun i v d hv hd'=>?_⟩ s1;have hi:i<n:=by rw[<- hl];exact (Yab.mp hv).1
  rw[Yag,YbW hi] at hd';cases hd';exact hP i v hv
theorem Zgg {b:Bool}{K:Yae}{own:List Str}{js:List Nat}{g:TG}{te:TE}{σ:L2.St}{H1:Hp}{Q:VK}{a:Addr}{xs:List V} (F:Nat->List TD) (hq:SqB b K H1 a xs) (hlen:xs.length<=20000)
  (hs:∀ (i:Nat) x,xs[i]?=some x->∀ H,Same H1 H->∀ R:VK,(∀ q ys H',H q=none->H' q=some (.lst ys)->TVs H H' ys (F i)->Same H H'->R (.ref q) H')->g x (blkσ own js σ) H fun τ H4=>te τ H4 R)
  (hd:∀ acc (qs:List Addr) (Vs:List (List V)) H,H1 acc=none->H acc=some (.lst (qs.map V.ref))->qs.length=xs.length->RL H qs Vs->(∀ q∈qs,q≠acc/\H1 q=none)->TVD (upd H1 acc (.lst [])) H Vs ((YaH xs.length).map F)->Same H1 H->Q (.ref acc) H):Za0 own js g ZbH te σ (ItlB b K a) H1 Q:=by
 refine Zdu (fun acc i H y=>∃ q,y=.ref q/\∃ ys,q≠acc/\H1 q=none/\H q=some (.lst ys)/\TVs (upd H1 acc (.lst [])) H ys (F i)) hq hlen (fun h s=>?_) (fun e h=>?_) (fun acc h0 i x hx H s1 na R hR=>?_) fun acc ys H h0 ha hl hP s1=>?_
 ·obtain⟨q,e,ys,n,f,z,t⟩:=h;exact⟨q,e,ys,n,f,s _ _ z,t.same s⟩
 ·obtain⟨q,e1,ys,n,f,z,t⟩:=h;exact⟨q,e1,ys,n,f,by rw[upd_ne n];exact z,t.put e ZcT⟩
 ·exact hs i x hx H s1 R fun q ys H' hq hq2 t s=>hR _ H' s ⟨q,rfl,ys,fun z=>na (by rw[<- z];exact hq),s1.free hq,hq2,t.base fun t ht=>ZeA s1 na ht⟩
 ·obtain⟨qs,rfl,hqs⟩:=pick hP;obtain⟨Vs,hVl,hVs⟩:=Zn0 hqs;have hl':qs.length=xs.length:=by rw[<- hl,Yaa]
  refine hd acc qs Vs H h0 ha hl' ⟨hVl,fun j q vs x y=>(hVs j q vs x y).2.2.1⟩ (fun q hq'=>?_) ⟨by simp[<- hVl,hl'],fun j vs ds x y=>?_⟩ s1
  ·obtain⟨j,hj⟩:=Ya8 hq';obtain⟨_,a1,a2,_⟩:=hqs j q hj;exact⟨a1,a2⟩
  ·have hi:j<xs.length:=by rw[<- hl',hVl];exact (Yab.mp x).1
   rw[Yag,YbW hi] at y;cases y;have hj:qs[j]?=some (qs[j]'(by (clear hVl hl hlen;omega))):=Yac (by (clear hVl hl hlen;omega));exact (hVs j _ vs hj x).2.2.2
theorem _root_.L2.pe_revK (K:Yae) {X:Cx}{e st:Expr}{te:TE}{ts:TO}{pos p2:Pos} (he:PE X e te) (hst:PO X (some st) ts) (hK:X.K=K:=by rfl):PE X (.Subscript e (.Slice none none (some st) p2) pos) (ZmF K te ts):=by subst hK;exact Zfa he hst
theorem Zfs (xs:List V) (c:Nat):cutV xs none (some (c:Int))=xs.take c:=by
 unfold cutV;show (xs.drop 0).take (HT.sIx xs.length xs.length (some (c:Int)) - 0)=_;rw[HT.sIx_nat,Nat.sub_zero,List.drop_zero];by_cases h:c<=xs.length
 ·rw[Nat.min_eq_left h]
 ·rw[Nat.min_eq_right (by omega),Yaz,Ybk (by omega)]
theorem ZkF (xs:List V) (m:Nat):cutV xs none (some (if (0:Int) > (xs.length:Int) - (m:Int) then 0 else (xs.length:Int) - (m:Int)))=cutT m xs:=by
 have e:(if (0:Int) > (xs.length:Int) - (m:Int) then 0 else (xs.length:Int) - (m:Int))=((xs.length - m:Nat):Int):=by
  split <;> omega
 rw[e,Zfs];rfl
theorem Zhw {g:List Int->Int} (hg:∀ xs,0<=g xs):∀ d:TD,0<=wT g d
 | none=>Ycv _
 | some d=>hg _
theorem Zdk (d:TD):0<=lenT d:=Zhw (fun xs=>Int.natCast_nonneg _) d
theorem ZbI:∀ ds:List TD,0<=(ds.map lenT).sum
 | []=>Ycv _
 | d::ds=>by
  have h1:=ZbI ds;have h2:=Zdk d;rw[Yam,YaF];omega
theorem ZgN:∀ {ds:List TD}{d:TD},d∈ds->lenT d<=(ds.map lenT).sum
 | [],d,h=>by simp at h
 | e::ds,d,h=>by
  rw[Yam,YaF];rcases Yay.mp h with rfl | h
  ·have:=ZbI ds;omega
  ·have:=ZgN h;have:=Zdk e;omega
theorem Zft (m i:Nat):∀ D:List (List TD),((tkT D m i).map lenT).sum<=totT lenT D
 | []=>Ycv _
 | d::D=>by
  have ih:=Zft m i D;have h0:=ZbI d;rw[Za2];unfold tkT at ih ⊢;rw[YaQ]
  cases e:(d.reverse.take m)[i]? with
  | none=>dsimp only;omega
  | some x=>
   dsimp only;rw[Yam,YaF];have:=ZgN (YbX.mp (Ybe (Yah e)))
   (clear h0;omega)
theorem ZkH {D:List (List TD)}{m:Nat} (h:totT lenT D<=15000) (i:Nat):(((Za6 (tkT D m i)).map (·.2)).flatten).length<=15000:=by
 have h1:=Zft m i D;unfold lenT at h1;rw[ZeV Zdp] at h1;unfold lenT at h;have e:∀ xs:List Int,gl58 xs=(xs.length:Int):=fun _=>rfl;rw[e] at h1;omega
def spLW (K:Yae):Sp:=fun vs H Q _=>∃ (p n:Nat) (a:Addr),vs=[.int p,.ref a]/\2<=p/\p<=7/\SqT K H a ((cnt p n).map V.int)/\∀ H',Same H H'->Q (.int n) H'
def SzT (D:List (List TD)):Prop:=D.length<=20/\(∀ r∈D,r.length<=15000)/\totT lenT D<=15000
theorem ZgE:∀ (D:List (List TD)) (ps:List (Int × Int)) (o m:Int),plT D (ps++[(o,m)])=phT (plT D ps) o.toNat m.toNat
 | D,[],o,m=>rfl
 | D,(a,b)::ps,o,m=>ZgE (phT D a.toNat b.toNat) ps o m
theorem Ze5:∀ (D:List (List TD)) (rd:List Int) (ps:List (Int × Int)) (o m:Int),rdTP D rd (ps++[(o,m)])=YcT (·+·) (rdTP D rd ps) (rdT (plT D ps) m.toNat)
 | D,rd,[],o,m=>rfl
 | D,rd,(a,b)::ps,o,m=>Ze5 (phT D a.toNat b.toNat) _ ps o m
theorem Zf0:∀ (D:List (List TD)) (ps:List (Int × Int)),(plT D ps).length=D.length
 | D,[]=>rfl
 | D,(a,b)::ps=>by rw[plT,Zf0,Zde]
theorem ZgC:∀ (D:List (List TD)) (rd:List Int) (ps:List (Int × Int)),rd.length=D.length->(rdTP D rd ps).length=D.length
 | D,rd,[],h=>h
 | D,rd,(a,b)::ps,h=>by rw[rdTP,ZgC _ _ ps (by rw[Zde,YeD,rdT,Yaa,h];(clear h;omega)),Zde]
theorem OkP.at:∀ {D:List (List TD)}{ps:List (Int × Int)}{i:Nat}{o m:Int},OkP D ps->ps[i]?=some (o,m)->0<=o/\0<=m/\(plT D (ps.take i))[o.toNat]?=some []/\∀ j,j<m.toNat->NoCl (tkT (plT D (ps.take i)) m.toNat j)
 | D,[],i,o,m,_,e=>by simp at e
 | D,(a,b)::ps,0,o,m,h,e=>by cases e;exact h.1
 | D,(a,b)::ps,i+1,o,m,h,e=>OkP.at (D:=phT D a.toNat b.toNat) h.2 (i:=i) (by simpa using e)
theorem SzT.ph {D:List (List TD)}{o m:Nat} (h:SzT D) (ho:D[o]?=some []) (hm:m<=15000):SzT (phT D o m):=by
 refine⟨by rw[Zde];exact h.1,fun r hr=>?_,by rw[ZkO lenT_ok ho];exact h.2.2⟩;rcases Yd8 hr with hr | rfl
 ·obtain⟨r',hr',rfl⟩:=YaU.mp hr;have:=h.2.1 r' hr';rw[YaL]
  (clear hm;omega)
 ·simp;exact hm
theorem OkP.sz:∀ {D:List (List TD)}{ps:List (Int × Int)},OkP D ps->SzT D->(∀ q∈ps,q.2<=15000)->∀ i,SzT (plT D (ps.take i))
 | D,ps,_,h,_,0=>by rw[Ybb];exact h
 | D,[],_,h,_,i+1=>h
 | D,(a,b)::ps,ok,h,hb,i+1=>OkP.sz (D:=phT D a.toNat b.toNat) ok.2 (h.ph ok.1.2.2.1 (by have:b<=15000:=hb (a,b) YaD;omega)) (fun q hq=>hb q (YaC _ hq)) i
theorem Znt {p:Nat} (hp:2<=p) (n:Nat):hd p n<=tot p n:=by
 have:=Zeb hp n;have h1:tot p n<=tot p (n+1):=ZbT hp (YcF n);exact ZkT (ZbC p n).2
theorem Ze9 {p:Nat} (hp:2<=p):∀ (m t:Nat),∀ q∈phL p t m,q.2<=tot p m
 | 0,t,q,h=>by simp[phL] at h
 | m+1,t,q,h=>by
  rw[phL] at h;have h1:tot p m<=tot p (m+1):=ZbT hp (YcF m);rcases Yay.mp h with rfl | h
  ·have:=Znt hp m;show hd p m<=_
   (clear hp;omega)
  ·have:=Ze9 hp m (t+1) q h
   (clear hp;omega)
theorem ZgO:∀ {xs:List Int}{x:Int},(∀ y∈xs,0<=y)->x∈xs->x<=xs.sum
 | [],x,_,h=>by simp at h
 | y::xs,x,h0,h=>by
  have h1:0<=xs.sum:=nn fun z hz=>h0 z (YaC _ hz);have h2:=h0 y YaD;rw[YaF];rcases Yay.mp h with rfl | h
  ·(clear h2;omega)
  ·have:=ZgO (fun z hz=>h0 z (YaC _ hz)) h
   (clear h1;omega)
where
 nn:∀ {ys:List Int},(∀ z∈ys,0<=z)->0<=ys.sum
  | [],_=>Ycv _
  | y::ys,h=>by
   have h1:=nn fun z hz=>h z (YaC _ hz);have h2:=h y YaD;rw[YaF];omega
theorem Zdd {α:Type} (l:List α) (d:α):(YaH l.length).map (fun j=>l.getD j d)=l:=by
 refine Ye1 (by simp) fun i h1 h2=>?_;rw[List.getElem_map,List.getElem_range,Yao,Yac h2];rfl
theorem RL.snoc {H:Hp}{as:List Addr}{Vs:List (List V)}{q:Addr}{vs:List V} (h:RL H as Vs) (e:H q=some (.lst vs)):RL H (as++[q]) (Vs++[vs]):=⟨by simp[h.1],fun j a ws x y=>by
 by_cases z:j<as.length
 ·rw[YaK z] at x;rw[YaK (by rw[<- h.1];exact z)] at y;exact h.2 j a ws x y
 ·rw[YaA (by omega)] at x;rw[YaA (by rw[<- h.1];omega)] at y;have hj:=(Yab.mp x).1
  have:j - as.length=0:=by simp at hj;(clear z;omega)
  rw[this] at x;rw[<- h.1,this] at y;cases x;cases y;exact e⟩
theorem TVD.snoc {Hb H:Hp}{Vs:List (List V)}{D:List (List TD)}{vs:List V}{ds:List TD} (h:TVD Hb H Vs D) (e:TVs Hb H vs ds):TVD Hb H (Vs++[vs]) (D++[ds]):=⟨by simp[h.1],fun j a ws x y=>by
 by_cases z:j<Vs.length
 ·rw[YaK z] at x;rw[YaK (by rw[<- h.1];exact z)] at y;exact h.2 j a ws x y
 ·rw[YaA (by omega)] at x;rw[YaA (by rw[<- h.1];omega)] at y;have hj:=(Yab.mp x).1
  have:j - Vs.length=0:=by simp at hj;(clear z;omega)
  rw[this] at x;rw[<- h.1,this] at y;cases x;cases y;exact e⟩
theorem Zd6:∀ {i:Nat}{Ws:List (List V)},i<=Ws.length->(∀ (j:Nat) ws,Ws[j]?=some ws->ws.length<=15000)->((Ws.take i).flatten).length<=i*15000
 | 0,Ws,_,_=>by simp
 | i+1,[],h,_=>by simp at h
 | i+1,w::Ws,h,hb=>by
  have h1:=Zd6 (i:=i) (Ws:=Ws) (by simpa using h) fun j ws e=>hb (j+1) ws (by simpa using e);have h2:=hb 0 w rfl;rw[List.take_succ_cons,YaS,Yan]
  (clear h;omega)
def Zlu:Sp:=fun vs H Q _=>∃ (Hb:Hp) (l q:Addr) (as:List Addr) (Vs:List (List V)) (D:List (List TD)) (o m:Nat) (g:Int),vs=[.ref l,.ref q,.int g]/\H l=some (.lst (as.map V.ref))/\RL H as Vs/\TVD Hb H Vs D/\(∀ a,H a=none->Hb a=none)/\H q=some (.tup [.int o,.int m])/\D[o]?=some []/\m<=15000/\SzT D/\(∀ i,i<m->NoCl (tkT D m i)) /\
 ∀ t b e bs Ws H',H' t=some (.tup [.ref b,.ref e])->H' b=some (.lst (bs.map V.ref))->RL H' bs Ws->TVD Hb H' Ws (phT D o m)->H' e=some (.lst ((rdT D m).map V.int))->H b=none->H e=none->Same H H'->Q (.ref t) H'
def RLb (b:Bool) (H:Hp) (as:List Addr) (Vs:List (List V)):Prop:=as.length=Vs.length/\∀ (j:Nat) a vs,as[j]?=some a->Vs[j]?=some vs->H a=some (if b then .lst vs else .tup vs)
theorem RLb.at {b:Bool}{H:Hp}{as:List Addr}{Vs:List (List V)} (h:RLb b H as Vs) {j:Nat}{a:Addr} (e:as[j]?=some a):∃ vs,Vs[j]?=some vs/\H a=some (if b then .lst vs else .tup vs):=by
 have hi:=(Yab.mp e).1
 have hj:j<Vs.length:=by rw[<- h.1];exact hi
 have e2:Vs[j]?=some Vs[j]:=Yac hj;exact⟨_,e2,h.2 j a _ e e2⟩
def Zeg (K:Yae):Sp:=fun vs H Q _=>∃ (b:Bool) (p n:Nat) (l:Addr) (as:List Addr) (Vs:List (List V)) (D:List (List TD)) (d:TD) (r:List TD),vs=[.int p,.ref l]/\2<=p/\p<=7/\n<=300/\tot p n<=4000/\SqB b K H l (as.map V.ref)/\RLb b H as Vs/\TVD (fun _=>none) H Vs D/\D.map (fun r=>(r.length:Int))=cnt p n/\totT lenT D<=15000/\OkP (D++[[]]) (phL p 0 n)/\(plT (D++[[]]) (phL p 0 n)).flatten=d::r /\
 ∀ t e v H',H' t=some (.tup [v,.ref e])->TV H H' v d->H' e=some (.lst ((rdTP (D++[[]]) (Yaf (p+1) 0) (phL p 0 n)).map V.int))->H e=none->Same H H'->Q (.ref t) H'
end Lv
namespace Fi58
open PySem L2 Lv
section
variable {P:Program}{w:World}{K:Yae}{mg:Str->Option Value}{base:Heap}
theorem scLW:FnScope ["p","counts","level","of_level"] ["p","counts"] (Zac sLW):=⟨rfl,rfl,rfl,by decide +kernel,rfl,by decide +kernel,by decide +kernel⟩
theorem Znb {f f1 f2:Addr}{fd d1 d2:FuncData} (F:Fun K "level_with" "level_with" sLW f fd) (T:Txt mg) (CF:Cal P w K mg base 1 "first_counts" ["p"] Zdb f1 d1) (CN:Cal P w K mg base 1 "next_counts" ["counts"] (Ze2 K) f2 d2):FnOk P w K mg base CX0 2 f fd ["p","counts"] (spLW K):=by
 refine okW F scLW (fun vs H Q E h=>?_) (fun cdv A outer s H vs Q E hr h=>?_)
 ·obtain⟨p,n,a,rfl,_⟩:=h;rfl
 ·obtain⟨p,n,a,rfl,h1,h2,hA,k⟩:=h;have hu0:(A.deeper (Yb7 "level_with" (Zac sLW) s.heap.objs.size f cdv)).units<cLine:=by have:=hr.un;(clear h2 h1;omega)
  have hr1:Room 1 _:=hr.mono (by decide);refine⟨_,(Zag (ws (Zar (i:=2) scLW.nd rfl (YaG rfl) Zaf))
   (Zag (ws (Zar (i:=3) scLW.nd rfl (YaG rfl) (Zao CF hr1 rfl (Zab (pv 0) Zad))))
   (Zag (ws (ZjW Ya4 (ZaP Zj7 (Zan (Zdv rfl) rfl T.sum Zgl (Zab (pv 3) Zad)) (Zan (Zdv rfl) rfl T.sum Zgl (Zab (pv 1) Zad)) (ZaV _))
   (WSs.out (Zag (ws (Zar (i:=3) scLW.nd rfl (YaG rfl) (Zao CN hr1 rfl (Zab (pv 3) Zad))))
    (Zax (ws (ZkZ (i:=2) scLW.nd rfl (YaG rfl) Zaf Zlb)))))))
   (Zag (Zc1 (ZaP (Zm4 hu0) (pv 3) (pv 1) (ZaV _))
   (wss ZaT)
   Zbi)
   (Zax (ws (Zay (pv 2)))))))),?_⟩
  refine⟨_,rfl,p,rfl,h1,h2,fun l H1 hl0 hl1 s1=>?_⟩;refine⟨fun m σ H2=>∃ (k:Nat) (l:Addr),σ=[some (.int p),some (.ref a),some (.int k),some (.ref l)]/\H2 l=some (.tup ((cnt p k).map V.int))/\Same H H2/\k<=n/\m=n - k,⟨_,0,l,rfl,hl1,s1,YaT _,rfl⟩,?_⟩;rintro m σ H2 ⟨k',l,rfl,hl2,s2,hk,rfl⟩;have hlen:=Zbs (p:=p) (by (clear hk hu0 h2;omega)) k';refine⟨_,rfl,l,_,rfl,SqT.of hl2,_,rfl,a,_,rfl,s2.tup hA,_,_,rfl,rfl,_,rfl,?_⟩;refine ite2 (fun hc=>?_) (fun hc=>?_)
  ·have hc':tot p k'<tot p n:=of_decide_eq_true hc;have hkn:k'<n:=by
    rcases Ybp k' n with z | z
    ·exact z
    ·have:=ZbT h1 z
     (clear z hlen hk hu0 h2 h1;omega)
   refine⟨fun σ H2=>∃ l:Addr,σ=[some (.int p),some (.ref a),some (.int ((k'+1:Nat):Int)),some (.ref l)]/\H2 l=some (.tup ((cnt p (k'+1)).map V.int))/\Same H H2,?_,?_⟩
   ·rintro σ' H' ⟨l',rfl,hl',s'⟩;exact⟨_,(by (clear hc' hlen hk hu0 h2 h1;omega)),k'+1,l',rfl,hl',s',hkn,rfl⟩
   ·refine⟨_,rfl,l,cnt p k',rfl,SqT.of hl2,by (clear hkn hc' hk hu0 h2;omega),by (clear hkn hc' hk hu0 h1;omega),fun l3 H3 h30 h3 s3=>?_⟩;exact⟨_,rfl,_,_,rfl,rfl,l3,rfl,h3,s2.trans s3⟩
  ·have hc':¬ tot p k'<tot p n:=fun z=>hc (decide_eq_true z);have hkn:k'=n:=by
    rcases Ybp k' n with z | z
    ·have:=Zll h1 z
     (clear z hc hlen hk hu0 h2 h1;omega)
    ·(clear hc' hc hlen hu0 h2 h1;omega)
   subst hkn;refine⟨_,rfl,_,rfl,l,a,_,_,rfl,rfl,SqT.of hl2,s2.tup hA,?_⟩;rw[decide_eq_true rfl];exact⟨_,rfl,iteF ⟨_,rfl,k H2 s2⟩⟩
theorem scPhT:FnScope ["reels","phase","merged","out","many","taken","behind"] ["reels","phase","merged"] (Zac sPhT):=⟨rfl,rfl,rfl,by decide +kernel,rfl,by decide +kernel,by decide +kernel⟩
theorem Zna {f f1 f2 f3:Addr}{fd d1 d2 d3:FuncData} (F:Fun K "turned_phase" "turned_phase" sPhT f fd) (T:Txt mg) (CM:Cal P w K mg base 2 "merged_turned" ["rows","at"] ZhS f1 d1) (CK:Cal P w K mg base 1 "taken_at" ["taken","at"] Zlr f2 d2) (CT:Cal P w K mg base 2 "things_turned" ["rows"] Zls f3 d3):FnOk P w K mg base CX0 3 f fd ["reels","phase","merged"] Zlu:=by
 refine okW F scPhT (fun vs H Q E h=>?_) (fun cdv A outer s H vs Q E hr h=>?_)
 ·obtain⟨Hb,l,q,as,Vs,D,o,m,g,rfl,_⟩:=h;rfl
 ·obtain⟨Hb,l,q,as,Vs,D,o,m,g,rfl,hl,hRL,hTV,hbs,hq,ho,hm,hz,hcl,k⟩:=h;have hr1:Room 1 _:=hr.mono (by decide);have hr2:Room 2 _:=hr.mono (by decide);refine⟨_,(Zag (ws (Zb1 (pv 1) (Zb2 rfl (Zas (Zah (i:=3) scPhT.nd rfl (YaG rfl)) (Zas (Zah (i:=4) scPhT.nd rfl (Yc2 rfl)) Za5)))))
   (Zag (ws (Zar (i:=5) scPhT.nd rfl (Yc2 rfl) (Zaz (own:=["reel"]) (js:=[4]) (CompOk.by (sc:=Zac sPhT) (N:=["reels","phase","merged","out","many","taken","behind"]) rfl rfl (by decide +kernel)) rfl (ZaQ (pv 0)) Zak (fun _ _ _ _ _=>(Zah (i:=0) (by show (["reel","many"]:List Str).Nodup;decide +kernel) rfl (YaG rfl) (.inr rfl))) (fun _ _ _ _ _=>Zav) (fun _ _ _ _ _=>(Zbz (ZgA K) (pe_revK K (pv 0) (Za9 (Zie ZeY Zaf))) Zb9 (Za9 (pv 1)))))))
   (Zag (ws (ZcE (i:=6) scPhT.nd rfl rfl (own:=["reel"]) (js:=[4]) (CompOk.by (sc:=Zac sPhT) (N:=["reels","phase","merged","out","many","taken","behind"]) rfl rfl (by decide +kernel)) rfl (ZaQ (pv 0)) Zak (fun _ _ _ _ _=>(Zah (i:=0) (by show (["reel","many"]:List Str).Nodup;decide +kernel) rfl (YaG rfl) (.inr rfl))) (fun _ _ _ _ _=>Zav) (fun _ _ _ _ _=>(Zbz (ZgA K) (pv 0) Zb9 (Za9 (Zan (Zdw rfl) rfl T.max Zmq (Zab (Zau Zcj (Zan (Zbm K) rfl T.len Ybr (Zab (pv 0) Zad)) (pv 1)) (Zab Zaf Zad))))))))
   (Zag (ws (Zb1 (Zaz (own:=["at"]) (js:=[2,5]) (CompOk.by (sc:=Zac sPhT) (N:=["reels","phase","merged","out","many","taken","behind"]) rfl rfl (by decide +kernel)) rfl (ZaI rfl T.range (Zab (pv 4) Zad)) Zak (fun _ _ _ _ _=>(Zah (i:=0) (by show (["at","merged","taken"]:List Str).Nodup;decide +kernel) rfl (YaG rfl) (.inr rfl))) (fun _ _ _ _ _=>Zav) (fun _ _ _ _ _=>(Zao CM hr2 rfl (Zab (Zao CK hr1 rfl (Zab (pv 2) (Zab (pv 0) Zad))) (Zab (Zau Zbb (pv 1) (pv 0)) Zad))))) (ZgG (pv 6) (pv 3) ZcW)))
   (Zax (ws (Zay (Zbo (Zab (pv 6) (Zab (Zaz (own:=["rows"]) (js:=[]) (CompOk.by (sc:=Zac sPhT) (N:=["reels","phase","merged","out","many","taken","behind"]) rfl rfl (by decide +kernel)) rfl (ZaQ (pv 5)) Zak (fun _ _ _ _ _=>(Zah (i:=0) (by show (["rows"]:List Str).Nodup;decide +kernel) rfl (YaG rfl) (.inr rfl))) (fun _ _ _ _ _=>Zav) (fun _ _ _ _ _=>(Zao CT hr2 rfl (Zab (pv 0) Zad)))) Zad)))))))))),?_⟩
  have hal:as.length=Vs.length:=hRL.1;have hvl:Vs.length=D.length:=hTV.1;have hz20:=hz.1;have ho':o<D.length:=(Yab.mp ho).1
  have getV:∀ {j:Nat}{r:Addr},as[j]?=some r->∃ vs,Vs[j]?=some vs/\Vs.getD j []=vs/\H r=some (.lst vs):=fun {j r} e=>by
   obtain⟨vs,e1,e2⟩:=hRL.at e;exact⟨vs,e1,by rw[Yao,e1];rfl,e2⟩
  refine⟨_,rfl,q,_,rfl,SqT.of hq,rfl,_,_,rfl,_,_,rfl,rfl,?_⟩;refine⟨_,rfl,l,true,rfl,⟨_,SqL.of hl⟩,?_⟩;refine ZbY (b:=true) (K:=K) (a:=l) (xs:=as.map V.ref) (fun j=>(Vs.getD j []).reverse.take m) (SqL.of hl) (by rw[Yaa];(clear ho' hm;omega)) (fun i x hx H1 s1 R hR=>?_) fun tk qs H1 htk0 htk hql hqs s1=>?_
  ·obtain⟨r,hr',rfl⟩:=Zam hx;obtain⟨vs,_,ev,hrv⟩:=getV hr';refine⟨_,rfl,1,rfl,-1,rfl,rfl,r,_,rfl,SqL.of (s1 _ _ hrv),fun lv ev'=>?_⟩;refine⟨_,rfl,_,rfl,lv,_,rfl,SqL.of Zaa,fun p np=>?_⟩;rw[Zfs];have s2:Same H1 (upd H1 lv (.lst vs.reverse)):=Same.new ev';exact hR p _ (s2.free np) (by rw[Zaa,ev]) (s2.trans (Same.new np))
  rw[Yaa] at hql;have hRtk:RL H1 qs (Vs.map fun vs=>vs.reverse.take m):=⟨by rw[Yaa];(clear ho' hz20 hvl hm;omega),fun j r ws h1 h2=>by
   rw[Yag] at h2
   cases e:Vs[j]? with
   | none=>rw[e] at h2;cases h2
   | some vs=>
    rw[e] at h2;cases h2;have:=(hqs j r h1).2.2
    rw[Yao,e] at this;exact this⟩
  have hl1:=s1 _ _ hl;refine⟨_,rfl,l,true,rfl,⟨_,SqL.of hl1⟩,?_⟩;refine ZbY (b:=true) (K:=K) (a:=l) (xs:=as.map V.ref) (fun j=>cutT m (Vs.getD j [])) (SqL.of hl1) (by rw[Yaa];(clear hql ho' hm;omega)) (fun i x hx H2 s2 R hR=>?_) fun bh bs H2 hbh0 hbh hbl hbsq s2=>?_
  ·obtain⟨r,hr',rfl⟩:=Zam hx;obtain⟨vs,_,ev,hrv⟩:=getV hr';have hrv2:=s2 _ _ (s1 _ _ hrv);refine⟨_,rfl,_,rfl,r,_,rfl,.inl (SqL.of hrv2),_,rfl,_,_,rfl,rfl,_,_,rfl,_,rfl,r,_,rfl,SqL.of hrv2,fun p np=>?_⟩;rw[ZkF];exact hR p _ np (by rw[Zaa,ev]) (Same.new np)
  rw[Yaa] at hbl;have hRbs:RL H2 bs (Vs.map (cutT m)):=⟨by rw[Yaa];(clear hql ho' hz20 hvl hm;omega),fun j r ws h1 h2=>by
   rw[Yag] at h2
   cases e:Vs[j]? with
   | none=>rw[e] at h2;cases h2
   | some vs=>
    rw[e] at h2;cases h2;have:=(hbsq j r h1).2.2
    rw[Yao,e] at this;exact this⟩
  have s12:=s1.trans s2;have hTV2:TVD (fun _=>none) H2 (Vs.map fun vs=>vs.reverse.take m) (D.map fun ds=>ds.reverse.take m):=((hTV.same s12).base fun _ _=>rfl).map fun vs ds h=>h.rev.take m;refine⟨_,rfl,_,rfl,by (clear hbl hql ho' hz20 hvl hal hm;omega),by (clear hbl hql ho' hz20 hvl hal;omega),?_⟩;rw[Ybg];refine Zjk (fun i=>tm (tkT D m i)) (by (clear hbl hql ho' hz20 hvl hal;omega)) (fun i hi H3 s3 R hR=>?_) fun ml ys H3 hml0 hml hTy s3=>?_
  ·have hRtk3:=(hRtk.same s2).same s3;refine⟨_,rfl,_,rfl,tk,qs,_,i,(by rw[Ycc];rfl),s3 _ _ (s2 _ _ htk),hRtk3.1,hRtk3.2,by (clear hi hbl ho' hm;omega),fun a H4 ha0 ha s4=>?_⟩;refine⟨_,rfl,_,rfl,_,_,rfl,rfl,?_⟩;refine⟨a,_,tkT D m i,_,rfl,ha,?_,?_,hcl i hi,?_,fun v H5 hv s5=>hR v H5 ?_ (s4.trans s5)⟩
   ·rw[ZfJ];exact ((hTV2.same s3).same s4).col i
   ·have:=YbR (·[i]?) (Vs.map fun vs=>vs.reverse.take m);rw[Yaa] at this
    (clear hi hbl hql ho' hal hm;omega)
   ·exact ZkH hz.2.2 i
   ·exact hv.base fun t ht=>s4.free ht
  have hbh3:=s3 _ _ hbh;refine⟨_,rfl,_,rfl,bh,_,_,o,rfl,rfl,hbh3,ZiP (by (clear hbl hql ho' hz20 hvl hal hm;omega)) (by rw[Yaa];(clear hql hz20 hm;omega)),?_⟩;rw[<- List.map_set];have n0:H bh=none:=s1.free hbh0;have nbm:ml≠bh:=fun z=>by rw[z,hbh] at hml0;cases hml0
  have ntk:tk≠bh:=fun z=>by rw[z,hbh0] at htk;cases htk
  have hRb4:RL (upd H3 bh (.lst ((bs.set o ml).map V.ref))) (bs.set o ml) ((Vs.map (cutT m)).set o ys):=RL.set ((hRbs.same s3).off fun r hr'=>by
   obtain⟨j,hj⟩:=Ya8 hr';exact (hbsq j r hj).1) (by rw[upd_ne nbm];exact hml)
  have s04:Same H (upd H3 bh (.lst ((bs.set o ml).map V.ref))):=(s12.trans s3).put n0;have hTy4:TVs Hb (upd H3 bh (.lst ((bs.set o ml).map V.ref))) ys ((YaH m).map fun i=>tm (tkT D m i)) :=
   (hTy.put hbh3 (by rw[upd_ne nbm.symm,hbh];exact fun z=>nomatch z)).base fun t ht=>hbs t (s12.free (Zbk ht))
  have hTD4:TVD Hb (upd H3 bh (.lst ((bs.set o ml).map V.ref))) ((Vs.map (cutT m)).set o ys) (phT D o m):=TVD.set ((hTV.same s04).map fun vs ds h=>by
   unfold cutT;rw[h.1];exact h.take _) hTy4
  have hb4:upd H3 bh (.lst ((bs.set o ml).map V.ref)) bh=some (.lst ((bs.set o ml).map V.ref)):=Zaa;have htk4:upd H3 bh (.lst ((bs.set o ml).map V.ref)) tk=some (.lst (qs.map V.ref)):=by rw[upd_ne ntk];exact s3 _ _ (s2 _ _ htk)
  have hRtk4:RL (upd H3 bh (.lst ((bs.set o ml).map V.ref))) qs (Vs.map fun vs=>vs.reverse.take m):=((hRtk.same s2).same s3).off fun r hr' z=>by
   obtain⟨j,hj⟩:=Ya8 hr';have:=(hqs j r hj).2.2
   rw[z,hbh0] at this;cases this
  have hTVt4:TVD (fun _=>none) (upd H3 bh (.lst ((bs.set o ml).map V.ref))) (Vs.map fun vs=>vs.reverse.take m) (D.map fun ds=>ds.reverse.take m):=((hTV.same s04).base fun _ _=>rfl).map fun vs ds h=>h.rev.take m;generalize upd H3 bh (.lst ((bs.set o ml).map V.ref))=H4 at hRb4 s04 hTy4 hTD4 hb4 htk4 hRtk4 hTVt4 ⊢;refine⟨_,rfl,_,rfl,tk,true,rfl,⟨_,SqL.of htk4⟩,?_⟩;refine ZbO ((rdT D m).map V.int) (show SqB true K H4 tk (qs.map V.ref) from SqL.of htk4) (by simp[rdT];(clear ntk nbm hbl ho' hz20 hm;omega)) (by rw[Yaa];(clear ntk nbm hbl ho' hm;omega)) (fun i x y hx hy H5 s5 R hR=>?_) fun acc H5 h0 s5 hacc=>?_
  ·obtain⟨r,hr',rfl⟩:=Zam hx;obtain⟨ws,hw,hrw⟩:=hRtk4.at hr';obtain⟨ds,hds,htv⟩:=hTVt4.at hw;have hd2:∃ d0,D[i]?=some d0/\ds=d0.reverse.take m:=by
    rw[Yag] at hds
    cases e:D[i]? with
    | none=>rw[e] at hds;cases hds
    | some d0=>rw[e] at hds;exact⟨d0,rfl,(Yax hds).symm⟩
   obtain⟨d0,hd0,rfl⟩:=hd2;have ey:y=.int (tth (d0.reverse.take m)):=by
    unfold rdT at hy;rw[Ybc,Yag,hd0] at hy;exact (Yax hy).symm
   subst ey;have hlen:ws.length<=15000:=by
    rw[htv.1,YaL]
    (clear ntk nbm hbl hql ho' hz20 hvl hal;omega)
   exact⟨_,rfl,r,ws,_,rfl,s5 _ _ hrw,htv.same s5,hlen,fun H6 s6=>hR H6 s6⟩
  ·refine⟨(by show 2<=sizeLine;decide),fun t nt=>?_⟩;have s6:Same H5 (upd H5 t (.tup [.ref bh,.ref acc])):=Same.new nt;exact k t bh acc _ _ _ Zaa (s6 _ _ (s5 _ _ hb4)) ((hRb4.same s5).same s6) ((hTD4.same s5).same s6) (s6 _ _ hacc) n0 (s04.free h0) ((s04.trans s5).trans s6)
end
end Fi58
namespace Fi58
open PySem L2 Lv
section
variable {P:Program}{w:World}{K:Yae}{mg:Str->Option Value}{base:Heap}
theorem scLPh:FnScope ["p","n","greatest","counts","level"] ["p","n"] (Zac sLPh):=⟨rfl,rfl,rfl,by decide +kernel,rfl,by decide +kernel,by decide +kernel⟩
def Zlv:Sp:=fun vs H Q _=>∃ p n:Nat,vs=[.int p,.int n]/\2<=p/\p<=7/\n<=300/\∀ (l:Addr) (qs:List Addr) H',H l=none->H' l=some (.lst (qs.map V.ref))->(∀ q∈qs,q≠l)->TuM H' qs (phs p n n)->Same H H'->Q (.ref l) H'
theorem Znc {f f1 f2 f3 f4:Addr}{fd d1 d2 d3 d4:FuncData} (F:Fun K "level_phases" "level_phases" sLPh f fd) (T:Txt mg) (Te:mg "enumerate"=none) (CW:Cal P w K mg base 2 "check_ways" ["p"] ZdK f1 d1) (CV:CalD P w K mg base 2 "check_level" ["n","last"] [.int 300] Zcg f2 d2) (CA:Cal P w K mg base 1 "first_counts" ["p"] Zdb f3 d3) (CN:Cal P w K mg base 1 "next_counts" ["counts"] (Ze2 K) f4 d4):FnOk P w K mg base CX0 3 f fd ["p","n"] Zlv:=by
 refine F.ok scLPh (fun vs H Q E h=>?_) (fun cdv A outer s H vs Q E hr2 h=>?_)
 ·obtain⟨p,n,rfl,_⟩:=h;rfl
 ·obtain⟨p,n,rfl,h2,h7,h3,k⟩:=h;have hr1:Room 1 _:=hr2.mono (by decide);refine⟨_,(Zal (Za3 (Zao CW hr2 rfl (Zab (pv 0) Zad)))
   (Zal (Za3 (Zf3 CV hr2 rfl (Zab (pv 1) Zad)))
   (Zal (Zar (i:=2) scLPh.nd rfl (YaG rfl) (ZaJ Zad))
   (Zal (Zar (i:=3) scLPh.nd rfl (YaG rfl) (Zao CA hr1 rfl (Zab (pv 0) Zad)))
   (Zal (Za7 Ya4 rfl (ZaI rfl T.range (Zab (pv 1) Zad)) (Zah (i:=4) scLPh.nd rfl (YaG rfl))
   (Zal (Za3 (Zj6 Ycu YcS YcR ZbK (pv 2) (Zab (ZaR Zdl (pv 3) Zaf (fun _ _=>rfl)) Zad)))
    (Zaq (Zar (i:=3) scLPh.nd rfl (YaG rfl) (Zao CN hr1 rfl (Zab (pv 3) Zad))))))
   (Zaq (Zay (Zaz (own:=["at","many"]) (js:=[0]) (CompOk.by (sc:=Zac sLPh) (N:=["p","n","greatest","counts","level"]) rfl rfl (by decide +kernel)) rfl (Zj0 rfl Te (Zab (Zfa (pv 2) (Za9 (Zie ZeY Zaf))) Zad)) (ZbN (i:=0) (k:=1) (K:=K)) (fun _ _ _ _ _=>(Zdf K rfl (Zas (Zah (i:=0) (by show (["at","many","p"]:List Str).Nodup;decide +kernel) rfl (YaG rfl) (.inr rfl)) (Zas (Zah (i:=1) (by show (["at","many","p"]:List Str).Nodup;decide +kernel) rfl (YaG rfl) (.inr rfl)) Za5)))) (fun _ _ _ _ _=>Zav) (fun _ _ _ _ _=>(Zbo (Zab (Zau Zb3 (Zau Zcj (pv 2) (pv 0)) (Zau Zbb (pv 2) Zaf)) (Zab (pv 1) Zad)))))))))))),?_⟩
  have hzz:1000<sizeLine:=by decide
  refine⟨_,rfl,p,rfl,by (clear hzz h3 h7;omega),by (clear hzz h3 h2;omega),_,rfl,n,300,rfl,by (clear hzz h3 h7 h2;omega),by (clear hzz h7 h2;omega),YaT _,fun gl ngl=>?_⟩;have s0:Same H (upd H gl (.lst [])):=Same.new ngl;refine⟨_,rfl,p,rfl,h2,h7,fun l H1 hl0 hl1 s1=>?_⟩;refine⟨_,rfl,n,rfl,by (clear hzz h3 h7 h2;omega),by (clear hzz h7 h2;omega),Zbl (fun i σ Hx=>∃ (l:Addr) (o4:Option V),σ=[some (.int p),some (.int n),some (.ref gl),some (.ref l),o4]/\Hx gl=some (.lst (((YaH i).map fun t=>hd p t).map V.int))/\Hx l=some (.tup ((cnt p i).map V.int))/\Same H Hx)
   ⟨l,none,rfl,s1 _ _ Zaa,hl1,s0.trans s1⟩ ?_ ?_⟩
  ·rintro i σ Hx hi ⟨l,o4,rfl,hgl,hl,sx⟩;have hlen:=Zbs (p:=p) (by (clear hi hzz h3 h7;omega)) i;refine⟨_,rfl,.inl ⟨rfl,_,SqL.of hgl⟩,_,rfl,l,_,0,.int (hd p i),rfl,rfl,SqT.of hl,?_,gl,_,_,rfl,rfl,hgl,by rw[Yaa,Yaa,Yc1];(clear hlen h7 h2;omega),?_⟩
   ·obtain⟨x,y,r,e,_⟩:=ZeO h2 i;unfold hd;rw[e];exact ZaO (j:=0) rfl
   have hlg:l≠gl:=fun z=>by rw[z,hgl] at hl;cases hl
   have hl2:upd Hx gl (.lst (((YaH i).map fun t=>hd p t).map V.int++[.int (hd p i)])) l=some (.tup ((cnt p i).map V.int)):=by rw[upd_ne hlg];exact hl
   refine⟨_,rfl,l,cnt p i,rfl,SqT.of hl2,by (clear hlg hi hzz h3 h7;omega),by (clear hlg hi hzz h3 h2;omega),fun l3 H3 h30 h3' s3=>?_⟩;refine⟨l3,_,rfl,s3 _ _ ?_,h3',(sx.put ngl).trans s3⟩;rw[Zaa,List.range_succ,YaM,YaM];rfl
  ·rintro σ Hx ⟨l,o4,rfl,hgl,hl,sx⟩;rw[Ybg] at hgl;refine⟨_,rfl,1,rfl,_,rfl,rfl,gl,_,rfl,SqL.of hgl,fun q hq=>?_⟩;have hglq:Same Hx (upd Hx q (.lst ((((YaH n).map fun t=>hd p t).map V.int).reverse))):=Same.new hq;have hqq:upd Hx q (.lst ((((YaH n).map fun t=>hd p t).map V.int).reverse)) q=some (.lst ((((YaH n).map fun t=>hd p t).map V.int).reverse)):=Zaa;generalize upd Hx q (.lst ((((YaH n).map fun t=>hd p t).map V.int).reverse))=H5 at hglq hqq ⊢;refine⟨q,true,rfl,⟨_,SqL.of hqq⟩,?_⟩;have hrl:((((YaH n).map fun t=>hd p t).map V.int).reverse).length=n:=by simp
   refine Zhn (b:=true) (xs:=(((YaH n).map fun t=>hd p t).map V.int).reverse) (fun acc i H2=>Same H5 H2/\∃ ps,H2 acc=some (.lst (ps.map V.ref))/\(∀ p∈ps,p≠acc)/\TuM H2 ps (phs p n i)) (fun acc h0=>⟨Same.new h0,[],Zaa,(fun p hp=>nomatch hp),TuM.nil⟩) (fun acc i H2 h0 _ p=>SqL.of (p.1 _ _ hqq)) ?_ ?_
   ·rintro acc i x u H2 h0 hx ⟨s2,ps,hacc,hne,hpr⟩ hu;have hi:i<n:=by have:=(Yab.mp hx).1;rwa [hrl] at this
    obtain rfl:x=.int (hd p (n - 1 - i)):=by
     rw[YcG (by simpa using hi)] at hx;simp only[Yaa,Yc1] at hx;rw[Yag,Yag,YbW (by (clear hrl hzz h3 h7 h2;omega))] at hx;exact (Yax hx).symm
    have s3:Same H2 (upd H2 u (.tup [.int i,.int (hd p (n - 1 - i))])):=Same.new hu;have hu3:upd H2 u (.tup [.int i,.int (hd p (n - 1 - i))]) u=some (.tup [.int i,.int (hd p (n - 1 - i))]):=Zaa;generalize upd H2 u (.tup [.int i,.int (hd p (n - 1 - i))])=H3 at s3 hu3 ⊢;have hpl:ps.length=i:=by rw[hpr.len,Zic]
    refine⟨u,_,rfl,SqT.of hu3,rfl,_,_,rfl,_,_,rfl,rfl,?_⟩;refine⟨_,rfl,_,rfl,_,_,rfl,rfl,_,rfl,_,_,rfl,rfl,_,_,rfl,rfl,(by show (0:Int)<(p:Int)+1;(clear hpl hi hrl hzz h3 h7 h2;omega)),_,rfl,(by show 2<=sizeLine;decide),fun t ht=>?_⟩;have hacc3:=s3 _ _ hacc;have hta:t≠acc:=Ybl (Zae hacc3 ht);have s45:Same H3 (upd H3 t (.tup [.int (((p:Int) - (i:Int)) % ((p:Int)+1)),.int (hd p (n - 1 - i))])):=Same.new ht;have ht5:upd H3 t (.tup [.int (((p:Int) - (i:Int)) % ((p:Int)+1)),.int (hd p (n - 1 - i))]) t=some (.tup (([phO p i,hd p (n - 1 - i)]:List Int).map V.int)):=Zaa;generalize upd H3 t (.tup [.int (((p:Int) - (i:Int)) % ((p:Int)+1)),.int (hd p (n - 1 - i))])=H6 at s45 ht5 ⊢;refine⟨_,s45 _ _ hacc3,by rw[Yaa];(clear hta hrl h7 h2;omega),by rw[hrl];exact hi,(s2.trans (s3.trans s45)).put h0,ps++[t],by rw[Zaa,YaM];rfl,fun p hp=>?_,?_⟩
    ·rcases Yar.mp hp with hp | hp
     ·exact hne p hp
     ·rw[YaN.mp hp];exact hta
    ·have:=(hpr.same (s3.trans s45)).snoc ht5 (by simp);refine this.keep fun p hp=>upd_ne ?_;rcases Yar.mp hp with hp | hp
     ·exact hne p hp
     ·rw[YaN.mp hp];exact hta
   ·rintro acc H2 h0 ⟨s2,ps,hacc,hne,hpr⟩;rw[hrl] at hpr;exact k acc ps H2 ((sx.trans hglq).free h0) hacc hne hpr (sx.trans (hglq.trans s2))
end
end Fi58
namespace Fi58
open PySem L2 Lv
section
variable {P:Program}{w:World}{K:Yae}{mg:Str->Option Value}{base:Heap}
theorem scPlayT:FnScope ["p","reels","level","behind","read","merged","phase","of_each","left"] ["p","reels"] (Zac Zb0):=⟨rfl,rfl,rfl,by decide +kernel,rfl,by decide +kernel,by decide +kernel⟩
theorem Zkf {f f1 f2 f3 f4 f5:Addr}{fd d1 d2 d3 d4 d5:FuncData} (F:Fun K "turned_play" "turned_play" Zb0 f fd) (T:Txt mg) (CC:Cal P w K mg base 2 "check_ways" ["p"] ZdK f1 d1) (CL:Cal P w K mg base 2 "level_with" ["p","counts"] (spLW K) f2 d2) (CO:Cal P w K mg base 1 "copied_turned" ["row"] ZhU f3 d3) (CP:Cal P w K mg base 3 "level_phases" ["p","n"] Zlv f4 d4) (CH:Cal P w K mg base 3 "turned_phase" ["reels","phase","merged"] Zlu f5 d5):FnOk P w K mg base CX0 4 f fd ["p","reels"] (Zeg K):=by
 refine okW F scPlayT (fun vs H Q E h=>?_) (fun cdv A outer s H vs Q E hr h=>?_)
 ·obtain⟨b,p,n,l,as,Vs,D,d,rr,rfl,_⟩:=h;rfl
 ·obtain⟨b,p,n,l,as,Vs,D,d,rr,rfl,h1,h2,h300,h4000,hq,hRL,hTV,hD,htot,hok,hend,k⟩:=h;have hr1:Room 1 _:=hr.mono (by decide);have hr2:Room 2 _:=hr.mono (by decide);have hr3:Room 3 _:=hr.mono (by decide);refine⟨_,(Zag (ws (Za3 (Zao CC hr2 rfl (Zab (pv 0) Zad))))
   (Zag (ws (Zar (i:=2) scPlayT.nd rfl (YaG rfl) (Zao CL hr2 rfl (Zab (pv 0) (Zab (ZaU ZaE rfl T.tuple ZbR (Zab (Zaz (own:=["reel"]) (js:=[]) (CompOk.by (sc:=Zac Zb0) (N:=["p","reels","level","behind","read","merged","phase","of_each","left"]) rfl rfl (by decide +kernel)) rfl (ZaQ (pv 1)) Zak (fun _ _ _ _ _=>(Zah (i:=0) (by show (["reel"]:List Str).Nodup;decide +kernel) rfl (YaG rfl) (.inr rfl))) (fun _ _ _ _ _=>Zav) (fun _ _ _ _ _=>(Zan (Zbm K) rfl T.len Ybr (Zab (pv 0) Zad)))) Zad)) Zad)))))
   (Zag (ws (Zar (i:=3) scPlayT.nd rfl (YaG rfl) (Zau ZbF (Zaz (own:=["reel"]) (js:=[]) (CompOk.by (sc:=Zac Zb0) (N:=["p","reels","level","behind","read","merged","phase","of_each","left"]) rfl rfl (by decide +kernel)) rfl (ZaQ (pv 1)) Zak (fun _ _ _ _ _=>(Zah (i:=0) (by show (["reel"]:List Str).Nodup;decide +kernel) rfl (YaG rfl) (.inr rfl))) (fun _ _ _ _ _=>Zav) (fun _ _ _ _ _=>(Zaz (own:=["row"]) (js:=[]) (CompOk.bare (by decide +kernel)) rfl (ZcX K (pv 0)) Zak (fun _ _ _ _ _=>(Zah (i:=0) (by show (["row"]:List Str).Nodup;decide +kernel) rfl (YaG rfl) (.inr rfl))) (fun _ _ _ _ _=>Zav) (fun _ _ _ _ _=>(Zao CO hr1 rfl (Zab (pv 0) Zad)))))) (ZaJ (Zab (ZaJ Zad) Zad)))))
   (Zag (ws (Zar (i:=4) scPlayT.nd rfl (YaG rfl) (Zau ZdZ (ZaJ (Zab Zaf Zad)) (Zau Zbb (pv 0) Zaf))))
   (Zag (ws (Zar (i:=5) scPlayT.nd rfl (YaG rfl) Zaf))
   (Zag (ws (Za7 Ya4 rfl (Za4 (Zao CP hr3 rfl (Zab (pv 0) (Zab (pv 2) Zad)))) (Zah (i:=6) scPlayT.nd rfl (YaG rfl))
   (WSs.out (Zag (ws (Zb1 (Zao CH hr3 rfl (Zab (pv 3) (Zab (pv 6) (Zab (pv 5) Zad)))) (Zb2 rfl (Zas (Zah (i:=3) scPlayT.nd rfl (YaG rfl)) (Zas (Zah (i:=7) scPlayT.nd rfl (YaG rfl)) Za5)))))
    (Zag (ws (ZcE (i:=4) scPlayT.nd rfl rfl (own:=["ahead","more"]) (js:=[]) (CompOk.by (sc:=Zac Zb0) (N:=["p","reels","level","behind","read","merged","phase","of_each","left"]) rfl rfl (by decide +kernel)) rfl (Zf1 rfl T.zip (Zab (pv 4) (Zab (pv 7) Zad))) (ZbN (i:=0) (k:=1) (K:=K)) (fun _ _ _ _ _=>(Zdf K rfl (Zas (Zah (i:=0) (by show (["ahead","more"]:List Str).Nodup;decide +kernel) rfl (YaG rfl) (.inr rfl)) (Zas (Zah (i:=1) (by show (["ahead","more"]:List Str).Nodup;decide +kernel) rfl (YaG rfl) (.inr rfl)) Za5)))) (fun _ _ _ _ _=>Zav) (fun _ _ _ _ _=>(Zau Zbb (pv 0) (pv 1)))))
    (Zax (ws (ZkZ (i:=5) scPlayT.nd rfl (YaG rfl) (ZaR Zdl (pv 6) Zaf (fun _ _=>rfl)) Zlb))))))))
   (Zag (ws (ZjX (i:=8) scPlayT.nd rfl rfl (own:=["reel","row"]) (js:=[]) (fr:=[1]) (CompOk.by (sc:=Zac Zb0) (N:=["p","reels","level","behind","read","merged","phase","of_each","left"]) rfl rfl (by decide +kernel)) rfl (ZaQ (pv 3)) (Zdr (i:=0)) (Zdq (i:=1)) (fun _ _ _ _ _=>(Zah (i:=0) (by show (["reel","row"]:List Str).Nodup;decide +kernel) rfl (YaG rfl) (.inr rfl))) (fun _ _ _ _ _=>Zav) (fun _ _ _ _ _=>(ZcX K (pv 0))) (fun _ _ _ _ _=>(Zah (i:=1) (by show (["reel","row"]:List Str).Nodup;decide +kernel) rfl (YaG rfl) (.inr rfl))) (fun _ _ _ _ _=>Zav) (fun _ _ _ _ _=>(pv 1))))
   (Zax (ws (Zay (Zbo (Zab (ZaR ZaA (pv 8) Zaf (fun _ _=>rfl)) (Zab (pv 4) Zad))))))))))))),?_⟩
  have hal:as.length=Vs.length:=hRL.1;have hvl:Vs.length=D.length:=hTV.1;have hpl:D.length=p:=by
   have:=congrArg Ycs hD;rw[Yaa,Zbs (by (clear this hvl hal htot h4000 h300 h2;omega))] at this;exact this
  have getV:∀ {j:Nat}{r:Addr},as[j]?=some r->∃ vs ds,Vs[j]?=some vs/\D[j]?=some ds/\H r=some (if b then .lst vs else .tup vs)/\TVs (fun _=>none) H vs ds/\vs.length<=4000/\(cnt p n)[j]?=some (vs.length:Int):=fun {j r} e=>by
   obtain⟨vs,e1,e2⟩:=hRL.at e;obtain⟨ds,e3,e4⟩:=hTV.at e1;have e5:(cnt p n)[j]?=some (vs.length:Int):=by
    rw[<- hD,Yag,e3,e4.1];rfl
   have e6:((vs.length:Nat):Int)<=tot p n:=by
    have h0:=(ZbC p n).2
    exact ZgO h0 (Yah e5)
   exact⟨vs,ds,e1,e3,e2,e4,by (clear hpl hvl hal htot h300 h2 h1;omega),e5⟩
  refine⟨_,rfl,p,rfl,by (clear hpl hvl hal htot h4000 h300 h2;omega),by (clear hpl hvl hal htot h4000 h300 h1;omega),?_⟩;refine⟨_,rfl,_,rfl,l,b,rfl,⟨_,hq⟩,?_⟩;refine ZbO (b:=b) ((cnt p n).map V.int) hq (by rw[Yaa,Yaa,Zbs (by (clear hpl hvl hal htot h4000 h300 h2;omega))];(clear htot h4000 h300 h2 h1;omega)) (by rw[Yaa];(clear htot h4000 h300 h1;omega)) (fun i x y hx hy H1 s1 R hR=>?_) fun acc H1 h01 s1 hacc=>?_
  ·obtain⟨r,hr',rfl⟩:=Zam hx;obtain⟨vs,ds,_,_,hrv,_,_,ec⟩:=getV hr';rw[Yag,ec] at hy;cases hy;refine⟨_,rfl,r,vs,rfl,?_,hR H1 (Same.refl _)⟩;have:=s1 _ _ hrv
   cases b with
   | true=>exact .inl (SqL.of this)
   | false=>exact .inr (SqT.of this)
  refine⟨acc,_,rfl,.inl ⟨SqL.of hacc,fun ct nct=>?_⟩⟩;have s2:=s1.trans (Same.new (o:=.tup ((cnt p n).map V.int)) nct);refine⟨p,n,ct,rfl,h1,h2,SqT.of Zaa,fun H2 s3=>?_⟩;have s03:=s2.trans s3;clear hacc;refine⟨_,rfl,l,b,rfl,⟨_,Lv.Same.sqB s03 hq⟩,?_⟩;refine Zgg (b:=b) (K:=K) (a:=l) (xs:=as.map V.ref) (fun j=>D.getD j []) (Lv.Same.sqB s03 hq) (by rw[Yaa];(clear htot h4000 h300 h1;omega)) (fun i x hx H3 s4 R hR=>?_) fun bh bs Ws H3 hbh0 hbh hbl hRb hbn hTb s4=>?_
  ·obtain⟨r,hr',rfl⟩:=Zam hx;obtain⟨vs,ds,_,hds,hrv,htv,h40,_⟩:=getV hr';have hrv3:=s4 _ _ (s03 _ _ hrv);have hqr:SqB b K H3 r vs:=by
    cases b with
    | true=>exact SqL.of hrv3
    | false=>exact SqT.of hrv3
   refine⟨_,rfl,r,b,rfl,⟨_,hqr⟩,?_⟩;refine ZkG (b:=b) (K:=K) (a:=r) (xs:=vs) (fun j=>ds.getD j none) hqr (by (clear hpl hvl hal htot h4000 h300 h2 h1;omega)) (fun j y hy H4 s5 R2 hR2=>?_) fun a2 ys H4 ha0 ha2 hty s5=>?_
   ·obtain⟨d2,hd2,hv2⟩:=htv.at hy;refine⟨_,rfl,y,d2,rfl,((hv2.same s03).same s4).same s5,fun v' H5 hv' s6=>hR2 v' H5 ?_ s6⟩;rw[Yao,hd2];exact hv'
   ·have e1:(YaH vs.length).map (fun j=>ds.getD j none)=ds:=by
     rw[htv.1];exact Zdd ds none
    rw[e1] at hty;refine hR a2 ys H4 ha0 ha2 ?_ s5;rw[Yao,hds];exact hty.base fun t ht=>Zbk ht
  rw[Yaa] at hbl;have e1:(YaH (as.map V.ref).length).map (fun j=>D.getD j [])=D:=by
   rw[Yaa,hal,hvl];exact Zdd D []
  rw[e1] at hTb;refine⟨YaT _,fun e0 ne0=>⟨(by show 1<=sizeLine;decide),fun e2 ne2=>?_⟩⟩;have s5:Same H3 (upd H3 e0 (.lst [])):=Same.new ne0;have s6:Same (upd H3 e0 (.lst [])) (upd (upd H3 e0 (.lst [])) e2 (.lst [.ref e0])):=Same.new ne2;have he0:=s6 _ _ (Zaa (H:=H3) (a:=e0) (o:=.lst []));have he2:upd (upd H3 e0 (.lst [])) e2 (.lst [.ref e0]) e2=some (.lst [.ref e0]):=Zaa;have s46:=(s4.trans s5).trans s6;have hbh5:=s6 _ _ (s5 _ _ hbh);have s36:=s5.trans s6;generalize upd (upd H3 e0 (.lst [])) e2 (.lst [.ref e0])=H4 at s6 he0 he2 s46 hbh5 s36 ⊢;refine⟨bh,e2,_,_,rfl,rfl,hbh5,he2,YaW (Zat (by rw[Yaa];show bs.length+1<=1000;(clear htot h4000 h300 h1;omega))),fun bl nbl=>?_⟩;have s7:Same H4 (upd H4 bl (.lst (bs.map V.ref++[.ref e0]))):=Same.new nbl;have hbl5:upd H4 bl (.lst (bs.map V.ref++[.ref e0])) bl=some (.lst ((bs++[e0]).map V.ref)):=by rw[Zaa];simp
  have hR5:RL (upd H4 bl (.lst (bs.map V.ref++[.ref e0]))) (bs++[e0]) (Ws++[[]]):=RL.snoc ((hRb.same s36).same s7) (s7 _ _ he0);have hT5:TVD H (upd H4 bl (.lst (bs.map V.ref++[.ref e0]))) (Ws++[[]]) (D++[[]]):=TVD.snoc (((hTb.same s36).same s7).base fun t ht=>s03.free (Zbk ht)) (TVs.nil _ _);have s05:=(s03.trans s46).trans s7;generalize upd H4 bl (.lst (bs.map V.ref++[.ref e0]))=H5 at s7 hbl5 hR5 hT5 s05 ⊢;refine⟨(by show 1<=sizeLine;decide),fun z0 nz0=>⟨_,rfl,_,_,rfl,rfl,z0,(p:Int)+1,_,rfl,rfl,Zaa,by (clear hbl hpl hvl hal htot h4000 h300 h2 h1;omega),by (clear hbl hpl hvl hal htot h4000 h300 h1;omega),YaW (Zat (by show 1*((p:Int)+1).toNat<=1000;(clear hbl hpl hvl hal htot h4000 h300 h1;omega))),fun rd nrd=>?_⟩⟩;have s8:Same H5 (upd H5 z0 (.lst [.int 0])):=Same.new nz0;have ez:(Yaf ((p:Int)+1).toNat [V.int 0]).flatten=(Yaf (p+1) (0:Int)).map V.int:=by
   rw[show ((p:Int)+1).toNat=p+1 by (clear hbl hpl hvl hal htot h4000 h300 h2 h1;omega),Ybm,List.map_replicate]
  have s9:=s8.trans (Same.new (o:=.lst (Yaf ((p:Int)+1).toNat [V.int 0]).flatten) nrd);have hrd6:upd (upd H5 z0 (.lst [.int 0])) rd (.lst (Yaf ((p:Int)+1).toNat [V.int 0]).flatten) rd=some (.lst ((Yaf (p+1) (0:Int)).map V.int)):=by rw[Zaa,ez]
  have nrd0:H rd=none:=s05.free (s8.free nrd);generalize upd (upd H5 z0 (.lst [.int 0])) rd (.lst (Yaf ((p:Int)+1).toNat [V.int 0]).flatten)=H6 at s9 hrd6 ⊢;have s06:=s05.trans s9;refine⟨_,rfl,_,rfl,p,n,rfl,h1,h2,h300,fun ll qs H7 hll0 hll hqs hPh s10=>⟨ll,rfl,⟨_,SqL.of hll⟩,?_⟩⟩;have hphl:qs.length=(phL p 0 n).length:=by rw[hPh.len,Zid,Yaa]
  have hsz0:SzT (D++[[]]):=⟨by rw[Yan,Yen];(clear hphl hbl hvl hal htot h4000 h300 h1;omega),fun r hr'=>by
   rcases Yar.mp hr' with hr' | hr'
   ·obtain⟨j,hj⟩:=Ya8 hr';have hjl:=(Yab.mp hj).1
    obtain⟨vs,ds,_,e3,_,e4,e5,_⟩:=getV (j:=j) (Yac (show j<as.length by (clear hphl hbl hpl htot h4000 h300 h2 h1;omega)));rw[hj] at e3;cases e3;have:=e4.1
    (clear hphl hbl hpl htot h4000 h300 h2 h1;omega)
   ·rw[YaN.mp hr'];simp,by
   have e:totT lenT (D++[[]])=totT lenT D:=by unfold totT;simp
   rw[e];exact htot⟩
  have hps:∀ q∈phL p 0 n,q.2<=15000:=fun q hq'=>by have:=Ze9 h1 n 0 q hq';(clear hphl hbl hpl hvl hal htot h300 h2 h1;omega)
  refine ZbB (xs:=qs.map V.ref) (fun i σ Hx=>∃ (bl:Addr) (bs:List Addr) (Ws:List (List V)) (rd:Addr) (g:Int) (o6 o7:Option V),σ=[some (.int p),some (.ref l),some (.int n),some (.ref bl),some (.ref rd),some (.int g),o6,o7,none]/\Hx bl=some (.lst (bs.map V.ref))/\RL Hx bs Ws/\TVD H Hx Ws (plT (D++[[]]) ((phL p 0 n).take i))/\Hx rd=some (.lst ((rdTP (D++[[]]) (Yaf (p+1) 0) ((phL p 0 n).take i)).map V.int))/\H rd=none/\Same H7 Hx)
   ⟨bl,bs++[e0],Ws++[[]],rd,0,none,none,rfl,s10 _ _ (s9 _ _ hbl5),(hR5.same s9).same s10,(hT5.same s9).same s10,s10 _ _ hrd6,nrd0,Same.refl _⟩ (fun i σ Hx _ z=>by obtain⟨_,_,_,_,_,_,_,_,_,_,_,_,_,sz⟩:=z;exact SqL.of (sz _ _ hll)) ?_ ?_
  ·rintro i x σ Hx hx ⟨bl,bs,Ws,rd,g,o6,o7,rfl,hbl,hRx,hTx,hrd,hrd0,sx⟩;obtain⟨q,hq',rfl⟩:=Zam hx;have hi:i<qs.length:=(Yab.mp hq').1
   obtain⟨o,m,hom⟩:∃ o m,(phL p 0 n)[i]?=some (o,m):=⟨_,_,Yac (by (clear hpl hvl hal htot h4000 h300 h2 h1;omega))⟩
   have hqt:Hx q=some (.tup [.int o,.int m]):=by
    obtain⟨kk,hk1,hk2⟩:=hPh.at hq';rw[Zid,Yag,hom] at hk1;cases hk1;exact sx _ _ hk2
   obtain⟨g1,g2,g3,g4⟩:=hok.at hom;have gsz:=hok.sz hsz0 hps i;have gm:=hps _ (Yah hom);have etk:(phL p 0 n).take (i+1)=(phL p 0 n).take i++[(o,m)]:=by rw[YaI,hom];rfl
   obtain⟨o',rfl⟩:=Ycz g1;obtain⟨m',rfl⟩:=Ycz g2;rw[Ybg] at g3 g4;rw[etk];rw[ZgE,Ze5];rw[Ybg,Ybg];have hrl:(rdTP (D++[[]]) (Yaf (p+1) 0) ((phL p 0 n).take i)).length=p+1:=by
    rw[ZgC _ _ _ (by simp[hpl])];simp[hpl]
   have hdl:(plT (D++[[]]) ((phL p 0 n).take i)).length=p+1:=by
    rw[Zf0];simp[hpl]
   generalize plT (D++[[]]) ((phL p 0 n).take i)=Di at hTx g3 g4 gsz hdl ⊢;generalize rdTP (D++[[]]) (Yaf (p+1) 0) ((phL p 0 n).take i)=ri at hrd hrl ⊢;have s0x:Same H Hx:=(s06.trans s10).trans sx;refine⟨_,rfl,_,rfl,_,rfl,H,bl,q,bs,Ws,Di,o',m',g,rfl,hbl,hRx,hTx,fun a ha=>s0x.free ha,hqt,g3,by have:(m':Int)<=15000:=gm;(clear this hrl hdl g2 g1 hi hphl hpl hvl hal htot h4000 h300 h2 h1;omega),gsz,g4,fun t b5 e5 bs5 Ws5 H8 ht hb5 hR8 hT8 he5 hb50 he50 s8=>?_⟩;refine⟨t,_,rfl,SqT.of ht,rfl,_,_,rfl,_,_,rfl,rfl,?_⟩;have hrd8:=s8 _ _ hrd;refine⟨_,rfl,_,rfl,true,true,rd,e5,rfl,⟨_,SqL.of hrd8⟩,⟨_,SqL.of he5⟩,?_⟩;refine Zjj (b1:=true) (b2:=true) ((YcT (·+·) ri (rdT Di m')).map V.int) (show SqB true K H8 rd _ from SqL.of hrd8) (show SqB true K H8 e5 _ from SqL.of he5) (by simp[rdT];(clear gm g2 g1 hi hphl hpl hvl hal htot h4000 h300 h2 h1;omega)) (by simp[rdT];(clear gm g2 g1 hi hphl hpl hvl hal htot h4000 h300 h2 h1;omega)) (by simp[rdT];(clear hrl gm g2 g1 hi hphl hpl hvl hal htot h4000 h300 h1;omega)) (fun j x y z hx hy hz pz H9 s9 hpz R hR=>?_) fun acc H9 h09 s9 hacc=>?_
   ·obtain⟨x',hx',rfl⟩:=Zbr hx;obtain⟨y',hy',rfl⟩:=Zbr hy;have ez:z=.int (x'+y'):=by
     rw[Yag,List.getElem?_zipWith,hx',hy'] at hz;exact (Yax hz).symm
    subst ez;exact⟨pz,_,rfl,SqT.of hpz,rfl,_,_,rfl,_,_,rfl,rfl,_,rfl,_,rfl,_,_,rfl,rfl,hR H9 (Same.refl _)⟩
   have s89:=s8.trans s9;have hq9:=s89 _ _ hqt;refine⟨_,rfl,_,rfl,q,_,1,.int m',rfl,rfl,SqT.of hq9,rfl,_,_,rfl,rfl,?_⟩;exact⟨b5,bs5,Ws5,acc,_,_,_,rfl,s9 _ _ hb5,hR8.same s9,hT8.same s9,hacc,(s0x.trans s8).free h09,sx.trans s89⟩
  ·rintro σ Hx ⟨bl,bs,Ws,rd,g,o6,o7,rfl,hbl,hRx,hTx,hrd,hrd0,sx⟩;have etk:(phL p 0 n).take (qs.map V.ref).length=phL p 0 n:=by rw[Yaa,hphl,Yaz]
   rw[etk] at hTx hrd;have s0x:Same H Hx:=(s06.trans s10).trans sx;have hbsl:bs.length=p+1:=by
    rw[hRx.1,hTx.1,Zf0];simp[hpl]
   have hszx:=hok.sz hsz0 hps (phL p 0 n).length;rw[Yaz] at hszx;have wl:∀ {j:Nat}{ws:List V},Ws[j]?=some ws->ws.length<=15000:=fun {j ws} e=>by
    obtain⟨ds,e1,e2⟩:=hTx.at e;have:=hszx.2.1 ds (Yah e1);rw[e2.1];exact this
   refine⟨_,rfl,bl,true,rfl,⟨_,SqL.of hbl⟩,?_⟩;refine Zd7 (b:=true) (K:=K) (a:=bl) (xs:=bs.map V.ref) (fun acc i H2=>Same Hx H2/\H2 acc=some (.lst (Ws.take i).flatten)) (fun acc h0=>⟨Same.new h0,Zaa⟩) (fun acc i H2 h0 _ z=>SqL.of (z.1 _ _ hbl)) ?_ ?_
   ·rintro acc i x H2 h0 hx ⟨s2,hacc⟩;obtain⟨r,hr',rfl⟩:=Zam hx;have hi:=(Yab.mp hr').1
    obtain⟨ws,hw,hrw⟩:=hRx.at hr';have hfl:=Zd6 (YaW hi |> fun z=>by rw[hRx.1] at z;exact z) fun j ws e=>wl (j:=j) e;refine⟨_,rfl,r,true,rfl,⟨_,SqL.of (s2 _ _ hrw)⟩,?_⟩;refine ZiT (b:=true) (K:=K) (a:=r) (xs:=ws) (fun j H3=>Same Hx H3/\H3 acc=some (.lst ((Ws.take i).flatten++ws.take j))) ⟨s2,by simpa using hacc⟩ (fun j H3 _ z=>SqL.of (z.1 _ _ hrw)) ?_ ?_
    ·rintro j y H3 hy ⟨s3,hac3⟩;have hj:=(Yab.mp hy).1
     have:=wl hw;refine⟨_,rfl,_,hac3,?_,hj,s3.put h0,?_⟩
     ·rw[Yan,YaL,sizeLine_eq]
      (clear hj hphl hpl hvl hal htot h4000 h300 h1;omega)
     ·rw[Zaa,YaI,hy];simp
    ·rintro H3 ⟨s3,hac3⟩;rw[Yaz] at hac3;refine⟨by rw[Yaa];exact hi,s3,?_⟩;rw[hac3,YaI,hw];simp
   ·rintro acc H2 h0 ⟨s2,hacc⟩;have e3:Ws.take (bs.map V.ref).length=Ws:=by rw[Yaa,hRx.1,Yaz]
    rw[e3] at hacc;have hfl:=hTx.flat;rw[hend] at hfl
    cases eW:Ws.flatten with
    | nil=>rw[eW] at hfl;exact absurd hfl.1 (by simp)
    | cons v vr=>
     rw[eW] at hfl hacc;refine⟨_,rfl,acc,_,0,v,rfl,rfl,SqL.of hacc,ZaO (j:=0) rfl,_,rfl,(by show 2<=sizeLine;decide),fun t nt=>?_⟩;have s3:Same H2 (upd H2 t (.tup [v,.ref rd])):=Same.new nt;exact k t rd v _ Zaa ((hfl.uncons.1.same s2).same s3) (s3 _ _ (s2 _ _ hrd)) hrd0 ((s0x.trans s2).trans s3)
end
end Fi58
namespace L2
open PySem PySem.Spec PyProof.Rows PySem.SeqAt
def rEqD:R2:=fun x y H Q=>∃ d1 d2:PyData,RdN H x d1/\RdN H y d2/\d1.depth<=10/\d1.canLay0=true/\d2.canLay0=true/\Q (.bl (PyData.eqv d1 d2)) H
def rNeD:R2:=fun x y H Q=>∃ d1 d2:PyData,RdN H x d1/\RdN H y d2/\d1.depth<=10/\d1.canLay0=true/\d2.canLay0=true/\Q (.bl (!PyData.eqv d1 d2)) H
theorem Zfh:∀ xs:List Int,Ybu (xs.map YcB)=true
 | []=>rfl
 | x::xs=>by
  rw[Yam,Ybu,Zfh xs];rfl
theorem ZgP:∀ {xs:List PyData},(∀ x∈xs,x.canLay0=true)->Ybu xs=true
 | [],_=>rfl
 | x::xs,h=>by
  rw[Ybu,h x YaD,ZgP fun y hy=>h y (YaC _ hy)];rfl
theorem ZbX:∀ {xs:List PyData}{m:Nat},(∀ x∈xs,x.depth<=m)->YbN xs<=m
 | [],_,_=>YaT _
 | x::xs,m,h=>by
  show max x.depth (YbN xs)<=m;exact Nat.max_le.mpr ⟨h x YaD,ZbX fun y hy=>h y (YaC _ hy)⟩
theorem rdl_ints {H:Hp}:∀ xs:List Int,RdL H (xs.map V.int) (xs.map YcB)
 | []=>.nil
 | x::xs=>.cons (.int x) (rdl_ints xs)
section
variable {X:Cx}
theorem Zk7 (hu:X.A.units+12<cLine):OpR X (compareOp .Eq) rEqD:=by
 intro pins s σ H x y v u Q I rx ry h;obtain⟨d1,d2,r1,r2,hd,c1,c2,q⟩:=h;obtain⟨as,z1⟩:=RdN.reads I.hok r1 rx;obtain⟨bs,z2⟩:=RdN.reads I.hok r2 ry;refine rcAt_reads z1 z2 c1 c2 (by omega) _ _ _ _ ?_;exact⟨.bl _,H,I,rfl,q⟩
theorem Zm5 (hu:X.A.units+12<cLine):OpR X (compareOp .NotEq) rNeD:=by
 intro pins s σ H x y v u Q I rx ry h;obtain⟨d1,d2,r1,r2,hd,c1,c2,q⟩:=h;obtain⟨as,z1⟩:=RdN.reads I.hok r1 rx;obtain⟨bs,z2⟩:=RdN.reads I.hok r2 ry;refine rcNeAt_reads z1 z2 c1 c2 (by omega) _ _ _ _ ?_;exact⟨.bl _,H,I,rfl,q⟩
end
end L2
namespace Lv
open PySem L2
theorem Sm.putL {p q:Addr}{H H2:Hp}{o:HO} (s:Sm p H H2) (h:H q=none):Sm p H (upd H2 q o):=fun b u e n=>by
 rw[L2.upd_ne (Zae e h)];exact s b u e n
theorem PotT.lst {H:Hp}{p:Addr} (h:PotT H p):∃ zs,H p=some (.lst zs):=by
 obtain⟨a,b,e,_⟩:=h;exact⟨_,e⟩
theorem PotT.some {H:Hp}{p:Addr} (h:PotT H p):H p≠none:=by
 obtain⟨a,b,e,_⟩:=h;rw[e];exact fun z=>nomatch z
theorem PotT.off {H:Hp}{p q:Addr}{o:HO} (h:PotT H p) (hq:q≠p):PotT (upd H q o) p:=by
 obtain⟨a,b,e,r⟩:=h;exact⟨a,b,by rw[L2.upd_ne (Ybl hq)];exact e,r⟩
theorem PotT.neB {H:Hp}{p q:Addr}{bs:List Bool} (h:PotT H p) (e:H q=Option.some (.lst (bs.map V.bl))):q≠p:=fun z=>by
 obtain⟨a,b,e2,_⟩:=h;rw[z,e2] at e;injection e with e;injection e with e
 cases bs with
 | nil=>cases e
 | cons x xs=>cases e
theorem PotT.neR {H:Hp}{p q:Addr}{as:List Addr} (h:PotT H p) (e:H q=Option.some (.lst (as.map V.ref))):q≠p:=fun z=>by
 obtain⟨a,b,e2,_⟩:=h;rw[z,e2] at e;injection e with e;injection e with e
 cases as with
 | nil=>cases e
 | cons x xs=>cases e
theorem TV.sm {Hb H H':Hp}{v:V}{d:TD}{p:Addr} (h:TV Hb H v d) (s:Sm p H H') (hp:PotT H p) (x:Hb p≠none):TV Hb H' v d:=by
 cases d with
 | none=>exact h
 | some d=>
  obtain⟨q,t,e1,e2,e3,e4⟩:=h;obtain⟨zs,hz⟩:=hp.lst;refine⟨q,t,e1,s _ _ e2 fun z=>?_,s _ _ e3 fun z=>x (by rw[<- z];exact e4),e4⟩;rw[z,hz] at e2;cases e2
theorem TVs.sm {Hb H H':Hp}{vs:List V}{ds:List TD}{p:Addr} (h:TVs Hb H vs ds) (s:Sm p H H') (hp:PotT H p) (x:Hb p≠none):TVs Hb H' vs ds:=⟨h.1,fun i v d y z=>(h.2 i v d y z).sm s hp x⟩
theorem TVD.sm {Hb H H':Hp}{vs:List (List V)}{ds:List (List TD)}{p:Addr} (h:TVD Hb H vs ds) (s:Sm p H H') (hp:PotT H p) (x:Hb p≠none):TVD Hb H' vs ds:=⟨h.1,fun i v d y z=>(h.2 i v d y z).sm s hp x⟩
theorem TVs.snoc {Hb H:Hp}{vs:List V}{ds:List TD}{v:V}{d:TD} (h:TVs Hb H vs ds) (e:TV Hb H v d):TVs Hb H (vs++[v]) (ds++[d]):=h.app (TVs.cons e (TVs.nil _ _))
theorem RL.sm {H H':Hp}{as:List Addr}{Vs:List (List V)}{p:Addr} (h:RL H as Vs) (s:Sm p H H') (n:∀ q∈as,q≠p):RL H' as Vs:=⟨h.1,fun j a vs x y=>s _ _ (h.2 j a vs x y) (n a (Yah x))⟩
theorem TV.old {Hb H:Hp}{v:V}{d:TD}{a:Addr}{o:HO} (h:TV Hb H v d) (e:H a=none):TV (upd Hb a o) H v d:=by
 cases d with
 | none=>exact h
 | some d=>
  obtain⟨q,t,e1,e2,e3,e4⟩:=h;exact⟨q,t,e1,e2,e3,by rw[upd_ne fun z=>by rw[z,e] at e3;cases e3];exact e4⟩
theorem TVD.oldD {Hb H:Hp}{vs:List (List V)}{ds:List (List TD)}{a:Addr}{o:HO} (h:TVD Hb H vs ds) (e:H a=none):TVD (upd Hb a o) H vs ds:=⟨h.1,fun i v d y z=>⟨(h.2 i v d y z).1,fun j w c p q=>((h.2 i v d y z).2 j w c p q).old e⟩⟩
theorem GdD.snoc {fl:Bool}:∀ {D:List (List TD)}{W:List (List Int)}{ds:List TD}{ws:List Int},GdD fl D W->GdR fl ds ws->GdD fl (D++[ds]) (W++[ws])
 | [],[],_,_,_,k=>⟨k,trivial⟩
 | [],_::_,_,_,h,_=>h.elim
 | _::_,[],_,_,h,_=>h.elim
 | d::D,w::W,_,_,h,k=>⟨h.1,GdD.snoc h.2 k⟩
theorem Zho {own:List Str}{js:List Nat}{g:TG}{te:TE}{σ:L2.St}{H1:Hp}{Q:VK}{lo:Int}{n:Nat}{pl:Addr} (hp:PotT H1 pl) (hn:n<=20000)
  (hs:∀ (i:Nat) H,i<n->PotT H pl->Sm pl H1 H->∀ R:VK,(∀ (d:Int) H',PotT H' pl->Sm pl H H'->R (.int d) H')->g (.int (lo+(i:Int))) (blkσ own js σ) H fun τ H4=>te τ H4 R)
  (hd:∀ acc (ds:List Int) H,H1 acc=none->H acc=some (.lst (ds.map V.int))->ds.length=n->PotT H pl->Sm pl H1 H->Q (.ref acc) H):Za0 own js g ZbH te σ (Itr lo n) H1 Q:=by
 refine Zbh (fun acc i H=>∃ ds:List Int,H acc=some (.lst (ds.map V.int))/\ds.length=i/\PotT H pl/\Sm pl H1 H) (fun acc h0=>⟨[],Zaa,rfl,hp.put h0,Sm.new h0⟩) ?_ ?_
 ·rintro acc i H h0 hi ⟨ds,hacc,hl,hp2,s2⟩;have ha:acc≠pl:=hp.ne h0;refine (cast ?_ (hs i H hi hp2 s2 (fun y H6=>∃ zs,H6 acc=some (.lst zs)/\zs.length<sizeLine/\(i+1<=n/\∃ ds:List Int,upd H6 acc (.lst (zs++[y])) acc=some (.lst (ds.map V.int))/\ds.length=i+1/\PotT (upd H6 acc (.lst (zs++[y]))) pl/\Sm pl H1 (upd H6 acc (.lst (zs++[y]))))) fun d H6 hp6 s6=>?_))
  ·unfold ZbH;simp only[if_true]
  ·have h6:=s6 _ _ hacc ha;exact⟨_,h6,by rw[sizeLine_eq,Yaa];(clear ha;omega),hi,ds++[d],by rw[Zaa];simp,by simp[hl],hp6.off ha,(s2.trans s6).putL h0⟩
 ·rintro acc H h0 ⟨ds,hacc,hl,hp2,s2⟩;exact hd acc ds H h0 hacc hl hp2 s2
def dTD:TD->PyData
 | none=>.none
 | some d=>.tuple [.bool d.1,.list (d.2.map YcB)]
theorem TV.rd {Hb H:Hp}{v:V}{d:TD} (h:TV Hb H v d):RdN H v (dTD d):=by
 cases d with
 | none=>
  have:v=.non:=h;subst this;exact .non
 | some d=>
  obtain⟨q,t,rfl,e2,e3,_⟩:=h;exact .tup e2 (.cons (.bl _) (.cons (.lst e3 (L2.rdl_ints _)) .nil))
theorem TVs.rd {Hb H:Hp}:∀ {vs:List V}{ds:List TD},TVs Hb H vs ds->RdL H vs (ds.map dTD)
 | [],[],_=>.nil
 | [],_::_,h=>absurd h.1 (by simp)
 | _::_,[],h=>absurd h.1 (by simp)
 | v::vs,d::ds,h=>.cons h.uncons.1.rd (TVs.rd h.uncons.2)
theorem Zcc:∀ d:TD,(dTD d).canLay0=true
 | none=>rfl
 | some d=>by
  show (Yde (.tuple [.bool d.1,.list (d.2.map YcB)]))=true;rw[Yde,Ybu,Ybu,Ybu,Yde,Yde,Zfh];rfl
theorem Zhm (xs:List Int):YbN (xs.map YcB)<=1:=ZbX fun x hx=>by
 obtain⟨i,_,rfl⟩:=YaU.mp hx;exact YaT _
theorem Zds:∀ d:TD,(dTD d).depth<=3
 | none=>YaT _
 | some d=>by
  have:=Zhm d.2;show YbN [.bool d.1,.list (d.2.map YcB)]+1<=3;have h:YbN [.bool d.1,.list (d.2.map YcB)]<=2:=ZbX fun x hx=>by
   rcases Yay.mp hx with rfl | hx
   ·exact YaT _
   ·rw[YaN.mp hx];show YbN (d.2.map YcB)+1<=2;omega
  (clear this;omega)
theorem Zfp:∀ ds:List TD,PyData.eqvAll (ds.map dTD) (Yaf ds.length Yem)=ds.all (·.isNone)
 | []=>rfl
 | d::ds=>by
  rw[Yam,YaY,Ybh,PyData.eqvAll,Zfp ds,Yeg];cases d <;> rfl
theorem ZkY {H:Hp}:∀ n:Nat,RdL H (Yaf n V.non) (Yaf n Yem)
 | 0=>.nil
 | n+1=>.cons .non (ZkY n)
theorem ZiH:∀ n:Nat,Ybu (Yaf n Yem)=true
 | 0=>rfl
 | n+1=>by rw[Ybh,Ybu,ZiH n];rfl
theorem Znh (ds:List TD):Ybu (ds.map dTD)=true:=ZgP fun x hx=>by
 obtain⟨d,_,rfl⟩:=YaU.mp hx;exact Zcc d
theorem ZkD (ds:List TD):YbN (ds.map dTD)<=3:=ZbX fun x hx=>by
 obtain⟨d,_,rfl⟩:=YaU.mp hx;exact Zds d
theorem TV.isn {Hb H:Hp}{v:V}{d:TD} (h:TV Hb H v d):decide (v=V.non)=d.isNone:=by
 cases d with
 | none=>
  have:v=.non:=h;subst this;rfl
 | some d=>
  obtain⟨q,t,rfl,_⟩:=h;rfl
theorem ZkK {D:List (List TD)}:(D.all fun ds=>ds.all (·.isNone))=true↔¬ HasT D:=by
 rw[YbH];constructor
 ·rintro h ⟨ds,hds,e,he⟩;have:=YbH.mp (h ds hds) _ he;cases this
 ·intro h ds hds;rw[YbH];intro d hd
  cases d with
  | none=>rfl
  | some e=>exact absurd ⟨ds,hds,e,hd⟩ h
theorem Zlm {D:List (List TD)} (h:∀ r∈D,∀ e,some e∈r->e.2.length<=3):totT lenT D<=3*(D.flatten.length:Int):=by
 have aux:∀ ds:List TD,(∀ e,some e∈ds->e.2.length<=3)->(ds.map lenT).sum<=3*(ds.length:Int):=fun ds=>by
  induction ds with
  | nil=>exact fun _=>Ycv _
  | cons d ds ih=>
   intro hd;have h1:=ih fun e he=>hd e (YaC _ he);have h2:lenT d<=3:=by
    cases d with
    | none=>decide
    | some e=>
     have:=hd e YaD;show gl58 e.2<=3;unfold gl58
     (clear h1 ih;omega)
   rw[Yam,YaF,YaY]
   (clear ih;omega)
 induction D with
 | nil=>exact Ycv _
 | cons d D ih=>
  have h1:=ih fun r hr=>h r (YaC _ hr);have h2:=aux d (h d YaD);rw[Za2,YaS,Yan]
  (clear ih;omega)
theorem GdD.flen {fl:Bool}:∀ {D:List (List TD)}{W:List (List Int)},GdD fl D W->D.flatten.length=W.flatten.length
 | [],[],_=>rfl
 | [],_::_,h=>h.elim
 | _::_,[],h=>h.elim
 | d::D,w::W,h=>by rw[YaS,YaS,Yan,Yan,GdD.flen h.2,h.1.len]
theorem GdD.lens {fl:Bool}:∀ {D:List (List TD)}{W:List (List Int)},GdD fl D W->D.map (fun r=>(r.length:Int))=ZbL W
 | [],[],_=>rfl
 | [],_::_,h=>h.elim
 | _::_,[],h=>h.elim
 | d::D,w::W,h=>by
  have:=GdD.lens h.2;unfold ZbL at this ⊢;rw[Yam,Yam,this,h.1.len]
theorem Zja (up:Bool) (xs:List Int):dirT up (dirT up xs)=dirT up xs:=by
 unfold dirT
 cases up with
 | true=>show srt (srt xs)=srt xs;rw[Zgy]
 | false=>show (srt (srt xs).reverse).reverse=(srt xs).reverse;rw[ZhL]
theorem Zi9 (up:Bool) (xs:List Int):(dirT up xs).length=xs.length:=by
 unfold dirT;have:=(ZaH xs).length_eq;split <;> simp[this]
theorem ZkC {up:Bool}{xs ys:List Int} (h:xs.Perm ys):dirT up xs=dirT up ys:=by
 have e:srt xs=srt ys:=ZbE ((ZaH xs).trans h) (ZdJ _);unfold dirT;rw[e]
def Zc9:Sp:=fun vs H Q _=>∃ (l:Addr) (xs:List Int) (up:Bool),vs=[.ref l,.bl up]/\H l=some (.lst (xs.map V.int))/\∀ l' H',H l'=none->H' l'=some (.lst ((dirT up xs).map V.int))->Same H H'->Q (.ref l') H'
def ZfP:Sp:=fun vs H Q _=>∃ (pl u:Addr) (us:List Addr) (N:List (List Int)) (fl:Bool),vs=[.ref pl,.ref u,.bl fl]/\PotT H pl/\H u=some (.lst (us.map V.ref))/\LBs H us (upsT N)/\N.length<=7/\(∀ xs∈N,xs.length<=4000) /\
 ∀ l as Vs D H',H l=none->H' l=some (.lst (as.map V.ref))->RL H' as Vs->TVD H H' Vs D->(∀ q∈as,H q=none)->GdD fl D N->(∀ r∈D,∀ e,some e∈r->e.2.length<=3)->PotT H' pl->Sm pl H H'->Q (.ref l) H'
def ZhN:Sp:=fun vs H Q _=>∃ (l nn:Addr) (as ns:List Addr) (Vs:List (List V)) (D:List (List TD)) (N:List (List Int)),vs=[.ref l,.ref nn]/\H l=some (.lst (as.map V.ref))/\RL H as Vs/\TVD (fun _=>none) H Vs D/\H nn=some (.lst (ns.map V.ref))/\LLs H ns N/\D.length<=7/\D.map (fun r=>(r.length:Int))=ZbL N/\(∀ r∈D,r.length<=4000)/\totT lenT D<=15000/\(∀ xs∈N,∀ m∈xs,0<=m/\m<=300) /\
 ∀ t s H',H' t=some (.tup [.ref s,.int (ptT lenT D N)])->H' s=some (.lst ((srt (Zba D)).map V.int))->Same H H'->Q (.ref t) H'
end Lv
namespace Lv
open PySem L2
theorem Zc8 {xs ys:List Int} (h:xs.Perm ys):srt xs=srt ys:=ZbE ((ZaH xs).trans h) (ZdJ _)
theorem ZcU {p:Nat} (hp:2<=p):∀ n,(tnum p n).map srt=(num p n).map srt
 | 0=>rfl
 | n+1=>by
  have ih:=ZcU hp n;obtain⟨x,r,e,hr,e2⟩:=Ziu hp n;have hpl:=ZaM (show 1<=p by (clear hr;omega)) n;obtain⟨A,r2,e3⟩:∃ A r2,tnum p n=A::r2:=by
   cases q:tnum p n with
   | nil=>rw[q] at hpl;simp at hpl;(clear hr;omega)
   | cons A r2=>exact⟨A,r2,rfl⟩
  have e4:tnum p (n+1)=(r2++[[]]).map (·++(A.map (·+1)).reverse):=by
   show Zfe (tnum p n)=_;rw[e3,<- Ycm];rfl
  rw[e,e3,Yam,Yam] at ih;injection ih with i1 i2;have e5:num p (n+1)=(r++[[]]).map (x.map (·+1)++·):=by rw[e2];simp
  rw[e4,e5,Ybc,Ybc];have g1:∀ y:List Int,(srt ∘ (·++(A.map (·+1)).reverse)) y=(fun z=>srt (z++(srt x).map (·+1))) (srt y):=fun y=>by
   refine Zc8 ?_;refine (Yep (ZaH y).symm ?_);refine (YcD _).trans ?_;rw[<- i1];exact ((ZaH A).symm).map _
  have g2:∀ y:List Int,(srt ∘ (x.map (·+1)++·)) y=(fun z=>srt (z++(srt x).map (·+1))) (srt y):=fun y=>by
   refine Zc8 ?_;refine Yc9.trans ?_;exact Yep (ZaH y).symm ((ZaH x).symm.map _)
  rw[show (srt ∘ (·++(A.map (·+1)).reverse))=(fun z=>srt (z++(srt x).map (·+1))) ∘ srt from funext g1,show (srt ∘ (x.map (·+1)++·))=(fun z=>srt (z++(srt x).map (·+1))) ∘ srt from funext g2,<- Ybc,<- Ybc];have e9:(r2++[[]]).map srt=(r++[[]]).map srt:=by rw[YaM,YaM,i2]
  rw[e9]
theorem Zga:∀ {M N:List (List Int)},M.map srt=N.map srt->∀ m,cn M.flatten m=cn N.flatten m
 | [],[],_,_=>rfl
 | [],_::_,h,_=>by simp at h
 | _::_,[],h,_=>by simp at h
 | x::M,y::N,h,m=>by
  rw[Yam,Yam] at h;injection h with h1 h2;have hp:x.Perm y:=(ZaH x).symm.trans (by rw[h1];exact ZaH y);rw[YaS,YaS,Zfw,Zfw,Zga h2];unfold cn;rw[hp.count_eq]
def thT (xs:List TD):List Int:=((Za6 xs).map (·.2)).flatten
theorem Zb7 (a b:List TD):thT (a++b)=thT a++thT b:=by
 unfold thT Za6;rw[Ydc,YaM,Ybo]
theorem ZhG (d:Bool × List Int):thT [some d]=d.2:=by
 show d.2++[]=d.2;rw[Ybf]
theorem Zln:thT [none]=[]:=rfl
theorem ZmC {D:List (List TD)}{i j:Nat}{ds:List TD}{d:Bool × List Int} (h:D[i]?=some ds) (hj:ds[j]?=some (some d)):(thT (D.take i).flatten++thT (ds.take j)).length+d.2.length<=(thT D.flatten).length:=by
 have hi:=(Yab.mp h)
 obtain⟨hi1,hi2⟩:=hi;have e1:D=D.take i++(ds::D.drop (i+1)):=by
  rw[<- hi2,Yej,YaO]
 obtain⟨hj1,hj2⟩:=Yab.mp hj;have e2:ds=ds.take j++(some d::ds.drop (j+1)):=by
  rw[<- hj2,Yej,YaO]
 have e3:thT D.flatten=thT (D.take i).flatten++(thT ds++thT (D.drop (i+1)).flatten):=by
  conv=>lhs;rw[e1]
  rw[Ybo,YaS,Zb7,Zb7]
 have e4:thT ds=thT (ds.take j)++(d.2++thT (ds.drop (j+1))):=by
  conv=>lhs;rw[e2]
  rw[Zb7,<- Yc8,Zb7,ZhG]
 rw[e3,e4];simp only[Yan];omega
theorem ZmB (D:List (List TD)):((thT D.flatten).length:Int)=totT lenT D:=by
 unfold lenT;rw[Zc6 Zdp];rfl
theorem ZkB {h:TD->Int}{ds:List TD}{ws:List Int}{j:Nat}{d:TD}{x:Int} (hd:ds[j]?=some d) (hx:ws[j]?=some x):dtT h (ds.take (j+1)) (ws.take (j+1))=dtT h (ds.take j) (ws.take j)+x*h d:=by
 rw[YaI,YaI,hd,hx];have h1:=(Yab.mp hd).1
 have h2:=(Yab.mp hx).1
 rw[Ybz,Ybz,ZeJ h (by rw[YaL,YaL];omega)];show _+(x*h d+0)=_
 (clear h2 h1;omega)
theorem Zex (h:TD->Int):∀ {D:List (List TD)}{W:List (List Int)}{E:List (List TD)}{U:List (List Int)},D.length=W.length->ptT h (D++E) (W++U)=ptT h D W+ptT h E U
 | [],[],E,U,_=>by show ptT h E U=0+_;omega
 | [],_::_,_,_,z=>by simp at z
 | _::_,[],_,_,z=>by simp at z
 | d::D,w::W,E,U,z=>by
  rw[Ycn,Ycn,ptT,ptT,Zex h (by simpa using z)]
  (clear z;omega)
theorem ZjV {h:TD->Int}{D:List (List TD)}{W:List (List Int)}{i:Nat}{ds:List TD}{ws:List Int} (hd:D[i]?=some ds) (hx:W[i]?=some ws):ptT h (D.take (i+1)) (W.take (i+1))=ptT h (D.take i) (W.take i)+dtT h ds ws:=by
 rw[YaI,YaI,hd,hx];have h1:=(Yab.mp hd).1
 have h2:=(Yab.mp hx).1
 rw[Ybz,Ybz,Zex h (by rw[YaL,YaL];omega)];show _+(dtT h ds ws+0)=_
 (clear h2 h1;omega)
theorem Zgh {b:Bool}{K:Yae}{own:List Str}{js:List Nat}{g:TG}{te:TE}{σ:L2.St}{H1:Hp}{Q:VK}{a:Addr}{xs:List V} (F:Nat->List V) (hq:SqB b K H1 a xs) (hlen:xs.length<=20000)
  (hs:∀ (i:Nat) x,xs[i]?=some x->∀ H,Same H1 H->∀ R:VK,(∀ q H',H q=none->H' q=some (.lst (F i))->Same H H'->R (.ref q) H')->g x (blkσ own js σ) H fun τ H4=>te τ H4 R)
  (hd:∀ acc (qs:List Addr) H,H1 acc=none->H acc=some (.lst (qs.map V.ref))->qs.length=xs.length->qs.Nodup->(∀ (j:Nat) q,qs[j]?=some q->q≠acc/\H1 q=none/\H q=some (.lst (F j)))->Same H1 H->Q (.ref acc) H):Za0 own js g ZbH te σ (ItlB b K a) H1 Q:=by
 refine Zcq (b:=b) (K:=K) (a:=a) (xs:=xs) (fun acc i H=>∃ qs:List Addr,H acc=some (.lst (qs.map V.ref))/\qs.length=i/\qs.Nodup/\(∀ (j:Nat) q,qs[j]?=some q->q≠acc/\H1 q=none/\H q=some (.lst (F j)))/\Same H1 H) (fun acc h0=>⟨[],Zaa,rfl,YcY,fun j y z=>by simp at z,Same.new h0⟩) (fun acc i H h0 _ z=>?_) ?_ ?_
 ·obtain⟨_,_,_,_,_,s⟩:=z;exact Same.sqB s hq
 ·rintro acc i x H h0 hx ⟨qs,hacc,hl,hn,hP,s1⟩;have hi:=(Yab.mp hx).1
  have hna:H acc≠none:=by rw[hacc];exact fun z=>nomatch z
  refine (cast ?_ (hs i x hx H s1 (fun y H6=>∃ zs,H6 acc=some (.lst zs)/\zs.length<sizeLine/\(i+1<=xs.length/\∃ qs:List Addr,upd H6 acc (.lst (zs++[y])) acc=some (.lst (qs.map V.ref))/\qs.length=i+1/\qs.Nodup/\(∀ (j:Nat) q,qs[j]?=some q->q≠acc/\H1 q=none/\upd H6 acc (.lst (zs++[y])) q=some (.lst (F j)))/\Same H1 (upd H6 acc (.lst (zs++[y]))))) fun q H6 hq0 hq6 s6=>?_))
  ·unfold ZbH;simp only[if_true]
  ·have h6:=s6 _ _ hacc;have hqa:q≠acc:=fun z=>hna (by rw[<- z];exact hq0);have hqn:q ∉ qs:=fun z=>by
    obtain⟨j,hj⟩:=Ya8 z;rw[(hP j q hj).2.2] at hq0;cases hq0
   refine⟨_,h6,by rw[sizeLine_eq,Yaa];(clear hqn hqa;omega),hi,qs++[q],by rw[Zaa];simp,by simp[hl],ZbV hn hqn,fun j r hr=>?_,(s1.trans s6).put h0⟩;rcases Ybp j qs.length with z | z
   ·rw[YaK z] at hr;obtain⟨a1,a2,a3⟩:=hP j r hr;exact⟨a1,a2,by rw[upd_ne a1];exact s6 _ _ a3⟩
   ·rw[YaA z] at hr;obtain⟨z1,z2⟩:=Yab.mp hr;have:j=i:=by simp at z1;(clear z2 hqn hqa hi hlen;omega)
    subst this;have:q=r:=by simpa using z2
    subst this;exact⟨hqa,s1.free hq0,by rw[upd_ne hqa];exact hq6⟩
 ·rintro acc H h0 ⟨qs,hacc,hl,hn,hP,s1⟩;exact hd acc qs H h0 hacc hl hn hP s1
theorem Zi3 {h:TD->Int}:∀ {ds:List TD}{ws:List Int}{j:Nat}{d e:TD}{x:Int},ds[j]?=some d->ws[j]?=some x->dtT h (ds.set j e) ws+x*h d=dtT h ds ws+x*h e
 | [],_,_,_,_,_,a,_=>by simp at a
 | _::_,[],_,_,_,_,_,a=>by simp at a
 | c::ds,w::ws,0,d,e,x,a,b=>by
  have a:c=d:=by simpa using a
  have b:w=x:=by simpa using b
  subst a;subst b;show (w*h e+dtT h ds ws)+w*h c=(w*h c+dtT h ds ws)+w*h e;omega
 | c::ds,w::ws,j+1,d,e,x,a,b=>by
  show (w*h c+dtT h (ds.set j e) ws)+x*h d=(w*h c+dtT h ds ws)+x*h e;have:=Zi3 (h:=h) (ds:=ds) (ws:=ws) (j:=j) (d:=d) (e:=e) (x:=x) (by simpa using a) (by simpa using b);omega
theorem Zh7 {h:TD->Int}:∀ {D:List (List TD)}{W:List (List Int)}{i:Nat}{ds es:List TD}{ws:List Int},D[i]?=some ds->W[i]?=some ws->ptT h (D.set i es) W+dtT h ds ws=ptT h D W+dtT h es ws
 | [],_,_,_,_,_,a,_=>by simp at a
 | _::_,[],_,_,_,_,_,a=>by simp at a
 | c::D,w::W,0,ds,es,ws,a,b=>by
  have a:c=ds:=by simpa using a
  have b:w=ws:=by simpa using b
  subst a;subst b;show (dtT h es w+ptT h D W)+dtT h c w=(dtT h c w+ptT h D W)+dtT h es w;omega
 | c::D,w::W,i+1,ds,es,ws,a,b=>by
  show (dtT h c w+ptT h (D.set i es) W)+dtT h ds ws=(dtT h c w+ptT h D W)+dtT h es ws;have:=Zh7 (h:=h) (D:=D) (W:=W) (i:=i) (ds:=ds) (es:=es) (ws:=ws) (by simpa using a) (by simpa using b);omega
theorem Zgt {h:TD->Int}:∀ {D:List (List TD)}{i:Nat}{ds es:List TD},D[i]?=some ds->totT h (D.set i es)+(ds.map h).sum=totT h D+(es.map h).sum
 | [],_,_,_,a=>by simp at a
 | c::D,0,ds,es,a=>by
  have a:c=ds:=by simpa using a
  subst a;rw[YeM,Za2,Za2];omega
 | c::D,i+1,ds,es,a=>by
  rw[YeN,Za2,Za2];have:=Zgt (h:=h) (D:=D) (i:=i) (ds:=ds) (es:=es) (by simpa using a);omega
theorem Ze1 {h:TD->Int}:∀ {ds:List TD}{j:Nat}{d e:TD},ds[j]?=some d->((ds.set j e).map h).sum+h d=(ds.map h).sum+h e
 | [],_,_,_,a=>by simp at a
 | c::ds,0,d,e,a=>by
  have a:c=d:=by simpa using a
  subst a;rw[YeM,Yam,Yam,YaF,YaF];omega
 | c::ds,j+1,d,e,a=>by
  rw[YeN,Yam,Yam,YaF,YaF];have:=Ze1 (h:=h) (ds:=ds) (j:=j) (d:=d) (e:=e) (by simpa using a);omega
def ZcH (N:List (List Int)):List (List TD):=N.map fun ws=>Yaf ws.length none
theorem Zc0 {h:TD->Int} (h0:h none=0):∀ n:Nat,((Yaf n (none:TD)).map h).sum=0
 | 0=>rfl
 | n+1=>by rw[Ybh,Yam,YaF,Zc0 h0 n,h0];rfl
theorem ZeE {h:TD->Int} (h0:h none=0):∀ ws:List Int,dtT h (Yaf ws.length none) ws=0
 | []=>rfl
 | w::ws=>by rw[YaY,Ybh,dtT,ZeE h0 ws,h0];(clear h0;omega)
theorem ZiV {h:TD->Int} (h0:h none=0):∀ N:List (List Int),ptT h (ZcH N) N=0
 | []=>rfl
 | w::N=>by
  show dtT h (Yaf w.length none) w+ptT h (ZcH N) N=0;rw[ZiV h0 N,ZeE h0];rfl
theorem ZgR {h:TD->Int} (h0:h none=0):∀ N:List (List Int),totT h (ZcH N)=0
 | []=>rfl
 | w::N=>by
  show totT h (Yaf w.length none::ZcH N)=0;rw[Za2,ZgR h0 N,Zc0 h0];rfl
theorem Zdo (fl:Bool):∀ N:List (List Int),GdD fl (ZcH N) N
 | []=>trivial
 | w::N=>by
  refine⟨GdR.of (by simp) fun i d x hd hx=>fun e he=>?_,Zdo fl N⟩;have:=YbF (Yah hd);rw[this] at he;cases he
theorem GdR.put {fl:Bool}{ds:List TD}{ws:List Int}{j:Nat}{e:TD}{x:Int} (h:GdR fl ds ws) (hx:ws[j]?=some x) (he:GdT fl e x):GdR fl (ds.set j e) ws:=GdR.of (by rw[Ybn,h.len]) fun i d y hd hy=>by
 by_cases z:j=i
 ·subst z;have h1:=(Yab.mp hd).1
  rw[Ybn] at h1;rw[Ya5 h1] at hd;rw[hx] at hy;cases hd;cases hy;exact he
 ·rw[Ya0 z] at hd;obtain⟨y',hy',g⟩:=h.at hd;rw[hy] at hy';cases hy';exact g
theorem GdD.put {fl:Bool}{D:List (List TD)}{W:List (List Int)}{i:Nat}{es:List TD}{ws:List Int} (h:GdD fl D W) (hx:W[i]?=some ws) (he:GdR fl es ws):GdD fl (D.set i es) W:=by
 have:=GdD.set i h he;have e:W.set i ws=W:=by
  have hi:=Yab.mp hx;rw[<- hi.2];exact List.set_getElem_self hi.1
 rwa [e] at this
theorem Zn1 {p n i j:Nat} (hp:2<=p) {ws:List Int}{x:Int}{xs:List Int} (hi:(tnum p n)[i]?=some ws) (hj:ws[j]?=some x):let D:=(ZcH (tnum p n)).set i ((Yaf ws.length none).set j (some (evB x,dirT (evB x) xs)))
  GdD false D (tnum p n)/\HasT D/\(Zba D).Perm xs/\ptT lenT D (tnum p n)=x*xs.length/\totT lenT D=xs.length:=by
 have hd:(ZcH (tnum p n))[i]?=some (Yaf ws.length none):=by unfold ZcH;rw[Yag,hi];rfl
 have hjl:=(Yab.mp hj).1
 have hil:=(Yab.mp hd).1
 have hn:(Yaf ws.length (none:TD))[j]?=some none:=by rw[Yc3,if_pos hjl]
 have hg:GdT false (some (evB x,dirT (evB x) xs)) x:=fun e he=>by
  cases he;exact⟨by cases evB x <;> rfl,(Zja _ _).symm⟩
 have hgr:=(GdD.at (Zdo false (tnum p n)) hd)
 have hgr':GdR false (Yaf ws.length none) ws:=by
  obtain⟨w',a,b⟩:=hgr;rw[hi] at a;cases a;exact b
 have wl:∀ {h:TD->Int},h none=0->totT h ((ZcH (tnum p n)).set i ((Yaf ws.length none).set j (some (evB x,dirT (evB x) xs))))=h (some (evB x,dirT (evB x) xs)):=fun {h} h0=>by
  have a:=Zgt (h:=h) (es:=(Yaf ws.length none).set j (some (evB x,dirT (evB x) xs))) hd;have b:=Ze1 (h:=h) (e:=some (evB x,dirT (evB x) xs)) hn;rw[ZgR h0,Zc0 h0] at a;rw[Zc0 h0,h0] at b
  (clear h0 hil hjl hp;omega)
 have e1:lenT (some (evB x,dirT (evB x) xs))=(xs.length:Int):=by
  show gl58 (dirT (evB x) xs)=_;unfold gl58;rw[Zi9]
 refine⟨GdD.put (Zdo false _) hi (hgr'.put hj hg),⟨_,Yah (i:=i) (Ya5 hil),_,Yah (i:=j) (Ya5 (by rw[YaP];exact hjl))⟩,?_,?_,by rw[wl lenT_ok.non,e1]⟩
 ·rw[YeC];intro y;have a:=wl (h:=wT (gc58 y)) (Zjo y).non;rw[Zc6 (Zcm y)] at a;have b:wT (gc58 y) (some (evB x,dirT (evB x) xs))=((xs.count y:Nat):Int):=by
   show (((dirT (evB x) xs).count y:Nat):Int)=_;have:(dirT (evB x) xs).Perm xs:=by
    unfold dirT;split
    ·exact ZaH xs
    ·exact (YcD _).trans (ZaH xs)
   rw[this.count_eq]
  rw[b] at a;unfold gc58 at a
  (clear b e1 hil hjl hp;omega)
 ·have a:=Zh7 (h:=lenT) (es:=(Yaf ws.length none).set j (some (evB x,dirT (evB x) xs))) hd hi;have b:=Zi3 (h:=lenT) (e:=some (evB x,dirT (evB x) xs)) hn hj;rw[ZiV lenT_ok.non,ZeE lenT_ok.non] at a;rw[ZeE lenT_ok.non,lenT_ok.non,e1] at b
  (clear e1 hil hjl hp;omega)
def ZhQ:Sp:=fun vs H Q _=>∃ (nn:Addr) (ns:List Addr) (N:List (List Int)),vs=[.ref nn]/\H nn=some (.lst (ns.map V.ref))/\LLs H ns N/\N.length<=7/\(∀ xs∈N,∀ m∈xs,0<=m/\m<=300)/\∀ l qs L H',H l=none->H' l=some (.tup (qs.map V.ref))->TTs H' qs (L.map pr2)->SprL L (cn N.flatten)->Same H H'->Q (.ref l) H'
def Zeh:Sp:=fun vs H Q _=>∃ (pl nn uu:Addr) (p n:Nat) (ns us:List Addr),vs=[.ref pl,.int p,.int n,.ref nn,.ref uu]/\2<=p/\p<=7/\n<=300/\tot p n<=4000/\PotT H pl/\H nn=some (.lst (ns.map V.ref))/\LLs H ns (tnum p n)/\(∀ q∈ns,q≠pl)/\H uu=some (.lst (us.map V.ref))/\LBs H us (upsT (tnum p n))/\∀ H',PotT H' pl->Sm pl H H'->Q (.bl true) H'
end Lv
namespace Fi58
open PySem L2 Lv
section
variable {P:Program}{w:World}{K:Yae}{mg:Str->Option Value}{base:Heap}
theorem ZmU:FnScope ["things","up"] ["things","up"] (Zac Zbg):=⟨rfl,rfl,rfl,by decide +kernel,rfl,by decide +kernel,by decide +kernel⟩
theorem Zke {f:Addr}{fd:FuncData} (F:Fun K "_law_sorted" "_law_sorted" Zbg f fd) (T:Txt mg):FnOk P w K mg base CX0 1 f fd ["things","up"] Zc9:=by
 refine okW F ZmU (fun vs H Q E h=>?_) (fun cdv A outer s H vs Q E hr h=>?_)
 ·obtain⟨l,xs,up,rfl,_⟩:=h;rfl
 ·obtain⟨l,xs,up,rfl,hl,k⟩:=h;refine⟨_,(Zag (Zc1 (Ze7 (pv 1))
   (Zax (ws (Zay (Zan Zbv rfl T.sorted Zbp (Zab (pv 0) Zad)))))
   Zbi)
   (Zax (ws (Zay (Zfa (Zan Zbv rfl T.sorted Zbp (Zab (pv 0) Zad)) (Za9 (Zie ZeY Zaf))))))),?_⟩
  refine⟨_,rfl,up,rfl,?_⟩
  cases up with
  | true=>
   refine iteT ⟨_,rfl,l,xs,rfl,SqL.of hl,fun l2 ms n2 hp hs=>?_⟩;exact k l2 _ n2 (by rw[Zaa,ZbE hp hs];rfl) (Same.new n2)
  | false=>
   refine iteF ⟨_,rfl,l,xs,rfl,SqL.of hl,fun l2 ms n2 hp hs=>⟨1,rfl,-1,rfl,rfl,l2,_,rfl,SqL.of Zaa,fun l3 n3=>?_⟩⟩;have s2:Same H (upd H l2 (.lst (ms.map V.int))):=Same.new n2;exact k l3 _ (s2.free n3) (by rw[Zaa,ZbE hp hs,<- Ycm];rfl) (s2.trans (Same.new n3))
theorem scLLaid:FnScope ["pot","ups","flip","found","reel","rows","up","things"] ["pot","ups","flip"] (Zac Zbx):=⟨rfl,rfl,rfl,by decide +kernel,rfl,by decide +kernel,by decide +kernel⟩
theorem Zkn {f f1 f2:Addr}{fd d1 d2:FuncData} (F:Fun K "_law_laid" "_law_laid" Zbx f fd) (T:Txt mg) (CS:Cal P w K mg base 1 "_law_sorted" ["things","up"] Zc9 f1 d1) (CT:Cal P w K mg base 1 "_law_take" ["pot","many"] Zcu f2 d2):FnOk P w K mg base CX0 2 f fd ["pot","ups","flip"] ZfP:=by
 refine okW F scLLaid (fun vs H Q E h=>?_) (fun cdv A outer s H vs Q E hr h=>?_)
 ·obtain⟨pl,u,us,N,fl,rfl,_⟩:=h;rfl
 ·obtain⟨pl,u,us,N,fl,rfl,hpot,hu,hus,hN7,hN4,k⟩:=h;have hr1:Room 1 _:=hr.mono (by decide);refine⟨_,(Zag (ws (Zar (i:=3) scLLaid.nd rfl (YaG rfl) (ZaJ Zad)))
   (Zag (ws (Za7 Ya4 rfl (Za4 (pv 1)) (Zah (i:=4) scLLaid.nd rfl (YaG rfl))
   (WSs.out (Zag (ws (Zar (i:=5) scLLaid.nd rfl (YaG rfl) (ZaJ Zad)))
    (Zag (ws (Za7 Ya4 rfl (Za4 (pv 4)) (Zah (i:=6) scLLaid.nd rfl (YaG rfl))
    (WSs.out (Zag (ws (Zar (i:=7) scLLaid.nd rfl (YaG rfl) (Zao CS hr1 rfl (Zab (Zaz (own:=["k"]) (js:=[0]) (CompOk.by (sc:=Zac Zbx) (N:=["pot","ups","flip","found","reel","rows","up","things"]) rfl rfl (by decide +kernel)) rfl (ZaI rfl T.range (Zab (Zao CT hr1 rfl (Zab (pv 0) (Zab Zaf Zad))) Zad)) Zak (fun _ _ _ _ _=>(Zah (i:=0) (by show (["k","pot"]:List Str).Nodup;decide +kernel) rfl (YaG rfl) (.inr rfl))) (fun _ _ _ _ _=>Zav) (fun _ _ _ _ _=>(Zau Zcj (Zao CT hr1 rfl (Zab (pv 1) (Zab Zaf Zad))) Zaf))) (Zab (Zca Zij (pv 6) (pv 2) (ZaV _)) Zad)))))
     (Zax (ws (Za3 (Zj6 Ycu YcS YcR ZbK (pv 5) (Zab (WE.out (ZnI ZaA (ZeT (Zbw rfl (Zbo (Zab (Zca Zij (pv 6) (pv 2) (ZaV _)) (Zab (pv 7) Zad))) (Zbw rfl (Zbo (Zab (Zca Zij (pv 6) (pv 2) (ZaV _)) (Zab (pv 7) Zad))) (Zbw rfl Zfb ZeU)))) (we (Zao CT hr1 rfl (Zab (pv 0) (Zab Zaf Zad)))) (fun _ _=>rfl))) Zad)))))))))
    (Zax (ws (Za3 (Zj6 Ycu YcS YcR ZbK (pv 3) (Zab (pv 5) Zad))))))))))
   (Zax (ws (Zay (pv 3)))))),?_⟩
  have husl:us.length=N.length:=by have:=hus.1;unfold upsT at this;rwa [Yaa] at this
  have nu:u≠pl:=hpot.neR hu;refine⟨YaT _,fun f nf=>?_⟩;have hf0:upd H f (.lst []) f=some (.lst []):=Zaa;have hp0:PotT (upd H f (.lst [])) pl:=hpot.put nf;have s0:Same H (upd H f (.lst [])):=Same.new nf;have nfp:f≠pl:=hpot.ne nf;have hb:∀ t,upd H f (.lst []) t=none->H t=none:=fun t ht=>Zbk ht;generalize hHf:upd H f (.lst [])=Hf at hf0 hp0 s0 hb ⊢;have hu0:=s0 _ _ hu;have nuf:u≠f:=fun z=>by rw[z,nf] at hu;cases hu
  have hus0:LBs Hf us (upsT N):=hus.same s0;have hfn:Hf f≠none:=by rw[hf0];exact fun z=>nomatch z
  have hpn:=hp0.some;refine⟨_,rfl,u,rfl,⟨_,SqL.of hu0⟩,?_⟩;refine ZbB (xs:=us.map V.ref) (fun i σ Hx=>∃ (as:List Addr) (Vs:List (List V)) (D:List (List TD)) (o4 o5 o6 o7:Option V),σ=[some (.ref pl),some (.ref u),some (.bl fl),some (.ref f),o4,o5,o6,o7]/\Hx f=some (.lst (as.map V.ref))/\as.length=i/\RL Hx as Vs/\TVD Hf Hx Vs D/\(∀ q∈as,Hf q=none)/\GdD fl D (N.take i)/\(∀ r∈D,∀ e,some e∈r->e.2.length<=3)/\PotT Hx pl/\(∀ b o,Hf b=some o->b≠pl->b≠f->Hx b=some o))
   ⟨[],[],[],none,none,none,none,rfl,hf0,rfl,⟨rfl,fun j a vs x=>by simp at x⟩,⟨rfl,fun j a vs x=>by simp at x⟩,fun q hq=>by simp at hq,trivial,fun r hr=>by simp at hr,hp0,fun b o e _ _=>e⟩ (fun i σ Hx _ z=>by
    obtain⟨_,_,_,_,_,_,_,_,_,_,_,_,_,_,_,_,sz⟩:=z;exact SqL.of (sz _ _ hu0 nu nuf)) ?_ ?_
  ·rintro i x σ Hx hx ⟨as,Vs,D,o4,o5,o6,o7,rfl,hf,hal,hRL,hTV,hnew,hG,h3,hp,sx⟩;obtain⟨r,hr',rfl⟩:=Zam hx;have hi:=(Yab.mp hr').1
   obtain⟨ws,hws⟩:∃ ws,N[i]?=some ws:=⟨_,Yac (by (clear hal nuf nfp nu hN7;omega))⟩
   have hrH:H r=some (.lst ((ws.map evB).map V.bl)):=hus.2 i r _ hr' (by unfold upsT;rw[Yag,hws];rfl);have hrp:r≠pl:=hpot.neB hrH;have hrf:r≠f:=fun z=>by rw[z,nf] at hrH;cases hrH
   have hrx:=sx _ _ (s0 _ _ hrH) hrp hrf;have hw4:=hN4 ws (Yah hws);refine⟨YaT _,fun rw0 nrw=>?_⟩;have nrwp:rw0≠pl:=hp.ne nrw;have nrwf:rw0≠f:=fun z=>by rw[z,hf] at nrw;cases nrw
   have hRLn:∀ q∈as,q≠rw0:=fun q hq z=>by
    obtain⟨j,hj⟩:=Ya8 hq;obtain⟨vs,_,e⟩:=hRL.at hj;rw[z,nrw] at e;cases e
   have hasf:∀ q∈as,q≠f:=fun q hq z=>hfn (by rw[<- z];exact hnew q hq);have hasp:∀ q∈as,q≠pl:=fun q hq z=>hpn (by rw[<- z];exact hnew q hq);have s1:Same Hx (upd Hx rw0 (.lst [])):=Same.new nrw;have hrw1:upd Hx rw0 (.lst []) rw0=some (.lst []):=Zaa;have hp1:=hp.put (o:=.lst []) nrw;have nrw0:Hf rw0=none:=by
    cases e:Hf rw0 with
    | none=>rfl
    | some o=>rw[sx _ _ e nrwp nrwf] at nrw;cases nrw
   have hf1:=s1 _ _ hf;have hR1:=hRL.same s1;have hT1:TVD (upd Hf rw0 (.lst [])) (upd Hx rw0 (.lst [])) Vs D:=(hTV.oldD nrw).same s1;have hww:upd Hf rw0 (.lst []) rw0≠none:=ZcT;have hwp:upd Hf rw0 (.lst []) pl≠none:=by rw[upd_ne nrwp.symm];exact hpn
   have hwb:∀ t,upd Hf rw0 (.lst []) t=none->Hf t=none:=fun t ht=>Zbk ht;have hwn:∀ t,Hf t=none->t≠rw0->upd Hf rw0 (.lst []) t=none:=fun t h1 h2=>by rw[upd_ne h2];exact h1
   generalize upd Hf rw0 (.lst [])=Hw at hT1 hww hwp hwb hwn ⊢;have sx1:∀ b o,Hf b=some o->b≠pl->b≠f->upd Hx rw0 (.lst []) b=some o:=fun b o e n1 n2=>s1 _ _ (sx b o e n1 n2);generalize upd Hx rw0 (.lst [])=H1 at s1 hrw1 hp1 hf1 hR1 hT1 sx1 ⊢;have hr1':=s1 _ _ hrx;refine⟨_,rfl,r,rfl,⟨_,SqL.of hr1'⟩,?_⟩;refine ZbB (xs:=(ws.map evB).map V.bl) (fun j σ' Hy=>∃ (vs:List V) (ds:List TD) (o6 o7:Option V),σ'=[some (.ref pl),some (.ref u),some (.bl fl),some (.ref f),some (.ref r),some (.ref rw0),o6,o7]/\Hy rw0=some (.lst vs)/\vs.length=j/\TVs Hw Hy vs ds/\GdR fl ds (ws.take j)/\(∀ e,some e∈ds->e.2.length<=3)/\Hy f=some (.lst (as.map V.ref))/\RL Hy as Vs/\TVD Hw Hy Vs D/\PotT Hy pl/\(∀ b o,Hf b=some o->b≠pl->b≠f->Hy b=some o)/\Hy r=some (.lst ((ws.map evB).map V.bl)))
     ⟨[],[],_,_,rfl,hrw1,rfl,TVs.nil _ _,trivial,fun e he=>by simp at he,hf1,hR1,hT1,hp1,sx1,hr1'⟩ (fun j σ' Hy _ z=>by
      obtain⟨_,_,_,_,_,_,_,_,_,_,_,_,_,_,_,e⟩:=z;exact SqL.of e) ?_ ?_
   ·rintro j y σ' Hy hy ⟨vs,ds,o6,o7,rfl,hrw,hvl,hTy,hGy,h3y,hfy,hRy,hTDy,hpy,sy,hry⟩;rw[Ybc,Yag] at hy;obtain⟨w0,hw0,rfl⟩:∃ w0,ws[j]?=some w0/\y=.bl (evB w0):=by
     cases e:ws[j]? with
     | none=>rw[e] at hy;cases hy
     | some w0=>rw[e] at hy;exact⟨w0,rfl,(Yax hy).symm⟩
    have hj:=(Yab.mp hw0).1
    have nrr:r≠rw0:=fun z=>by rw[z,nrw] at hrx;cases hrx
    refine⟨_,rfl,pl,4,rfl,hpy,by decide,by decide,fun dn H2 e0 e1 hp2 sm2=>⟨_,rfl,by (clear e1 nrr hj hvl nrwf nrwp hw4 hrf hrp hi hal nuf nfp nu husl hN7;omega),by (clear e0 nrr hj hvl nrwf nrwp hw4 hrf hrp hi hal nuf nfp nu husl hN7;omega),?_⟩⟩;refine Zho hp2 (by (clear e0 nrr hj hvl nrwf nrwp hw4 hrf hrp hi hal nuf nfp nu husl hN7;omega)) (fun ii H3 hi3 hp3 sm3 R2 hR2=>⟨_,rfl,pl,40,rfl,hp3,by decide,by decide,fun d H4 d0 d1 hp4 sm4=>⟨_,_,rfl,rfl,hR2 _ H4 hp4 sm4⟩⟩) fun acc xs H3 ha0 hacc hxl hp3 sm3=>?_;refine⟨_,rfl,_,rfl,rfl,?_⟩;refine⟨acc,xs,_,rfl,hacc,fun th H4 nth hth s4=>?_⟩;have m4:Sm pl Hy H4:=(sm2.trans sm3).trans (Sm.of s4);have hrw4:=m4 _ _ hrw nrwp;have hp4:PotT H4 pl:=hp3.same s4;have thy:Hy th=none:=by
     have h1:H3 th=none:=nth;have h2:th≠pl:=hp3.ne h1;exact (sm2.trans sm3).free h2 h1
    have thf:Hf th=none:=by
     have h2:th≠pl:=hpy.ne thy
     cases e:Hf th with
     | none=>rfl
     | some o=>exact absurd (sy _ _ e h2 (fun z=>by rw[z,hfy] at thy;cases thy)) (by rw[thy];exact fun z=>nomatch z)
    have thw:Hw th=none:=hwn th thf fun z=>by rw[z,hrw] at thy;cases thy
    clear hacc;have eup:(!decide (V.bl (evB w0)=V.bl fl))=(evB w0 != fl):=by rw[Zje];rfl
    rw[eup] at hth;refine⟨_,rfl,.inl ⟨rfl,_,SqL.of hrw4⟩,?_⟩;refine⟨_,rfl,_,rfl,rfl,_,rfl,(by show 2<=sizeLine;decide),fun t1 nt1=>?_⟩;refine⟨_,rfl,_,rfl,rfl,_,rfl,(by show 2<=sizeLine;decide),fun t2 nt2=>?_⟩;refine⟨(by show 3<=sizeLine;decide),fun l3 nl3=>?_⟩;rw[eup] at nt2 nl3 ⊢;have s5:Same H4 (upd H4 t1 (.tup [.bl (evB w0 != fl),.ref th])):=Same.new nt1;have s6:Same (upd H4 t1 (.tup [.bl (evB w0 != fl),.ref th])) (upd (upd H4 t1 (.tup [.bl (evB w0 != fl),.ref th])) t2 (.tup [.bl (evB w0 != fl),.ref th])):=Same.new nt2;have ht1:=s6 _ _ (Zaa (H:=H4) (a:=t1) (o:=.tup [.bl (evB w0 != fl),.ref th]));have ht2:upd (upd H4 t1 (.tup [.bl (evB w0 != fl),.ref th])) t2 (.tup [.bl (evB w0 != fl),.ref th]) t2=some (.tup [.bl (evB w0 != fl),.ref th]):=Zaa;have s56:=s5.trans s6;generalize upd (upd H4 t1 (.tup [.bl (evB w0 != fl),.ref th])) t2 (.tup [.bl (evB w0 != fl),.ref th])=H5 at s6 ht1 ht2 s56 nl3 ⊢;have s7:Same H5 (upd H5 l3 (.lst [.ref t1,.ref t2,.non])):=Same.new nl3;have hl3:upd H5 l3 (.lst [.ref t1,.ref t2,.non]) l3=some (.lst [.ref t1,.ref t2,.non]):=Zaa;generalize upd H5 l3 (.lst [.ref t1,.ref t2,.non])=H6 at s7 hl3 ⊢;have s47:=s56.trans s7;refine⟨_,rfl,pl,3,rfl,hp4.same s47,by decide,by decide,fun d H7 d0 d1 hp7 sm7=>?_⟩;have nl3p:l3≠pl:=fun z=>by
     have:=hp4.same s56;exact this.some (by rw[<- z];exact nl3)
    have hl37:=sm7 _ _ hl3 nl3p;have hp6:=hp4.same s47;obtain⟨v,dd,hv1,hv2,hv3,hv4⟩:∃ v dd,atI [V.ref t1,V.ref t2,V.non] d=some v/\TV Hw H7 v dd/\GdT fl dd w0/\∀ e,dd=some e->e.2.length<=3:=by
     have hgood:GdT fl (some ((evB w0 != fl),dirT (evB w0 != fl) xs)) w0:=fun e he=>by cases he;exact⟨rfl,(Zja _ _).symm⟩
     have hlen:∀ e:Bool × List Int,(some ((evB w0 != fl),dirT (evB w0 != fl) xs):TD)=some e->e.2.length<=3:=fun e he=>by
      cases he;rw[Zi9]
      (clear nl3p d1 d0 e0 nrr hj hvl nrwf nrwp hw4 hrf hrp hi hal nuf nfp nu husl hN7;omega)
     have hth7:H7 th=some (.lst ((dirT (evB w0 != fl) xs).map V.int)):=sm7 _ _ (s47 _ _ hth) fun z=>hpy.some (by rw[<- z];exact thy);have tp:∀ {t:Addr},H6 t=some (.tup [.bl (evB w0 != fl),.ref th])->H7 t=some (.tup [.bl (evB w0 != fl),.ref th]):=fun {t} e=>sm7 _ _ e fun z=>by
      obtain⟨zs,hz⟩:=hp6.lst;rw[z,hz] at e;cases e
     have:d=0∨d=1∨d=2:=by (clear nl3p hxl e1 e0 nrr hj hvl nrwf nrwp hw4 hrf hrp hi hal nuf nfp nu husl hN7;omega)
     rcases this with rfl | rfl | rfl
     ·exact⟨_,some ((evB w0 != fl),dirT (evB w0 != fl) xs),rfl,⟨t1,th,rfl,tp (s7 _ _ ht1),hth7,thw⟩,hgood,hlen⟩
     ·exact⟨_,some ((evB w0 != fl),dirT (evB w0 != fl) xs),rfl,⟨t2,th,rfl,tp (s7 _ _ ht2),hth7,thw⟩,hgood,hlen⟩
     ·exact⟨_,none,rfl,rfl,(fun e he=>by cases he),(fun e he=>by cases he)⟩
    refine⟨l3,_,d,v,rfl,rfl,SqL.of hl37,hv1,?_⟩;have m7:Sm pl Hy H7:=(m4.trans (Sm.of s47)).trans sm7;have hrw7:=m7 _ _ hrw nrwp;refine⟨rw0,_,_,rfl,rfl,hrw7,Zcv (by (clear nl3p d1 d0 hxl e1 e0 nrr nrwf nrwp hrf hrp hi hal nuf nfp nu husl hN7;omega)),?_⟩;have hfy7:=m7 _ _ hfy nfp;refine⟨vs++[v],ds++[dd],_,_,rfl,Zaa,by simp[hvl],TVs.snoc ((hTy.sm m7 hpy hwp).put hrw7 hww) (hv2.put hrw7 hww),?_,?_,by rw[upd_ne nrwf.symm];exact hfy7,(hRy.sm m7 hasp).off hRLn,(hTDy.sm m7 hpy hwp).put hrw7 hww,hp7.off nrwp,fun b o e n1 n2=>?_,?_⟩
    ·rw[YaI,hw0];exact GdR.app hGy ⟨hv3,trivial⟩
    ·intro e he;rcases Yar.mp he with he | he
     ·exact h3y e he
     ·exact hv4 e (YaN.mp he).symm
    ·have nb:b≠rw0:=fun z=>by rw[z,nrw0] at e;cases e
     rw[upd_ne nb];exact m7 _ _ (sy b o e n1 n2) n1
    ·rw[upd_ne nrr];exact m7 _ _ hry hrp
   ·rintro σ' Hy ⟨vs,ds,o6,o7,rfl,hrw,hvl,hTy,hGy,h3y,hfy,hRy,hTDy,hpy,sy,hry⟩;rw[Yaa,Yaa,Yaz] at hGy;refine⟨_,rfl,.inl ⟨rfl,_,SqL.of hfy⟩,_,rfl,f,_,_,rfl,rfl,hfy,Zcv (by rw[Yaa];(clear hvl nrwf nrwp hw4 hrf hrp nuf nfp nu;omega)),?_⟩;have hfw:Hw f≠none:=fun z=>hfn (hwb f z);refine⟨as++[rw0],Vs++[vs],D++[ds],_,_,_,_,rfl,by rw[Zaa];simp,by simp[hal],RL.snoc (hRy.off hasf) (by rw[upd_ne nrwf];exact hrw),(TVD.snoc (hTDy.put hfy hfw) (hTy.put hfy hfw)).base hwb,fun q hq=>?_,?_,?_,hpy.off nfp,fun b o e n1 n2=>?_⟩
    ·rcases Yar.mp hq with hq | hq
     ·exact hnew q hq
     ·rw[YaN.mp hq];exact nrw0
    ·rw[YaI,hws];exact GdD.snoc hG hGy
    ·intro d hd e he;rcases Yar.mp hd with hd | hd
     ·exact h3 d hd e he
     ·rw[YaN.mp hd] at he;exact h3y e he
    ·rw[upd_ne n2];exact sy b o e n1 n2
  ·rintro σ Hx ⟨as,Vs,D,o4,o5,o6,o7,rfl,hf,hal,hRL,hTV,hnew,hG,h3,hp,sx⟩;rw[Yaa,husl,Yaz] at hG;refine⟨_,rfl,k f as Vs D Hx nf hf hRL (hTV.base hb) (fun q hq=>hb q (hnew q hq)) hG h3 hp fun b o e n=>?_⟩;exact sx b o (s0 _ _ e) n fun z=>by rw[z,nf] at e;cases e
end
end Fi58
namespace Fi58
open PySem L2 Lv
section
variable {P:Program}{w:World}{K:Yae}{mg:Str->Option Value}{base:Heap}
theorem scOneR:FnScope ["pot","p","n","numbers","ups","at","reel","place","reels","things","row","read"] ["pot","p","n","numbers","ups"] (Zac ZaD):=⟨rfl,rfl,rfl,by decide +kernel,rfl,by decide +kernel,by decide +kernel⟩
theorem Zl1 {f f1 f2 f3:Addr}{fd d1 d2 d3:FuncData} (F:Fun K "_law_one_right" "_law_one_right" ZaD f fd) (T:Txt mg) (CS:Cal P w K mg base 1 "_law_sorted" ["things","up"] Zc9 f1 d1) (CT:Cal P w K mg base 1 "_law_take" ["pot","many"] Zcu f2 d2) (CP:Cal P w K mg base 4 "turned_play" ["p","reels"] (Zeg K) f3 d3):FnOk P w K mg base CX0 5 f fd ["pot","p","n","numbers","ups"] Zeh:=by
 refine okW F scOneR (fun vs H Q E h=>?_) (fun cdv A outer s H vs Q E hr h=>?_)
 ·obtain⟨pl,nn,uu,p,n,ns,us,rfl,_⟩:=h;rfl
 ·obtain⟨pl,nn,uu,p,n,ns,us,rfl,h1,h2,h300,h4000,hpot,hnn,hN,hnp,huu,hus,k⟩:=h;have hr1:Room 1 _:=hr.mono (by decide);have hr4:Room 4 _:=hr.mono (by decide);have hu1:(A.deeper (Yb7 "_law_one_right" (Zac ZaD) s.heap.objs.size f cdv)).units+12<cLine:=by have:=hr.un;(clear h4000 h300 h2 h1;omega)
  refine⟨_,(Zag (ws (Zar (i:=5) scOneR.nd rfl (YaG rfl) (Zaz (own:=["at"]) (js:=[4]) (CompOk.by (sc:=Zac ZaD) (N:=["pot","p","n","numbers","ups","at","reel","place","reels","things","row","read"]) rfl rfl (by decide +kernel)) rfl (ZaI rfl T.range (Zab (pv 1) Zad)) Zak (fun _ _ _ _ _=>(Zah (i:=0) (by show (["at","ups"]:List Str).Nodup;decide +kernel) rfl (YaG rfl) (.inr rfl))) (fun _ _ _ _ _=>(ZcC (ZaP ZlR (Zan (Zbm K) rfl T.len Ybr (Zab (ZaR (ZeC K) (pv 1) (pv 0) (fun _ _=>rfl)) Zad)) Zaf (ZaV _)))) (fun _ _ _ _ _=>(pv 0)))))
   (Zag (ws (Zar (i:=6) scOneR.nd rfl (YaG rfl) (ZaR ZaA (pv 5) (Zao CT hr1 rfl (Zab (pv 0) (Zab (Zan ZaN rfl T.len Ybr (Zab (pv 5) Zad)) Zad))) (fun _ _=>rfl))))
   (Zag (ws (Zar (i:=7) scOneR.nd rfl (YaG rfl) (Zao CT hr1 rfl (Zab (pv 0) (Zab (Zan ZaN rfl T.len Ybr (Zab (ZaR ZaA (pv 4) (pv 6) (fun _ _=>rfl)) Zad)) Zad)))))
   (Zag (ws (ZcE (i:=8) scOneR.nd rfl rfl (own:=["some"]) (js:=[]) (CompOk.by (sc:=Zac ZaD) (N:=["pot","p","n","numbers","ups","at","reel","place","reels","things","row","read"]) rfl rfl (by decide +kernel)) rfl (Za4 (pv 4)) Zak (fun _ _ _ _ _=>(Zah (i:=0) (by show (["some"]:List Str).Nodup;decide +kernel) rfl (YaG rfl) (.inr rfl))) (fun _ _ _ _ _=>Zav) (fun _ _ _ _ _=>(Zau ZdZ (ZaJ (Zab Zfb Zad)) (Zan (Zbm K) rfl T.len Ybr (Zab (pv 0) Zad))))))
   (Zag (Zhu (i:=9) scOneR.nd rfl (YaG rfl) (ZeT (Zbw rfl Zaf (Zbw rfl Zaf (Zbw rfl Zaf ZeU)))))
   (Zag (ws (Zb1 (Zbo (Zab (ZaR ZaA (ZaR ZaA (pv 4) (pv 6) (fun _ _=>rfl)) (pv 7) (fun _ _=>rfl)) (Zab (Zao CS hr1 rfl (Zab (pv 9) (Zab (ZaR ZaA (ZaR ZaA (pv 4) (pv 6) (fun _ _=>rfl)) (pv 7) (fun _ _=>rfl)) Zad))) Zad))) (ZgG (ZaR ZaA (pv 8) (pv 6) (fun _ _=>rfl)) (pv 7) ZcW)))
   (Zag (ws (Zb1 (Zao CP hr4 rfl (Zab (pv 1) (Zab (pv 8) Zad))) (Zb2 rfl (Zas (Zah (i:=10) scOneR.nd rfl (YaG rfl)) (Zas (Zah (i:=11) scOneR.nd rfl (YaG rfl)) Za5)))))
   (Zax (ws (Zay (Zk5 (Zca (Zk7 hu1) (pv 10) (Zbo (Zab Zfc (Zab (WE.out (ZeT (Zbw rfl Zaf (Zbw rfl Zaf (Zbw rfl Zaf ZeU))))) Zad))) (ZaV _)) (Zk3 (Zca Zm6 (Zan (Zcs rfl) rfl T.sum Zgl (Zab (pv 11) Zad)) (Zau ZgJ Zaf (ZaR ZaA (ZaR ZaA (pv 3) (pv 6) (fun _ _=>rfl)) (pv 7) (fun _ _=>rfl))) (ZaV _)))))))))))))),?_⟩
  have hul:us.length=p:=by have:=hus.1;unfold upsT at this;rw[Yaa,ZaM (by (clear this hu1 h4000 h300 h2;omega))] at this;exact this
  have hnl:ns.length=p:=by rw[hN.1,ZaM (by (clear hul hu1 h4000 h300 h2;omega))]
  have nup:uu≠pl:=hpot.neR huu;have nnp:nn≠pl:=hpot.neR hnn;have husp:∀ q∈us,q≠pl:=fun q hq=>by
   obtain⟨bs,hb⟩:=Lv.LBs.get hus hq;exact hpot.neB hb
  have getU:∀ {j:Nat}{r:Addr},us[j]?=some r->∃ ws,(tnum p n)[j]?=some ws/\H r=some (.lst ((ws.map evB).map V.bl))/\ws.length<=4000:=fun {j r} e=>by
   have hj:=(Yab.mp e).1
   obtain⟨ws,hw⟩:∃ ws,(tnum p n)[j]?=some ws:=⟨_,Yac (by rw[ZaM (by (clear hj nnp nup hnl hul hu1 h4000 h300 h2;omega))];(clear nnp nup hnl hu1 h4000 h300 h2 h1;omega))⟩
   have hle:=Zec (show 1<=p by (clear hj nnp nup hnl hul hu1 h4000 h300 h2;omega)) (Yah hw);exact⟨ws,hw,hus.2 j r _ e (by unfold upsT;rw[Yag,hw];rfl),by (clear hj nnp nup hnl hul hu1 h300 h2 h1;omega)⟩
  have atU:∀ {j:Nat},j<p->∃ r ws,us[j]?=some r/\(tnum p n)[j]?=some ws/\H r=some (.lst ((ws.map evB).map V.bl))/\ws.length<=4000:=fun {j} hj=>by
   obtain⟨r,hr'⟩:∃ r,us[j]?=some r:=⟨_,Yac (by (clear nnp nup hnl hu1 h4000 h300 h2 h1;omega))⟩
   obtain⟨ws,a,b,c⟩:=getU hr';exact⟨r,ws,hr',a,b,c⟩
  refine⟨_,rfl,_,rfl,by (clear nnp nup hnl hul hu1 h4000 h300 h2 h1;omega),by (clear nnp nup hnl hul hu1 h4000 h300 h1;omega),?_⟩;rw[Ybg];refine Zjl (fun i=>if ((tnum p n).getD i []).length > 0 then some (.int i) else none) (by (clear nnp nup hnl hul hu1 h4000 h300 h1;omega)) (fun i hi H1 s1 A B hf=>?_) fun al H1 h0 s1 hal=>?_
  ·obtain⟨r,ws,hr',hw,hrv,hw4⟩:=atU hi;have hg:(tnum p n).getD i []=ws:=by rw[Yao,hw];rfl
   rw[hg] at hf;refine⟨_,rfl,_,rfl,uu,_,_,.ref r,rfl,rfl,SqL.of (s1 _ _ huu),(by rw[Ycc];exact ZaO (by rw[Yag,hr'];rfl)),r,_,rfl,.inl (SqL.of (s1 _ _ hrv)),_,_,rfl,rfl,_,rfl,?_⟩;rw[Yaa,Yaa];by_cases z:ws.length > 0
   ·rw[if_pos z] at hf;rw[decide_eq_true (show ((ws.length:Nat):Int) > 0 by (clear hw4 hi nnp nup hnl hul hu1 h4000 h300 h2 h1;omega))];refine iteT ⟨_,rfl,?_⟩;rw[Ycc];exact hf H1 (Same.refl _)
   ·rw[if_neg z] at hf;rw[decide_eq_false (show ¬ ((ws.length:Nat):Int) > 0 by (clear hw4 hi nnp nup hnl hul hu1 h4000 h300 h2 h1;omega))];exact iteF (hf H1 (Same.refl _))
  obtain⟨ats,hats,hmem,hne⟩:∃ ats:List Nat,(YaH p).filterMap (fun i=>if ((tnum p n).getD i []).length > 0 then some (V.int i) else none)=ats.map (fun i=>V.int (i:Nat))/\(∀ i∈ats,i<p/\((tnum p n).getD i []).length > 0)/\ats≠[]:=by
   refine⟨(YaH p).filter (fun i=>decide (((tnum p n).getD i []).length > 0)),?_,fun i hi=>?_,fun z=>?_⟩
   ·generalize YaH p=l
    induction l with
    | nil=>rfl
    | cons i l ih=>
     rw[YaQ,List.filter_cons,ih];by_cases z:((tnum p n).getD i []).length > 0
     ·rw[if_pos z,decide_eq_true z,if_pos rfl];rfl
     ·rw[if_neg z,decide_eq_false z,if_neg (by decide)]
   ·rw[Yda] at hi;exact⟨YbL.mp hi.1,of_decide_eq_true hi.2⟩
   ·have h3:(0:Nat)∈(YaH p).filter (fun i=>decide (((tnum p n).getD i []).length > 0)):=by
     rw[Yda];refine⟨YbL.mpr (by (clear nnp nup hnl hul hu1 h4000 h300 h2;omega)),decide_eq_true ?_⟩;have h5:=Zfm h1 n;unfold hd at h5;rw[<- Za8 (show 1<=p by (clear h5 nnp nup hnl hul hu1 h4000 h300 h2;omega))] at h5;unfold ZbL at h5;rw[Yao,Yag] at h5;rw[Yao]
     cases e:(tnum p n)[0]? with
     | none=>rw[e] at h5;exact absurd h5 (by decide)
     | some ws=>rw[e] at h5;have h5:(1:Int)<=((ws.length:Nat):Int):=h5;show ws.length > 0;(clear nnp nup hnl hul hu1 h4000 h300 h2 h1;omega)
    rw[z] at h3;simp at h3
  rw[hats] at hal;have halen:ats.length<=p:=by
   have:=congrArg Ycs hats;rw[Yaa] at this;have h3:=YbR (fun i=>if ((tnum p n).getD i []).length > 0 then some (V.int i) else none) (YaH p);rw[Yc1] at h3
   (clear nnp nup hnl hul hu1 h4000 h300 h2 h1;omega)
  have hapos:0<ats.length:=YeE.mpr hne;have hp1:PotT H1 pl:=hpot.same s1;refine⟨_,rfl,_,rfl,_,rfl,al,_,rfl,.inl (SqL.of hal),pl,_,rfl,hp1,(by rw[Yaa];(clear halen nnp nup hnl hul hu1 h4000 h300 h2 h1;omega)),(by rw[Yaa];exact ZcI (by (clear hapos halen nnp nup hnl hul hu1 h4000 h300 h2 h1;omega)) (by (clear hapos nnp nup hnl hul hu1 h4000 h300 h1;omega))),fun dx H2 e0 e1 hp2 sm2=>?_⟩;rw[Yaa] at e1;have nal:al≠pl:=hpot.ne h0;obtain⟨ix,rfl⟩:=Ycz e0;obtain⟨rl0,hrl⟩:∃ i,ats[ix]?=some i:=⟨_,Yac (by (clear e0 nal hapos halen nnp nup hnl hul hu1 h4000 h300 h2 h1;omega))⟩
  obtain⟨hi0,hi1⟩:=hmem rl0 (Yah hrl);obtain⟨r,ws,hr',hw,hrv,hw4⟩:=atU hi0;have hg:(tnum p n).getD rl0 []=ws:=by rw[Yao,hw];rfl
  rw[hg] at hi1;refine⟨al,_,_,.int rl0,rfl,rfl,SqL.of (sm2 _ _ hal nal),ZaO (by rw[Yag,hrl];rfl),?_⟩;have m2:Sm pl H H2:=(Sm.of s1).trans sm2;have nrp:=husp r (Yah hr');refine⟨_,rfl,_,rfl,_,rfl,uu,_,_,.ref r,rfl,rfl,SqL.of (m2 _ _ huu nup),ZaO (by rw[Yag,hr'];rfl),r,_,rfl,.inl (SqL.of (m2 _ _ hrv nrp)),?_⟩;refine⟨pl,_,rfl,hp2,(by rw[Yaa,Yaa];(clear nrp hw4 hi0 e1 e0 nal hapos halen nnp nup hnl hul hu1 h4000 h300 h2 h1;omega)),(by rw[Yaa,Yaa];exact ZcI (by (clear nrp hw4 hi1 hi0 e1 e0 nal hapos halen nnp nup hnl hul hu1 h4000 h300 h2 h1;omega)) (by (clear nrp hi1 hi0 e1 e0 nal hapos halen nnp nup hnl hul hu1 h4000 h300 h2 h1;omega))),fun dx2 H3 e2 e3 hp3 sm3=>?_⟩;rw[Yaa,Yaa] at e3;obtain⟨pc,rfl⟩:=Ycz e2;have hpc:pc<ws.length:=by (clear e2 nrp hw4 hi1 hi0 e1 e0 nal hapos halen nnp nup hnl hul hu1 h4000 h300 h2 h1;omega)
  have hx:ws[pc]?=some ws[pc]:=Yac hpc;have m3:Sm pl H H3:=m2.trans sm3;clear hal;refine⟨_,rfl,uu,rfl,⟨_,SqL.of (m3 _ _ huu nup)⟩,?_⟩;refine Zgh (b:=true) (K:=K) (a:=uu) (xs:=us.map V.ref) (fun j=>Yaf ((tnum p n).getD j []).length V.non) (SqL.of (m3 _ _ huu nup)) (by rw[Yaa];(clear e3 e2 nrp hw4 hi1 hi0 e1 e0 nal hapos halen nnp nup hnl hu1 h4000 h300 h1;omega)) (fun i x hx' H4 s4 R2 hR2=>?_) fun rl qs H4 nrl hrl4 hql hqd hqs s4=>?_
  ·obtain⟨r2,hr2,rfl⟩:=Zam hx';obtain⟨ws2,hw2,hrv2,hw24⟩:=getU hr2;have hg2:(tnum p n).getD i []=ws2:=by rw[Yao,hw2];rfl
   rw[hg2] at hR2;refine⟨(by show 1<=sizeLine;decide),fun z0 nz0=>?_⟩;have s5:Same H4 (upd H4 z0 (.lst [.non])):=Same.new nz0;have hr5:=s5 _ _ (s4 _ _ (m3 _ _ hrv2 (husp r2 (Yah hr2))));refine⟨_,rfl,r2,_,rfl,.inl (SqL.of hr5),z0,_,_,rfl,rfl,Zaa,?_,?_,?_,fun q nq=>?_⟩
   ·rw[Yaa,Yaa];(clear hw24 e3 e2 nrp hw4 hi1 hi0 e1 e0 nal hapos halen nnp nup hnl hul hu1 h4000 h300 h2 h1;omega)
   ·rw[Yaa,Yaa];(clear e3 e2 nrp hw4 hi1 hi0 e1 e0 nal hapos halen nnp nup hnl hul hu1 h4000 h300 h2 h1;omega)
   ·rw[Yaa,Yaa];exact YaW (Zcv (by show 1*((ws2.length:Nat):Int).toNat<=15001;(clear e3 e2 nrp hw4 hi1 hi0 e1 e0 nal hapos halen nnp nup hnl hul hu1 h4000 h300 h2 h1;omega)))
   ·refine hR2 q _ (s5.free nq) ?_ (s5.trans (Same.new nq));rw[Zaa,Yaa,Yaa,Ybg,Ybm]
  rw[Yaa] at hql;have hp4:PotT H4 pl:=hp3.same s4;have m4:Sm pl H H4:=m3.trans (Sm.of s4);refine⟨(by show 3<=sizeLine;decide),fun th nth=>?_⟩;have s5:Same H4 (upd H4 th (.lst [.int 3,.int 1,.int 4])):=Same.new nth;have hth5:upd H4 th (.lst [.int 3,.int 1,.int 4]) th=some (.lst (([3,1,4]:List Int).map V.int)):=Zaa;generalize upd H4 th (.lst [.int 3,.int 1,.int 4])=H5 at s5 hth5 ⊢;have m5:Sm pl H H5:=m4.trans (Sm.of s5);have hev:atI ((ws.map evB).map V.bl) ((pc:Nat):Int)=some (.bl (evB ws[pc])):=ZaO (by rw[Yag,Yag,hx];rfl);have huat:atI (us.map V.ref) ((rl0:Nat):Int)=some (.ref r):=ZaO (by rw[Yag,hr'];rfl);refine⟨_,rfl,_,rfl,uu,_,_,.ref r,rfl,rfl,SqL.of (m5 _ _ huu nup),huat,_,rfl,r,_,_,.bl (evB ws[pc]),rfl,rfl,SqL.of (m5 _ _ hrv nrp),hev,?_⟩;refine⟨_,rfl,_,rfl,_,rfl,uu,_,_,.ref r,rfl,rfl,SqL.of (m5 _ _ huu nup),huat,_,rfl,r,_,_,.bl (evB ws[pc]),rfl,rfl,SqL.of (m5 _ _ hrv nrp),hev,?_⟩;refine⟨th,[3,1,4],_,rfl,hth5,fun t H6 nt ht s6=>⟨(by show 2<=sizeLine;decide),fun q nq=>?_⟩⟩;have s7:Same H6 (upd H6 q (.tup [.bl (evB ws[pc]),.ref t])):=Same.new nq;have hq7:upd H6 q (.tup [.bl (evB ws[pc]),.ref t]) q=some (.tup [.bl (evB ws[pc]),.ref t]):=Zaa;have ht7:=s7 _ _ ht;have s47:=(s5.trans s6).trans s7;generalize upd H6 q (.tup [.bl (evB ws[pc]),.ref t])=H7 at s7 hq7 ht7 s47 ⊢;obtain⟨q0,hq0⟩:∃ q0,qs[rl0]?=some q0:=⟨_,Yac (by (clear e3 e2 nrp hw4 hi1 e1 e0 nal hapos halen nnp nup hnl hu1 h4000 h300 h2 h1;omega))⟩
  obtain⟨hq1,hq2,hq3⟩:=hqs rl0 q0 hq0;rw[hg] at hq3;refine⟨_,rfl,_,rfl,rl,_,_,.ref q0,rfl,rfl,SqL.of (s47 _ _ hrl4),ZaO (by rw[Yag,hq0];rfl),_,rfl,q0,_,_,pc,rfl,rfl,s47 _ _ hq3,ZiP (by (clear hq1 hql e3 e2 nrp hw4 hi1 hi0 e1 e0 nal hapos halen nnp nup hnl hul hu1 h4000 h300 h2 h1;omega)) (by rw[YaP];(clear hq1 hql e3 e2 nrp hw4 hi1 hi0 e1 e0 nal hapos halen nnp nup hnl hul hu1 h4000 h300 h2 h1;omega)),?_⟩;have nq0H:H q0=none:=by
   refine m3.free (fun z=>?_) hq2;exact hp3.some (by rw[<- z];exact hq2)
  have s08:Sm pl H (upd H7 q0 (.lst ((Yaf ws.length V.non).set pc (.ref q)))):=(m4.trans (Sm.of s47)).putL nq0H;have nq0p:q0≠pl:=hpot.ne nq0H;have hp8:PotT (upd H7 q0 (.lst ((Yaf ws.length V.non).set pc (.ref q)))) pl:=(hp4.same s47).off nq0p;have hrl8:upd H7 q0 (.lst ((Yaf ws.length V.non).set pc (.ref q))) rl=some (.lst (qs.map V.ref)):=by rw[upd_ne (Ybl hq1)];exact s47 _ _ hrl4
  have nqq:q≠q0:=fun z=>by
   have:=s47 _ _ hq3;rw[<- z,hq7] at this;cases this
  have ntq:t≠q0:=fun z=>by
   have:=(s5.trans s6) _ _ hq3;have h9:=s5 _ _ hq3;rw[<- z,nt] at h9;cases h9
  have nodq:∀ {j:Nat}{q':Addr},qs[j]?=some q'->j≠rl0->q'≠q0:=fun {j q'} hj hne z=>by
   rw[z] at hj;exact hne (Znv hqd hj hq0)
  have hRL8:RL (upd H7 q0 (.lst ((Yaf ws.length V.non).set pc (.ref q)))) qs (((tnum p n).map fun ws=>Yaf ws.length V.non).set rl0 ((Yaf ws.length V.non).set pc (.ref q))):=⟨by rw[Ybn,Yaa,ZaM (by (clear ntq nqq nq0p hq1 hql e3 e2 nrp hw4 hi1 hi0 e1 e0 nal hapos halen nnp nup hnl hul hu1 h4000 h300 h2;omega))];(clear ntq nqq nq0p hq1 e3 e2 nrp hw4 hi1 hi0 e1 e0 nal hapos halen nnp nup hnl hu1 h4000 h300 h2 h1;omega),fun j q' vs hj hv=>by
   by_cases z:rl0=j
   ·subst z;rw[hq0] at hj;cases hj;rw[Ya5 (by rw[Yaa,ZaM (by (clear ntq nqq nq0p hq1 hql e3 e2 nrp hw4 hi1 hi0 e1 e0 nal hapos halen nnp nup hnl hul hu1 h4000 h300 h2;omega))];exact hi0)] at hv;cases hv;exact Zaa
   ·rw[Ya0 z] at hv;rw[upd_ne (nodq hj (Ybl z))];have h9:=(hqs j q' hj).2.2
    rw[Yag] at hv
    cases e:(tnum p n)[j]? with
    | none=>rw[e] at hv;cases hv
    | some w2=>
     rw[e] at hv;cases hv;rw[Yao,e] at h9;exact s47 _ _ h9⟩
  have hone:=Zn1 h1 hw hx (xs:=[3,1,4]);have hTV8:TVD (fun _=>none) (upd H7 q0 (.lst ((Yaf ws.length V.non).set pc (.ref q)))) (((tnum p n).map fun ws=>Yaf ws.length V.non).set rl0 ((Yaf ws.length V.non).set pc (.ref q))) ((ZcH (tnum p n)).set rl0 ((Yaf ws.length none).set pc (some (evB ws[pc],dirT (evB ws[pc]) [3,1,4])))):=by
   refine TVD.set ⟨by unfold ZcH;rw[Yaa,Yaa],fun j vs ds hv hd=>?_⟩ ⟨by rw[Ybn,Ybn,YaP,YaP],fun j v d hv hd=>?_⟩
   ·unfold ZcH at hd;rw[Yag] at hv hd
    cases e:(tnum p n)[j]? with
    | none=>rw[e] at hv;cases hv
    | some w2=>
     rw[e] at hv hd;cases hv;cases hd;refine⟨by rw[YaP,YaP],fun i v d a b=>?_⟩;rw[YbF (Yah a),YbF (Yah b)];exact rfl
   ·by_cases z:pc=j
    ·subst z;rw[Ya5 (by rw[YaP];exact hpc)] at hv hd;cases hv;cases hd;exact⟨q,t,rfl,by rw[upd_ne nqq];exact hq7,by rw[upd_ne ntq];exact ht7,rfl⟩
    ·rw[Ya0 z] at hv hd;rw[YbF (Yah hv),YbF (Yah hd)];exact rfl
  generalize upd H7 q0 (.lst ((Yaf ws.length V.non).set pc (.ref q)))=H8 at s08 hp8 hrl8 hRL8 hTV8 ⊢;generalize (ZcH (tnum p n)).set rl0 ((Yaf ws.length none).set pc (some (evB ws[pc],dirT (evB ws[pc]) [3,1,4])))=D at hone hTV8;generalize ((tnum p n).map fun ws=>Yaf ws.length V.non).set rl0 ((Yaf ws.length V.non).set pc (.ref q))=Vs at hRL8 hTV8;obtain⟨o1,o2,o3,o4,o5⟩:=hone;have hG:GdD false (D++[[]]) (Tm p n):=GdD.snoc o1 trivial;obtain⟨a1,d,ed,a3,a4,a5⟩:=ZnH h1 hG;have eA:Zba (D++[[]])=Zba D:=by unfold Zba;simp
  have hlen3:((([3,1,4]:List Int).length:Nat):Int)=3:=rfl;refine⟨_,rfl,_,rfl,true,p,n,rl,qs,Vs,D,d,[],rfl,h1,h2,h300,h4000,SqL.of hrl8,hRL8,hTV8,by rw[o1.lens,Za8 (by (clear hlen3 a4 o5 o4 ntq nqq nq0p hq1 hql e3 e2 nrp hw4 hi1 hi0 e1 e0 nal hapos halen nnp nup hnl hul hu1 h4000 h300 h2;omega))],by rw[o5];decide,a1,ed,fun t2 e2 v H9 ht2 hv9 he2 ne2 s9=>?_⟩;have hh:HasT (D++[[]]):=by
   obtain⟨ds,hds,e,he⟩:=o2;exact⟨ds,YaV _ hds,e,he⟩
  have hds:d=some (true,[1,3,4]):=by
   cases d with
   | none=>exact absurd hh (a4.mp rfl)
   | some e=>
    have:=a5 e rfl;rw[eA] at this;have e9:dirT true (Zba D)=[1,3,4]:=by
     show srt (Zba D)=_;exact (ZbE (ms:=[1,3,4]) (o3.trans (by decide)).symm (by decide)).symm
    rw[this];show some (true,dirT true (Zba D))=_;rw[e9]
  subst hds;refine⟨t2,_,rfl,SqT.of ht2,rfl,_,_,rfl,_,_,rfl,rfl,?_⟩;refine⟨_,rfl,(by show 3<=sizeLine;decide),fun l3 nl3=>⟨(by show 2<=sizeLine;decide),fun t3 nt3=>?_⟩⟩;have s10:Same H9 (upd H9 l3 (.lst [.int 1,.int 3,.int 4])):=Same.new nl3;have s11:Same (upd H9 l3 (.lst [.int 1,.int 3,.int 4])) (upd (upd H9 l3 (.lst [.int 1,.int 3,.int 4])) t3 (.tup [.bl true,.ref l3])):=Same.new nt3;have hl3:=s11 _ _ (Zaa (H:=H9) (a:=l3) (o:=.lst [.int 1,.int 3,.int 4]));have ht3:upd (upd H9 l3 (.lst [.int 1,.int 3,.int 4])) t3 (.tup [.bl true,.ref l3]) t3=some (.tup [.bl true,.ref l3]):=Zaa;have s911:=s10.trans s11;generalize upd (upd H9 l3 (.lst [.int 1,.int 3,.int 4])) t3 (.tup [.bl true,.ref l3])=H11 at s11 hl3 ht3 s911 ⊢;have hrd:=(hv9.same s911).rd;refine⟨_,dTD (some (true,[1,3,4])),hrd,.tup ht3 (.cons (.bl true) (.cons (.lst hl3 (L2.rdl_ints [1,3,4])) .nil)),Ybj (Zds _) (by decide),Zcc _,Zcc _,true,?_,iteT ?_⟩
  ·rw[YdL _ (Zcc _)]
  have hsum:=a3 (Yaf (p+1) 0) (by rw[YaP,Yan,o1.len,ZaM (by (clear a4 hlen3 o5 o4 ntq nqq nq0p hq1 hql e3 nrp hw4 hi1 hi0 e1 e0 nal hapos halen nnp nup hnl hul hu1 h4000 h300 h2;omega))];rfl);have e12:ptT lenT (D++[[]]) (Tm p n)=ws[pc]*3:=by
   unfold Tm;rw[Zex lenT o1.len,o4,hlen3];show _+(dtT lenT [] []+0)=_;have:dtT lenT [] []=0:=rfl
   (clear hsum a4 hlen3 o5 o4 ntq nqq nq0p hq1 hql e3 nrp hw4 hi1 hi0 e1 e0 nal hapos halen nnp nup hnl hul hu1 h4000 h300 h2 h1;omega)
  have e13:(Yaf (p+1) (0:Int)).sum=0:=by simp
  rw[e12,e13] at hsum;have sx:Sm pl H H11:=s08.trans (Sm.of (s9.trans s911));obtain⟨nq,hnq⟩:∃ nq,ns[rl0]?=some nq:=⟨_,Yac (by (clear e13 e12 hsum a4 hlen3 o5 o4 ntq nqq nq0p hq1 hql e3 nrp hw4 hi1 e1 e0 nal hapos halen nnp nup hul hu1 h4000 h300 h2 h1;omega))⟩
  have hnv:=hN.2 rl0 nq ws hnq hw;refine⟨_,rfl,e2,_,rfl,SqL.of (s911 _ _ he2),?_⟩;refine⟨_,rfl,_,rfl,nn,_,_,.ref nq,rfl,rfl,SqL.of (sx _ _ hnn nnp),ZaO (by rw[Yag,hnq];rfl),_,rfl,nq,_,_,.int ws[pc],rfl,rfl,SqL.of (sx _ _ hnv (hnp nq (Yah hnq))),ZaO (by rw[Yag,hx];rfl),3,_,rfl,rfl,.inl ⟨by decide,by decide⟩,rfl,?_⟩;rw[hsum];have e14:decide (V.int (0+ws[pc]*3)=V.int (3*ws[pc]))=true:=by
   rw[Ycc,Int.mul_comm];exact decide_eq_true rfl
  rw[e14];exact k H11 ((hp8.same s9).same s911) sx
end
end Fi58
namespace Fi58
open PySem L2 Lv
section
variable {P:Program}{w:World}{K:Yae}{mg:Str->Option Value}{base:Heap}
theorem scTog:FnScope ["reels","numbers","things","read","reel","some","row","number"] ["reels","numbers"] (Zac Za1):=⟨rfl,rfl,rfl,by decide +kernel,rfl,by decide +kernel,by decide +kernel⟩
theorem ZlW {f:Addr}{fd:FuncData} (F:Fun K "_law_together" "_law_together" Za1 f fd) (T:Txt mg):FnOk P w K mg base CX0 1 f fd ["reels","numbers"] ZhN:=by
 refine okW F scTog (fun vs H Q E h=>?_) (fun cdv A outer s H vs Q E hr h=>?_)
 ·obtain⟨l,nn,as,ns,Vs,D,N,rfl,_⟩:=h;rfl
 ·obtain⟨l,nn,as,ns,Vs,D,N,rfl,hl,hRL,hTV,hnn,hN,hD7,hlen,h4,htot,hB,k⟩:=h;refine⟨_,(Zag (ws (Zar (i:=2) scTog.nd rfl (YaG rfl) (ZaJ Zad)))
   (Zag (ws (Zar (i:=3) scTog.nd rfl (YaG rfl) Zaf))
   (Zag (ws (Za7 Ya4 rfl (Zf1 rfl T.zip (Zab (pv 0) (Zab (pv 1) Zad))) (Zb2 rfl (Zas (Zah (i:=4) scTog.nd rfl (YaG rfl)) (Zas (Zah (i:=5) scTog.nd rfl (YaG rfl)) Za5)))
   (WSs.out (Zax (ws (Za7 Ya4 rfl (Zf1 rfl T.zip (Zab (pv 4) (Zab (pv 5) Zad))) (Zb2 rfl (Zas (Zah (i:=6) scTog.nd rfl (YaG rfl)) (Zas (Zah (i:=7) scTog.nd rfl (YaG rfl)) Za5)))
    (WSs.out (Zax (Zc1 (ZdY (Zdg (pv 6)))
     (Zag (ws (Za3 (Zj6 Ycu PySem.F.slot_list_extend PySem.F.type_list_extend Ziy (pv 2) (Zab (ZaR Zdl (pv 6) Zaf (fun _ _=>rfl)) Zad))))
      (Zax (ws (Zar (i:=3) scTog.nd rfl (YaG rfl) (Zau Zbb (pv 3) (Zau ZgJ (pv 7) (Zan ZaN rfl T.len Ybr (Zab (ZaR Zdl (pv 6) Zaf (fun _ _=>rfl)) Zad))))))))
     Zbi)))))))))
   (Zax (ws (Zay (Zbo (Zab (Zan Zbv rfl T.sorted Zbp (Zab (pv 2) Zad)) (Zab (pv 3) Zad))))))))),?_⟩
  have hal:as.length=Vs.length:=hRL.1;have hvl:Vs.length=D.length:=hTV.1;have hnl:ns.length=N.length:=hN.1;have hDN:D.length=N.length:=by have:=congrArg Ycs hlen;unfold ZbL at this;rwa [Yaa,Yaa] at this
  refine⟨YaT _,fun th nth=>?_⟩;have s0:Same H (upd H th (.lst [])):=Same.new nth;have hth:upd H th (.lst []) th=some (.lst []):=Zaa;generalize upd H th (.lst [])=H0 at s0 hth ⊢;refine⟨_,rfl,_,rfl,true,true,l,nn,rfl,⟨_,SqL.of (s0 _ _ hl)⟩,⟨_,SqL.of (s0 _ _ hnn)⟩,?_⟩;refine ZiY (b1:=true) (b2:=true) (xs:=as.map V.ref) (ys:=ns.map V.ref) (by rw[Yaa,Yaa];(clear htot hD7;omega)) (fun i σ Hx=>∃ o4 o5 o6 o7:Option V,σ=[some (.ref l),some (.ref nn),some (.ref th),some (.int (ptT lenT (D.take i) (N.take i))),o4,o5,o6,o7]/\Hx th=some (.lst ((thT (D.take i).flatten).map V.int))/\Same H Hx)
   ⟨none,none,none,none,by rw[Ybb,Ybb];rfl,by rw[Ybb];exact hth,s0⟩ (fun i σ Hx _ z=>by
    obtain⟨_,_,_,_,_,_,sx⟩:=z;exact⟨SqL.of (sx _ _ hl),SqL.of (sx _ _ hnn)⟩) ?_ ?_
  ·rintro i x y pz σ Hx hx hy ⟨o4,o5,o6,o7,rfl,hthx,sx⟩ hpz;obtain⟨r,hr',rfl⟩:=Zam hx;obtain⟨q,hq,rfl⟩:=Zam hy;have hi:=(Yab.mp hr').1
   obtain⟨vs,hvs,hrv⟩:=hRL.at hr';obtain⟨ds,hds,htv⟩:=hTV.at hvs;obtain⟨ws,hws⟩:∃ ws,N[i]?=some ws:=⟨_,Yac (by (clear hnl htot hD7;omega))⟩
   have hqw:=hN.2 i q ws hq hws;have hl2:ds.length=ws.length:=by
    have e1:(D.map fun r=>(r.length:Int))[i]?=some (ds.length:Int):=by rw[Yag,hds];rfl
    have e2:(ZbL N)[i]?=some (ws.length:Int):=by unfold ZbL;rw[Yag,hws];rfl
    rw[hlen,e2] at e1;have:=Yax e1
    (clear hi hDN hnl hvl hal htot hD7;omega)
   have s1:Same Hx (upd Hx pz (.tup [.ref r,.ref q])):=Same.new hpz;have hp1:upd Hx pz (.tup [.ref r,.ref q]) pz=some (.tup [.ref r,.ref q]):=Zaa;have hth1:=s1 _ _ hthx;have s01:=sx.trans s1;generalize upd Hx pz (.tup [.ref r,.ref q])=H1 at s1 hp1 hth1 s01 ⊢;refine⟨pz,_,rfl,SqT.of hp1,rfl,_,_,rfl,_,_,rfl,rfl,?_⟩;refine⟨_,rfl,_,rfl,true,true,r,q,rfl,⟨_,SqL.of (s01 _ _ hrv)⟩,⟨_,SqL.of (s01 _ _ hqw)⟩,?_⟩;refine ZiY (b1:=true) (b2:=true) (xs:=vs) (ys:=ws.map V.int) (by rw[Yaa,htv.1];(clear hi hDN hnl hvl hal htot hD7;omega)) (fun j σ Hy=>∃ o6 o7:Option V,σ=[some (.ref l),some (.ref nn),some (.ref th),some (.int (ptT lenT (D.take i) (N.take i)+dtT lenT (ds.take j) (ws.take j))),some (.ref r),some (.ref q),o6,o7]/\Hy th=some (.lst ((thT (D.take i).flatten++thT (ds.take j)).map V.int))/\Same H Hy)
    ⟨_,_,by
     have e0:dtT lenT [] []=0:=rfl;rw[Ybb,Ybb,e0,YdD];rfl,by rw[Ybb];show H1 th=some (.lst ((_++[]).map V.int));rw[Ybf];exact hth1,s01⟩ (fun j σ Hy _ z=>by
     obtain⟨_,_,_,_,sy⟩:=z;exact⟨SqL.of (sy _ _ hrv),SqL.of (sy _ _ hqw)⟩) ?_ ?_
   ·rintro j x y pz2 σ Hy hx2 hy2 ⟨o6,o7,rfl,hthy,sy⟩ hpz2;obtain⟨d,hd,hv⟩:=htv.at hx2;obtain⟨w,hw,rfl⟩:=Zbr hy2;have s2:Same Hy (upd Hy pz2 (.tup [x,.int w])):=Same.new hpz2;have hp2:upd Hy pz2 (.tup [x,.int w]) pz2=some (.tup [x,.int w]):=Zaa;have hth2:=s2 _ _ hthy;have s02:=sy.trans s2;generalize upd Hy pz2 (.tup [x,.int w])=H2 at s2 hp2 hth2 s02 ⊢;refine⟨pz2,_,rfl,SqT.of hp2,rfl,_,_,rfl,_,_,rfl,rfl,?_⟩;have hv2:=(hv.same s02)
    have e3:=ZkB (h:=lenT) hd hw;have e4:ds.take (j+1)=ds.take j++[d]:=by rw[YaI,hd];rfl
    refine⟨_,rfl,_,rfl,?_⟩
    cases d with
    | none=>
     have:x=.non:=hv;subst this;refine iteF ⟨some .non,some (.int w),?_,?_,s02⟩
     ·rw[e3,lenT_ok.non,Int.mul_zero,YdD];rfl
     ·rw[e4,Zb7,Zln,Ybf];exact hth2
    | some d=>
     obtain⟨qq,t,rfl,hqq,ht,_⟩:=hv2;have hbd:=ZmC hds hd;have hb2:=ZmB D;refine iteT ?_;refine⟨_,rfl,.inl ⟨rfl,_,SqL.of hth2⟩,_,rfl,qq,_,1,.ref t,rfl,rfl,SqT.of hqq,rfl,th,t,_,_,rfl,rfl,hth2,ht,?_,?_⟩
     ·exact YaW (Zcv (by rw[Yaa,Yaa];(clear e3 hl2 hi hDN hnl hvl hal hD7;omega)))
     have nthq:qq≠th:=fun z=>by rw[z,hth2] at hqq;cases hqq
     have hnt:t≠th:=fun z=>by
      have:=hv;obtain⟨_,t',e5,e6,e7,_⟩:=this;cases e5;have e8:=s02 _ _ e6;rw[hqq] at e8;cases e8;rw[z,nth] at e7;cases e7
     refine⟨_,rfl,_,rfl,_,rfl,qq,_,1,.ref t,rfl,rfl,SqT.of (by rw[upd_ne nthq];exact hqq),rfl,t,_,rfl,.inl (SqL.of (by rw[upd_ne hnt];exact ht)),?_⟩;refine⟨_,_,rfl,rfl,?_,_,_,rfl,rfl,?_⟩
     ·have hwb:=hB ws (Yah hws) w (Yah hw);exact .inl ⟨by (clear hnt nthq hb2 hbd e3 hl2 hi hDN hnl hvl hal htot hD7;omega),by (clear hnt nthq hb2 hbd e3 hl2 hi hDN hnl hvl hal htot hD7;omega)⟩
     refine⟨some (.ref qq),some (.int w),?_,?_,s02.put nth⟩
     ·rw[e3];have e9:lenT (some d)=((d.2.map V.int).length:Int):=by rw[Yaa];rfl
      rw[e9,<- Int.add_assoc];rfl
     ·rw[Zaa,e4,Zb7,ZhG,<- YaJ,YaM,YaM];rw[YaM]
   ·rintro σ Hy ⟨o6,o7,rfl,hthy,sy⟩;have e1:ds.take vs.length=ds:=by rw[htv.1,Yaz]
    have e2:ws.take (ds.length)=ws:=by rw[hl2,Yaz]
    rw[e1] at hthy;rw[htv.1,e2,Yaz];refine⟨some (.ref r),some (.ref q),o6,o7,?_,?_,sy⟩
    ·rw[ZjV hds hws]
    ·have e5:(D.take (i+1)).flatten=(D.take i).flatten++ds:=by rw[YaI,hds];simp
     rw[e5,Zb7];exact hthy
  ·rintro σ Hx ⟨o4,o5,o6,o7,rfl,hthx,sx⟩;rw[Yaa,hal,hvl,Yaz] at hthx ⊢;rw[hDN,Yaz];refine⟨_,rfl,th,_,rfl,SqL.of hthx,fun s2 ms ns2 hp hs=>⟨_,rfl,(by show 2<=sizeLine;decide),fun t nt=>?_⟩⟩;have s3:Same Hx (upd Hx s2 (.lst (ms.map V.int))):=Same.new ns2;have s4:Same (upd Hx s2 (.lst (ms.map V.int))) (upd (upd Hx s2 (.lst (ms.map V.int))) t (.tup [.ref s2,.int (ptT lenT D N)])):=Same.new nt;exact k t s2 _ Zaa (by rw[s4 _ _ Zaa,ZbE hp hs];rfl) ((sx.trans s3).trans s4)
theorem scLSpr:FnScope ["numbers","found","reel","number"] ["numbers"] (Zac Zbf):=⟨rfl,rfl,rfl,by decide +kernel,rfl,by decide +kernel,by decide +kernel⟩
theorem ZlZ {f:Addr}{fd:FuncData} (F:Fun K "_law_spread" "_law_spread" Zbf f fd) (T:Txt mg):FnOk P w K mg base CX0 1 f fd ["numbers"] ZhQ:=by
 refine okW F scLSpr (fun vs H Q E h=>?_) (fun cdv A outer s H vs Q E hr h=>?_)
 ·obtain⟨nn,ns,N,rfl,_⟩:=h;rfl
 ·obtain⟨nn,ns,N,rfl,hnn,hN,hN7,hB,k⟩:=h;have hu:=Zns hr;refine⟨_,(Zag (ws (Zar (i:=1) scLSpr.nd rfl (YaG rfl) Zey))
   (Zag (ws (Za7 Ya4 rfl (Za4 (pv 0)) (Zah (i:=2) scLSpr.nd rfl (YaG rfl))
   (WSs.out (Zax (ws (Za7 Ya4 rfl (Za4 (pv 2)) (Zah (i:=3) scLSpr.nd rfl (YaG rfl))
    (WSs.out (Zax (ws (Zh8 hu (pv 1) (pv 3) (Zau Zbb (ZgH hu (pv 1) (pv 3) Zaf ⟨rfl,rfl,rfl,rfl⟩) Zaf) rfl))))))))))
   (Zax (ws (Zay (ZaU ZaE rfl T.tuple ZbR (Zab (Zan (Zd9 rfl) rfl T.sorted Zbp (Zab (ZcY (pv 1)) Zad)) Zad))))))),?_⟩
  intro d hd;have s8:Same H (upd H d (.dK [])):=Same.new hd;have e8:upd H d (.dK []) d=some (.dK []):=Zaa;generalize upd H d (.dK [])=H8 at s8 e8 ⊢;have hNl:=hN.1;have hnn8:=s8 _ _ hnn;refine⟨_,rfl,nn,rfl,⟨_,SqL.of hnn8⟩,?_⟩;refine ZbB (xs:=ns.map V.ref) (fun i σ H2=>∃ (kvs:List (Key × V)) (o4 o5:Option V),σ=[some (.ref nn),some (.ref d),o4,o5]/\H2 d=some (.dK kvs)/\Rep kvs (cn (N.take i).flatten)/\Sm d H8 H2)
   ⟨[],none,none,rfl,e8,Rep.nil.congr fun m=>by rw[Ybb,Ye0,Zfv],Sm.refl _ _⟩ (fun i σ H2 _ z=>by
    obtain⟨_,_,_,_,_,_,sz⟩:=z;exact SqL.of (sz _ _ hnn8 (Ziw hnn8 e8 (fun z=>nomatch z)))) ?_ ?_
  ·rintro i x σ H2 hx ⟨kvs,o4,o5,rfl,e2,rp,sm⟩;obtain⟨r,hr',rfl⟩:=Zam hx;have hi:=(Yab.mp hr').1
   obtain⟨xs,hxs⟩:∃ xs,N[i]?=some xs:=⟨_,Yac (by rw[<- hNl];exact hi)⟩
   have hrt:=s8 _ _ (hN.2 i r xs hr' hxs);have nrd:r≠d:=Ziw hrt e8 (fun z=>nomatch z);refine⟨_,rfl,r,rfl,⟨_,SqL.of (sm _ _ hrt nrd)⟩,?_⟩;refine ZbB (xs:=xs.map V.int) (fun j σ H2=>∃ (kvs:List (Key × V)) (o4 o5:Option V),σ=[some (.ref nn),some (.ref d),o4,o5]/\H2 d=some (.dK kvs)/\Rep kvs (cn ((N.take i).flatten++xs.take j))/\Sm d H8 H2)
    ⟨kvs,_,_,rfl,e2,rp.congr fun m=>by rw[Ybb,Ybf],sm⟩ (fun j σ H2 _ z=>by
     obtain⟨_,_,_,_,_,_,sz⟩:=z;exact SqL.of (sz _ _ hrt nrd)) ?_ ?_
   ·rintro j x σ H2 hx ⟨kvs,o4,o5,rfl,e2,rp,sm⟩;obtain⟨m,hm,rfl⟩:=Zbr hx;refine⟨_,rfl,d,rfl,.inl ⟨kvs,.inl e2⟩,_,rfl,_,DGet.k (k:=Ybq m) e2,?_⟩;rw[rp.get m];refine⟨_,_,rfl,rfl,_,rfl,_,rfl,d,_,rfl,DPut.k (k:=Ybq m) e2 ?_,?_⟩
    ·have:=rp.len (B:=300) fun a ha=>by
      have hmem:=cn_ne.mp ha;rcases Yar.mp hmem with z | z
      ·obtain⟨ys,hy,hz⟩:=Ycl.mp z;exact hB ys (Ybe hy) a hz
      ·exact hB xs (Yah hxs) a (Ybe z)
     exact Zat (by (clear nrd hi hNl hu hN7;omega))
    ·refine⟨_,_,_,rfl,Zaa,(rp.put (m:=m) (c:=_+1) ?_).congr fun a=>?_,sm.trans Sm.put⟩
     ·have:=Zfu ((N.take i).flatten++xs.take j) m;(clear nrd hi hNl hu hN7;omega)
     ·rw[YaI,hm,<- YaJ,Zfw _ (some m).toList];show (if a=m then _ else _)=_+cn [m] a;rw[ZeP,Zfv];by_cases e:a=m
      ·rw[if_pos e,if_pos e,e];(clear e nrd hi hNl hu hN7;omega)
      ·rw[if_neg e,if_neg e];(clear e nrd hi hNl hu hN7;omega)
   ·rintro σ H2 ⟨kvs,o4,o5,rfl,e2,rp,sm⟩;refine⟨kvs,_,_,rfl,e2,rp.congr fun m=>?_,sm⟩;rw[Yaa,Yaz,YaI,hxs];simp
  ·rintro σ H2 ⟨kvs,o4,o5,rfl,e2,rp,sm⟩;rw[Yaa,hNl,Yaz] at rp;have s2:Same H H2:=Sm.after s8 sm hd;refine⟨_,rfl,d,kvs,rfl,.inl e2,fun v hv=>⟨v,d,kvs.map Lv.dec,rfl,Zaa,.inl ?_,fun l qs ms H3 hl hq hp hs e3 ht s3=>?_⟩⟩
   ·rw[upd_ne (Zae e2 hv),e2];exact congrArg (fun z=>some (HO.dK z)) rp.dec
   ·have s4:Same H2 H3:=(Same.new hv).trans s3;refine⟨l,_,rfl,.inl ⟨SqL.of e3,fun l2 hl2=>?_⟩⟩;have s5:=s4.trans (Same.new (o:=.tup (qs.map V.ref)) hl2);exact k l2 qs ms _ (s2.free (s4.free hl2)) Zaa (TTs.same ht (Same.new hl2)) (ZkU rp hp hs) (s2.trans s5)
end
end Fi58
namespace Fw
open PySem L2
def val (ns:List Int) (p:Int):Int:=ns.getD p.toNat 0
def upto (n:Nat):List Int:=(YaH n).map fun (i:Nat)=>(i:Int)
def there (n:Nat) (r:Int) (w:List Int):List Int:=(upto (min n (w.length+r.toNat))).filter fun p=>!w.contains p
def fits (ns w:List Int) (p:Int):Bool:=w.isEmpty || decide (val ns (w.getLast?.getD 0)<=val ns p)
def cand (ns hs w:List Int):List Int:=if (hs.filter (fits ns w)).isEmpty then hs else hs.filter (fits ns w)
def pick (ns:List Int):List Int->Int
 | []=>0
 | b::c=>(b::c).foldl (fun b p=>if val ns p<val ns b then p else b) b
def writ (ns:List Int) (r:Int):Nat->List Int
 | 0=>[]
 | t+1=>writ ns r t++[pick ns (cand ns (there ns.length r (writ ns r t)) (writ ns r t))]
structure Good (n:Nat) (r:Int) (w:List Int):Prop where
 nd:w.Nodup
 lt:∀ q∈w,0<=q/\q<n/\q+1<w.length+r
end Fw
namespace Fw
open PySem L2
end Fw
namespace Fw
open PySem L2
abbrev Key2:=Nat × Int
def kle (a b:Key2):Prop:=a.1<b.1∨(a.1=b.1/\a.2<=b.2)
def nxtK (k:Option Key2) (v:Int):Key2:=match k with | none=>(0,v) | some (r,l)=>(if v<l then r+1 else r,v)
def ZgQ:Option Key2->List Int->List Key2
 | _,[]=>[]
 | k,v::vs=>nxtK k v::ZgQ (some (nxtK k v)) vs
def wk (ns:List Int) (r:Int) (t:Nat):List Key2:=ZgQ none ((writ ns r t).map (val ns))
def lk (ns:List Int) (r:Int) (t:Nat):Option Key2:=(wk ns r t).getLast?
structure Holds (n:Nat) (r:Int) (v:List Int):Prop where
 nd:v.Nodup
 lt:∀ (i:Nat) p,v[i]?=some p->0<=p/\p<n/\p<i+r
end Fw
namespace Lv
open PySem L2 Fw
end Lv
namespace L2
open PySem PySem.Spec PyProof.Rows PySem.SeqAt
end L2
namespace Lv
open PySem L2 Fw
structure Rws3 (H0 H:Hp) (l:Addr) (rf:List Addr) (R:List (List Int)):Prop where
 top:H l=some (.lst (rf.map V.ref))
 rows:LLs H rf R
 own:∀ q∈rf,H0 q=none/\q≠l
 nd:rf.Nodup
end Lv
namespace L2
open PySem PySem.Spec PyProof.Rows PySem.SeqAt
section
variable {X:Cx}
theorem Zhp:ZbD X (.builtin "sorted") (fun xs H Q=>∃ (a:Addr) (b:Bool) (ns:List Int),xs=[.ref a]/\SqB b X.K H a (ns.map V.int)/\∀ (l:Addr) (ms:List Int),H l=none->ms.Perm ns->ms.Pairwise (·<=·)->Q (.ref l) (upd H l (.lst (ms.map V.int)))):=by
 intro pins s σ H xs us Q I r h;obtain⟨a,b,ns,e,hq,q⟩:=h
 cases b with
 | true=>exact Zbv pins s σ H xs us Q I r ⟨a,ns,e,hq,q⟩
 | false=>exact Zgi pins s σ H xs us Q I r ⟨a,ns,e,hq,q⟩
end
end L2
namespace Lv
open PySem L2 Fw
structure HoldsP (n:Nat) (r:Int) (ws:List Int):Prop where
 len:ws.length=n
 nd:ws.Nodup
 rg:∀ p∈ws,0<=p/\p<(n:Int)
 bd:∀ (i:Nat) (p:Int),ws[i]?=some p->p<i+r
structure HoldsT (n:Nat) (r:Int) (ws:List Int) (t:Nat):Prop where
 nd:(ws.take t).Nodup
 rg:∀ p∈ws.take t,0<=p/\p<(n:Int)
 bd:∀ (i:Nat) (p:Int),(ws.take t)[i]?=some p->p<i+r
end Lv
namespace Fi58
open PySem L2 Lv
section
variable {P:Program}{w:World}{K:Yae}{mg:Str->Option Value}{base:Heap}
theorem scLaw:FnScope ["script","k","pot","p","n","numbers","ups","flip","reels","row","read","things","due"] ["script"] (Zac sLaw):=⟨rfl,rfl,rfl,by decide +kernel,rfl,by decide +kernel,by decide +kernel⟩
theorem Zdy (K:Yae) {X:Cx} (hK:X.K=K:=by rfl):ZbD X (.builtin "sorted") (fun xs H Q=>∃ (a:Addr) (b:Bool) (ns:List Int),xs=[.ref a]/\SqB b K H a (ns.map V.int)/\∀ (l:Addr) (ms:List Int),H l=none->ms.Perm ns->ms.Pairwise (·<=·)->Q (.ref l) (upd H l (.lst (ms.map V.int)))):=by subst hK;exact Zhp
theorem Zkm {f f1 f2 f3 f4 f5 f6 f7 f8 f9 f10 f11 f12 f13:Addr}{fd d1 d2 d3 d4 d5 d6 d7 d8 d9 d10 d11 d12 d13:FuncData} (F:Fun K "law" "law" sLaw f fd) (T:Txt mg) (CP:Cal P w K mg base 1 "_law_pot" ["script","k"] (ZhR K) f1 d1) (CT:Cal P w K mg base 1 "_law_take" ["pot","many"] Zcu f2 d2) (CV:Cal P w K mg base 2 "_law_level" ["pot","p","most"] ZhT f3 d3) (CN:Cal P w K mg base 6 "turned_numbers" ["p","n"] Zgz f4 d4) (CU:Cal P w K mg base 7 "turned_ups" ["p","n"] ZhO f5 d5) (CL:Cal P w K mg base 2 "_law_laid" ["pot","ups","flip"] ZfP f6 d6) (CY:Cal P w K mg base 4 "turned_play" ["p","reels"] (Zeg K) f7 d7) (CG:Cal P w K mg base 1 "_law_together" ["reels","numbers"] ZhN f8 d8) (CS:Cal P w K mg base 1 "_law_sorted" ["things","up"] Zc9 f9 d9) (CO:Cal P w K mg base 5 "_law_one_right" ["pot","p","n","numbers","ups"] Zeh f10 d10) (CM:Cal P w K mg base 6 "level_numbers" ["p","n"] Zg5 f11 d11) (CR:Cal P w K mg base 1 "_law_spread" ["numbers"] ZhQ f12 d12) (CD:Cal P w K mg base 4 "spread_of" ["p","n"] (ZhP num 300) f13 d13):FnOk P w K mg base CX0 8 f fd ["script"] (ZjM K):=by
 refine okW F scLaw (fun vs H Q E h=>?_) (fun cdv A outer s H vs Q E hr h=>?_)
 ·obtain⟨a,cs,rfl,_⟩:=h;rfl
 ·obtain⟨a,cs,rfl,hS,hlen,k⟩:=h;have hr1:Room 1 _:=hr.mono (by decide);have hr2:Room 2 _:=hr.mono (by decide);have hr4:Room 4 _:=hr.mono (by decide);have hr5:Room 5 _:=hr.mono (by decide);have hr6:Room 6 _:=hr.mono (by decide);have hr7:Room 7 _:=hr.mono (by decide);have hu0:(A.deeper (Yb7 "law" (Zac sLaw) s.heap.objs.size f cdv)).units<cLine:=by have:=hr.un;(clear hlen;omega)
  have hu1:(A.deeper (Yb7 "law" (Zac sLaw) s.heap.objs.size f cdv)).units+12<cLine:=by have:=hr.un;(clear hu0 hlen;omega)
  have hu2:(A.deeper (Yb7 "law" (Zac sLaw) s.heap.objs.size f cdv)).units+1<cLine:=by have:=hr.un;(clear this hu0 hlen;omega)
  refine⟨_,(Zag (ws (Za7 Ya4 rfl (ZaI rfl T.range (Zab (Zan (Zdw rfl) rfl T.max Zmq (Zab Zaf (Zab (Zan (Zjs rfl) rfl T.min Zod (Zab Zaf (Zab (Zan ZaN rfl T.len Ybr (Zab (pv 0) Zad)) Zad))) Zad))) Zad)) (Zah (i:=1) scLaw.nd rfl (YaG rfl))
   (WSs.out (Zag (ws (Zar (i:=2) scLaw.nd rfl (YaG rfl) (Zao CP hr1 rfl (Zab (pv 0) (Zab (pv 1) Zad)))))
    (Zag (ws (Zar (i:=3) scLaw.nd rfl (YaG rfl) (Zau Zbb Zaf (Zao CT hr1 rfl (Zab (pv 2) (Zab Zaf Zad))))))
    (Zag (ws (Zar (i:=4) scLaw.nd rfl (YaG rfl) (Zao CV hr2 rfl (Zab (pv 2) (Zab (pv 3) (Zab Zaf Zad))))))
    (Zag (ws (Zar (i:=5) scLaw.nd rfl (YaG rfl) (Zao CN hr6 rfl (Zab (pv 3) (Zab (pv 4) Zad)))))
    (Zag (ws (Zar (i:=6) scLaw.nd rfl (YaG rfl) (Zao CU hr7 rfl (Zab (pv 3) (Zab (pv 4) Zad)))))
    (Zag (ws (Za7 Ya4 rfl (Za4 (ZaJ (Zab Zfc (Zab Zfc Zad)))) (Zah (i:=7) scLaw.nd rfl (YaG rfl))
    (WSs.out (Zag (ws (Zar (i:=8) scLaw.nd rfl (YaG rfl) (Zao CL hr2 rfl (Zab (pv 2) (Zab (pv 6) (Zab (pv 7) Zad))))))
     (Zag (ws (Zb1 (Zao CY hr4 rfl (Zab (pv 3) (Zab (pv 8) Zad))) (Zb2 rfl (Zas (Zah (i:=9) scLaw.nd rfl (YaG rfl)) (Zas (Zah (i:=10) scLaw.nd rfl (YaG rfl)) Za5)))))
     (Zag (ws (Zb1 (Zao CG hr1 rfl (Zab (pv 8) (Zab (pv 5) Zad))) (Zb2 rfl (Zas (Zah (i:=11) scLaw.nd rfl (YaG rfl)) (Zas (Zah (i:=12) scLaw.nd rfl (YaG rfl)) Za5)))))
     (Zag (Zc1 (PW.pt (ZlK (ZaP Zij (Zan (Zcs rfl) rfl T.sum Zgl (Zab (pv 10) Zad)) (pv 12) (ZaV _)) (Zh4 (ZaP Zij (Zm2 (Zk6 (pv 9))) (Zan (ZkI rfl) rfl T.all Zof (Zab (Zaz (own:=["reel"]) (js:=[]) (CompOk.by (sc:=Zac sLaw) (N:=["script","k","pot","p","n","numbers","ups","flip","reels","row","read","things","due"]) rfl rfl (by decide +kernel)) rfl (ZaQ (pv 8)) Zak (fun _ _ _ _ _=>(Zah (i:=0) (by show (["reel"]:List Str).Nodup;decide +kernel) rfl (YaG rfl) (.inr rfl))) (fun _ _ _ _ _=>Zav) (fun _ _ _ _ _=>(Zca (Zk7 hu1) (pv 0) (Zau ZdZ (ZaJ (Zab Zfb Zad)) (Zan (Zbm K) rfl T.len Ybr (Zab (pv 0) Zad))) (ZaV _)))) Zad)) (ZaV _)))))
     (wss ZaT)
     Zbi)
     (Zax (Zc1 (PW.pt (Zh5 (ZdY (Zdg (pv 9))) (ZfZ (ZaP (Zm5 hu1) (pv 9) (Zbo (Zab (Zif (pv 7)) (Zab (Zao CS hr1 rfl (Zab (pv 11) (Zab (Zif (pv 7)) Zad))) Zad))) (ZaV _)))))
     (wss ZaT)
     Zbi)))))))))
    (Zag (Zc1 (ZdX (Ze7 (Zao CO hr5 rfl (Zab (pv 2) (Zab (pv 3) (Zab (pv 4) (Zab (pv 5) (Zab (pv 6) Zad))))))))
    (wss ZaT)
    Zbi)
    (Zag (Zc1 (ZaP (ZlQ hu2) (Zaz (own:=["reel"]) (js:=[]) (CompOk.by (sc:=Zac sLaw) (N:=["script","k","pot","p","n","numbers","ups","flip","reels","row","read","things","due"]) rfl rfl (by decide +kernel)) rfl (ZaQ (pv 5)) Zak (fun _ _ _ _ _=>(Zah (i:=0) (by show (["reel"]:List Str).Nodup;decide +kernel) rfl (YaG rfl) (.inr rfl))) (fun _ _ _ _ _=>Zav) (fun _ _ _ _ _=>(Zan (Zdy K) rfl T.sorted Zbp (Zab (pv 0) Zad)))) (Zaz (own:=["reel"]) (js:=[]) (CompOk.by (sc:=Zac sLaw) (N:=["script","k","pot","p","n","numbers","ups","flip","reels","row","read","things","due"]) rfl rfl (by decide +kernel)) rfl (ZaQ (Zao CM hr6 rfl (Zab (pv 3) (Zab (pv 4) Zad)))) Zak (fun _ _ _ _ _=>(Zah (i:=0) (by show (["reel"]:List Str).Nodup;decide +kernel) rfl (YaG rfl) (.inr rfl))) (fun _ _ _ _ _=>Zav) (fun _ _ _ _ _=>(Zan (Zdy K) rfl T.sorted Zbp (Zab (pv 0) Zad)))) (ZaV _))
    (wss ZaT)
    Zbi)
    (Zax (Zc1 (ZaP (ZlP hu2) (Zao CR hr1 rfl (Zab (pv 5) Zad)) (Zao CD hr4 rfl (Zab (pv 3) (Zab (pv 4) Zad))) (ZaV _))
    (wss ZaT)
    Zbi)))))))))))))
   (Zax (ws (Zay Zfc)))),?_⟩
  refine⟨_,rfl,a,_,rfl,.inl hS,_,_,rfl,_,_,rfl,_,rfl,?_,?_,?_⟩
  ·rw[Yaa];split <;> split <;> (clear hu2 hu1 hu0 hlen;omega)
  ·rw[Yaa];split <;> split <;> (clear hu2 hu1 hu0 hlen;omega)
  have em:((if (if ((cs.map V.int).length:Int)<8 then ((cs.map V.int).length:Int) else 8) > 2 then (if ((cs.map V.int).length:Int)<8 then ((cs.map V.int).length:Int) else 8) else 2)).toNat<=8:=by
   rw[Yaa];split <;> split <;> (clear hu2 hu1 hu0 hlen;omega)
  generalize (if (if ((cs.map V.int).length:Int)<8 then ((cs.map V.int).length:Int) else 8) > 2 then (if ((cs.map V.int).length:Int)<8 then ((cs.map V.int).length:Int) else 8) else 2).toNat=NN at em ⊢;refine Zbl (fun i σ H2=>∃ o1 o2 o3 o4 o5 o6 o7 o8 o9 o10 o11 o12:Option V,σ=[some (.ref a),o1,o2,o3,o4,o5,o6,o7,o8,o9,o10,o11,o12]/\Same H H2) ⟨none,none,none,none,none,none,none,none,none,none,none,none,rfl,Same.refl _⟩ ?_ ?_
  ·rintro i σ H2 hi ⟨o1,o2,o3,o4,o5,o6,o7,o8,o9,o10,o11,o12,rfl,s2⟩;refine⟨_,rfl,_,rfl,a,cs,_,rfl,s2.seq hS,by (clear hi em hu2 hu1 hu0 hlen;omega),by (clear hu2 hu1 hu0 hlen;omega),fun pl H3 hpl hp3 s3=>?_⟩;have hpl0:H pl=none:=s2.free hpl;have s03:=s2.trans s3;refine⟨_,rfl,pl,6,rfl,hp3,by decide,by decide,fun dp H4 e0 e1 hp4 sm4=>⟨2,dp,rfl,rfl,?_⟩⟩;have s04:=Sm.after s03 sm4 hpl0;obtain⟨p,hp,p2,p7⟩:∃ p:Nat,2+dp=(p:Int)/\2<=p/\p<=7:=⟨(2+dp).toNat,by (clear e1 hi em hu2 hu1 hu0 hlen;omega),by (clear e1 hi em hu2 hu1 hu0 hlen;omega),by (clear e0 hi em hu2 hu1 hu0 hlen;omega)⟩
   dsimp only;rw[hp];refine⟨_,rfl,_,rfl,pl,p,200,rfl,hp4,p2,p7,by decide,by decide,fun n H5 n24 hnt hp5 sm5=>?_⟩;have s05:=Sm.after s04 sm5 hpl0;refine⟨_,rfl,_,rfl,p,n,rfl,p2,p7,by (clear hnt p7 p2 hp e1 e0 hi em hu2 hu1 hu0 hlen;omega),by (clear n24 p7 p2 hp e1 e0 hi em hu2 hu1 hu0 hlen;omega),fun nn ns H6 nnn hnn hN hnd hns s6=>?_⟩;refine⟨_,rfl,_,rfl,p,n,rfl,p2,p7,by (clear hnt p7 p2 hp e1 e0 hi em hu2 hu1 hu0 hlen;omega),by (clear n24 p7 p2 hp e1 e0 hi em hu2 hu1 hu0 hlen;omega),fun uu us H7 nuu huu hU hud hus s7=>?_⟩;have hp7:PotT H7 pl:=(hp5.same s6).same s7;have s07:=(s05.trans s6).trans s7;have hnn7:=s7 _ _ hnn;have hN7:=hN.same s7;have nsp:∀ q∈ns,q≠pl:=fun q hq z=>hp5.some (by rw[<- z];exact (hns q hq).1);have nnp:nn≠pl:=hp7.neR hnn7;have nup:uu≠pl:=hp7.neR huu;have husp:∀ q∈us,q≠pl:=fun q hq z=>(hp5.same s6).some (by rw[<- z];exact (hus q hq).1);have hNl:(tnum p n).length=p:=ZaM (by (clear nup nnp hnt n24 p7 p2 e1 hi em hu2 hu1 hu0 hlen;omega)) n;have hB:∀ xs∈tnum p n,∀ m∈xs,0<=m/\m<=300:=fun xs hxs m hm=>by
    have h9:=Zjw (Zjv p n) m (by
     rw[<- Zga (ZcU p2 n)];exact cn_ne.mpr (Ycl.mpr ⟨xs,hxs,hm⟩))
    (clear hNl nup nnp hnt p7 p2 hp e1 e0 hi em hu2 hu1 hu0 hlen;omega)
   have hN4:∀ xs∈tnum p n,xs.length<=4000:=fun xs hxs=>by have:=Zec (show 1<=p by (clear hNl nup nnp hnt n24 p7 p2 e1 hi em hu2 hu1 hu0 hlen;omega)) hxs;(clear hNl nup nnp n24 p7 p2 hp e1 e0 hi em hu2 hu1 hu0 hlen;omega)
   refine⟨(by show 2<=sizeLine;decide),fun fll nfl=>⟨fll,rfl,⟨_,SqL.of Zaa⟩,?_⟩⟩;have s8:Same H7 (upd H7 fll (.lst [.bl false,.bl true])):=Same.new nfl;have hfl8:upd H7 fll (.lst [.bl false,.bl true]) fll=some (.lst [.bl false,.bl true]):=Zaa;have hp8:=hp7.same s8;have nfp:fll≠pl:=hp7.ne nfl;generalize upd H7 fll (.lst [.bl false,.bl true])=H8 at s8 hfl8 hp8 ⊢;refine ZbB (xs:=[V.bl false,V.bl true]) (fun j σ Hx=>∃ o7 o8 o9 o10 o11 o12:Option V,σ=[some (.ref a),some (.int (0+(i:Int))),some (.ref pl),some (.int p),some (.int n),some (.ref nn),some (.ref uu),o7,o8,o9,o10,o11,o12]/\PotT Hx pl/\Sm pl H8 Hx)
    ⟨_,_,_,_,_,_,rfl,hp8,Sm.refl _ _⟩ (fun j σ Hx _ z=>by
     obtain⟨_,_,_,_,_,_,_,_,sx⟩:=z;exact SqL.of (sx _ _ hfl8 nfp)) ?_ ?_
   ·rintro j x σ Hx hx ⟨o7,o8,o9,o10,o11,o12,rfl,hpx,sx⟩;obtain⟨fl,rfl⟩:∃ fl,x=V.bl fl:=by
     have:=Yah hx;simp at this;rcases this with rfl | rfl
     ·exact⟨_,rfl⟩
     ·exact⟨_,rfl⟩
    have hnnx:=sx _ _ (s8 _ _ hnn7) nnp;have huux:=sx _ _ (s8 _ _ huu) nup;have hNx:LLs Hx ns (tnum p n):=⟨hN7.1,fun j a xs e1 e2=>sx _ _ (s8 _ _ (hN7.2 j a xs e1 e2)) (nsp a (Yah e1))⟩
    have hUx:LBs Hx us (upsT (tnum p n)):=⟨hU.1,fun j a xs e1 e2=>sx _ _ (s8 _ _ (hU.2 j a xs e1 e2)) (husp a (Yah e1))⟩
    refine⟨_,rfl,_,rfl,_,rfl,pl,uu,us,tnum p n,fl,rfl,hpx,huux,hUx,by (clear nfp nup nnp hnt n24 p7 p2 e0 hi em hu2 hu1 hu0 hlen;omega),hN4,fun rl as Vs D H9 nrl hrl hRL hTV hasn hG h3 hp9 sm9=>?_⟩;have hlens:D.map (fun r=>(r.length:Int))=cnt p n:=by rw[hG.lens,Za8 (by (clear nfp hNl nup nnp hnt n24 p7 p2 e1 hi em hu2 hu1 hu0 hlen;omega))]
    have htot:totT lenT D<=600:=by
     have h9:=Zlm h3;rw[hG.flen] at h9;have:=ZhB (show 1<=p by (clear h9 nfp hNl nup nnp hnt n24 p7 p2 e1 hi em hu2 hu1 hu0 hlen;omega)) n
     (clear nfp hNl nup nnp n24 p7 p2 hp e1 e0 hi em hu2 hu1 hu0 hlen;omega)
    have hGT:GdD fl (D++[[]]) (Tm p n):=GdD.snoc hG trivial;obtain⟨a1,d,ed,a3,a4,a5⟩:=ZnH p2 hGT;have eA:Zba (D++[[]])=Zba D:=by unfold Zba;simp
    have eH:HasT (D++[[]])↔HasT D:=by
     constructor
     ·rintro⟨ds,hds,e,he⟩;rcases Yar.mp hds with hds | hds
      ·exact⟨ds,hds,e,he⟩
      ·rw[YaN.mp hds] at he;simp at he
     ·rintro⟨ds,hds,e,he⟩;exact⟨ds,YaV _ hds,e,he⟩
    have hsum:=a3 (Yaf (p+1) 0) (by rw[YaP,Yan,hG.len,hNl];rfl);have e12:ptT lenT (D++[[]]) (Tm p n)=ptT lenT D (tnum p n):=by
     unfold Tm;rw[Zex lenT hG.len];show _+(dtT lenT [] []+0)=_;have:dtT lenT [] []=0:=rfl
     (clear hsum eH a4 htot nfp hNl nup nnp hnt n24 p7 p2 hp e1 e0 hi em hu2 hu1 hu0 hlen;omega)
    have e13:(Yaf (p+1) (0:Int)).sum=0:=by simp
    rw[e12,e13,Ycc] at hsum;rw[eH] at a4;rw[eA] at a5;have hTVn:TVD (fun _=>none) H9 Vs D:=hTV.base fun _ _=>rfl;refine⟨_,rfl,_,rfl,true,p,n,rl,as,Vs,D,d,[],rfl,p2,p7,by (clear e13 e12 hsum eH a4 htot nfp hNl nup nnp hnt p7 p2 hp e1 e0 hi em hu2 hu1 hu0 hlen;omega),by (clear e13 e12 hsum eH a4 htot nfp hNl nup nnp n24 p7 p2 hp e1 e0 hi em hu2 hu1 hu0 hlen;omega),SqL.of hrl,hRL,hTVn,hlens,by (clear e13 e12 hsum eH a4 nfp hNl nup nnp hnt n24 p7 p2 hp e1 e0 hi em hu2 hu1 hu0 hlen;omega),a1,ed,fun t2 e2 v H10 ht2 hv10 he2 ne2 s10=>?_⟩;refine⟨t2,_,rfl,SqT.of ht2,rfl,_,_,rfl,_,_,rfl,rfl,?_⟩;have hrl10:=s10 _ _ hrl;have hRL10:=hRL.same s10;have hTV10:=hTVn.same s10;have hD4:∀ r∈D,r.length<=4000:=fun r hr'=>by
     obtain⟨jj,hj⟩:=Ya8 hr';obtain⟨ws,hw,gw⟩:=hG.at hj;rw[gw.len];exact hN4 ws (Yah hw)
    have sx9:Sm pl Hx H10:=sm9.trans (Sm.of s10);have hN10:LLs H10 ns (tnum p n):=⟨hNx.1,fun j a xs e1 e2=>sx9 _ _ (hNx.2 j a xs e1 e2) (nsp a (Yah e1))⟩
    refine⟨_,rfl,_,rfl,rl,nn,as,ns,Vs,D,tnum p n,rfl,hrl10,hRL10,hTV10,sx9 _ _ hnnx nnp,hN10,by rw[hG.len];(clear e13 e12 hsum eH a4 htot nfp nup nnp hnt n24 p7 p2 e0 hi em hu2 hu1 hu0 hlen;omega),by rw[hG.lens],hD4,by (clear e13 e12 hsum eH a4 nfp hNl nup nnp hnt n24 p7 p2 hp e1 e0 hi em hu2 hu1 hu0 hlen;omega),hB,fun t3 s3' H11 ht3 hs3 s11=>?_⟩;refine⟨t3,_,rfl,SqT.of ht3,rfl,_,_,rfl,_,_,rfl,rfl,?_⟩;have s911:=s10.trans s11;have hrl11:=s11 _ _ hrl10;have hRL11:=hRL10.same s11;have hTV11:=hTV10.same s11;have hv11:=hv10.same s11;refine⟨_,rfl,e2,_,rfl,SqL.of (s11 _ _ he2),_,rfl,rfl,_,rfl,?_⟩;have c1:(!decide (V.int (rdTP (D++[[]]) (Yaf (p+1) 0) (phL p 0 n)).sum=V.int (ptT lenT D (tnum p n))))=false:=by
     rw[hsum,decide_eq_true rfl];rfl
    rw[c1];refine iteF ?_;refine⟨_,rfl,_,rfl,rl,true,rfl,⟨_,SqL.of hrl11⟩,?_⟩;refine ZbO ((D.map fun ds=>ds.all (·.isNone)).map V.bl) (show SqB true K H11 rl (as.map V.ref) from SqL.of hrl11) (by rw[Yaa,Yaa,Yaa,hRL.1,hTV.1]) (by rw[Yaa,hRL.1,hTV.1,hG.len];(clear e13 e12 hsum eH a4 htot nfp nup nnp hnt n24 p7 p2 e0 hi em hu2 hu1 hu0 hlen;omega)) (fun jj x y hx' hy H12 s12 R2 hR2=>?_) fun acc H12 h012 s12 hacc=>?_
    ·obtain⟨r2,hr2,rfl⟩:=Zam hx';obtain⟨vs,hvs,hrv⟩:=hRL11.at hr2;obtain⟨ds,hds,htv⟩:=hTV11.at hvs;have hdl:=hD4 ds (Yah hds);rw[Ybc,Yag,hds] at hy;cases hy;have hr12:=s12 _ _ hrv;refine⟨_,rfl,(by show 1<=sizeLine;decide),fun z0 nz0=>?_⟩;have s13:Same H12 (upd H12 z0 (.lst [.non])):=Same.new nz0;refine⟨_,rfl,r2,_,rfl,.inl (SqL.of (s13 _ _ hr12)),z0,_,_,rfl,rfl,Zaa,by (clear hdl e13 e12 hsum eH a4 htot nfp hNl nup nnp hnt n24 p7 p2 hp e1 e0 hi em hu2 hu1 hu0 hlen;omega),?_,?_,fun q nq=>?_⟩
     ·have:=htv.1;(clear e13 e12 hsum eH a4 htot nfp hNl nup nnp hnt n24 p7 p2 hp e1 e0 hi em hu2 hu1 hu0 hlen;omega)
     ·have:=htv.1;exact YaW (Zcv (by show 1*((vs.length:Nat):Int).toNat<=15001;(clear e13 e12 hsum eH a4 htot nfp hNl nup nnp hnt n24 p7 p2 hp e1 e0 hi em hu2 hu1 hu0 hlen;omega)))
     have s14:=s13.trans (Same.new (o:=.lst (Yaf ((vs.length:Nat):Int).toNat [V.non]).flatten) nq);have eq9:(Yaf ((vs.length:Nat):Int).toNat [V.non]).flatten=Yaf ds.length V.non:=by rw[Ybg,Ybm,htv.1]
     rw[eq9] at s14 ⊢;have hq9:upd (upd H12 z0 (.lst [.non])) q (.lst (Yaf ds.length V.non)) q=some (.lst (Yaf ds.length V.non)):=Zaa;generalize upd (upd H12 z0 (.lst [.non])) q (.lst (Yaf ds.length V.non))=H14 at s14 hq9 ⊢;have htv14:=(htv.same s12).same s14;refine⟨.list (ds.map dTD),.list (Yaf ds.length .none),.lst (s14 _ _ hr12) htv14.rd,.lst hq9 (ZkY _),?_,Znh ds,ZiH _,?_⟩
     ·have:=ZkD ds;show YbN (ds.map dTD)+1<=10
      (clear hdl e13 e12 hsum eH a4 htot nfp hNl nup nnp hnt n24 p7 p2 hp e1 e0 hi em hu2 hu1 hu0 hlen;omega)
     ·rw[PyData.eqv,Zfp];exact hR2 H14 s14
    have c2:(!decide (V.bl (decide (v=V.non))=V.bl ((D.map fun ds=>ds.all (·.isNone)).all id)))=false:=by
     have h9:(D.map fun ds=>ds.all (·.isNone)).all id=D.all fun ds=>ds.all (·.isNone):=by rw[List.all_map];rfl
     rw[h9,hv11.isn];have h10:d.isNone=D.all fun ds=>ds.all (·.isNone):=by
      rw[Ycb,ZkK,<- a4];cases d <;> simp
     rw[h10,decide_eq_true rfl];rfl
    refine⟨acc,_,rfl,SqL.of hacc,rfl,_,rfl,?_⟩;rw[c2];refine iteF ?_;have sx12:Sm pl H8 H12:=(sx.trans sx9).trans (Sm.of (s11.trans s12));have hp12:PotT H12 pl:=((hp9.same s10).same s11).same s12;refine⟨_,rfl,_,rfl,?_⟩;have hv12:=hv11.same s12;rw[hv12.isn]
    cases d with
    | none=>exact iteF (iteF ⟨_,_,_,_,_,_,rfl,hp12,sx12⟩)
    | some e=>
     have he:=a5 e rfl;subst he;refine iteT ⟨_,rfl,_,rfl,fl,rfl,_,rfl,_,rfl,fl,rfl,s3',srt (Zba D),!fl,rfl,s12 _ _ hs3,fun l5 H13 nl5 hl5 s13=>⟨(by show 2<=sizeLine;decide),fun t5 nt5=>?_⟩⟩;have s14:Same H13 (upd H13 t5 (.tup [.bl (!fl),.ref l5])):=Same.new nt5;have ht5:upd H13 t5 (.tup [.bl (!fl),.ref l5]) t5=some (.tup [.bl (!fl),.ref l5]):=Zaa;have hl514:=s14 _ _ hl5;generalize upd H13 t5 (.tup [.bl (!fl),.ref l5])=H14 at s14 ht5 hl514 ⊢;rw[ZkC (ZaH (Zba D))] at hl514;refine⟨_,dTD (some (!fl,dirT (!fl) (Zba D))),((hv12.same s13).same s14).rd,.tup ht5 (.cons (.bl _) (.cons (.lst hl514 (L2.rdl_ints _)) .nil)),Ybj (Zds _) (by decide),Zcc _,Zcc _,false,?_,iteF ⟨_,_,_,_,_,_,rfl,(hp12.same s13).same s14,sx12.trans (Sm.of (s13.trans s14))⟩⟩;rw[YdL _ (Zcc _)];rfl
   ·rintro σ Hx ⟨o7,o8,o9,o10,o11,o12,rfl,hpx,sx⟩;have sxx:Sm pl H7 Hx:=(Sm.of s8).trans sx;have hnnx:=sxx _ _ hnn7 nnp;have huux:=sxx _ _ huu nup;have hNx:LLs Hx ns (tnum p n):=⟨hN7.1,fun j a xs e1 e2=>sxx _ _ (hN7.2 j a xs e1 e2) (nsp a (Yah e1))⟩
    have hUx:LBs Hx us (upsT (tnum p n)):=⟨hU.1,fun j a xs e1 e2=>sxx _ _ (hU.2 j a xs e1 e2) (husp a (Yah e1))⟩
    refine⟨_,rfl,_,rfl,_,rfl,_,rfl,_,rfl,pl,nn,uu,p,n,ns,us,rfl,p2,p7,by (clear nfp hNl nup nnp hnt p7 p2 hp e1 e0 hi em hu2 hu1 hu0 hlen;omega),by (clear nfp hNl nup nnp n24 p7 p2 hp e1 e0 hi em hu2 hu1 hu0 hlen;omega),hpx,hnnx,hNx,nsp,huux,hUx,fun H9 hp9 sm9=>⟨true,rfl,iteF ?_⟩⟩;have s79:Sm pl H7 H9:=sxx.trans sm9;have s09:Same H H9:=Sm.after s07 s79 hpl0;have hnn9:=s79 _ _ hnn7 nnp;have hN9:LLs H9 ns (tnum p n):=⟨hN7.1,fun j a xs e1 e2=>s79 _ _ (hN7.2 j a xs e1 e2) (nsp a (Yah e1))⟩
    refine⟨_,rfl,nn,true,rfl,⟨_,SqL.of hnn9⟩,?_⟩;refine ZbY (b:=true) (K:=K) (a:=nn) (xs:=ns.map V.ref) (fun j=>(srt ((tnum p n).getD j [])).map V.int) (SqL.of hnn9) (by rw[Yaa,hN9.1];(clear nfp nup nnp hnt n24 p7 p2 e0 hi em hu2 hu1 hu0 hlen;omega)) (fun jj x hx' H10 s10 R2 hR2=>?_) fun l1 qs1 H10 nl1 hl1 hq1 hqs1 s10=>?_
    ·obtain⟨r,hr',rfl⟩:=Zam hx';obtain⟨ws,hw⟩:∃ ws,(tnum p n)[jj]?=some ws:=⟨_,Yac (by rw[<- hN9.1];exact (Yab.mp hr').1)⟩
     have hrv:=hN9.2 jj r ws hr' hw;refine⟨_,rfl,r,true,ws,rfl,SqL.of (s10 _ _ hrv),fun l ms nl hp hs=>hR2 l _ nl ?_ (Same.new nl)⟩;rw[Zaa,ZbE hp hs,Yao,hw];rfl
    rw[Yaa,hN9.1] at hq1;refine⟨_,rfl,_,rfl,p,n,rfl,p2,p7,by (clear hq1 nfp hNl nup nnp hnt p7 p2 hp e1 e0 hi em hu2 hu1 hu0 hlen;omega),by (clear hq1 nfp hNl nup nnp n24 p7 p2 hp e1 e0 hi em hu2 hu1 hu0 hlen;omega),fun ln rs H11 hln0 hln hrs s11=>⟨ln,false,rfl,⟨_,SqT.of hln⟩,?_⟩⟩;refine ZbY (b:=false) (K:=K) (a:=ln) (xs:=rs.map V.ref) (fun j=>(srt ((num p n).getD j [])).map V.int) (SqT.of hln) (by rw[Yaa,hrs.1,Zdh (by (clear hq1 nfp hNl nup nnp hnt n24 p7 p2 e1 hi em hu2 hu1 hu0 hlen;omega))];(clear hq1 nfp hNl nup nnp hnt n24 p7 p2 e0 hi em hu2 hu1 hu0 hlen;omega)) (fun jj x hx' H12 s12 R2 hR2=>?_) fun l2 qs2 H12 nl2 hl2 hq2 hqs2 s12=>?_
    ·obtain⟨r,hr',rfl⟩:=Zam hx';obtain⟨ws,hw⟩:∃ ws,(num p n)[jj]?=some ws:=⟨_,Yac (by rw[<- hrs.1];exact (Yab.mp hr').1)⟩
     have hrv:=hrs.2 jj r ws hr' hw;refine⟨_,rfl,r,false,ws,rfl,SqT.of (s12 _ _ hrv),fun l ms nl hp hs=>hR2 l _ nl ?_ (Same.new nl)⟩;rw[Zaa,ZbE hp hs,Yao,hw];rfl
    rw[Yaa,hrs.1] at hq2;have L1:LLs H12 qs1 ((tnum p n).map srt):=⟨by rw[Yaa];exact hq1,fun j r xs e1 e2=>by
     rw[Yag] at e2
     cases e3:(tnum p n)[j]? with
     | none=>rw[e3] at e2;cases e2
     | some ws=>
      rw[e3] at e2;cases e2;have h9:=(hqs1 j r e1).2.2
      rw[Yao,e3] at h9;exact s12 _ _ (s11 _ _ h9)⟩
    have L2':LLs H12 qs2 ((tnum p n).map srt):=by
     rw[ZcU p2 n];exact⟨by rw[Yaa];exact hq2,fun j r xs e1 e2=>by
      rw[Yag] at e2
      cases e3:(num p n)[j]? with
      | none=>rw[e3] at e2;cases e2
      | some ws=>
       rw[e3] at e2;cases e2;have h9:=(hqs2 j r e1).2.2
       rw[Yao,e3] at h9;exact h9⟩
    refine⟨l1,l2,qs1,qs2,_,rfl,rfl,SqL.of (s12 _ _ (s11 _ _ hl1)),SqL.of hl2,L1,L2',_,rfl,iteF ?_⟩;have s912:=(s10.trans s11).trans s12;refine⟨_,rfl,nn,ns,tnum p n,rfl,s912 _ _ hnn9,hN9.same s912,by (clear hq2 hq1 nfp nup nnp hnt n24 p7 p2 e0 hi em hu2 hu1 hu0 hlen;omega),hB,fun l3 qs3 L3 H13 nl3 hl3 ht3 sp3 s13=>?_⟩;refine⟨_,rfl,_,rfl,p,n,rfl,p2,p7,by (clear hq2 hq1 nfp hNl nup nnp hnt p7 p2 hp e1 e0 hi em hu2 hu1 hu0 hlen;omega),fun l4 qs4 L4 H14 nl4 hl4 ht4 sp4 s14=>?_⟩;have eL:L3=L4:=sp3.uniq (sp4.congr fun m=>(Zga (ZcU p2 n) m).symm);subst eL;exact⟨l3,l4,qs3,qs4,_,rfl,rfl,SqT.of (s14 _ _ hl3),SqT.of hl4,ht3.same s14,ht4,_,rfl,iteF ⟨_,_,_,_,_,_,_,_,_,_,_,_,rfl,((s09.trans s912).trans s13).trans s14⟩⟩
  ·rintro σ H2 _;exact k H2
end
end Fi58
namespace Fi58
open PySem L2 Lv
section
variable {P:Program}{w:World}{K:Yae}{mg:Str->Option Value}{base:Heap}
theorem Zlx:FnScope ["thing"] ["thing"] (Zac ZdN):=⟨rfl,rfl,rfl,by decide +kernel,rfl,by decide +kernel,by decide +kernel⟩
theorem Zka {f:Addr}{fd:FuncData} (F:Fun K "is_whole" "is_whole" ZdN f fd) (T:Txt mg):FnOk P w K mg base CX0 1 f fd ["thing"] Zef:=by
 refine F.ok Zlx (fun vs H Q E h=>?_) (fun cdv A outer s H vs Q E hr h=>?_)
 ·obtain⟨i,rfl,_⟩:=h;rfl
 ·obtain⟨i,rfl,k⟩:=h;refine⟨_,Zaq (Zay (Zk5 (Zan Zdx rfl T.isinstance ZcP (Zab (pv 0) (Zab (Zm0 rfl T.int Zoe) Zad)))
   (Zk3 (Zif (Zan Zdx rfl T.isinstance ZcP (Zab (pv 0) (Zab (Zm0 rfl T.bool ZnF) Zad))))))),?_⟩
  refine⟨_,rfl,.int i,"int",_,true,rfl,.int i,Zf6,true,rfl,iteT ?_⟩;exact⟨_,rfl,.int i,"bool",_,false,rfl,.int i,Zfi,false,rfl,k⟩
theorem ZmQ:FnScope ["p"] ["p"] (Zac Zg7):=⟨rfl,rfl,rfl,by decide +kernel,rfl,by decide +kernel,by decide +kernel⟩
theorem ZlU {f fW:Addr}{fd dW:FuncData}{t2 t7:Tok} (F:Fun K "check_ways" "check_ways" Zg7 f fd) (T:Txt mg) (hL:mg "LEAST_WAYS"=some (.int 2 t2)) (hM:mg "MOST_WAYS"=some (.int 7 t7)) (CW:Cal P w K mg base 1 "is_whole" ["thing"] Zef fW dW) :
  FnOk P w K mg base CX0 2 f fd ["p"] ZdK:=by
 refine F.ok ZmQ (fun vs H Q E h=>?_) (fun cdv A outer s H vs Q E hr h=>?_)
 ·obtain⟨i,rfl,_⟩:=h;rfl
 ·obtain⟨i,rfl,h1,h2,k⟩:=h;refine⟨_,Zaq (Zhd (PW.pt (ZlK (ZdX (Ze7 (Zao CW hr rfl (Zab (pv 0) Zad))))
   (Zh4 (ZdX (ZgD Zil Zil (Zf2 rfl hL) (pv 0) (Zf2 rfl hM)))))) ZaT ZcD),?_⟩
  refine⟨_,rfl,i,rfl,true,rfl,iteF ?_⟩;refine⟨_,rfl,2,i,rfl,rfl,_,rfl,?_⟩;rw[decide_eq_true h1];refine iteT ⟨i,7,rfl,rfl,_,rfl,?_⟩;rw[decide_eq_true h2];exact iteF k
theorem ZlA:FnScope ["n","last"] ["n","last"] (Zac ZdS):=⟨rfl,rfl,rfl,by decide +kernel,rfl,by decide +kernel,by decide +kernel⟩
theorem Zkl {f fW da:Addr}{fd dW:FuncData} (F:FunD K "check_level" "check_level" ZdS f da fd) (T:Txt mg) (CW:Cal P w K mg base 1 "is_whole" ["thing"] Zef fW dW) :
  FnOk P w K mg base CX0 2 f fd ["n","last"] Zcg:=by
 refine F.ok ZlA (fun vs H Q E h=>?_) (fun cdv A outer s H vs Q E hr h=>?_)
 ·obtain⟨i,m,rfl,_⟩:=h;rfl
 ·obtain⟨i,m,rfl,h1,h2,k⟩:=h;refine⟨_,Zaq (Zhd (PW.pt (ZlK (ZdX (Ze7 (Zao CW hr rfl (Zab (pv 0) Zad))))
   (Zh4 (ZdX (ZgD Zil Zil Zaf (pv 0) (pv 1)))))) ZaT ZcD),?_⟩
  refine⟨_,rfl,i,rfl,true,rfl,iteF ?_⟩;refine⟨_,rfl,0,i,rfl,rfl,_,rfl,?_⟩;rw[decide_eq_true h1];refine iteT ⟨_,rfl,i,m,rfl,rfl,_,rfl,?_⟩;rw[decide_eq_true h2];exact iteF k
theorem ZlB:FnScope ["p"] ["p"] (Zac ZdT):=⟨rfl,rfl,rfl,by decide +kernel,rfl,by decide +kernel,by decide +kernel⟩
theorem Zko {f:Addr}{fd:FuncData} (F:Fun K "first_counts" "first_counts" ZdT f fd) (T:Txt mg):FnOk P w K mg base CX0 1 f fd ["p"] Zdb:=by
 refine F.ok ZlB (fun vs H Q E h=>?_) (fun cdv A outer s H vs Q E hr h=>?_)
 ·obtain⟨p,rfl,_⟩:=h;rfl
 ·obtain⟨p,rfl,h1,h2,k⟩:=h;refine⟨_,Zaq (Zay (ZaU ZaE rfl T.tuple ZbR (Zab (Zau ZbF (ZaJ (Zab Zaf Zad)) (Zau ZdZ (ZaJ (Zab Zaf Zad)) (Zau Zcj (pv 0) Zaf))) Zad))),?_⟩;refine⟨(by show 1<=sizeLine;decide),fun p1 e1=>⟨(by show 1<=sizeLine;decide),fun p2 e2=>⟨_,rfl,_,_,rfl,rfl,?_⟩⟩⟩;have z2:(upd (upd H p1 (.lst [.int 1])) p2 (.lst [.int 0])) p1=some (.lst [.int 1]):=by rw[upd_ne (Zae Zaa e2)];exact Zaa
  refine⟨p2,(p:Int) - 1,_,rfl,rfl,Zaa,by (clear h2 h1;omega),by (clear h1;omega),?_,fun p3 e3=>?_⟩
  ·exact YaW (Zat (by show 1*((p:Int) - 1).toNat<=1000;(clear h1;omega)))
  have z3:=(Same.new (o:=.lst (Yaf ((p:Int) - 1).toNat [V.int 0]).flatten) e3) p1 _ z2;have ez:(Yaf ((p:Int) - 1).toNat [V.int 0]).flatten=Yaf (p - 1) (V.int 0):=by
   rw[show ((p:Int) - 1).toNat=p - 1 by (clear h2 h1;omega)];exact Ybm
  rw[ez] at z3 ⊢;refine⟨p1,p3,_,_,rfl,rfl,z3,Zaa,?_,fun p4 e4=>?_⟩
  ·exact YaW (Zat (by rw[YaP];show 1+(p - 1)<=1000;(clear h1;omega)))
  refine⟨p4,_,rfl,.inl ⟨SqL.of Zaa,fun l hl=>?_⟩⟩;have s4:=(((Same.new (o:=.lst [.int 1]) e1).trans (Same.new (o:=.lst [.int 0]) e2)).trans (Same.new (o:=.lst (Yaf (p - 1) (V.int 0))) e3)).trans (Same.new (o:=.lst ([.int 1]++Yaf (p - 1) (V.int 0))) e4);refine k l _ (s4.free hl) ?_ (s4.trans (Same.new hl));rw[Zaa];simp[Zco]
theorem scNext:FnScope ["counts","first"] ["counts"] (Zac ZfW):=⟨rfl,rfl,rfl,by decide +kernel,rfl,by decide +kernel,by decide +kernel⟩
theorem Zl2 {f:Addr}{fd:FuncData} (F:Fun K "next_counts" "next_counts" ZfW f fd) (T:Txt mg):FnOk P w K mg base CX0 1 f fd ["counts"] (Ze2 K):=by
 refine F.ok scNext (fun vs H Q E h=>?_) (fun cdv A outer s H vs Q E hr h=>?_)
 ·obtain⟨a,c,rfl,_⟩:=h;rfl
 ·obtain⟨a,c,rfl,hA,h1,h2,k⟩:=h;refine⟨_,Zal (Zar (i:=1) scNext.nd rfl (Yc2 rfl) (ZaR Zdl (pv 0) Zaf (fun _ _=>rfl)))
   (Zaq (Zay (ZaU ZaE rfl T.tuple ZbR (Zab (Zau ZbF
    (Zaz (own:=["count"]) (js:=[1]) (CompOk.by (sc:=Zac ZfW) (N:=["counts","first"]) rfl rfl (by decide +kernel)) rfl (Zia (Zbz ZkV (pv 0) (Za9 Zaf) Zb9)) Zak
     (fun _ _ _ _ _=>Zah (i:=0) (by show (["count","first"]:List Str).Nodup;decide +kernel) rfl (YaG rfl) (.inr rfl)) (fun _ _ _ _ _=>Zav) (fun _ _ _ _ _=>Zau Zbb (pv 1) (pv 0)))
    (ZaJ (Zab (pv 1) Zad))) Zad)))),?_⟩
  obtain⟨c0,cr,rfl⟩:∃ c0 cr,c=c0::cr:=by
   cases c with
   | nil=>simp at h1
   | cons x y=>exact⟨x,y,rfl⟩
  have hcr:cr.length<=6:=by simpa using h2
  refine⟨_,rfl,a,_,0,.int c0,rfl,rfl,hA,ZeR,?_⟩;refine⟨_,rfl,1,rfl,a,_,rfl,hA,?_,fun p1 e1=>⟨p1,rfl,⟨_,SqT.of Zaa⟩,?_⟩⟩
  ·rintro⟨z,_⟩;have:HT.sIx ((c0::cr).map V.int).length 0 (some ((1:Nat):Int))=0:=z;rw[HT.sIx_nat] at this;simp at this
  have ecut:cutV ((c0::cr).map V.int) (some 1) none=cr.map V.int:=by
   unfold cutV;show (((c0::cr).map V.int).drop (HT.sIx ((c0::cr).map V.int).length 0 (some ((1:Nat):Int)))).take (HT.sIx ((c0::cr).map V.int).length ((c0::cr).map V.int).length none - HT.sIx ((c0::cr).map V.int).length 0 (some ((1:Nat):Int)))=_;rw[HT.sIx_nat];rw[show min 1 ((c0::cr).map V.int).length=1 by simp];show (cr.map V.int).take (((c0::cr).map V.int).length - 1)=_;rw[Ybk (by simp)]
  rw[ecut];refine ZeN (xs:=cr.map V.int) (fun acc i H2=>Same (upd H p1 (.tup (cr.map V.int))) H2/\H2 acc=some (.lst (((cr.take i).map (c0+·)).map V.int))) (fun acc h0=>⟨Same.new h0,Zaa⟩) (fun acc i H2 h0 _ p=>p.1.tup (SqT.of Zaa)) ?_ ?_
  ·rintro acc i x H2 h0 hx ⟨s2,hacc⟩;obtain⟨z,hz,rfl⟩:=Zbr hx;have hi:=(Yab.mp hz).1
   refine⟨_,rfl,_,rfl,_,_,rfl,rfl,_,hacc,?_,by rw[Yaa];exact hi,s2.put h0,?_⟩
   ·exact Zat (by simp;(clear hi h2 h1;omega))
   ·rw[Zaa,YaI,hz];simp
  ·rintro acc H2 h0 ⟨s2,hacc⟩;rw[Yaa,Yaz] at hacc;refine⟨_,rfl,(by show 1<=sizeLine;decide),fun p2 e2=>?_⟩;refine⟨acc,p2,_,_,rfl,rfl,(Same.new e2) acc _ hacc,Zaa,?_,fun p3 e3=>⟨p3,_,rfl,.inl ⟨SqL.of Zaa,fun l hl=>?_⟩⟩⟩
   ·exact YaW (Zat (by simp;(clear h2 h1;omega)))
   have s3:=(((Same.new (o:=.tup (cr.map V.int)) e1).trans s2).trans (Same.new (o:=.lst [.int c0]) e2)).trans (Same.new (o:=.lst (((cr.map (c0+·)).map V.int)++[.int c0])) e3);refine k l _ (s3.free hl) ?_ (s3.trans (Same.new hl));rw[Zaa];simp[Zbn]
theorem scCounts:FnScope ["p","n","counts","level"] ["p","n"] (Zac ZcA):=⟨rfl,rfl,rfl,by decide +kernel,rfl,by decide +kernel,by decide +kernel⟩
theorem Ziq {f fA fB fC fD:Addr}{fd dA dB dC dD:FuncData} (F:Fun K "level_counts" "level_counts" ZcA f fd) (T:Txt mg) (CA:Cal P w K mg base 2 "check_ways" ["p"] ZdK fA dA) (CB:CalD P w K mg base 2 "check_level" ["n","last"] [.int 300] Zcg fB dB) (CC:Cal P w K mg base 1 "first_counts" ["p"] Zdb fC dC) (CD:Cal P w K mg base 1 "next_counts" ["counts"] (Ze2 K) fD dD) :
  FnOk P w K mg base CX0 3 f fd ["p","n"] Zen:=by
 refine F.ok scCounts (fun vs H Q E h=>?_) (fun cdv A outer s H vs Q E hr h=>?_)
 ·obtain⟨p,n,rfl,_⟩:=h;rfl
 ·obtain⟨p,n,rfl,h1,h2,h3,k⟩:=h;have hr1:Room 1 _:=hr.mono (by decide);refine⟨_,Zal (Za3 (Zao CA hr rfl (Zab (pv 0) Zad))) (Zal (Za3 (Zf3 CB hr rfl (Zab (pv 1) Zad)))
   (Zal (Zar (i:=2) scCounts.nd rfl (YaG rfl) (Zao CC hr1 rfl (Zab (pv 0) Zad)))
   (Zal (Za7 Ya4 rfl (ZaI rfl T.range (Zab (pv 1) Zad)) (Zah (i:=3) scCounts.nd rfl (YaG rfl))
    (Zaq (Zar (i:=2) scCounts.nd rfl (YaG rfl) (Zao CD hr1 rfl (Zab (pv 2) Zad)))))
   (Zaq (Zay (pv 2)))))),?_⟩
  refine⟨_,rfl,p,rfl,by (clear h3 h2;omega),by (clear h3 h1;omega),?_⟩;refine⟨_,rfl,n,300,rfl,by (clear h3 h2 h1;omega),by (clear h2 h1;omega),?_⟩;refine⟨_,rfl,p,rfl,h1,h2,fun l H1 hl0 hl1 s1=>?_⟩;refine⟨_,rfl,n,rfl,by (clear h3 h2 h1;omega),by (clear h2 h1;omega),Zbl (fun i σ H2=>∃ (l:Addr) (o:Option V),σ=[some (.int p),some (.int n),some (.ref l),o]/\H l=none/\H2 l=some (.tup ((cnt p i).map V.int))/\Same H H2)
   ⟨l,none,rfl,hl0,hl1,s1⟩ ?_ ?_⟩
  ·rintro i σ H2 hi ⟨l,o,rfl,hl0,hl2,s2⟩;have hlen:=Zbs (p:=p) (by (clear hi h3 h2;omega)) i;refine⟨_,rfl,l,cnt p i,rfl,SqT.of hl2,by (clear hi h3 h2;omega),by (clear hi h3 h1;omega),fun l3 H3 h30 h3 s3=>?_⟩;exact⟨l3,_,rfl,s2.free h30,h3,s2.trans s3⟩
  ·rintro σ H2 ⟨l,o,rfl,hl0,hl2,s2⟩;refine⟨_,rfl,k l H2 hl0 ?_ s2⟩;simpa using hl2
theorem Zly:FnScope ["p","n"] ["p","n"] (Zac ZdO):=⟨rfl,rfl,rfl,by decide +kernel,rfl,by decide +kernel,by decide +kernel⟩
theorem Zkb {f fA:Addr}{fd dA:FuncData} (F:Fun K "level_total" "level_total" ZdO f fd) (T:Txt mg) (CA:Cal P w K mg base 3 "level_counts" ["p","n"] Zen fA dA):FnOk P w K mg base CX0 4 f fd ["p","n"] ZfM:=by
 refine F.ok Zly (fun vs H Q E h=>?_) (fun cdv A outer s H vs Q E hr h=>?_)
 ·obtain⟨p,n,rfl,_⟩:=h;rfl
 ·obtain⟨p,n,rfl,h1,h2,h3,k⟩:=h;refine⟨_,Zaq (Zay (Zan (Zdv rfl) rfl T.sum Zgl (Zab (Zao CA hr rfl (Zab (pv 0) (Zab (pv 1) Zad))) Zad))),?_⟩;exact⟨_,rfl,_,rfl,p,n,rfl,h1,h2,h3,fun l H1 hl0 hl1 s1=>⟨l,_,rfl,SqT.of hl1,k H1 s1⟩⟩
theorem ZnQ:FnScope ["total"] ["total"] (Zac sTot):=⟨rfl,rfl,rfl,by decide +kernel,rfl,by decide +kernel,by decide +kernel⟩
theorem Zm7 {f:Addr}{fd:FuncData}{tM:Tok} (F:Fun K "check_total" "check_total" sTot f fd) (T:Txt mg) (hM:mg "MOST_PLACES"=some (.int 4000 tM)):FnOk P w K mg base CX0 1 f fd ["total"] Zlq:=by
 refine F.ok ZnQ (fun vs H Q E h=>?_) (fun cdv A outer s H vs Q E hr h=>?_)
 ·obtain⟨i,rfl,_⟩:=h;rfl
 ·obtain⟨i,rfl,h4,k⟩:=h;refine⟨_,Zaq (Zhd (ZaP ZlR (pv 0) (Zf2 rfl hM) (ZaV _)) ZaT ZcD),?_⟩;refine⟨_,rfl,_,_,rfl,rfl,_,rfl,?_⟩;rw[decide_eq_false (by omega)];exact iteF k
theorem ZjN:FnScope ["p","n"] ["p","n"] (Zac Zcw):=⟨rfl,rfl,rfl,by decide +kernel,rfl,by decide +kernel,by decide +kernel⟩
theorem Zim {f fA fB:Addr}{fd dA dB:FuncData} (F:Fun K "check_places" "check_places" Zcw f fd) (T:Txt mg) (CA:Cal P w K mg base 4 "level_total" ["p","n"] ZfM fA dA) (CB:Cal P w K mg base 1 "check_total" ["total"] Zlq fB dB):FnOk P w K mg base CX0 5 f fd ["p","n"] ZcV:=by
 refine F.ok ZjN (fun vs H Q E h=>?_) (fun cdv A outer s H vs Q E hr h=>?_)
 ·obtain⟨p,n,rfl,_⟩:=h;rfl
 ·obtain⟨p,n,rfl,h1,h2,h3,h4,k⟩:=h;have hr1:Room 1 _:=hr.mono (by decide);refine⟨_,Zaq (Za3 (Zao CB hr1 rfl (Zab (Zao CA hr rfl (Zab (pv 0) (Zab (pv 1) Zad))) Zad))),?_⟩;exact⟨_,rfl,_,rfl,p,n,rfl,h1,h2,h3,fun H1 s1=>⟨_,rfl,h4,k H1 s1⟩⟩
theorem ZjQ:FnScope ["p"] ["p"] (Zac Zcz):=⟨rfl,rfl,rfl,by decide +kernel,rfl,by decide +kernel,by decide +kernel⟩
theorem Zip {f:Addr}{fd:FuncData} (F:Fun K "first_numbers" "first_numbers" Zcz f fd) (T:Txt mg):FnOk P w K mg base CX0 1 f fd ["p"] Zem:=by
 refine F.ok ZjQ (fun vs H Q E h=>?_) (fun cdv A outer s H vs Q E hr h=>?_)
 ·obtain⟨p,rfl,_⟩:=h;rfl
 ·obtain⟨p,rfl,h1,h2,k⟩:=h;refine⟨_,Zaq (Zay (ZaU ZaE rfl T.tuple ZbR (Zab (Zau ZbF (ZaJ (Zab (Zbo (Zab Zaf Zad)) Zad)) (Zau ZdZ (ZaJ (Zab (Zbo Zad) Zad)) (Zau Zcj (pv 0) Zaf))) Zad))),?_⟩;refine⟨(by show 1<=sizeLine;decide),fun q0 e0=>⟨(by show 1<=sizeLine;decide),fun p1 e1=>⟨YaT _,fun q1 f1=>⟨(by show 1<=sizeLine;decide),fun p2 e2=>⟨_,rfl,_,_,rfl,rfl,?_⟩⟩⟩⟩⟩;have t0:Same H (upd H q0 (.tup [.int 0])):=Same.new e0;have t1:=t0.trans (Same.new (o:=.lst [.ref q0]) e1);have t2:=t1.trans (Same.new (o:=.tup []) f1);have t3:=t2.trans (Same.new (o:=.lst [.ref q1]) e2);have a0:(upd (upd (upd (upd H q0 (.tup [.int 0])) p1 (.lst [.ref q0])) q1 (.tup [])) p2 (.lst [.ref q1])) q0=some (.tup [.int 0]):=((Same.new e1).trans ((Same.new f1).trans (Same.new e2))) q0 _ Zaa;have a1:(upd (upd (upd (upd H q0 (.tup [.int 0])) p1 (.lst [.ref q0])) q1 (.tup [])) p2 (.lst [.ref q1])) p1=some (.lst [.ref q0]):=((Same.new f1).trans (Same.new e2)) p1 _ Zaa;have a2:(upd (upd (upd (upd H q0 (.tup [.int 0])) p1 (.lst [.ref q0])) q1 (.tup [])) p2 (.lst [.ref q1])) q1=some (.tup []):=(Same.new e2) q1 _ Zaa;have a3:(upd (upd (upd (upd H q0 (.tup [.int 0])) p1 (.lst [.ref q0])) q1 (.tup [])) p2 (.lst [.ref q1])) p2=some (.lst [.ref q1]):=Zaa;generalize (upd (upd (upd (upd H q0 (.tup [.int 0])) p1 (.lst [.ref q0])) q1 (.tup [])) p2 (.lst [.ref q1]))=H1 at t3 a0 a1 a2 a3 ⊢;refine⟨p2,(p:Int) - 1,_,rfl,rfl,a3,by (clear h2 h1;omega),by (clear h1;omega),?_,fun p3 e3=>?_⟩
  ·exact YaW (Zat (by show 1*((p:Int) - 1).toNat<=1000;(clear h1;omega)))
  have ez:(Yaf ((p:Int) - 1).toNat [V.ref q1]).flatten=Yaf (p - 1) (V.ref q1):=by
   rw[show ((p:Int) - 1).toNat=p - 1 by (clear h2 h1;omega)];exact Ybm
  rw[ez];have s3:=Same.new (o:=.lst (Yaf (p - 1) (V.ref q1))) e3;refine⟨p1,p3,_,_,rfl,rfl,s3 p1 _ a1,Zaa,?_,fun p4 e4=>⟨p4,_,rfl,.inl ⟨SqL.of Zaa,fun l hl=>?_⟩⟩⟩
  ·exact YaW (Zat (by rw[YaP];show 1+(p - 1)<=1000;(clear h1;omega)))
  have s4:=s3.trans (Same.new (o:=.lst ([.ref q0]++Yaf (p - 1) (V.ref q1))) e4);have s5:=s4.trans (Same.new (o:=.tup ([.ref q0]++Yaf (p - 1) (V.ref q1))) hl);have hl0:H l=none:=(t3.trans s4).free hl;refine k l (q0::Yaf (p - 1) q1) _ hl0 (by rw[Zaa];simp) ⟨by simp[num0],fun j r xs ha hb=>?_⟩ (t3.trans s5)
  cases j with
  | zero=>
   have:r=q0:=by simpa using ha.symm
   have:xs=[0]:=by simpa[num0] using hb.symm
   subst r xs;exact s5 q0 _ a0
  | succ j=>
   have:r=q1:=Zh0 (j:=j) (by simpa using ha);have:xs=[]:=Zh0 (j:=j) (by simpa[num0] using hb);subst r xs;exact s5 q1 _ a2
theorem scNextN:FnScope ["numbers","first"] ["numbers"] (Zac ZcL):=⟨rfl,rfl,rfl,by decide +kernel,rfl,by decide +kernel,by decide +kernel⟩
theorem Zkk {f:Addr}{fd:FuncData} (F:Fun K "next_numbers" "next_numbers" ZcL f fd) (T:Txt mg):FnOk P w K mg base CX0 1 f fd ["numbers"] Zej:=by
 refine F.ok scNextN (fun vs H Q E h=>?_) (fun cdv A outer s H vs Q E hr h=>?_)
 ·obtain⟨a,rs,N,rfl,_⟩:=h;rfl
 ·obtain⟨a,rs,N,rfl,hA,hT,h1,h2,hne,hz,k⟩:=h;refine⟨_,Zal (Zar (i:=1) scNextN.nd rfl (Yc2 rfl) (ZaU ZaE rfl T.tuple ZbR (Zab (Zaz (own:=["number"]) (js:=[]) (CompOk.by (sc:=Zac ZcL) (N:=["numbers","first"]) rfl rfl (by decide +kernel)) rfl (Zia (ZaR Zdl (pv 0) Zaf (fun _ _=>rfl))) Zak
     (fun _ _ _ _ _=>Zah (i:=0) (by show (["number"]:List Str).Nodup;decide +kernel) rfl (YaG rfl) (.inr rfl)) (fun _ _ _ _ _=>Zav) (fun _ _ _ _ _=>Zau Zbb (pv 0) Zaf)) Zad)))
   (Zaq (Zay (ZaU ZaE rfl T.tuple ZbR (Zab (Zau ZbF
    (Zaz (own:=["reel"]) (js:=[1]) (CompOk.by (sc:=Zac ZcL) (N:=["numbers","first"]) rfl rfl (by decide +kernel)) rfl (Zia (Zbz ZkV (pv 0) (Za9 Zaf) Zb9)) Zak
     (fun _ _ _ _ _=>Zah (i:=0) (by show (["reel","first"]:List Str).Nodup;decide +kernel) rfl (YaG rfl) (.inr rfl)) (fun _ _ _ _ _=>Zav) (fun _ _ _ _ _=>Zau (Zj9 K) (pv 1) (pv 0)))
    (ZaJ (Zab (pv 1) Zad))) Zad)))),?_⟩
  obtain⟨x0,xr,rfl⟩:∃ x0 xr,N=x0::xr:=by
   cases N with
   | nil=>simp at h1
   | cons x y=>exact⟨x,y,rfl⟩
  obtain⟨r0,rr,rfl⟩:∃ r0 rr,rs=r0::rr:=by
   cases rs with
   | nil=>have:=hT.1;simp at this
   | cons x y=>exact⟨x,y,rfl⟩
  have hr0:H r0=some (.tup (x0.map V.int)):=hT.2 0 r0 x0 rfl rfl;have hrl:rr.length=xr.length:=by have:=hT.1;simpa using this
  have hxr:xr.length<=6:=by simpa using h2
  have hx0:x0.length<=4000:=hz x0 (by simp);have ef:fstN (x0::xr)=x0.map (·+1):=rfl;refine⟨_,rfl,a,_,0,.ref r0,rfl,rfl,SqT.of hA,ZaO (j:=0) rfl,r0,rfl,⟨_,SqT.of hr0⟩,?_⟩;refine ZeN (xs:=x0.map V.int) (fun acc i H2=>Same H H2/\H2 acc=some (.lst (((x0.take i).map (·+1)).map V.int))) (fun acc h0=>⟨Same.new h0,Zaa⟩) (fun acc i H2 h0 _ p=>p.1.tup (SqT.of hr0)) ?_ ?_
  ·rintro acc i x H2 h0 hx ⟨s2,hacc⟩;obtain⟨z,hz',rfl⟩:=Zbr hx;have hi:=(Yab.mp hz').1
   refine⟨_,rfl,z,1,rfl,rfl,_,hacc,?_,by rw[Yaa];exact hi,s2.put h0,?_⟩
   ·exact ZaS (by simp;(clear hi hxr hrl h2 h1;omega))
   ·rw[Zaa,YaI,hz',Ybz,YaM,YaM];rfl
  rintro acc H2 h0 ⟨s2,hacc⟩;rw[Yaa,Yaz] at hacc;refine⟨acc,_,rfl,.inl ⟨SqL.of hacc,fun fl hfl=>?_⟩⟩;have s3:=s2.trans (Same.new (o:=.tup ((x0.map (·+1)).map V.int)) hfl);have hfl3:(upd H2 fl (.tup ((x0.map (·+1)).map V.int))) fl=some (.tup ((x0.map (·+1)).map V.int)):=Zaa;generalize (upd H2 fl (.tup ((x0.map (·+1)).map V.int)))=H3 at s3 hfl3 ⊢;have hfl0:H fl=none:=s2.free hfl;refine⟨_,rfl,1,rfl,a,_,rfl,SqT.of (s3 a _ hA),?_,fun p1 e1=>⟨p1,rfl,⟨_,SqT.of Zaa⟩,?_⟩⟩
  ·rintro⟨z,_⟩;have:HT.sIx ((r0::rr).map V.ref).length 0 (some ((1:Nat):Int))=0:=z;rw[HT.sIx_nat] at this;simp at this
  have ecut:cutV ((r0::rr).map V.ref) (some 1) none=rr.map V.ref:=by
   unfold cutV;show (((r0::rr).map V.ref).drop (HT.sIx ((r0::rr).map V.ref).length 0 (some ((1:Nat):Int)))).take (HT.sIx ((r0::rr).map V.ref).length ((r0::rr).map V.ref).length none - HT.sIx ((r0::rr).map V.ref).length 0 (some ((1:Nat):Int)))=_;rw[HT.sIx_nat];rw[show min 1 ((r0::rr).map V.ref).length=1 by simp];show (rr.map V.ref).take (((r0::rr).map V.ref).length - 1)=_;rw[Ybk (by simp)]
  rw[ecut];have s4:=s3.trans (Same.new (o:=.tup (rr.map V.ref)) e1);have hfl4:=(Same.new (o:=.tup (rr.map V.ref)) e1) fl _ hfl3;have hp14:(upd H3 p1 (.tup (rr.map V.ref))) p1=some (.tup (rr.map V.ref)):=Zaa;generalize (upd H3 p1 (.tup (rr.map V.ref)))=H4 at s4 hfl4 hp14 ⊢;have hr:∀ (j:Nat) r xs,rr[j]?=some r->xr[j]?=some xs->H r=some (.tup (xs.map V.int)):=fun j r xs a b=>hT.2 (j+1) r xs a b;have hxz:∀ xs∈xr,xs.length<=4000:=fun xs hx=>hz xs (by simp[hx]);have hx0ne:x0≠[]:=hne;refine ZeN (xs:=rr.map V.ref) (fun acc i H5=>Same H4 H5/\∃ qs:List Addr,H5 acc=some (.lst (qs.map V.ref))/\TTs H5 qs ((xr.take i).map (x0.map (·+1)++·))) (fun acc h0=>⟨Same.new h0,[],Zaa,rfl,fun j r xs a b=>by simp at a⟩) (fun acc i H5 h0 _ p=>p.1.tup (SqT.of hp14)) ?_ ?_
  ·rintro acc i x H5 h0 hx ⟨s5,qs,hacc,hq⟩;obtain⟨r,hr',rfl⟩:=Zam hx;have hi:=(Yab.mp hr').1
   have hix:i<xr.length:=by (clear hx0 hxr h2 h1;omega)
   have hrx:H5 r=some (.tup (xr[i].map V.int)):=(s4.trans s5) r _ (hr i r _ hr' (Yac hix));have hfl5:=s5 fl _ hfl4;have hxi:xr[i].length<=4000:=hxz _ (YbY hix);have hqs:qs.length<=6:=by have:=hq.1;simp at this;(clear hxi hi hx0 hrl h2 h1;omega)
   have e2:(xr.take (i+1)).map (x0.map (·+1)++·)=(xr.take i).map (x0.map (·+1)++·)++[x0.map (·+1)++xr[i]]:=by
    rw[YbM hix,YaM];rfl
   rw[e2];refine⟨_,rfl,_,rfl,fl,r,_,_,rfl,rfl,SqT.of hfl5,SqT.of hrx,by simpa using hx0ne,?_,fun hemp=>?_,fun hemp pn en=>?_⟩
   ·exact YaW (ZaS (by simp;(clear hqs hi hxr hrl h2 h1;omega)))
   ·have hemp':xr[i]=[]:=by simpa using hemp
    refine⟨_,hacc,ZaS (by simp;(clear hxi hi hx0 hxr hrl h2 h1;omega)),by rw[Yaa];exact hi,s5.put h0,qs++[fl],by rw[Zaa];simp,?_⟩;refine (hq.lst hacc).snoc ?_;rw[hemp',Ybf,upd_ne (by intro z;subst z;rw[hacc] at hfl5;cases hfl5)];exact hfl5
   ·have hacc6:=(Same.new (o:=.tup ((x0.map (·+1)).map V.int++xr[i].map V.int)) en) acc _ hacc;refine⟨_,hacc6,ZaS (by simp;(clear hxi hi hx0 hxr hrl h2 h1;omega)),by rw[Yaa];exact hi,(s5.trans (Same.new en)).put h0,qs++[pn],by rw[Zaa];simp,?_⟩;refine ((hq.same (Same.new en)).lst hacc6).snoc ?_;rw[upd_ne (by intro z;subst z;rw[hacc] at en;cases en),Zaa];simp
  ·rintro acc H5 h0 ⟨s5,qs,hacc,hq⟩;rw[Yaa,hrl,Yaz] at hq;have hfl5:=s5 fl _ hfl4;have hqs:qs.length<=6:=by have:=hq.1;simp at this;(clear hx0 hrl h2 h1;omega)
   refine⟨_,rfl,(by show 1<=sizeLine;decide),fun p2 e2=>?_⟩;refine⟨acc,p2,_,_,rfl,rfl,(Same.new e2) acc _ hacc,Zaa,?_,fun p3 e3=>⟨p3,_,rfl,.inl ⟨SqL.of Zaa,fun l hl=>?_⟩⟩⟩
   ·exact YaW (ZaS (by simp;(clear hx0 hxr hrl h2 h1;omega)))
   have sz:=((Same.new (o:=.lst [V.ref fl]) e2).trans (Same.new (o:=.lst (qs.map V.ref++[V.ref fl])) e3)).trans (Same.new (o:=.tup (qs.map V.ref++[V.ref fl])) hl);have s6:=(s4.trans s5).trans sz;refine k l (qs++[fl]) _ ?_ (by rw[Zaa];simp) ?_ s6
   ·exact ((s4.trans s5).trans ((Same.new (o:=.lst [V.ref fl]) e2).trans (Same.new (o:=.lst (qs.map V.ref++[V.ref fl])) e3))).free hl
   ·exact (hq.same sz).snoc (sz fl _ hfl5)
theorem scAfter:FnScope ["p","n","following","numbers","level"] ["p","n","following"] (Zac ZdV):=⟨rfl,rfl,rfl,by decide +kernel,rfl,by decide +kernel,by decide +kernel⟩
theorem Zkq {f fA fB:Addr}{fd dA dB:FuncData} (F:Fun K "numbers_after" "numbers_after" ZdV f fd) (T:Txt mg) (CB:Cal P w K mg base 1 "first_numbers" ["p"] Zem fB dB) (CA:Cal P w K mg base 1 "next_numbers" ["numbers"] Zej fA dA):FnOk P w K mg base CX0 2 f fd ["p","n","following"] (ZfQ fA):=by
 refine F.ok scAfter (fun vs H Q E h=>?_) (fun cdv A outer s H vs Q E hr h=>?_)
 ·obtain⟨p,n,rfl,_⟩:=h;rfl
 ·obtain⟨p,n,rfl,h1,h2,h3,h4,k⟩:=h;refine⟨_,Zal (Zar (i:=3) scAfter.nd rfl (YaG rfl) (Zao CB hr rfl (Zab (pv 0) Zad)))
   (Zal (Za7 Ya4 rfl (ZaI rfl T.range (Zab (pv 1) Zad)) (Zah (i:=4) scAfter.nd rfl (YaG rfl)) (Zaq (Zar (i:=3) scAfter.nd rfl (YaG rfl) (Zii 2 CA hr (Zab (pv 3) Zad)))))
   (Zaq (Zay (pv 3)))),?_⟩
  refine⟨_,rfl,p,rfl,h1,h2,fun l qs H1 hl0 hl1 hq1 s1=>?_⟩;refine⟨_,rfl,n,rfl,by (clear h4 h3 h2 h1;omega),by (clear h4 h2 h1;omega),Zbl (fun i σ H2=>∃ (l:Addr) (qs:List Addr) (o:Option V),σ=[some (.int p),some (.int n),some (.ref fA),some (.ref l),o]/\H l=none/\H2 l=some (.tup (qs.map V.ref))/\TTs H2 qs (num p i)/\Same H H2)
   ⟨l,qs,none,rfl,hl0,hl1,hq1,s1⟩ ?_ ?_⟩
  ·rintro i σ H2 hi ⟨l,qs,o,rfl,hl0,hl2,hq,s2⟩;have hlen:=Zdh (p:=p) (by (clear hi h4 h3 h2;omega)) i;have htot:=ZbT (p:=p) h1 (show i<=n by (clear hlen h4 h3 h2 h1;omega));refine⟨rfl,_,rfl,l,qs,num p i,rfl,hl2,hq,by (clear htot hi h4 h3 h2;omega),by (clear htot hi h4 h3 h1;omega),?_,fun xs hx=>?_,fun l3 qs3 H3 h30 h3 hq3 s3=>?_⟩
   ·obtain⟨a,r,e,ha,_⟩:=Zkr h1 i;rw[e];exact ha
   ·have:=Znd hx
    (clear hlen hi h3 h2 h1;omega)
   ·exact⟨l3,qs3,_,rfl,s2.free h30,h3,hq3,s2.trans s3⟩
  ·rintro σ H2 ⟨l,qs,o,rfl,hl0,hl2,hq,s2⟩;refine⟨_,rfl,k l qs H2 hl0 hl2 ?_ s2⟩;simpa using hq
theorem Zlz:FnScope ["p","n"] ["p","n"] (Zac ZdR):=⟨rfl,rfl,rfl,by decide +kernel,rfl,by decide +kernel,by decide +kernel⟩
theorem Zkh {f fA fB:Addr}{fd dA dB:FuncData} (F:Fun K "numbers_of" "numbers_of" ZdR f fd) (T:Txt mg) (CA:Cal P w K mg base 1 "next_numbers" ["numbers"] Zej fA dA) (CB:Cal P w K mg base 2 "numbers_after" ["p","n","following"] (ZfQ fA) fB dB):FnOk P w K mg base CX0 3 f fd ["p","n"] Zg5:=by
 refine F.ok Zlz (fun vs H Q E h=>?_) (fun cdv A outer s H vs Q E hr h=>?_)
 ·obtain⟨p,n,rfl,_⟩:=h;rfl
 ·obtain⟨p,n,rfl,h1,h2,h3,h4,k⟩:=h;refine⟨_,Zaq (Zay (Zao CB hr rfl (Zab (pv 0) (Zab (pv 1) (Zab (Zk4 CA rfl) Zad))))),?_⟩;exact⟨_,rfl,_,rfl,p,n,rfl,h1,h2,h3,h4,k⟩
theorem scLN:FnScope ["p","n"] ["p","n"] (Zac sLN):=⟨rfl,rfl,rfl,by decide +kernel,rfl,by decide +kernel,by decide +kernel⟩
theorem Zn2 {f fA fB:Addr}{fd dA dB:FuncData} (F:Fun K "level_numbers" "level_numbers" sLN f fd) (T:Txt mg) (CA:Cal P w K mg base 5 "check_places" ["p","n"] ZcV fA dA) (CB:Cal P w K mg base 3 "numbers_of" ["p","n"] Zg5 fB dB):FnOk P w K mg base CX0 6 f fd ["p","n"] Zg5:=by
 refine F.ok scLN (fun vs H Q E h=>?_) (fun cdv A outer s H vs Q E hr h=>?_)
 ·obtain⟨p,n,rfl,_⟩:=h;rfl
 ·obtain⟨p,n,rfl,h1,h2,h3,h4,k⟩:=h;have hr2:Room 3 _:=hr.mono (by decide);refine⟨_,Zal (Za3 (Zao CA hr rfl (Zab (pv 0) (Zab (pv 1) Zad)))) (Zaq (Zay (Zao CB hr2 rfl (Zab (pv 0) (Zab (pv 1) Zad))))),?_⟩;refine⟨_,rfl,_,rfl,p,n,rfl,h1,h2,h3,h4,fun H1 s1=>?_⟩;exact⟨_,rfl,_,rfl,p,n,rfl,h1,h2,h3,h4,fun l qs H2 hl0 hl hq s2=>k l qs H2 (s1.free hl0) hl hq (s1.trans s2)⟩
end
end Fi58
namespace Fi58
open PySem L2 Lv
section
variable {P:Program}{w:World}{K:Yae}{mg:Str->Option Value}{base:Heap}
theorem scNextT:FnScope ["numbers","first"] ["numbers"] (Zac ZcK):=⟨rfl,rfl,rfl,by decide +kernel,rfl,by decide +kernel,by decide +kernel⟩
theorem Zki {f:Addr}{fd:FuncData} (F:Fun K "next_turned" "next_turned" ZcK f fd) (T:Txt mg):FnOk P w K mg base CX0 1 f fd ["numbers"] ZfO:=by
 refine F.ok scNextT (fun vs H Q E h=>?_) (fun cdv A outer s H vs Q E hr h=>?_)
 ·obtain⟨a,rs,N,rfl,_⟩:=h;rfl
 ·obtain⟨a,rs,N,rfl,hA,hq,n2,n7,hz,k⟩:=h;refine⟨_,Zal (Zar (i:=1) scNextT.nd rfl (Yc2 rfl) (Zaz (own:=["number"]) (js:=[]) (CompOk.by (sc:=Zac ZcK) (N:=["numbers","first"]) rfl rfl (by decide +kernel)) rfl (Za4 (Zfa (ZaR ZaA (pv 0) Zaf (fun _ _=>rfl)) (Za9 (Zie ZeY Zaf)))) Zak
    (fun _ _ _ _ _=>Zah (i:=0) (by show (["number"]:List Str).Nodup;decide +kernel) rfl (YaG rfl) (.inr rfl)) (fun _ _ _ _ _=>Zav) (fun _ _ _ _ _=>Zau Zbb (pv 0) Zaf)))
   (Zaq (Zay (Zaz (own:=["on_reel"]) (js:=[1]) (CompOk.by (sc:=Zac ZcK) (N:=["numbers","first"]) rfl rfl (by decide +kernel)) rfl (Za4 (Zau ZbF (Zbz Zet (pv 0) (Za9 Zaf) Zb9) (ZaJ (Zab (ZaJ Zad) Zad)))) Zak
    (fun _ _ _ _ _=>Zah (i:=0) (by show (["on_reel","first"]:List Str).Nodup;decide +kernel) rfl (YaG rfl) (.inr rfl)) (fun _ _ _ _ _=>Zav) (fun _ _ _ _ _=>Zau ZbF (pv 0) (pv 1))))),?_⟩
  obtain⟨x0,xr,rfl⟩:∃ x0 xr,N=x0::xr:=by
   cases N with
   | nil=>simp at n2
   | cons x y=>exact⟨x,y,rfl⟩
  obtain⟨r0,rr,rfl⟩:∃ r0 rr,rs=r0::rr:=by
   cases rs with
   | nil=>have:=hq.1;simp at this
   | cons x y=>exact⟨x,y,rfl⟩
  have hr0:H r0=some (.lst (x0.map V.int)):=hq.2 0 r0 x0 rfl rfl;have hrl:rr.length=xr.length:=by have:=hq.1;simpa using this
  have hxr:xr.length<=6:=by simp at n7;(clear hrl n2;omega)
  have hx0:x0.length<=4000:=hz x0 (by simp);have hxz:∀ xs∈xr++[[]],xs.length<=4000:=fun xs hx=>by
   rcases Yar.mp hx with hx | hx
   ·exact hz xs (by simp[hx])
   ·have:xs=[]:=by simpa using hx
    subst this;simp
  refine⟨_,rfl,a,_,0,.ref r0,rfl,rfl,SqL.of hA,ZaO (j:=0) rfl,1,rfl,-1,rfl,rfl,r0,_,rfl,SqL.of hr0,fun lv ev=>?_⟩;have sv:Same H (upd H lv (.lst (x0.map V.int).reverse)):=Same.new ev;have hlv:(upd H lv (.lst (x0.map V.int).reverse)) lv=some (.lst (x0.reverse.map V.int)):=by rw[Zaa,Ycm]
  generalize (upd H lv (.lst (x0.map V.int).reverse))=H1 at sv hlv ⊢;refine⟨lv,rfl,⟨_,SqL.of hlv⟩,?_⟩;refine Zbt (xs:=x0.reverse.map V.int) (fun acc j H3=>Same H1 H3/\H3 acc=some (.lst (((x0.reverse.take j).map (·+1)).map V.int))) (fun acc h0=>⟨Same.new h0,Zaa⟩) (fun acc j H3 h0 _ p=>p.1.seq (SqL.of hlv)) ?_ ?_
  ·rintro acc j x H3 h0 hx ⟨s3,hacc⟩;obtain⟨z,hz',rfl⟩:=Zbr hx;have hj:=(Yab.mp hz').1
   refine⟨_,rfl,z,1,rfl,rfl,_,hacc,?_,by rw[Yaa];exact hj,s3.put h0,?_⟩
   ·exact ZaS (by simp;(clear hj hxr hrl n7 n2;omega))
   ·rw[Zaa,YaI,hz',Ybz,YaM,YaM];rfl
  rintro ml H3 hml ⟨s3,hm3⟩;rw[Yaa,Yaz] at hm3;have s03:=sv.trans s3;refine⟨_,rfl,1,rfl,a,_,rfl,SqL.of (s03 a _ hA),fun p1 e1=>?_⟩;rw[Yam,ZnC];have s4:=s03.trans (Same.new (o:=.lst (rr.map V.ref)) e1);have hm4:=(Same.new (o:=.lst (rr.map V.ref)) e1) ml _ hm3;have hp14:(upd H3 p1 (.lst (rr.map V.ref))) p1=some (.lst (rr.map V.ref)):=Zaa;generalize (upd H3 p1 (.lst (rr.map V.ref)))=H4 at s4 hm4 hp14 ⊢;refine⟨YaT _,fun p2 e2=>⟨(by show 1<=sizeLine;decide),fun p3 e3=>?_⟩⟩;have s56:=(Same.new (o:=.lst []) e2).trans (Same.new (o:=.lst [.ref p2]) e3);have hp2:(upd (upd H4 p2 (.lst [])) p3 (.lst [.ref p2])) p2=some (.lst []):=(Same.new e3) p2 _ Zaa;have hp3:(upd (upd H4 p2 (.lst [])) p3 (.lst [.ref p2])) p3=some (.lst [.ref p2]):=Zaa;generalize (upd (upd H4 p2 (.lst [])) p3 (.lst [.ref p2]))=H6 at s56 hp2 hp3 ⊢;refine⟨p1,p3,_,_,rfl,rfl,s56 p1 _ hp14,hp3,?_,fun p7 e7=>?_⟩
  ·exact YaW (Zat (by simp;(clear hx0 n7 n2;omega)))
  have s7:=(s4.trans s56).trans (Same.new (o:=.lst (rr.map V.ref++[.ref p2])) e7);have hm7:=(Same.new (o:=.lst (rr.map V.ref++[.ref p2])) e7) ml _ (s56 ml _ hm4);have hp27:=(Same.new (o:=.lst (rr.map V.ref++[.ref p2])) e7) p2 _ hp2;have hp77:(upd H6 p7 (.lst (rr.map V.ref++[.ref p2]))) p7=some (.lst ((rr++[p2]).map V.ref)):=by rw[Zaa];simp
  generalize (upd H6 p7 (.lst (rr.map V.ref++[.ref p2])))=H7 at s7 hm7 hp27 hp77 ⊢;have hr:LLs H7 (rr++[p2]) (xr++[[]]):=by
   refine L2.LLs.snoc ⟨hrl,fun j r xs a b=>s7 r _ (hq.2 (j+1) r xs a b)⟩ ?_;rw[hp27];rfl
  generalize rr++[p2]=ra at hr hp77 ⊢;have exa:(xr++[[]]).length<=7:=by simp;(clear hx0 hrl n7 n2;omega)
  have enx:Zfe (x0::xr)=(xr++[[]]).map (·++tfst (x0::xr)):=rfl;rw[show (x0.reverse.map (·+1))=tfst (x0::xr) from rfl] at hm7;have htl:(tfst (x0::xr)).length=x0.length:=ZjI _;generalize xr++[[]]=xa at hr hxz exa enx;have hral:=hr.1;refine⟨p7,rfl,⟨_,SqL.of hp77⟩,?_⟩;refine Zbt (xs:=ra.map V.ref) (fun acc j H5=>Same H7 H5/\∃ us:List Addr,H5 acc=some (.lst (us.map V.ref))/\acc ∉ us/\us.Nodup/\(∀ q∈us,H q=none)/\LLs H5 us ((xa.take j).map (·++tfst (x0::xr)))) (fun acc h0=>⟨Same.new h0,[],Zaa,by simp,YcY,by simp,rfl,fun j r xs a b=>by simp at a⟩) (fun acc j H5 h0 _ p=>p.1.seq (SqL.of hp77)) ?_ ?_
  ·rintro acc j x H5 h0 hx ⟨s5,us,hacc,hnin,hnd,hfr,hu⟩;obtain⟨r,hr',rfl⟩:=Zam hx;have hj:=(Yab.mp hr').1
   have hjx:j<xa.length:=by (clear hnin exa htl hx0 hxr hrl n7 n2;omega)
   have hrx:H5 r=some (.lst (xa[j].map V.int)):=s5 r _ (hr.2 j r _ hr' (Yac hjx));have hm5:=s5 ml _ hm7;have hxi:xa[j].length<=4000:=hxz _ (YbY hjx);have hus:us.length<=7:=by have:=hu.1;simp at this;(clear hxi hj hnin hral htl hx0 hxr hrl n7 n2;omega)
   have e2:(xa.take (j+1)).map (·++tfst (x0::xr))=(xa.take j).map (·++tfst (x0::xr))++[xa[j]++tfst (x0::xr)]:=by
    rw[YbM hjx,YaM];rfl
   rw[e2];refine⟨_,rfl,_,rfl,r,ml,_,_,rfl,rfl,hrx,hm5,?_,fun pn en=>?_⟩
   ·exact YaW (ZaS (by simp;(clear hus hj hnin hral exa hxr hrl n7 n2;omega)))
   have hpa:acc≠pn:=Zae hacc en;have hacc6:=(Same.new (o:=.lst (xa[j].map V.int++(tfst (x0::xr)).map V.int)) en) acc _ hacc;have hpnus:pn ∉ us:=Lv.LLs.none hu en;refine⟨_,hacc6,ZaS (by simp;(clear hpnus hpa hxi hj hnin hral exa htl hx0 hxr hrl n7 n2;omega)),by rw[Yaa];exact hj,(s5.trans (Same.new en)).put h0,us++[pn],by rw[Zaa];simp,by simp[hnin,hpa],ZbV hnd hpnus,?_,?_⟩
   ·intro q hq';rcases Yar.mp hq' with h | h
    ·exact hfr q h
    ·have:q=pn:=by simpa using h
     subst this;exact (s7.trans s5).free en
   ·refine ((hu.same (Same.new en)).lst hnin).snoc ?_;rw[upd_ne (Ybl hpa),Zaa];simp
  ·rintro acc H5 h0 ⟨s5,us,hacc,hnin,hnd,hfr,hu⟩;rw[Yaa,hral,Yaz,<- enx] at hu;exact k acc us H5 (s7.free h0) hacc hu hnd (fun q hq'=>⟨hfr q hq',fun z=>hnin (z ▸ hq')⟩) (s7.trans s5)
theorem scTNum:FnScope ["p","n","numbers","level"] ["p","n"] (Zac ZfV):=⟨rfl,rfl,rfl,by decide +kernel,rfl,by decide +kernel,by decide +kernel⟩
theorem ZlX {f fA fB:Addr}{fd dA dB:FuncData} (F:Fun K "turned_numbers" "turned_numbers" ZfV f fd) (T:Txt mg) (CA:Cal P w K mg base 5 "check_places" ["p","n"] ZcV fA dA) (CB:Cal P w K mg base 1 "next_turned" ["numbers"] ZfO fB dB):FnOk P w K mg base CX0 6 f fd ["p","n"] Zgz:=by
 refine F.ok scTNum (fun vs H Q E h=>?_) (fun cdv A outer s H vs Q E hr h=>?_)
 ·obtain⟨p,n,rfl,_⟩:=h;rfl
 ·obtain⟨p,n,rfl,h1,h2,h3,h4,k⟩:=h;have hr1:Room 1 _:=hr.mono (by decide);refine⟨_,Zal (Za3 (Zao CA hr rfl (Zab (pv 0) (Zab (pv 1) Zad))))
   (Zal (Zar (i:=2) scTNum.nd rfl (YaG rfl) (Zau ZbF (ZaJ (Zab (ZaJ (Zab Zaf Zad)) Zad)) (Zaz (own:=["reel"]) (js:=[]) (CompOk.by (sc:=Zac ZfV) (N:=["p","n","numbers","level"]) rfl rfl (by decide +kernel)) rfl (ZaI rfl T.range (Zab (Zau Zcj (pv 0) Zaf) Zad)) Zak
    (fun _ _ _ _ _=>Zah (i:=0) (by show (["reel"]:List Str).Nodup;decide +kernel) rfl (YaG rfl) (.inr rfl)) (fun _ _ _ _ _=>Zav) (fun _ _ _ _ _=>ZaJ Zad))))
   (Zal (Za7 Ya4 rfl (ZaI rfl T.range (Zab (pv 1) Zad)) (Zah (i:=3) scTNum.nd rfl (YaG rfl))
    (Zaq (Zar (i:=2) scTNum.nd rfl (YaG rfl) (Zao CB hr1 rfl (Zab (pv 2) Zad)))))
   (Zaq (Zay (pv 2))))),?_⟩
  refine⟨_,rfl,_,rfl,p,n,rfl,h1,h2,h3,h4,fun H0 s0=>?_⟩;refine⟨(by show 1<=sizeLine;decide),fun q0 e0=>⟨(by show 1<=sizeLine;decide),fun p1 e1=>⟨_,rfl,_,_,rfl,rfl,(p:Int) - 1,rfl,by (clear h4 h3 h2 h1;omega),by (clear h4 h3 h1;omega),?_⟩⟩⟩;have t1:Same H (upd (upd H0 q0 (.lst [.int 0])) p1 (.lst [.ref q0])):=s0.trans ((Same.new e0).trans (Same.new e1));have a0:(upd (upd H0 q0 (.lst [.int 0])) p1 (.lst [.ref q0])) q0=some (.lst [.int 0]):=(Same.new e1) q0 _ Zaa;have a1:(upd (upd H0 q0 (.lst [.int 0])) p1 (.lst [.ref q0])) p1=some (.lst [.ref q0]):=Zaa;have hq00:H q0=none:=s0.free e0;generalize (upd (upd H0 q0 (.lst [.int 0])) p1 (.lst [.ref q0]))=H1 at t1 a0 a1 ⊢;rw[show ((p:Int) - 1).toNat=p - 1 by (clear h4 h3 h2 h1;omega)];refine Zbh (fun acc j H2=>Same H1 H2/\∃ us:List Addr,H2 acc=some (.lst (us.map V.ref))/\acc ∉ us/\us.Nodup/\(∀ q∈us,H1 q=none)/\LLs H2 us (Yaf j [])) (fun acc h0=>⟨Same.new h0,[],Zaa,by simp,YcY,by simp,rfl,fun j r xs a b=>by simp at a⟩) ?_ ?_
  ·rintro acc j H2 h0 hj ⟨s2,us,hacc,hnin,hnd,hfr,hu⟩;have hus:us.length<=6:=by have:=hu.1;rw[YaP] at this;(clear hnin h4 h3 h1;omega)
   refine⟨YaT _,fun pn en=>?_⟩;have hpa:acc≠pn:=Zae hacc en;have hacc6:=(Same.new (o:=.lst []) en) acc _ hacc;refine⟨_,hacc6,Zat (by rw[Yaa];(clear hpa hnin hj h4 h3 h2 h1;omega)),hj,(s2.trans (Same.new en)).put h0,us++[pn],by rw[Zaa];simp,by simp[hnin,hpa],ZbV hnd (Lv.LLs.none hu en),?_,?_⟩
   ·intro q hq';rcases Yar.mp hq' with h | h
    ·exact hfr q h
    ·have:q=pn:=by simpa using h
     subst this;exact s2.free en
   rw[Yey];refine ((hu.same (Same.new en)).lst hnin).snoc ?_;rw[upd_ne (Ybl hpa),Zaa];rfl
  rintro acc H2 h0 ⟨s2,us,hacc,hnin,hnd,hfr,hu⟩;have hus:us.length=p - 1:=by have:=hu.1;rwa [YaP] at this
  refine⟨p1,acc,_,_,rfl,rfl,s2 p1 _ a1,hacc,?_,fun l e4=>?_⟩
  ·exact YaW (Zat (by rw[Yaa,hus];show 1+(p - 1)<=1000;(clear hus hnin h4 h3 h1;omega)))
  have s5:=s2.trans (Same.new (o:=.lst ([.ref q0]++us.map V.ref)) e4);have hl0:H l=none:=(t1.trans s2).free e4;have hq0us:q0 ∉ us:=fun z=>by have:=hfr q0 z;rw[a0] at this;cases this
  refine⟨_,rfl,n,rfl,by (clear hq0us hus hnin h4 h3 h2 h1;omega),by (clear hq0us hus hnin h4 h2 h1;omega),Zbl (fun i σ H2=>∃ (l:Addr) (qs:List Addr) (o:Option V),σ=[some (.int p),some (.int n),some (.ref l),o]/\H l=none/\H2 l=some (.lst (qs.map V.ref))/\LLs H2 qs (tnum p i)/\qs.Nodup/\(∀ q∈qs,H q=none/\q≠l)/\Same H H2)
   ⟨l,q0::us,none,rfl,hl0,by rw[Zaa];simp,⟨by simp[tnum,num0,hus],fun j r xs ha hb=>?_⟩,YbQ.mpr ⟨hq0us,hnd⟩,fun q hq'=>?_,t1.trans s5⟩ ?_ ?_⟩
  ·cases j with
   | zero=>
    have:r=q0:=by simpa using ha.symm
    have:xs=[0]:=by simpa[tnum,num0] using hb.symm
    subst r xs;exact s5 q0 _ a0
   | succ j=>
    exact (Same.new e4) _ _ (hu.2 j r xs (by simpa using ha) (by simpa[tnum,num0] using hb))
  ·rcases Yay.mp hq' with rfl | h
   ·exact⟨hq00,Zae (s2 _ _ a0) e4⟩
   ·obtain⟨xs,ex⟩:=LLs.get hu h;exact⟨t1.free (hfr q h),Zae ex e4⟩
  ·rintro i σ H2 hi ⟨l,qs,o,rfl,hl0,hl2,hq,hnd2,hfr2,s2⟩;have htot:=ZbT (p:=p) h1 (show i<=n by (clear hq0us hus hnin h4 h3 h2 h1;omega));have hlen:=ZaM (p:=p) (by (clear htot hi hq0us hus hnin h4 h3 h2;omega)) i;refine⟨_,rfl,l,qs,tnum p i,rfl,hl2,hq,by (clear htot hi hq0us hus hnin h4 h3 h2;omega),by (clear htot hi hq0us hus hnin h4 h3 h1;omega),fun xs hx=>by have:=Zec (p:=p) (by (clear hlen htot hi hq0us hus hnin h4 h3 h2;omega)) hx;(clear hlen hi hq0us hus hnin h3 h2 h1;omega),fun l3 qs3 H3 e3 hl3 hq3 hnd3 hfr3 s3=>?_⟩;exact⟨l3,qs3,_,rfl,s2.free e3,hl3,hq3,hnd3,fun q hq'=>⟨s2.free (hfr3 q hq').1,(hfr3 q hq').2⟩,s2.trans s3⟩
  ·rintro σ H2 ⟨l,qs,o,rfl,hl0,hl2,hq,hnd2,hfr2,s2⟩;refine⟨_,rfl,k l qs H2 hl0 hl2 ?_ hnd2 hfr2 s2⟩;simpa using hq
theorem Zj1 (K:Yae) {X:Cx}{tg l:Expr}{tl:TE} (hl:PE X l tl) (hK:X.K=K:=by rfl):PI X tg l (Znp K tl):=by subst hK;exact Za4 hl
theorem ZmT:FnScope ["p","n"] ["p","n"] (Zac Zg8):=⟨rfl,rfl,rfl,by decide +kernel,rfl,by decide +kernel,by decide +kernel⟩
theorem ZlV {f fA:Addr}{fd dA:FuncData} (F:Fun K "turned_ups" "turned_ups" Zg8 f fd) (T:Txt mg) (CA:Cal P w K mg base 6 "turned_numbers" ["p","n"] Zgz fA dA):FnOk P w K mg base CX0 7 f fd ["p","n"] ZhO:=by
 refine F.ok ZmT (fun vs H Q E h=>?_) (fun cdv A outer s H vs Q E hr h=>?_)
 ·obtain⟨p,n,rfl,_⟩:=h;rfl
 ·obtain⟨p,n,rfl,h1,h2,h3,h4,k⟩:=h;refine⟨_,Zaq (Zay (Zaz (own:=["on_reel"]) (js:=[]) (CompOk.bare (by decide +kernel)) rfl (Za4 (Zao CA hr rfl (Zab (pv 0) (Zab (pv 1) Zad)))) Zak
   (fun _ _ _ _ _=>Zah (i:=0) (by show (["on_reel"]:List Str).Nodup;decide +kernel) rfl (YaG rfl) (.inr rfl)) (fun _ _ _ _ _=>Zav)
   (fun _ _ _ _ _=>Zaz (own:=["number"]) (js:=[]) (CompOk.bare (by decide +kernel)) rfl (Zj1 K (pv 0)) Zak
    (fun _ _ _ _ _=>Zah (i:=0) (by show (["number"]:List Str).Nodup;decide +kernel) rfl (YaG rfl) (.inr rfl)) (fun _ _ _ _ _=>Zav) (fun _ _ _ _ _=>Zca Zm6 (Zau Zb3 (pv 0) Zaf) Zaf (ZaV _))))),?_⟩
  refine⟨_,rfl,_,rfl,p,n,rfl,h1,h2,h3,h4,fun l qs H1 e1 hl hq hnd hfr s1=>⟨l,rfl,⟨_,SqL.of hl⟩,?_⟩⟩;have hlen:=ZaM (p:=p) (by (clear h4 h3 h2;omega)) n;have hz:∀ xs∈tnum p n,xs.length<=4000:=fun xs hx=>by have:=Zec (p:=p) (by (clear hlen h4 h3 h2;omega)) hx;(clear hlen h3 h2 h1;omega)
  generalize tnum p n=N at hq hlen hz k ⊢;have hql:=hq.1;refine Zbt (xs:=qs.map V.ref) (fun acc j H5=>Same H1 H5/\∃ us:List Addr,H5 acc=some (.lst (us.map V.ref))/\acc ∉ us/\us.Nodup/\(∀ q∈us,H q=none)/\LBs H5 us (upsT (N.take j))) (fun acc h0=>⟨Same.new h0,[],Zaa,by simp,YcY,by simp,rfl,fun j r xs a b=>by simp at a⟩) (fun acc j H5 h0 _ p=>p.1.seq (SqL.of hl)) ?_ ?_
  ·rintro acc j x H5 h0 hx ⟨s5,us,hacc,hnin,hnd2,hfr2,hu⟩;obtain⟨r,hr',rfl⟩:=Zam hx;have hj:=(Yab.mp hr').1
   have hjx:j<N.length:=by (clear hnin hlen h4 h3 h2 h1;omega)
   have hrx:H5 r=some (.lst (N[j].map V.int)):=s5 r _ (hq.2 j r _ hr' (Yac hjx));have hxi:N[j].length<=4000:=hz _ (YbY hjx);have hus:us.length<=7:=by have:=hu.1;simp[upsT] at this;(clear hxi hj hnin hql h4 h3 h1;omega)
   refine⟨_,rfl,r,rfl,⟨_,SqL.of hrx⟩,?_⟩;refine Zbt (xs:=N[j].map V.int) (fun ac2 i H6=>Same H5 H6/\H6 ac2=some (.lst (((N[j].take i).map evB).map V.bl))) (fun ac2 h0=>⟨Same.new h0,Zaa⟩) (fun ac2 i H6 h0 _ p=>p.1.seq (SqL.of hrx)) ?_ ?_
   ·rintro ac2 i x H6 h02 hx2 ⟨s6,hac2⟩;obtain⟨z,hz',rfl⟩:=Zbr hx2;have hi:=(Yab.mp hz').1
    refine⟨_,rfl,z,2,rfl,rfl,(by show (0:Int)<2;decide),rfl,_,hac2,ZaS (by simp;(clear hi hus hj hnin hql hlen h4 h3 h2 h1;omega)),by rw[Yaa];exact hi,s6.put h02,?_⟩;rw[Zaa,YaI,hz',Ybz,YaM,YaM];simp[evB]
   ·rintro pn H6 en ⟨s6,hpn⟩;rw[Yaa,Yaz] at hpn;have hpa:acc≠pn:=Zae hacc en;have hacc6:=s6 acc _ hacc;have e2:upsT (N.take (j+1))=upsT (N.take j)++[N[j].map evB]:=by
     unfold upsT;rw[YbM hjx,YaM];rfl
    rw[e2];refine⟨_,hacc6,ZaS (by simp;(clear hpa hxi hj hnin hql hlen h4 h3 h2 h1;omega)),by rw[Yaa];exact hj,(s5.trans s6).put h0,us++[pn],by rw[Zaa];simp,by simp[hnin,hpa],ZbV hnd2 (Lv.LBs.none hu en),?_,?_⟩
    ·intro q hq';rcases Yar.mp hq' with h | h
     ·exact hfr2 q h
     ·have:q=pn:=by simpa using h
      subst this;exact (s1.trans s5).free en
    ·refine ((hu.same s6).lst hnin).snoc ?_;rw[upd_ne (Ybl hpa)];exact hpn
  ·rintro acc H5 h0 ⟨s5,us,hacc,hnin,hnd2,hfr2,hu⟩;rw[Yaa,hql,Yaz] at hu;exact k acc us H5 (s1.free h0) hacc hu hnd2 (fun q hq'=>⟨hfr2 q hq',fun z=>hnin (z ▸ hq')⟩) (s1.trans s5)
theorem scLCounts:FnScope ["p","n","counts","turn"] ["p","n"] (Zac Zby):=⟨rfl,rfl,rfl,by decide +kernel,rfl,by decide +kernel,by decide +kernel⟩
theorem Zhf {f:Addr}{fd:FuncData} (F:Fun K "_law_counts" "_law_counts" Zby f fd) (T:Txt mg):FnOk P w K mg base CX0 1 f fd ["p","n"] Zda:=by
 refine F.ok scLCounts (fun vs H Q E h=>?_) (fun cdv A outer s H vs Q E hr h=>?_)
 ·obtain⟨p,n,rfl,_⟩:=h;rfl
 ·obtain⟨p,n,rfl,h1,h2,h3,k⟩:=h;refine⟨_,Zal (Zar (i:=2) scLCounts.nd rfl (Yc2 rfl) (Zau ZbF (ZaJ (Zab Zaf Zad)) (Zau ZdZ (ZaJ (Zab Zaf Zad)) (Zau Zcj (pv 0) Zaf))))
   (Zal (Za7 Ya4 rfl (ZaI rfl T.range (Zab (pv 1) Zad)) (Zah (i:=3) scLCounts.nd rfl (YaG rfl))
    (Zaq (Zar (i:=2) scLCounts.nd rfl (Yc2 rfl) (Zau ZbF
     (Zaz (own:=["more"]) (js:=[2]) (CompOk.by (sc:=Zac Zby) (N:=["p","n","counts","turn"]) rfl rfl (by decide +kernel)) rfl (Za4 (Zbz Zet (pv 2) (Za9 Zaf) Zb9)) Zak
      (fun _ _ _ _ _=>Zah (i:=0) (by show (["more","counts"]:List Str).Nodup;decide +kernel) rfl (YaG rfl) (.inr rfl)) (fun _ _ _ _ _=>Zav) (fun _ _ _ _ _=>Zau Zbb (ZaR (ZeC K) (pv 1) Zaf (fun _ _=>rfl)) (pv 0)))
     (ZaJ (Zab (ZaR ZaA (pv 2) Zaf (fun _ _=>rfl)) Zad))))))
   (Zaq (Zay (pv 2)))),?_⟩
  refine⟨(by show 1<=sizeLine;decide),fun p1 e1=>⟨(by show 1<=sizeLine;decide),fun p2 e2=>⟨_,rfl,_,_,rfl,rfl,?_⟩⟩⟩;have z2:(upd (upd H p1 (.lst [.int 1])) p2 (.lst [.int 0])) p1=some (.lst [.int 1]):=by rw[upd_ne (Zae Zaa e2)];exact Zaa
  refine⟨p2,(p:Int) - 1,_,rfl,rfl,Zaa,by (clear h3 h2 h1;omega),by (clear h3 h1;omega),?_,fun p3 e3=>?_⟩
  ·exact YaW (Zat (by show 1*((p:Int) - 1).toNat<=1000;(clear h3 h1;omega)))
  have z3:=(Same.new (o:=.lst (Yaf ((p:Int) - 1).toNat [V.int 0]).flatten) e3) p1 _ z2;have ez:(Yaf ((p:Int) - 1).toNat [V.int 0]).flatten=Yaf (p - 1) (V.int 0):=by
   rw[show ((p:Int) - 1).toNat=p - 1 by (clear h3 h2 h1;omega)];exact Ybm
  rw[ez] at z3 ⊢;refine⟨p1,p3,_,_,rfl,rfl,z3,Zaa,?_,fun p4 e4=>?_⟩
  ·exact YaW (Zat (by rw[YaP];show 1+(p - 1)<=1000;(clear h3 h1;omega)))
  have s4:=(((Same.new (o:=.lst [.int 1]) e1).trans (Same.new (o:=.lst [.int 0]) e2)).trans (Same.new (o:=.lst (Yaf (p - 1) (V.int 0))) e3)).trans (Same.new (o:=.lst ([.int 1]++Yaf (p - 1) (V.int 0))) e4);have n4:H p4=none:=(((Same.new (o:=.lst [.int 1]) e1).trans (Same.new (o:=.lst [.int 0]) e2)).trans (Same.new (o:=.lst (Yaf (p - 1) (V.int 0))) e3)).free e4;refine⟨_,rfl,n,rfl,by (clear h3 h2 h1;omega),by (clear h2 h1;omega),Zbl (fun i σ H2=>∃ (l:Addr) (o:Option V),σ=[some (.int p),some (.int n),some (.ref l),o]/\H l=none/\H2 l=some (.lst ((cnt p i).map V.int))/\Same H H2)
   ⟨p4,none,rfl,n4,by rw[Zaa];simp[cnt,Zco],s4⟩ ?_ ?_⟩
  ·rintro i σ H2 hi ⟨l,o,rfl,hl0,hl2,s2⟩;have hlen:=Zbs (p:=p) (by (clear hi h3 h2;omega)) i;have ex:cnt p (i+1)=Zbn (cnt p i):=rfl;rw[ex];generalize cnt p i=c at *;obtain⟨c0,cr,rfl⟩:∃ c0 cr,c=c0::cr:=by
    cases c with
    | nil=>simp at hlen;(clear hi h3 h2;omega)
    | cons x y=>exact⟨x,y,rfl⟩
   have hcr:cr.length=p - 1:=by simp at hlen;(clear hi h3 h2 h1;omega)
   refine⟨_,rfl,1,rfl,l,_,rfl,SqL.of hl2,fun lq eq=>?_⟩;rw[Yam,ZnC];have hlq:(upd H2 lq (.lst (cr.map V.int))) lq=some (.lst (cr.map V.int)):=Zaa;have sq:Same H2 (upd H2 lq (.lst (cr.map V.int))):=Same.new eq;generalize (upd H2 lq (.lst (cr.map V.int)))=H2' at hlq sq ⊢;refine⟨lq,rfl,⟨_,SqL.of hlq⟩,?_⟩;refine Zbt (xs:=cr.map V.int) (fun acc j H3=>Same H2' H3/\H3 acc=some (.lst (((cr.take j).map (c0+·)).map V.int))) (fun acc h0=>⟨Same.new h0,Zaa⟩) (fun acc j H3 h0 _ p=>p.1.seq (SqL.of hlq)) ?_ ?_
   ·rintro acc j x H3 h0 hx ⟨s3,hacc⟩;obtain⟨z,hz,rfl⟩:=Zbr hx;have hj:=(Yab.mp hz).1
    have hl3:=s3 l _ (sq l _ hl2);refine⟨_,rfl,l,_,0,.int c0,rfl,rfl,SqL.of hl3,ZeR,_,rfl,_,_,rfl,rfl,_,hacc,?_,by rw[Yaa];exact hj,s3.put h0,?_⟩
    ·exact Zat (by simp;(clear hj hlen hi h3 h1;omega))
    ·rw[Zaa,YaI,hz,Ybz,YaM,YaM];rfl
   ·rintro acc H3 h0 ⟨s3,hacc⟩;rw[Yaa,Yaz] at hacc;have hl3:=s3 l _ (sq l _ hl2);refine⟨_,rfl,l,_,0,.int c0,rfl,rfl,SqL.of hl3,ZeR,(by show 1<=sizeLine;decide),fun q2 f2=>?_⟩;refine⟨acc,q2,_,_,rfl,rfl,(Same.new f2) acc _ hacc,Zaa,?_,fun q3 f3=>?_⟩
    ·exact YaW (Zat (by simp;(clear hlen hi h3 h1;omega)))
    have s5:=(s2.trans sq).trans (s3.trans (Same.new (o:=.lst [.int c0]) f2));refine⟨q3,_,rfl,s5.free f3,?_,s5.trans (Same.new f3)⟩;rw[Zaa];simp[Zbn]
  ·rintro σ H2 ⟨l,o,rfl,hl0,hl2,s2⟩;refine⟨_,rfl,k l H2 hl0 ?_ s2⟩;simpa using hl2
theorem scPotT:FnScope ["script","k","cell","prime"] ["script","k"] (Zac Zha):=⟨rfl,rfl,rfl,by decide +kernel,rfl,by decide +kernel,by decide +kernel⟩
theorem ix5 {d:Int} (h0:0<=d) (h1:d<5):∃ v:Int,atI [V.int 2147483629,.int 2147483587,.int 2147483579,.int 2147483563,.int 2147483549] d=some (.int v)/\0<v/\v<=2147483647:=by
 have:d=0∨d=1∨d=2∨d=3∨d=4:=by omega
 rcases this with rfl | rfl | rfl | rfl | rfl
 all_goals exact⟨_,rfl,by decide,by decide⟩
theorem Zl0 {f:Addr}{fd:FuncData} (F:Fun K "_law_pot" "_law_pot" Zha f fd) (T:Txt mg):FnOk P w K mg base CX0 1 f fd ["script","k"] (ZhR K):=by
 refine F.ok scPotT (fun vs H Q E h=>?_) (fun cdv A outer s H vs Q E hr h=>?_)
 ·obtain⟨a,ns,i,rfl,_⟩:=h;rfl
 ·obtain⟨a,ns,i,rfl,hS,i0,i1,k⟩:=h;refine⟨_,Zal (Zar (i:=2) scPotT.nd rfl (YaG rfl) Zaf)
   (Zal (Zhd (ZaP Zj7 (pv 1) (Zan ZaN rfl T.len Ybr (Zab (pv 0) Zad)) (ZaV _)) (Zaq (Zar (i:=2) scPotT.nd rfl (YaG rfl) (Zau Zb3 (ZaR ZaA (pv 0) (pv 1) (fun _ _=>rfl)) (Zau Zik (Zau Zik (Zau Zd0 Zaf Zaf) (Zau Zd0 Zaf Zaf)) (Zau Zd0 Zaf Zaf))))) ZcD)
   (Zal (Zar (i:=3) scPotT.nd rfl (YaG rfl) (ZaR ZaA (ZaJ (Zab Zaf (Zab Zaf (Zab Zaf (Zab Zaf (Zab Zaf Zad)))))) (Zau Zb3 (pv 1) Zaf) (fun _ _=>rfl)))
   (Zaq (Zay (ZaJ (Zab (Zan (Zdw rfl) rfl T.max Zmq (Zab Zaf (Zab (Zau Zcj (pv 2) (Zau Zd0 Zaf Zaf)) Zad)))
    (Zab (Zau Zb3 (Zau Zd0 (Zau Zbb (Zau Zbb (Zau Zb3 (pv 2) (pv 3)) (Zau ZgJ Zaf (pv 1))) Zaf) Zaf) Zaf) Zad))))))),?_⟩
  refine cut2 (fun σ' H'=>∃ c:Int,σ'=[some (.ref a),some (.int i),some (.int c),none]/\H'=H) (fun R2 hR2=>?_) ?_
  ·refine⟨_,rfl,_,rfl,a,_,rfl,.inl hS,_,_,rfl,rfl,_,rfl,?_⟩;refine ite2 (fun hc=>?_) (fun hc=>hR2 _ _ ⟨_,rfl,rfl⟩);have hc':i<(ns.length:Int):=by have:=of_decide_eq_true hc;rwa [Yaa] at this
   obtain⟨w1,w2,w3⟩:=ZnZ;refine⟨_,rfl,_,rfl,a,_,i,_,rfl,rfl,hS,Zmr i0 hc',?_⟩;refine⟨10,60,rfl,rfl,⟨by decide,by decide,by decide⟩,10,60,rfl,rfl,⟨by decide,by decide,by decide⟩,_,_,rfl,rfl,⟨1000,1000,w2,w2,by decide⟩,10,60,rfl,rfl,⟨by decide,by decide,by decide⟩,_,_,rfl,rfl,⟨1000,1000,w3,w2,by decide⟩,_,_,rfl,rfl,w1,?_⟩;exact hR2 _ _ ⟨_,rfl,rfl⟩
  ·rintro σ' H' ⟨c,rfl,rfl⟩;refine⟨(by show 5<=sizeLine;decide),fun q hq=>?_⟩;refine⟨_,rfl,i,5,rfl,rfl,(by show (0:Int)<5;decide),?_⟩;obtain⟨v,ev,v0,v1⟩:=ix5 (YcA i (show (5:Int)≠0 by decide)) (Yb6 i (show (0:Int)<5 by decide));refine⟨q,_,_,_,rfl,rfl,SqL.of Zaa,ev,?_⟩;refine⟨_,rfl,10,18,rfl,rfl,⟨by decide,by decide,by decide⟩,_,_,rfl,rfl,_,_,rfl,?_⟩;refine⟨_,rfl,_,rfl,c,v,rfl,rfl,v0,_,rfl,7919,i,rfl,rfl,.inl ⟨by decide,by decide⟩,_,_,rfl,rfl,_,11,rfl,rfl,_,3,rfl,rfl,⟨by decide,by decide,?_⟩,_,2147483647,rfl,rfl,(by show (0:Int)<2147483647;decide),(by show 2<=sizeLine;decide),fun l hl=>?_⟩
   ·have m0:=YcA c (show v≠0 by (clear v1 i1 i0;omega));have m1:=Yb6 c v0;generalize c % v=y at m0 m1
    (clear v0;omega)
   ·refine k l _ ((Same.new hq).free hl) ⟨_,_,Zaa,YcA _ (by decide),?_⟩ ((Same.new hq).trans (Same.new hl));exact Int.lt_trans (Yb6 _ (by decide)) (by decide)
theorem scTakeT:FnScope ["pot","many","found"] ["pot","many"] (Zac ZdP):=⟨rfl,rfl,rfl,by decide +kernel,rfl,by decide +kernel,by decide +kernel⟩
theorem Zkd {f:Addr}{fd:FuncData} (F:Fun K "_law_take" "_law_take" ZdP f fd) (T:Txt mg):FnOk P w K mg base CX0 1 f fd ["pot","many"] Zcu:=by
 refine F.ok scTakeT (fun vs H Q E h=>?_) (fun cdv A outer s H vs Q E hr h=>?_)
 ·obtain⟨p,m,rfl,_⟩:=h;rfl
 ·obtain⟨p,m,rfl,⟨a,b,hp,b0,b1⟩,h0,h1,k⟩:=h;refine⟨_,Zal (Zhd (ZaP ZlR (ZaR ZaA (pv 0) Zaf (fun _ _=>rfl)) Zaf (ZaV _))
    (Zal (Zar (i:=2) scTakeT.nd rfl (YaG rfl) (Zau Zb3 (ZaR ZaA (pv 0) Zaf (fun _ _=>rfl)) (pv 1)))
    (Zal (Zb1 (Zau Zj8 (ZaR ZaA (pv 0) Zaf (fun _ _=>rfl)) (pv 1)) (ZgG (pv 0) Zaf ZcW))
    (Zaq (Zay (pv 2))))) ZcD)
   (Zal (Zb1 (Zau Zb3 (Zau Zbb (Zau ZgJ (ZaR ZaA (pv 0) Zaf (fun _ _=>rfl)) Zaf) Zaf) Zaf) (ZgG (pv 0) Zaf ZcW))
   (Zaq (Zay (Zau Zb3 (Zau ZlS (Zau Zb3 (Zau Zd0 (ZaR ZaA (pv 0) Zaf (fun _ _=>rfl)) Zaf) Zaf) Zaf) (pv 1))))),?_⟩
  refine⟨_,rfl,p,_,0,.int a,rfl,rfl,SqL.of hp,rfl,_,_,rfl,rfl,_,rfl,?_⟩;refine ite2 (fun _=>?_) (fun _=>?_)
  ·refine⟨_,rfl,p,_,0,.int a,rfl,rfl,SqL.of hp,rfl,_,rfl,a,m,rfl,rfl,h0,?_⟩;refine⟨_,rfl,p,_,0,.int a,rfl,rfl,SqL.of hp,rfl,_,rfl,a,m,rfl,rfl,⟨h0,h1⟩,_,rfl,p,_,0,0,rfl,rfl,hp,rfl,_,rfl,?_⟩;exact k _ _ (YcA _ (by (clear h1 b1 b0;omega))) (Yb6 _ h0) ⟨_,_,Zaa,b0,b1⟩ Sm.put
  ·have n0:=YcA (b*48271+12820163) (show (2147483647:Int)≠0 by decide);have n1:=Yb6 (b*48271+12820163) (show (0:Int)<2147483647 by decide);refine⟨_,rfl,p,_,1,.int b,rfl,rfl,SqL.of hp,rfl,b,48271,rfl,rfl,.inr ⟨by decide,by decide⟩,_,12820163,rfl,rfl,_,2147483647,rfl,rfl,(by show (0:Int)<2147483647;decide),_,rfl,p,_,1,1,rfl,rfl,hp,rfl,?_⟩;have hp1:(upd H p (.lst ([V.int a,.int b].set 1 (.int ((b*48271+12820163) % 2147483647))))) p=some (.lst [.int a,.int ((b*48271+12820163) % 2147483647)]):=by rw[Zaa];rfl
   refine⟨_,rfl,p,_,1,.int ((b*48271+12820163) % 2147483647),rfl,rfl,SqL.of hp1,rfl,_,3,rfl,rfl,⟨by decide,by decide,?_⟩,_,2147483629,rfl,rfl,(by show (0:Int)<2147483629;decide),_,8,rfl,rfl,⟨by decide,by decide⟩,_,rfl,_,m,rfl,rfl,h0,?_⟩
   ·generalize (b*48271+12820163) % 2147483647=y at n0 n1
    (clear h1 h0 b1 b0;omega)
   ·exact k _ _ (YcA _ (by (clear n1 n0 h1 b1 b0;omega))) (Yb6 _ h0) ⟨_,_,hp1,n0,Int.lt_trans n1 (by decide)⟩ Sm.put
theorem scLevT:FnScope ["pot","p","most","levels"] ["pot","p","most"] (Zac ZfX):=⟨rfl,rfl,rfl,by decide +kernel,rfl,by decide +kernel,by decide +kernel⟩
theorem Zhq (K:Yae) {X:Cx} (hc:X.calm=true) (hK:X.K=K:=by rfl):ZbD X (.builtin "sum") (fun xs H Q=>∃ (a:Addr) (ns:List Int),xs=[.ref a]/\SqL K H a (ns.map V.int)/\Q (.int ns.sum) H):=by subst hK;exact Zcs hc
theorem Zl4 {f fA fB:Addr}{fd dA dB:FuncData} (F:Fun K "_law_level" "_law_level" ZfX f fd) (T:Txt mg) (CA:Cal P w K mg base 1 "_law_counts" ["p","n"] Zda fA dA) (CB:Cal P w K mg base 1 "_law_take" ["pot","many"] Zcu fB dB):FnOk P w K mg base CX0 2 f fd ["pot","p","most"] ZhT:=by
 refine F.ok scLevT (fun vs H Q E h=>?_) (fun cdv A outer s H vs Q E hr h=>?_)
 ·obtain⟨pl,p,m,rfl,_⟩:=h;rfl
 ·obtain⟨pl,p,m,rfl,hP,h1,h2,m1,m2,k⟩:=h;refine⟨_,Zal (ZcE (i:=3) scLevT.nd rfl rfl (own:=["n"]) (js:=[1,2]) (CompOk.by (sc:=Zac ZfX) (N:=["pot","p","most","levels"]) rfl rfl (by decide +kernel)) rfl (ZaI rfl T.range (Zab Zaf Zad)) Zak
    (fun _ _ _ _ _=>Zah (i:=0) (by show (["n","p","most"]:List Str).Nodup;decide +kernel) rfl (YaG rfl) (.inr rfl))
    (fun _ _ _ _ _=>ZcC (PW.pt (Zh5 (ZaP Zj7 (pv 0) Zaf (ZaV _)) (ZfZ (ZaP Zil (Zan (Zhq K rfl) rfl T.sum Zgl (Zab (Zao CA hr rfl (Zab (pv 1) (Zab (pv 0) Zad))) Zad)) (pv 2) (ZaV _)))))) (fun _ _ _ _ _=>pv 0))
   (Zaq (Zay (ZaR ZaA (pv 3) (Zao CB hr rfl (Zab (pv 0) (Zab (Zan ZaN rfl T.len Ybr (Zab (pv 3) Zad)) Zad))) (fun _ _=>rfl)))),?_⟩
  have t0:tot p 0<=m:=by
   have:tot p 0<=1:=ZkQ h1 h2 0
   (clear m2 h2 h1;omega)
  refine⟨40,rfl,by decide,by decide,?_⟩;rw[show (40:Int).toNat=40 by decide];refine Zbh (fun acc j H3=>Same H H3/\∃ ns:List Nat,(ns=[]->j=0)/\ns.length<=j/\(∀ x∈ns,x<24/\tot p x<=m)/\H3 acc=some (.lst ((ns.map fun x:Nat=>(x:Int)).map V.int))) (fun acc h0=>⟨Same.new h0,[],fun _=>rfl,Yak _,by simp,Zaa⟩) ?_ ?_
  ·rintro acc j H3 h0 hj ⟨s3,ns,hne,hlj,hns,hacc⟩;refine⟨_,rfl,_,24,rfl,rfl,_,rfl,?_⟩;have ej:(0:Int)+(j:Int)=(j:Int):=by (clear hlj hne hj t0 m2 m1 h2 h1;omega)
   refine ite2 (fun hc=>?_) (fun hc=>?_)
   ·have hj24:j<24:=by have:=of_decide_eq_true hc;(clear ej hlj hne hj t0 m2 m1 h2 h1;omega)
    refine⟨_,rfl,_,rfl,p,j,?_,h1,h2,by (clear hj24 ej hlj hne t0 m2 m1 h2 h1;omega),fun lc H4 e4 hlc s4=>?_⟩
    ·rw[ej];rfl
    refine⟨lc,cnt p j,rfl,SqL.of hlc,_,rfl,_,_,rfl,rfl,_,rfl,?_⟩;refine ite2 (fun hc2=>?_) (fun hc2=>?_)
    ·have ht:tot p j<=m:=of_decide_eq_true hc2;refine⟨_,rfl,_,s4 acc _ hacc,Zat (by simp;(clear ht hj24 ej hne t0 m2 m1 h2 h1;omega)),hj,(s3.trans s4).put h0,ns++[j],by simp,by simp;(clear ht hj24 ej hne hj t0 m2 m1 h2 h1;omega),?_,?_⟩
     ·intro x hx;rcases Yar.mp hx with h | h
      ·exact hns x h
      ·have:x=j:=by simpa using h
       subst this;exact⟨hj24,ht⟩
     ·rw[Zaa,ej];simp
    ·refine⟨hj,s3.trans s4,ns,fun z=>?_,by (clear hc2 hj24 ej hne hj t0 m2 m1 h2 h1;omega),hns,s4 acc _ hacc⟩;exfalso;have:=hne z;subst this;exact hc2 (decide_eq_true t0)
   ·refine iteF ⟨hj,s3,ns,fun z=>?_,by (clear hc ej hne hj t0 m2 m1 h2 h1;omega),hns,hacc⟩;exfalso;have:=hne z;subst this;exact hc (decide_eq_true (by decide))
  ·rintro l H3 h0 ⟨s3,ns,hne,hlj,hns,hl⟩;have hnn:ns≠[]:=fun z=>by have:=hne z;(clear hlj hne t0 m2 m1 h2 h1;omega)
   have hlp:l≠pl:=hP.ne h0;have hln:0<ns.length:=YeE.mpr hnn;refine⟨_,rfl,_,rfl,_,rfl,l,_,rfl,.inl (SqL.of hl),pl,_,rfl,hP.same s3,?_,?_,fun d H4 d0 d1 hP4 sm4=>?_⟩
   ·simp
    (clear hlp hlj hne t0 m2 m1 h2 h1;omega)
   ·refine ZcI (by (clear hln hlp hlj hne t0 m2 m1 h2 h1;omega)) ?_;simp
    (clear hln hlp hne t0 m2 m1 h2 h1;omega)
   have d1':d<(ns.length:Int):=by simpa using d1
   obtain⟨d,rfl⟩:∃ m:Nat,d=(m:Int):=⟨d.toNat,by (clear d1' d1 hln hlp hlj hne t0 m2 m1 h2 h1;omega)⟩
   have hd:d<ns.length:=by (clear d1 d0 hln hlp hlj hne t0 m2 m1 h2 h1;omega)
   refine⟨l,_,_,.int (ns[d]:Nat),rfl,rfl,SqL.of (sm4 l _ hl hlp),?_,?_⟩
   ·refine ZaO ?_;simp[hd]
   ·obtain⟨a1,a2⟩:=hns _ (YbY hd);exact k _ _ a1 a2 hP4 ((Sm.of s3).trans sm4)
end
end Fi58
namespace Fi58
open PySem L2 Lv
section
variable {P:Program}{w:World}{K:Yae}{mg:Str->Option Value}{base:Heap}
theorem ZjO:FnScope ["rows"] ["rows"] (Zac Zcx):=⟨rfl,rfl,rfl,by decide +kernel,rfl,by decide +kernel,by decide +kernel⟩
theorem Zin {f:Addr}{fd:FuncData} (F:Fun K "merged_row" "merged_row" Zcx f fd) (T:Txt mg):FnOk P w K mg base CX0 1 f fd ["rows"] Zek:=by
 refine F.ok ZjO (fun vs H Q E h=>?_) (fun cdv A outer s H vs Q E hr h=>?_)
 ·obtain⟨a,rs,N,rfl,_⟩:=h;rfl
 ·obtain⟨a,rs,N,rfl,hR,hT,k⟩:=h;refine⟨_,Zaq (Zay (Zan Zbv rfl T.sorted Zbp (Zab (Zj5 (own:=["row","thing"]) (js:=[]) (fr:=[1]) (CompOk.bare (by decide +kernel)) rfl (ZaQ (pv 0)) (Zdr (i:=0)) Zdq
    (fun _ _ _ _ _=>Zah (i:=0) (by show (["row","thing"]:List Str).Nodup;decide +kernel) rfl (YaG rfl) (.inr rfl)) (fun _ _ _ _ _=>Zav) (fun _ _ _ _ _=>ZcX K (pv 0))
    (fun _ _ _ _ _=>Zah (i:=1) (by show (["row","thing"]:List Str).Nodup;decide +kernel) rfl (YaG rfl) (.inr rfl)) (fun _ _ _ _ _=>Zav) (fun _ _ _ _ _=>pv 1)) Zad))),?_⟩
  obtain⟨b,hb⟩:=hR.top.both;refine⟨_,rfl,a,b,rfl,⟨_,hb K H (Same.refl _)⟩,?_⟩;refine Zd7 (xs:=rs.map V.ref) (fun acc i H2=>Same H H2/\H2 acc=some (.lst (((N.take i).flatten).map V.int))) (fun acc h0=>⟨Same.new h0,Zaa⟩) (fun acc i H2 h0 _ p=>hb K H2 p.1) ?_ ?_
  ·rintro acc i x H2 h0 hx ⟨s2,hacc⟩;have hi:=(Yab.mp hx).1
   obtain⟨r,xs,rfl,e1,e2,hrow⟩:=hR.get hx;obtain⟨b2,hb2⟩:=hrow.both;refine⟨_,rfl,r,b2,rfl,⟨_,hb2 K H2 s2⟩,?_⟩;refine ZiT (xs:=xs.map V.int) (fun j H3=>Same H H3/\H3 acc=some (.lst (((N.take i).flatten++xs.take j).map V.int))) ⟨s2,by simpa using hacc⟩ (fun j H3 _ p=>hb2 K H3 p.1) ?_ ?_
   ·rintro j y H3 hy ⟨s3,hac3⟩;obtain⟨z,hz,rfl⟩:=Zbr hy;have hj:=(Yab.mp hz).1
    have hle:=Zkz e2 (YaW hj);refine⟨_,rfl,_,hac3,Zcv (by rw[Yaa,Yan,YaL];(clear hj hi;omega)),by rw[Yaa];exact hj,s3.put h0,?_⟩;rw[Zaa,YaI,hz];simp
   ·rintro H3 ⟨s3,hac3⟩;refine⟨hi,s3,?_⟩;rw[hac3,Zfo e2,Yaa,Yaz]
  ·rintro acc H2 h0 ⟨s2,hacc⟩;rw[Yaa,hR.len,Yaz] at hacc;refine⟨acc,_,rfl,SqL.of hacc,fun l ms nl pm up=>?_⟩;have:=Zae hacc nl;exact k l ms _ (s2.free nl) Zaa pm up (s2.trans (Same.new nl))
end
end Fi58
namespace Fi58
open PySem L2 Lv
section
variable {P:Program}{w:World}{K:Yae}{mg:Str->Option Value}{base:Heap}
theorem ZjP:FnScope ["p"] ["p"] (Zac Zcy):=⟨rfl,rfl,rfl,by decide +kernel,rfl,by decide +kernel,by decide +kernel⟩
theorem Zio {f:Addr}{fd:FuncData} (F:Fun K "first_spreads" "first_spreads" Zcy f fd) (T:Txt mg):FnOk P w K mg base CX0 1 f fd ["p"] Zel:=by
 refine okW F ZjP (fun vs H Q E h=>?_) (fun cdv A outer s H vs Q E hr h=>?_)
 ·obtain⟨p,rfl,_⟩:=h;rfl
 ·obtain⟨p,rfl,h1,h2,k⟩:=h;refine⟨_,Zax (Zhv (Zmv ZbF (ZeT (Zgp rfl (ZjD ZkM ZkM) ZeU))
   (we (Zaz (own:=["reel"]) (js:=[]) (CompOk.bare (by decide +kernel)) rfl (ZaI rfl T.range (Zab (Zau Zcj (pv 0) Zaf) Zad)) Zak
    (fun _ _ _ _ _=>Zah (i:=0) (by show (["reel"]:List Str).Nodup;decide +kernel) rfl (YaG rfl) (.inr rfl)) (fun _ _ _ _ _=>Zav) (fun _ _ _ _ _=>Zey))))),?_⟩
  intro d hd;refine⟨Zaa,[(Ybq 0,.int 1)],rfl,by decide,(by show 1<=sizeLine;decide),fun l hl=>?_⟩;rw[Zlj] at hl ⊢;have r0:Rep (ZcN [] [(Ybq 0,.int 1)]) (cn [0]):=(Rep.nil.put (m:=0) (c:=1) (by decide)).congr fun m=>by
   rw[ZeP,Zfv];split <;> rfl
  generalize ZcN [] [(Ybq 0,V.int 1)]=kv at r0 hl ⊢;have s1:Same H (upd H d (.dK kv)):=Same.new hd;have e1:upd H d (.dK kv) d=some (.dK kv):=Zaa;generalize upd H d (.dK kv)=H1 at s1 e1 hl ⊢;have s2:Same H1 (upd H1 l (.lst [.ref d])):=Same.new hl;have e2:upd H1 l (.lst [.ref d]) l=some (.lst [.ref d]):=Zaa;generalize upd H1 l (.lst [.ref d])=H2 at s2 e2 ⊢;refine⟨_,rfl,_,_,rfl,rfl,(p:Int) - 1,rfl,by (clear h2 h1;omega),by (clear h1;omega),?_⟩;have en:((p:Int) - 1).toNat=p - 1:=by (clear h2 h1;omega)
  rw[en];refine Zbh (fun acc i H3=>∃ qs:List Addr,Same H2 H3/\H3 acc=some (.lst (qs.map V.ref))/\DDs H3 qs (Yaf i [])) (fun acc h0=>⟨[],Same.new h0,Zaa,DDs.nil⟩) ?_ ?_
  ·rintro acc i H3 h0 hi ⟨qs,s3,hacc,hq⟩;intro q hq0;have hne:q≠acc:=fun z=>by rw[z,hacc] at hq0;cases hq0
   refine⟨_,(Same.new hq0) acc _ hacc,Zat (by have:=hq.1;simp at this ⊢;(clear hne en h1;omega)),hi,qs++[q],?_,?_,?_⟩
   ·exact (s3.put (q:=q) (s3.free hq0)).put h0
   ·rw[Zaa];simp
   ·rw[Yey];have hq':DDs (upd (upd H3 q (.dK [])) acc (.lst (qs.map V.ref++[V.ref q]))) qs (Yaf i []):=⟨hq.1,fun j r xs a b=>by
     obtain⟨kvs,e,rr⟩:=hq.2 j r xs a b;have n1:r≠q:=Zae e hq0;have n2:r≠acc:=Ziw e hacc (fun z=>nomatch z);exact⟨kvs,by rw[upd_ne n2,upd_ne n1];exact e,rr⟩⟩
    exact hq'.snoc (kvs:=[]) (by rw[upd_ne hne,Zaa]) (Rep.nil.congr fun m=>by rw[Zfv])
  ·rintro acc H3 h0 ⟨qs,s3,hacc,hq⟩;have hql:=hq.1;rw[YaP] at hql;refine⟨l,acc,_,_,rfl,rfl,s3 l _ e2,hacc,?_,fun r hr=>?_⟩
   ·exact YaW (Zat (by simp;(clear en h1;omega)))
   have s4:Same H3 (upd H3 r (.lst ([V.ref d]++qs.map V.ref))):=Same.new hr;refine k r (d::qs) _ (s1.free (s2.free (s3.free hr))) (by rw[Zaa];rfl) ?_ (((s1.trans s2).trans s3).trans s4);exact (hq.same s4).cons (s4 _ _ (s3 _ _ (s2 _ _ e1))) r0
theorem ZnE:bootBuiltins "dict"=some (.type "dict"):=by decide +kernel
theorem scBothS:FnScope ["one","other","both","number","many"] ["one","other"] (Zac ZdU):=⟨rfl,rfl,rfl,by decide +kernel,rfl,by decide +kernel,by decide +kernel⟩
theorem Zkp {f:Addr}{fd:FuncData} (F:Fun K "both_spreads" "both_spreads" ZdU f fd) (T:Txt mg) (Td:mg "dict"=none):FnOk P w K mg base CX0 1 f fd ["one","other"] Zeo:=by
 refine F.ok scBothS (fun vs H Q E h=>?_) (fun cdv A outer s H vs Q E hr h=>?_)
 ·obtain⟨a,b,k1,k2,f,g,rfl,_⟩:=h;rfl
 ·obtain⟨a,b,k1,k2,f,g,rfl,ha,hb,r1,r2,f0,g0,fb,gb,k⟩:=h;have hu:=Zns hr;refine⟨_,Zal (Zar (i:=2) scBothS.nd rfl (YaG rfl) (ZaU Zgj rfl Td ZnE (Zab (pv 0) Zad)))
   (Zal (ZmZ (Za7 Ya4 rfl (ZgF (ZcY (pv 1))) (Zb2 rfl (Zas (Zah (i:=3) scBothS.nd rfl (YaG rfl)) (Zas (Zah (i:=4) scBothS.nd rfl (YaG rfl)) Za5)))
    (Zaq (Zh8 hu (pv 2) (pv 3) (Zau Zbb (ZgH hu (pv 2) (pv 3) Zaf ⟨rfl,rfl,rfl,rfl⟩) (pv 4)) rfl))))
   (Zaq (Zay (pv 2)))),?_⟩
  refine⟨_,rfl,a,k1,rfl,.inl ha,fun d hd=>?_⟩;have nbd:b≠d:=Zae hb hd;refine .inl ⟨b,k2,by rw[upd_ne nbd];exact hb,fun o=>?_⟩;refine⟨_,rfl,b,k2,rfl,.inr ⟨o,Zaa⟩,fun v hv=>⟨v,b,o,k2,rfl,Zaa,by rw[upd_ne (Zae Zaa hv)];exact Zaa,?_⟩⟩;have nvb:v≠b:=fun z=>by rw[z,Zaa] at hv;cases hv
  have hvH:H v=none:=by
   have:=hv;rw[upd_ne nvb] at this;exact (Same.new hd).free this
  have nvd:v≠d:=fun z=>by rw[z,upd_ne (Ybl nbd),Zaa] at hv;cases hv
  refine ZiZ (kvs:=k2) (fun i σ H2=>∃ (kvs:List (Key × V)) (o3 o4:Option V),σ=[some (.ref a),some (.ref b),some (.ref d),o3,o4]/\H2 b=some (.frz o (.dK k2))/\H2 d=some (.dK kvs)/\(∀ c u,H c=some u->c≠b->H2 c=some u) /\
   Rep kvs (fun m=>f m+tkn g ((k2.take i).map (·.1)) m)) ?_ (fun i σ H2 _ z=>by obtain⟨_,_,_,_,e,_⟩:=z;exact e) ?_ ?_
  ·refine⟨k1,none,none,rfl,?_,?_,fun c u hc nc=>?_,r1.congr fun m=>?_⟩
   ·rw[upd_ne (Ybl nvb),Zaa]
   ·rw[upd_ne (Ybl nvd),upd_ne (Ybl nbd),Zaa]
   ·rw[upd_ne (Zae hc hvH),upd_ne nc,upd_ne (Zae hc hd)];exact hc
   ·rw[Ybb,Yb8,ZhD,YdD]
  ·rintro i kk vv p σ H2 hi ⟨kvs,o3,o4,rfl,eb,ed,sm,rr⟩ hp;obtain⟨m,rfl,rfl,hz⟩:=r2.at (Yah hi);have npd:d≠p:=Zae ed hp;have hnot:=ZiJ r2.2.1 hi;refine⟨p,_,rfl,SqT.of Zaa,rfl,_,_,rfl,_,_,rfl,rfl,?_⟩;refine⟨_,rfl,d,rfl,.inl ⟨kvs,.inl (by rw[upd_ne npd];exact ed)⟩,_,rfl,_,DGet.k (k:=Ybq m) (by rw[upd_ne npd];exact ed),_,rfl,?_⟩;rw[rr.get m,Zed hnot,YdD];refine⟨_,_,rfl,rfl,_,rfl,_,rfl,d,_,rfl,DPut.k (k:=Ybq m) (by rw[upd_ne npd];exact ed) ?_,?_⟩
   ·have:=rr.len (B:=400) fun j hj=>by
     by_cases e:f j=0
     ·exact gb j fun z=>hj (by rw[e,Zgu z];rfl)
     ·exact fb j e
    exact Zat (by (clear hnot npd hz nvd nvb nbd hu;omega))
   ·refine⟨_,_,_,rfl,?_,Zaa,fun c u hc nc=>?_,(rr.put (m:=m) (c:=f m+g m) ?_).congr fun j=>?_⟩
    ·rw[upd_ne nbd,upd_ne (Zae eb hp)];exact eb
    ·rw[upd_ne (Zae hc hd),upd_ne (Zae (sm c u hc nc) hp)];exact sm c u hc nc
    ·have:=f0 m;have:=g0 m;(clear hnot npd nvd nvb nbd hu;omega)
    ·rw[Zfj hi,Zgv hnot];by_cases e:j=m
     ·rw[if_pos e,if_pos e,e]
     ·rw[if_neg e,if_neg e]
  ·rintro σ H2 ⟨kvs,o3,o4,rfl,eb,ed,sm,rr⟩;refine⟨eb,_,rfl,?_⟩;refine k d kvs _ hd (by rw[upd_ne (Ybl nbd)];exact ed) (rr.congr fun m=>?_) fun c u hc=>?_
   ·rw[Yaz,ZhE r2]
   ·by_cases e:c=b
    ·subst e;rw[Zaa,<- hb,hc]
    ·rw[upd_ne e];exact sm c u hc e
theorem scNextS:FnScope ["spreads","first"] ["spreads"] (Zac Zdc):=⟨rfl,rfl,rfl,by decide +kernel,rfl,by decide +kernel,by decide +kernel⟩
theorem cutT {r0:Addr}{rr:List Addr}:cutV ((r0::rr).map V.ref) (some 1) none=rr.map V.ref:=by
 unfold cutV;show (((r0::rr).map V.ref).drop (HT.sIx ((r0::rr).map V.ref).length 0 (some ((1:Nat):Int)))).take (HT.sIx ((r0::rr).map V.ref).length ((r0::rr).map V.ref).length none - HT.sIx ((r0::rr).map V.ref).length 0 (some ((1:Nat):Int)))=_;rw[HT.sIx_nat];rw[show min 1 ((r0::rr).map V.ref).length=1 by simp];show (rr.map V.ref).take (((r0::rr).map V.ref).length - 1)=_;rw[Ybk (by simp)]
theorem Zkj {f f1:Addr}{fd d1:FuncData} (F:Fun K "next_spreads" "next_spreads" Zdc f fd) (T:Txt mg) (CB:Cal P w K mg base 1 "both_spreads" ["one","other"] Zeo f1 d1):FnOk P w K mg base CX0 2 f fd ["spreads"] (Zei ZdC):=by
 refine okW F scNextS (fun vs H Q E h=>?_) (fun cdv A outer s H vs Q E hr h=>?_)
 ·obtain⟨a,rs,N,rfl,_⟩:=h;rfl
 ·obtain⟨a,rs,N,rfl,hA,hD,hN,hN7,hB,k⟩:=h;refine⟨_,Zag (Zhu (i:=1) scNextS.nd rfl (Yc2 rfl) (Zmw (we (Zj4 (own:=["number","many"]) (js:=[]) (CompOk.bare (by decide +kernel)) rfl (ZgF (ZcY (ZaR ZaA (pv 0) Zaf (fun _ _=>rfl)))) (ZbN (i:=0) (k:=1) (K:=K))
    (fun _ _ _ _ _=>Zdf K rfl (Zas (Zah (i:=0) (by show (["number","many"]:List Str).Nodup;decide +kernel) rfl (YaG rfl) (.inr rfl)) (Zas (Zah (i:=1) (by show (["number","many"]:List Str).Nodup;decide +kernel) rfl (YaG rfl) (.inr rfl)) Za5))) (fun _ _ _ _ _=>Zav)
    (fun _ _ _ _ _=>Zau Zbb (pv 0) Zaf) (fun _ _ _ _ _=>pv 1)))))
   (Zax (Zhv (Zmv ZbF (we (Zaz (own:=["spread"]) (js:=[1]) (CompOk.by (sc:=Zac Zdc) (N:=["spreads","first"]) rfl rfl (by decide +kernel)) rfl (Za4 (Zbz Zet (pv 0) (Za9 Zaf) Zb9)) Zak
    (fun _ _ _ _ _=>Zah (i:=0) (by show (["spread","first"]:List Str).Nodup;decide +kernel) rfl (YaG rfl) (.inr rfl)) (fun _ _ _ _ _=>Zav) (fun _ _ _ _ _=>Zao CB hr rfl (Zab (pv 1) (Zab (pv 0) Zad)))))
    (ZeT (Zgp rfl (we (pv 1)) ZeU))))),?_⟩
  obtain⟨x0,Nr,rfl⟩:∃ x0 Nr,N=x0::Nr:=by
   cases N with
   | nil=>simp at hN
   | cons x y=>exact⟨x,y,rfl⟩
  obtain⟨r0,rr,rfl⟩:∃ r0 rr,rs=r0::rr:=by
   cases rs with
   | nil=>have:=hD.1;simp at this
   | cons x y=>exact⟨x,y,rfl⟩
  obtain⟨k0,hr0,rp0⟩:=hD.2 0 r0 x0 rfl rfl;have nar:a≠r0:=Ziw hA hr0 (fun z=>nomatch z);refine .inl ⟨r0,k0,hr0,fun o=>?_⟩;refine⟨_,rfl,a,_,0,.ref r0,rfl,rfl,SqL.of (by rw[upd_ne nar];exact hA),ZaO (j:=0) rfl,r0,k0,rfl,.inr ⟨o,Zaa⟩,fun v hv=>⟨v,r0,o,k0,rfl,Zaa,by rw[upd_ne (Zae Zaa hv)];exact Zaa,?_⟩⟩;have nvr:v≠r0:=fun z=>by rw[z,Zaa] at hv;cases hv
  have hvH:H v=none:=by rw[upd_ne nvr] at hv;exact hv
  have hnn:∀ acc,upd (upd H r0 (.frz o (.dK k0))) v (VwI v r0) acc=none->acc≠r0/\H acc=none:=fun acc z=>by
   have n1:acc≠v:=fun y=>by rw[y,Zaa] at z;cases z
   rw[upd_ne n1] at z;have n2:acc≠r0:=fun y=>by rw[y,Zaa] at z;cases z
   rw[upd_ne n2] at z;exact⟨n2,z⟩
  refine Zgf (kvs:=k0) (fun acc i H2=>∃ kvs:List (Key × V),H2 acc=some (.dK kvs)/\H2 r0=some (.frz o (.dK k0))/\(∀ c u,H c=some u->c≠r0->H2 c=some u)/\Rep kvs (fun m=>tkn (cn x0) ((k0.take i).map (·.1)) (m - 1))) ?_ (fun acc i H2 h0 _ z=>by obtain⟨_,_,e,_⟩:=z;exact e) ?_ ?_
  ·intro acc h0;obtain⟨n2,hacc⟩:=hnn acc h0;refine⟨[],Zaa,?_,fun c u hc nc=>?_,Rep.nil.congr fun m=>?_⟩
   ·rw[upd_ne (Ybl n2),upd_ne (Ybl nvr),Zaa]
   ·rw[upd_ne (Zae hc hacc),upd_ne (Zae hc hvH),upd_ne nc];exact hc
   ·rw[Ybb,Yb8,ZhD]
  ·rintro acc i kk vv p H2 h0 hi ⟨kvs,ea,er,sm,rp⟩ hp;obtain⟨n2,hacc⟩:=hnn acc h0;obtain⟨m,rfl,rfl,hz⟩:=rp0.at (Yah hi);have hi':=(Yab.mp hi).1
   have hnot:=ZiJ rp0.2.1 hi;refine⟨p,_,rfl,SqT.of Zaa,rfl,_,_,rfl,_,_,rfl,rfl,?_⟩;refine⟨_,rfl,_,_,rfl,rfl,_,rfl,Ybq (m+1),kvs,rfl,by rw[upd_ne (Zae ea hp)];exact ea,?_,hi',_,Zaa,?_,fun c u hc nc=>?_,(rp.put (m:=m+1) (c:=cn x0 m) hz).congr fun j=>?_⟩
   ·have:=rp.len (B:=400) fun j hj=>by
     have h1:cn x0 (j - 1)≠0:=fun z=>hj (Zgu z);have:=hB x0 YaD _ (cn_ne.mp h1)
     (clear h1 hj hnot hi' hz n2 nvr nar hN7 hN;omega)
    exact Zat (by (clear hnot hi' hz n2 nvr nar hN7 hN;omega))
   ·rw[upd_ne (Ybl n2),upd_ne (Zae er hp)];exact er
   ·rw[upd_ne (Zae hc hacc),upd_ne (Zae (sm c u hc nc) hp)];exact sm c u hc nc
   ·rw[Zfj hi,Zgv hnot];by_cases e:j=m+1
    ·rw[if_pos e,if_pos (by (clear hnot hi' hz n2 nvr nar hN7 hN;omega))]
    ·rw[if_neg e,if_neg (by (clear hnot hi' hz n2 nvr nar hN7 hN;omega))]
  ·rintro acc H2 h0 ⟨k1,ea,er,sm,rp⟩;obtain⟨n2,hacc⟩:=hnn acc h0;have rp1:Rep k1 (cn (fstN (x0::Nr))):=rp.congr fun m=>by
    rw[Yaz,ZhE rp0,fstN,YdQ,ZgV]
   refine⟨er,?_⟩;have s1:Same H (upd H2 r0 (.dK k0)):=fun c u hc=>by
    by_cases e:c=r0
    ·subst e;rw[Zaa,<- hr0,hc]
    ·rw[upd_ne e];exact sm c u hc e
   have e1:upd H2 r0 (.dK k0) acc=some (.dK k1):=by rw[upd_ne n2];exact ea
   generalize upd H2 r0 (.dK k0)=H3 at s1 e1 ⊢;have hD3:=(hD.same s1).tail;refine⟨_,rfl,1,rfl,a,_,rfl,SqL.of (s1 a _ hA),fun p1 hp1=>⟨p1,rfl,⟨_,SqL.of Zaa⟩,?_⟩⟩;rw[cutT];have s2:Same H3 (upd H3 p1 (.lst (rr.map V.ref))):=Same.new hp1;have e2:upd H3 p1 (.lst (rr.map V.ref)) p1=some (.lst (rr.map V.ref)):=Zaa;generalize upd H3 p1 (.lst (rr.map V.ref))=H4 at s2 e2 ⊢;have hrl:=hD3.1;have hNr:Nr.length<=6:=by simpa using hN7
   refine Zbt (xs:=rr.map V.ref) (fun acc2 i H5=>∃ qs:List Addr,Same H4 H5/\H5 acc2=some (.lst (qs.map V.ref))/\(∀ q∈qs,q≠acc2)/\DDs H5 qs ((Nr.take i).map (fstN (x0::Nr)++·))) (fun acc2 h2=>⟨[],Same.new h2,Zaa,(fun q hq=>nomatch hq),DDs.nil⟩) (fun acc2 i H5 h2 _ z=>by obtain⟨_,sz,_⟩:=z;exact SqL.of (sz _ _ e2)) ?_ ?_
   ·rintro acc2 i x H5 h2 hx ⟨qs,s5,e5,ne5,hq5⟩;obtain⟨r,hr',rfl⟩:=Zam hx;have hi:=(Yab.mp hr').1
    obtain⟨xs,k2,hxs,hk2,rp2⟩:=(hD3.same (s2.trans s5)).at hr';refine⟨_,rfl,_,rfl,acc,r,k1,k2,cn (fstN (x0::Nr)),cn xs,rfl,s5 _ _ (s2 _ _ e1),hk2,rp1,rp2,Zfu _,Zfu _,fun m hm=>?_,fun m hm=>?_,fun l kvs H6 hl6 e6 rp6 s6=>?_⟩
    ·rw[fstN,YdQ,ZgV] at hm;have:=hB x0 YaD _ (cn_ne.mp hm)
     (clear hm hi hNr hrl n2 nvr nar hN7 hN;omega)
    ·have:=hB xs (YaC _ (Yah hxs)) _ (cn_ne.mp hm)
     (clear hm hi hNr hrl n2 nvr nar hN7 hN;omega)
    ·have nla:l≠acc2:=fun z=>by rw[z,e5] at hl6;cases hl6
     refine⟨_,s6 _ _ e5,Zat (by have:=hq5.1;simp at this ⊢;(clear nla hi hrl n2 nvr nar hN7 hN;omega)),by rw[Yaa];exact hi,qs++[l],(s5.trans s6).put h2,by rw[Zaa];simp,fun q hq=>?_,?_⟩
     ·rcases Yar.mp hq with z | z
      ·exact ne5 q z
      ·rw[YaN.mp z];exact nla
     ·rw[YaI,hxs];have hq6:DDs (upd H6 acc2 (.lst (qs.map V.ref++[V.ref l]))) qs ((Nr.take i).map (fstN (x0::Nr)++·)):=⟨hq5.1,fun j q ys a b=>by
       obtain⟨kv,e,rr⟩:=hq5.2 j q ys a b;exact⟨kv,by rw[upd_ne (ne5 q (Yah a))];exact s6 _ _ e,rr⟩⟩
      rw[YaM];exact hq6.snoc (by rw[upd_ne nla];exact e6) (rp6.congr fun m=>by rw[Zfw])
   ·rintro acc2 H5 h2 ⟨qs,s5,e5,ne5,hq5⟩;have e5a:=s5 _ _ (s2 _ _ e1);have ql:=hq5.1;rw[Yaa,Yaa,hrl,Yaz] at ql;refine⟨_,rfl,(by show 1<=sizeLine;decide),fun p2 hp2=>?_⟩;have s6:Same H5 (upd H5 p2 (.lst [V.ref acc])):=Same.new hp2;refine⟨acc2,p2,_,_,rfl,rfl,s6 _ _ e5,Zaa,?_,fun p3 hp3=>?_⟩
    ·exact YaW (Zat (by simp;(clear hrl n2 nvr nar hN7 hN;omega)))
    have s7:=s6.trans (Same.new (o:=.lst (qs.map V.ref++[V.ref acc])) hp3);have sAll:=((s1.trans s2).trans s5).trans s7;refine k p3 (qs++[acc]) _ (((s1.trans s2).trans s5).trans s6 |>.free hp3) (by rw[Zaa];simp) ?_ sAll;rw[Yaa,hrl,Yaz] at hq5;exact (hq5.same s7).snoc (s7 _ _ e5a) rp1
theorem scOverS:FnScope ["spreads","spread","on_reel"] ["spreads"] (Zac ZdQ):=⟨rfl,rfl,rfl,by decide +kernel,rfl,by decide +kernel,by decide +kernel⟩
theorem Zkg {f f1:Addr}{fd d1:FuncData} (F:Fun K "spread_over" "spread_over" ZdQ f fd) (T:Txt mg) (CB:Cal P w K mg base 1 "both_spreads" ["one","other"] Zeo f1 d1):FnOk P w K mg base CX0 2 f fd ["spreads"] ZfN:=by
 refine okW F scOverS (fun vs H Q E h=>?_) (fun cdv A outer s H vs Q E hr h=>?_)
 ·obtain⟨a,rs,N,rfl,_⟩:=h;rfl
 ·obtain⟨a,rs,N,rfl,hA,hD,hN7,hB,k⟩:=h;refine⟨_,Zag (Zhu (i:=1) scOverS.nd rfl (YaG rfl) (we Zey))
   (Zag (ws (Za7 Ya4 rfl (Za4 (pv 0)) (Zah (i:=2) scOverS.nd rfl (YaG rfl)) (Zaq (Zar (i:=1) scOverS.nd rfl (YaG rfl) (Zao CB hr rfl (Zab (pv 1) (Zab (pv 2) Zad)))))))
   (Zax (Zhv (we (ZaU ZaE rfl T.tuple ZbR (Zab (Zan (Zd9 rfl) rfl T.sorted Zbp (Zab (ZcY (pv 1)) Zad)) Zad)))))),?_⟩
  intro d hd;have s1:Same H (upd H d (.dK [])):=Same.new hd;have e1:upd H d (.dK []) d=some (.dK []):=Zaa;generalize upd H d (.dK [])=H1 at s1 e1 ⊢;refine⟨_,rfl,a,rfl,⟨_,SqL.of (s1 _ _ hA)⟩,ZbB (xs:=rs.map V.ref) (fun i σ H2=>∃ (d:Addr) (kvs:List (Key × V)) (o2:Option V),σ=[some (.ref a),some (.ref d),o2]/\H2 d=some (.dK kvs)/\Rep kvs (cn (N.take i).flatten)/\Same H H2)
   ⟨d,[],none,rfl,e1,Rep.nil.congr fun m=>by rw[Ybb,Ye0,Zfv],s1⟩ (fun i σ H2 _ z=>by obtain⟨_,_,_,_,_,_,sz⟩:=z;exact SqL.of (sz _ _ hA)) ?_ ?_⟩
  ·rintro i x σ H2 hx ⟨d,kvs,o2,rfl,e2,rp,s2⟩;obtain⟨r,hr',rfl⟩:=Zam hx;obtain⟨xs,k2,hxs,hk2,rp2⟩:=(hD.same s2).at hr';refine⟨_,rfl,_,rfl,d,r,kvs,k2,_,_,rfl,e2,hk2,rp,rp2,Zfu _,Zfu _,?_,?_,fun l kv H6 hl6 e6 rp6 s6=>?_⟩
   ·exact fun m hm=>Zjw (N:=N.take i) (fun ys hy=>hB ys (Ybe hy)) m hm
   ·exact fun m hm=>hB xs (Yah hxs) m (cn_ne.mp hm)
   ·refine⟨l,kv,_,rfl,e6,rp6.congr fun m=>?_,s2.trans s6⟩;rw[YaI,hxs,Ybo,Zfw];simp
  ·rintro σ H2 ⟨d,kvs,o2,rfl,e2,rp,s2⟩;rw[Yaa,hD.1,Yaz] at rp;refine⟨_,rfl,d,kvs,rfl,.inl e2,fun v hv=>⟨v,d,kvs.map Lv.dec,rfl,Zaa,.inl ?_,fun l qs ms H3 hl hq hp hs e3 ht s3=>?_⟩⟩
   ·rw[upd_ne (Zae e2 hv),e2];exact congrArg (fun z=>some (HO.dK z)) rp.dec
   ·have s4:Same H2 H3:=(Same.new hv).trans s3;refine⟨l,_,rfl,.inl ⟨SqL.of e3,fun l2 hl2=>?_⟩⟩;have s5:=s4.trans (Same.new (o:=.tup (qs.map V.ref)) hl2);refine k l2 qs ms _ (s2.free (s4.free hl2)) Zaa (TTs.same ht (Same.new hl2)) (ZkU rp hp hs) (s2.trans s5)
theorem scAfterS:FnScope ["p","n","following","spreads","level"] ["p","n","following"] (Zac ZcB):=⟨rfl,rfl,rfl,by decide +kernel,rfl,by decide +kernel,by decide +kernel⟩
theorem Zir {f f1 f2 f3:Addr}{fd d1 d2 d3:FuncData}{y:Str}{S:Nat->Nat->List (List Int)}{nx:List (List Int)->List (List Int)}{top:Nat} (htop:top<=300) (S0:∀ p,S p 0=num0 p) (S1:∀ p n,S p (n+1)=nx (S p n)) (SB:∀ p n:Nat,2<=p->Bd n (S p n)) (SL:∀ p n:Nat,2<=p->(S p n).length=p)
  (F:Fun K "spread_after" "spread_after" ZcB f fd) (T:Txt mg) (CF:Cal P w K mg base 1 "first_spreads" ["p"] Zel f1 d1) (CN:Cal P w K mg base 2 y ["spreads"] (Zei nx) f2 d2) (CO:Cal P w K mg base 2 "spread_over" ["spreads"] ZfN f3 d3):FnOk P w K mg base CX0 3 f fd ["p","n","following"] (Zep f2 S):=by
 refine F.ok scAfterS (fun vs H Q E h=>?_) (fun cdv A outer s H vs Q E hr h=>?_)
 ·obtain⟨p,n,rfl,_⟩:=h;rfl
 ·obtain⟨p,n,rfl,h1,h2,h3,k⟩:=h;have hr1:Room 1 _:=hr.mono (by decide);refine⟨_,Zal (Zar (i:=3) scAfterS.nd rfl (YaG rfl) (Zao CF hr1 rfl (Zab (pv 0) Zad)))
   (Zal (Za7 Ya4 rfl (ZaI rfl T.range (Zab (pv 1) Zad)) (Zah (i:=4) scAfterS.nd rfl (YaG rfl)) (Zaq (Zar (i:=3) scAfterS.nd rfl (YaG rfl) (Zii 2 CN hr (Zab (pv 3) Zad)))))
   (Zaq (Zay (Zao CO hr rfl (Zab (pv 3) Zad))))),?_⟩
  refine⟨_,rfl,p,rfl,h1,h2,fun l qs H1 hl0 hl1 hq1 s1=>?_⟩;refine⟨_,rfl,n,rfl,by (clear h3 h2 h1 htop;omega),by (clear h2 h1 htop;omega),Zbl (fun i σ H2=>∃ (l:Addr) (qs:List Addr) (o:Option V),σ=[some (.int p),some (.int n),some (.ref f2),some (.ref l),o]/\H l=none/\H2 l=some (.lst (qs.map V.ref))/\DDs H2 qs (S p i)/\Same H H2)
   ⟨l,qs,none,rfl,hl0,hl1,by rw[S0];exact hq1,s1⟩ ?_ ?_⟩
  ·rintro i σ H2 hi ⟨l,qs,o,rfl,hl0,hl2,hq,s2⟩;have hlen:=SL p i h1;refine⟨rfl,_,rfl,l,qs,S p i,rfl,hl2,hq,by (clear hi h3 h2 htop;omega),by (clear hi h3 h1 htop;omega),(SB p i h1).mono (by (clear hlen h2 h1 htop;omega)),fun l3 qs3 H3 h30 h3 hq3 s3=>?_⟩;exact⟨l3,qs3,_,rfl,s2.free h30,h3,by rw[S1];exact hq3,s2.trans s3⟩
  ·rintro σ H2 ⟨l,qs,o,rfl,hl0,hl2,hq,s2⟩;have en:((n:Int)).toNat=n:=by (clear h3 h2 h1 htop;omega)
   rw[en] at hq;have hlen:=SL p n h1;refine⟨_,rfl,l,qs,S p n,rfl,hl2,hq,by (clear en h3 h1 htop;omega),(SB p n h1).mono (by (clear hlen en h2 h1 htop;omega)),fun l3 qs3 L H3 h30 h3 ht sp s3=>?_⟩;exact k l3 qs3 L H3 (s2.free h30) h3 ht sp (s2.trans s3)
theorem ZmV:FnScope ["p","n"] ["p","n"] (Zac Zg9):=⟨rfl,rfl,rfl,by decide +kernel,rfl,by decide +kernel,by decide +kernel⟩
theorem ZlY {f f1 f2 f3 f4:Addr}{fd d1 d2 d3 d4:FuncData} (F:Fun K "spread_of" "spread_of" Zg9 f fd) (T:Txt mg) (CW:Cal P w K mg base 2 "check_ways" ["p"] ZdK f1 d1) (CL:CalD P w K mg base 2 "check_level" ["n","last"] [.int 300] Zcg f2 d2) (CN:Cal P w K mg base 2 "next_spreads" ["spreads"] (Zei ZdC) f3 d3) (CA:Cal P w K mg base 3 "spread_after" ["p","n","following"] (Zep f3 num) f4 d4):FnOk P w K mg base CX0 4 f fd ["p","n"] (ZhP num 300):=by
 refine F.ok ZmV (fun vs H Q E h=>?_) (fun cdv A outer s H vs Q E hr h=>?_)
 ·obtain⟨p,n,rfl,_⟩:=h;rfl
 ·obtain⟨p,n,rfl,h1,h2,h3,k⟩:=h;have hr2:Room 2 _:=hr.mono (by decide);refine⟨_,Zal (Za3 (Zao CW hr2 rfl (Zab (pv 0) Zad))) (Zal (Za3 (Zf3 CL hr2 rfl (Zab (pv 1) Zad)))
   (Zaq (Zay (Zao CA hr rfl (Zab (pv 0) (Zab (pv 1) (Zab (Zk4 CN rfl) Zad))))))),?_⟩
  refine⟨_,rfl,(p:Int),rfl,by (clear h3 h2;omega),by (clear h3 h1;omega),?_⟩;refine⟨_,rfl,(n:Int),300,rfl,by (clear h3 h2 h1;omega),by (clear h2 h1;omega),?_⟩;exact⟨_,rfl,_,rfl,p,n,rfl,h1,h2,h3,k⟩
end
end Fi58
namespace Fi58
open PySem L2 Lv
theorem len1 {P:List Value->Prop} (us:List Value) (hl:us.length=1) (h:∀ a0:Value,P [a0]):P us:=by
 match us,hl with
 | [a0],_=>exact h a0
theorem len2 {P:List Value->Prop} (us:List Value) (hl:us.length=2) (h:∀ a0 a1:Value,P [a0,a1]):P us:=by
 match us,hl with
 | [a0,a1],_=>exact h a0 a1
theorem len3 {P:List Value->Prop} (us:List Value) (hl:us.length=3) (h:∀ a0 a1 a2:Value,P [a0,a1,a2]):P us:=by
 match us,hl with
 | [a0,a1,a2],_=>exact h a0 a1 a2
theorem len5 {P:List Value->Prop} (us:List Value) (hl:us.length=5) (h:∀ a0 a1 a2 a3 a4:Value,P [a0,a1,a2,a3,a4]):P us:=by
 match us,hl with
 | [a0,a1,a2,a3,a4],_=>exact h a0 a1 a2 a3 a4
theorem all_mk {l:Ydz}{w:World}{K:Yae}{h:Heap}{mg:Str->Option Value}{fa f0 f1 f2 f3 f4 f5 f6 f7 f8 f9 f10 f11 f12 f13 f14 f15 f16 f17 f18 f19 f20 f21 f22 f23 f24 f25 f26 f27 f28 f29 f30 f31 f32 f33 f34 f35 f36 f37 f38 f39 f40 f41 f42:Addr}{tk0 tk1 tk2:Tok} (X:K.In h) (G:h.Ns mainGlobals mg) (hfa:mg "law"=some (.ref fa))
  {od0 an0 od1 an1 od2 an2 od3 an3 od4 an4 od5 an5 od6 an6 od7 an7 od8 an8 od9 an9 od10 an10 od11 an11 od12 an12 od13 an13 od14 an14 od15 an15 od16 an16 od17 an17 od18 an18 od19 an19 od20 an20 od21 an21 od22 an22 od23 an23 od24 an24 od25 an25 od26 an26 od27 an27 od28 an28 od29 an29 od30 an30 od31 an31 od32 an32 od33 an33 od34 an34 od35 an35 od36 an36 od37 an37 od38 an38 od39 an39 od40 an40 od41 an41 od42 an42:Option Addr}{sl0 sl1 sl2 sl3 sl4 sl5 sl6 sl7 sl8 sl9 sl10 sl11 sl12 sl13 sl14 sl15 sl16 sl17 sl18 sl19 sl20 sl21 sl22 sl23 sl24 sl25 sl26 sl27 sl28 sl29 sl30 sl31 sl32 sl33 sl34 sl35 sl36 sl37 sl38 sl39 sl40 sl41 sl42:Array (Option Value)}{oc0 kV0 dc0 pm0 cd0 ct0 oc1 kV1 dc1 pm1 cd1 ct1 oc2 kV2 dc2 pm2 cd2 ct2 oc3 kV3 dc3 pm3 cd3 ct3 oc4 kV4 dc4 pm4 cd4 ct4 oc5 kV5 dc5 pm5 cd5 ct5 oc6 kV6 dc6 pm6 cd6 ct6 oc7 kV7 dc7 pm7 cd7 ct7 oc8 kV8 dc8 pm8 cd8 ct8 oc9 kV9 dc9 pm9 cd9 ct9 oc10 kV10 dc10 pm10 cd10 ct10 oc11 kV11 dc11 pm11 cd11 ct11 oc12 kV12 dc12 pm12 cd12 ct12 oc13 kV13 dc13 pm13 cd13 ct13 oc14 kV14 dc14 pm14 cd14 ct14 oc15 kV15 dc15 pm15 cd15 ct15 oc16 kV16 dc16 pm16 cd16 ct16 oc17 kV17 dc17 pm17 cd17 ct17 oc18 kV18 dc18 pm18 cd18 ct18 oc19 kV19 dc19 pm19 cd19 ct19 oc20 kV20 dc20 pm20 cd20 ct20 oc21 kV21 dc21 pm21 cd21 ct21 oc22 kV22 dc22 pm22 cd22 ct22 oc23 kV23 dc23 pm23 cd23 ct23 oc24 kV24 dc24 pm24 cd24 ct24 oc25 kV25 dc25 pm25 cd25 ct25 oc26 kV26 dc26 pm26 cd26 ct26 oc27 kV27 dc27 pm27 cd27 ct27 oc28 kV28 dc28 pm28 cd28 ct28 oc29 kV29 dc29 pm29 cd29 ct29 oc30 kV30 dc30 pm30 cd30 ct30 oc31 kV31 dc31 pm31 cd31 ct31 oc32 kV32 dc32 pm32 cd32 ct32 oc33 kV33 dc33 pm33 cd33 ct33 oc34 kV34 dc34 pm34 cd34 ct34 oc35 kV35 dc35 pm35 cd35 ct35 oc36 kV36 dc36 pm36 cd36 ct36 oc37 kV37 dc37 pm37 cd37 ct37 oc38 kV38 dc38 pm38 cd38 ct38 oc39 kV39 dc39 pm39 cd39 ct39 oc40 kV40 dc40 pm40 cd40 ct40 oc41 kV41 dc41 pm41 cd41 ct41 oc42 kV42 dc42 pm42 cd42 ct42:Value}
  {da2:Addr}{doc2:Value}{dod2:Option Addr}{dn2:Nat}{dsl2:Array (Option Value)}{dt2_0:Tok}
  (a0:Yas K mainGlobals "is_whole"=some (some (.ref f0))) (l0:K.lookup f0=some ⟨oc0,od0,.func (Yaw "is_whole" "is_whole" (Zaj ZdN) (Zai ZdN) (Zac ZdN) .none kV0 dc0 pm0 an0 cd0 ct0),sl0⟩) (c0:Yat K cd0 "is_whole"=true) (k0:Yaq K (.ref f0)=true)
  (a1:Yas K mainGlobals "check_ways"=some (some (.ref f1))) (l1:K.lookup f1=some ⟨oc1,od1,.func (Yaw "check_ways" "check_ways" (Zaj Zg7) (Zai Zg7) (Zac Zg7) .none kV1 dc1 pm1 an1 cd1 ct1),sl1⟩) (c1:Yat K cd1 "check_ways"=true) (k1:Yaq K (.ref f1)=true)
  (a2:Yas K mainGlobals "check_level"=some (some (.ref f2))) (l2:K.lookup f2=some ⟨oc2,od2,.func (Yaw "check_level" "check_level" (Zaj ZdS) (Zai ZdS) (Zac ZdS) (.ref da2) kV2 dc2 pm2 an2 cd2 ct2),sl2⟩) (c2:Yat K cd2 "check_level"=true) (k2:Yaq K (.ref f2)=true)
  (d2:K.lookup da2=some ⟨doc2,dod2,.seq #[.int 300 dt2_0] dn2,dsl2⟩)
  (a3:Yas K mainGlobals "first_counts"=some (some (.ref f3))) (l3:K.lookup f3=some ⟨oc3,od3,.func (Yaw "first_counts" "first_counts" (Zaj ZdT) (Zai ZdT) (Zac ZdT) .none kV3 dc3 pm3 an3 cd3 ct3),sl3⟩) (c3:Yat K cd3 "first_counts"=true) (k3:Yaq K (.ref f3)=true)
  (a4:Yas K mainGlobals "next_counts"=some (some (.ref f4))) (l4:K.lookup f4=some ⟨oc4,od4,.func (Yaw "next_counts" "next_counts" (Zaj ZfW) (Zai ZfW) (Zac ZfW) .none kV4 dc4 pm4 an4 cd4 ct4),sl4⟩) (c4:Yat K cd4 "next_counts"=true) (k4:Yaq K (.ref f4)=true)
  (a5:Yas K mainGlobals "level_counts"=some (some (.ref f5))) (l5:K.lookup f5=some ⟨oc5,od5,.func (Yaw "level_counts" "level_counts" (Zaj ZcA) (Zai ZcA) (Zac ZcA) .none kV5 dc5 pm5 an5 cd5 ct5),sl5⟩) (c5:Yat K cd5 "level_counts"=true) (k5:Yaq K (.ref f5)=true)
  (a6:Yas K mainGlobals "level_total"=some (some (.ref f6))) (l6:K.lookup f6=some ⟨oc6,od6,.func (Yaw "level_total" "level_total" (Zaj ZdO) (Zai ZdO) (Zac ZdO) .none kV6 dc6 pm6 an6 cd6 ct6),sl6⟩) (c6:Yat K cd6 "level_total"=true) (k6:Yaq K (.ref f6)=true)
  (a7:Yas K mainGlobals "check_total"=some (some (.ref f7))) (l7:K.lookup f7=some ⟨oc7,od7,.func (Yaw "check_total" "check_total" (Zaj sTot) (Zai sTot) (Zac sTot) .none kV7 dc7 pm7 an7 cd7 ct7),sl7⟩) (c7:Yat K cd7 "check_total"=true) (k7:Yaq K (.ref f7)=true)
  (a8:Yas K mainGlobals "check_places"=some (some (.ref f8))) (l8:K.lookup f8=some ⟨oc8,od8,.func (Yaw "check_places" "check_places" (Zaj Zcw) (Zai Zcw) (Zac Zcw) .none kV8 dc8 pm8 an8 cd8 ct8),sl8⟩) (c8:Yat K cd8 "check_places"=true) (k8:Yaq K (.ref f8)=true)
  (a9:Yas K mainGlobals "first_numbers"=some (some (.ref f9))) (l9:K.lookup f9=some ⟨oc9,od9,.func (Yaw "first_numbers" "first_numbers" (Zaj Zcz) (Zai Zcz) (Zac Zcz) .none kV9 dc9 pm9 an9 cd9 ct9),sl9⟩) (c9:Yat K cd9 "first_numbers"=true) (k9:Yaq K (.ref f9)=true)
  (a10:Yas K mainGlobals "next_numbers"=some (some (.ref f10))) (l10:K.lookup f10=some ⟨oc10,od10,.func (Yaw "next_numbers" "next_numbers" (Zaj ZcL) (Zai ZcL) (Zac ZcL) .none kV10 dc10 pm10 an10 cd10 ct10),sl10⟩) (c10:Yat K cd10 "next_numbers"=true) (k10:Yaq K (.ref f10)=true)
  (a11:Yas K mainGlobals "numbers_after"=some (some (.ref f11))) (l11:K.lookup f11=some ⟨oc11,od11,.func (Yaw "numbers_after" "numbers_after" (Zaj ZdV) (Zai ZdV) (Zac ZdV) .none kV11 dc11 pm11 an11 cd11 ct11),sl11⟩) (c11:Yat K cd11 "numbers_after"=true) (k11:Yaq K (.ref f11)=true)
  (a12:Yas K mainGlobals "numbers_of"=some (some (.ref f12))) (l12:K.lookup f12=some ⟨oc12,od12,.func (Yaw "numbers_of" "numbers_of" (Zaj ZdR) (Zai ZdR) (Zac ZdR) .none kV12 dc12 pm12 an12 cd12 ct12),sl12⟩) (c12:Yat K cd12 "numbers_of"=true) (k12:Yaq K (.ref f12)=true)
  (a13:Yas K mainGlobals "level_numbers"=some (some (.ref f13))) (l13:K.lookup f13=some ⟨oc13,od13,.func (Yaw "level_numbers" "level_numbers" (Zaj sLN) (Zai sLN) (Zac sLN) .none kV13 dc13 pm13 an13 cd13 ct13),sl13⟩) (c13:Yat K cd13 "level_numbers"=true) (k13:Yaq K (.ref f13)=true)
  (a14:Yas K mainGlobals "merged_row"=some (some (.ref f14))) (l14:K.lookup f14=some ⟨oc14,od14,.func (Yaw "merged_row" "merged_row" (Zaj Zcx) (Zai Zcx) (Zac Zcx) .none kV14 dc14 pm14 an14 cd14 ct14),sl14⟩) (c14:Yat K cd14 "merged_row"=true) (k14:Yaq K (.ref f14)=true)
  (a15:Yas K mainGlobals "things_in"=some (some (.ref f15))) (l15:K.lookup f15=some ⟨oc15,od15,.func (Yaw "things_in" "things_in" (Zaj ZfU) (Zai ZfU) (Zac ZfU) .none kV15 dc15 pm15 an15 cd15 ct15),sl15⟩) (c15:Yat K cd15 "things_in"=true) (k15:Yaq K (.ref f15)=true)
  (a16:Yas K mainGlobals "taken_at"=some (some (.ref f16))) (l16:K.lookup f16=some ⟨oc16,od16,.func (Yaw "taken_at" "taken_at" (Zaj ZfT) (Zai ZfT) (Zac ZfT) .none kV16 dc16 pm16 an16 cd16 ct16),sl16⟩) (c16:Yat K cd16 "taken_at"=true) (k16:Yaq K (.ref f16)=true)
  (a17:Yas K mainGlobals "level_phases"=some (some (.ref f17))) (l17:K.lookup f17=some ⟨oc17,od17,.func (Yaw "level_phases" "level_phases" (Zaj sLPh) (Zai sLPh) (Zac sLPh) .none kV17 dc17 pm17 an17 cd17 ct17),sl17⟩) (c17:Yat K cd17 "level_phases"=true) (k17:Yaq K (.ref f17)=true)
  (a18:Yas K mainGlobals "next_turned"=some (some (.ref f18))) (l18:K.lookup f18=some ⟨oc18,od18,.func (Yaw "next_turned" "next_turned" (Zaj ZcK) (Zai ZcK) (Zac ZcK) .none kV18 dc18 pm18 an18 cd18 ct18),sl18⟩) (c18:Yat K cd18 "next_turned"=true) (k18:Yaq K (.ref f18)=true)
  (a19:Yas K mainGlobals "turned_numbers"=some (some (.ref f19))) (l19:K.lookup f19=some ⟨oc19,od19,.func (Yaw "turned_numbers" "turned_numbers" (Zaj ZfV) (Zai ZfV) (Zac ZfV) .none kV19 dc19 pm19 an19 cd19 ct19),sl19⟩) (c19:Yat K cd19 "turned_numbers"=true) (k19:Yaq K (.ref f19)=true)
  (a20:Yas K mainGlobals "turned_ups"=some (some (.ref f20))) (l20:K.lookup f20=some ⟨oc20,od20,.func (Yaw "turned_ups" "turned_ups" (Zaj Zg8) (Zai Zg8) (Zac Zg8) .none kV20 dc20 pm20 an20 cd20 ct20),sl20⟩) (c20:Yat K cd20 "turned_ups"=true) (k20:Yaq K (.ref f20)=true)
  (a21:Yas K mainGlobals "level_with"=some (some (.ref f21))) (l21:K.lookup f21=some ⟨oc21,od21,.func (Yaw "level_with" "level_with" (Zaj sLW) (Zai sLW) (Zac sLW) .none kV21 dc21 pm21 an21 cd21 ct21),sl21⟩) (c21:Yat K cd21 "level_with"=true) (k21:Yaq K (.ref f21)=true)
  (a22:Yas K mainGlobals "copied_turned"=some (some (.ref f22))) (l22:K.lookup f22=some ⟨oc22,od22,.func (Yaw "copied_turned" "copied_turned" (Zaj Zhb) (Zai Zhb) (Zac Zhb) .none kV22 dc22 pm22 an22 cd22 ct22),sl22⟩) (c22:Yat K cd22 "copied_turned"=true) (k22:Yaq K (.ref f22)=true)
  (a23:Yas K mainGlobals "merged_turned"=some (some (.ref f23))) (l23:K.lookup f23=some ⟨oc23,od23,.func (Yaw "merged_turned" "merged_turned" (Zaj Zeu) (Zai Zeu) (Zac Zeu) .none kV23 dc23 pm23 an23 cd23 ct23),sl23⟩) (c23:Yat K cd23 "merged_turned"=true) (k23:Yaq K (.ref f23)=true)
  (a24:Yas K mainGlobals "things_turned"=some (some (.ref f24))) (l24:K.lookup f24=some ⟨oc24,od24,.func (Yaw "things_turned" "things_turned" (Zaj sThT) (Zai sThT) (Zac sThT) .none kV24 dc24 pm24 an24 cd24 ct24),sl24⟩) (c24:Yat K cd24 "things_turned"=true) (k24:Yaq K (.ref f24)=true)
  (a25:Yas K mainGlobals "turned_phase"=some (some (.ref f25))) (l25:K.lookup f25=some ⟨oc25,od25,.func (Yaw "turned_phase" "turned_phase" (Zaj sPhT) (Zai sPhT) (Zac sPhT) .none kV25 dc25 pm25 an25 cd25 ct25),sl25⟩) (c25:Yat K cd25 "turned_phase"=true) (k25:Yaq K (.ref f25)=true)
  (a26:Yas K mainGlobals "turned_play"=some (some (.ref f26))) (l26:K.lookup f26=some ⟨oc26,od26,.func (Yaw "turned_play" "turned_play" (Zaj Zb0) (Zai Zb0) (Zac Zb0) .none kV26 dc26 pm26 an26 cd26 ct26),sl26⟩) (c26:Yat K cd26 "turned_play"=true) (k26:Yaq K (.ref f26)=true)
  (a27:Yas K mainGlobals "first_spreads"=some (some (.ref f27))) (l27:K.lookup f27=some ⟨oc27,od27,.func (Yaw "first_spreads" "first_spreads" (Zaj Zcy) (Zai Zcy) (Zac Zcy) .none kV27 dc27 pm27 an27 cd27 ct27),sl27⟩) (c27:Yat K cd27 "first_spreads"=true) (k27:Yaq K (.ref f27)=true)
  (a28:Yas K mainGlobals "both_spreads"=some (some (.ref f28))) (l28:K.lookup f28=some ⟨oc28,od28,.func (Yaw "both_spreads" "both_spreads" (Zaj ZdU) (Zai ZdU) (Zac ZdU) .none kV28 dc28 pm28 an28 cd28 ct28),sl28⟩) (c28:Yat K cd28 "both_spreads"=true) (k28:Yaq K (.ref f28)=true)
  (a29:Yas K mainGlobals "next_spreads"=some (some (.ref f29))) (l29:K.lookup f29=some ⟨oc29,od29,.func (Yaw "next_spreads" "next_spreads" (Zaj Zdc) (Zai Zdc) (Zac Zdc) .none kV29 dc29 pm29 an29 cd29 ct29),sl29⟩) (c29:Yat K cd29 "next_spreads"=true) (k29:Yaq K (.ref f29)=true)
  (a30:Yas K mainGlobals "spread_over"=some (some (.ref f30))) (l30:K.lookup f30=some ⟨oc30,od30,.func (Yaw "spread_over" "spread_over" (Zaj ZdQ) (Zai ZdQ) (Zac ZdQ) .none kV30 dc30 pm30 an30 cd30 ct30),sl30⟩) (c30:Yat K cd30 "spread_over"=true) (k30:Yaq K (.ref f30)=true)
  (a31:Yas K mainGlobals "spread_after"=some (some (.ref f31))) (l31:K.lookup f31=some ⟨oc31,od31,.func (Yaw "spread_after" "spread_after" (Zaj ZcB) (Zai ZcB) (Zac ZcB) .none kV31 dc31 pm31 an31 cd31 ct31),sl31⟩) (c31:Yat K cd31 "spread_after"=true) (k31:Yaq K (.ref f31)=true)
  (a32:Yas K mainGlobals "spread_of"=some (some (.ref f32))) (l32:K.lookup f32=some ⟨oc32,od32,.func (Yaw "spread_of" "spread_of" (Zaj Zg9) (Zai Zg9) (Zac Zg9) .none kV32 dc32 pm32 an32 cd32 ct32),sl32⟩) (c32:Yat K cd32 "spread_of"=true) (k32:Yaq K (.ref f32)=true)
  (a33:Yas K mainGlobals "_law_sorted"=some (some (.ref f33))) (l33:K.lookup f33=some ⟨oc33,od33,.func (Yaw "_law_sorted" "_law_sorted" (Zaj Zbg) (Zai Zbg) (Zac Zbg) .none kV33 dc33 pm33 an33 cd33 ct33),sl33⟩) (c33:Yat K cd33 "_law_sorted"=true) (k33:Yaq K (.ref f33)=true)
  (a34:Yas K mainGlobals "_law_pot"=some (some (.ref f34))) (l34:K.lookup f34=some ⟨oc34,od34,.func (Yaw "_law_pot" "_law_pot" (Zaj Zha) (Zai Zha) (Zac Zha) .none kV34 dc34 pm34 an34 cd34 ct34),sl34⟩) (c34:Yat K cd34 "_law_pot"=true) (k34:Yaq K (.ref f34)=true)
  (a35:Yas K mainGlobals "_law_take"=some (some (.ref f35))) (l35:K.lookup f35=some ⟨oc35,od35,.func (Yaw "_law_take" "_law_take" (Zaj ZdP) (Zai ZdP) (Zac ZdP) .none kV35 dc35 pm35 an35 cd35 ct35),sl35⟩) (c35:Yat K cd35 "_law_take"=true) (k35:Yaq K (.ref f35)=true)
  (a36:Yas K mainGlobals "_law_counts"=some (some (.ref f36))) (l36:K.lookup f36=some ⟨oc36,od36,.func (Yaw "_law_counts" "_law_counts" (Zaj Zby) (Zai Zby) (Zac Zby) .none kV36 dc36 pm36 an36 cd36 ct36),sl36⟩) (c36:Yat K cd36 "_law_counts"=true) (k36:Yaq K (.ref f36)=true)
  (a37:Yas K mainGlobals "_law_level"=some (some (.ref f37))) (l37:K.lookup f37=some ⟨oc37,od37,.func (Yaw "_law_level" "_law_level" (Zaj ZfX) (Zai ZfX) (Zac ZfX) .none kV37 dc37 pm37 an37 cd37 ct37),sl37⟩) (c37:Yat K cd37 "_law_level"=true) (k37:Yaq K (.ref f37)=true)
  (a38:Yas K mainGlobals "_law_laid"=some (some (.ref f38))) (l38:K.lookup f38=some ⟨oc38,od38,.func (Yaw "_law_laid" "_law_laid" (Zaj Zbx) (Zai Zbx) (Zac Zbx) .none kV38 dc38 pm38 an38 cd38 ct38),sl38⟩) (c38:Yat K cd38 "_law_laid"=true) (k38:Yaq K (.ref f38)=true)
  (a39:Yas K mainGlobals "_law_together"=some (some (.ref f39))) (l39:K.lookup f39=some ⟨oc39,od39,.func (Yaw "_law_together" "_law_together" (Zaj Za1) (Zai Za1) (Zac Za1) .none kV39 dc39 pm39 an39 cd39 ct39),sl39⟩) (c39:Yat K cd39 "_law_together"=true) (k39:Yaq K (.ref f39)=true)
  (a40:Yas K mainGlobals "_law_one_right"=some (some (.ref f40))) (l40:K.lookup f40=some ⟨oc40,od40,.func (Yaw "_law_one_right" "_law_one_right" (Zaj ZaD) (Zai ZaD) (Zac ZaD) .none kV40 dc40 pm40 an40 cd40 ct40),sl40⟩) (c40:Yat K cd40 "_law_one_right"=true) (k40:Yaq K (.ref f40)=true)
  (a41:Yas K mainGlobals "_law_spread"=some (some (.ref f41))) (l41:K.lookup f41=some ⟨oc41,od41,.func (Yaw "_law_spread" "_law_spread" (Zaj Zbf) (Zai Zbf) (Zac Zbf) .none kV41 dc41 pm41 an41 cd41 ct41),sl41⟩) (c41:Yat K cd41 "_law_spread"=true) (k41:Yaq K (.ref f41)=true)
  (a42:Yas K mainGlobals "law"=some (some (.ref f42))) (l42:K.lookup f42=some ⟨oc42,od42,.func (Yaw "law" "law" (Zaj sLaw) (Zai sLaw) (Zac sLaw) .none kV42 dc42 pm42 an42 cd42 ct42),sl42⟩) (c42:Yat K cd42 "law"=true) (k42:Yaq K (.ref f42)=true)
  (y0:Yas K mainGlobals "LEAST_WAYS"=some (some (.int 2 tk0)))
  (y1:Yas K mainGlobals "MOST_WAYS"=some (some (.int 7 tk1)))
  (y2:Yas K mainGlobals "MOST_PLACES"=some (some (.int 4000 tk2)))
  (z0:Yas K mainGlobals "isinstance"=some none) (z1:Yas K mainGlobals "int"=some none) (z2:Yas K mainGlobals "bool"=some none) (z3:Yas K mainGlobals "list"=some none) (z4:Yas K mainGlobals "tuple"=some none) (z5:Yas K mainGlobals "min"=some none) (z6:Yas K mainGlobals "max"=some none) (z7:Yas K mainGlobals "len"=some none) (z8:Yas K mainGlobals "range"=some none) (z9:Yas K mainGlobals "all"=some none) (z10:Yas K mainGlobals "sum"=some none) (z11:Yas K mainGlobals "sorted"=some none) (z12:Yas K mainGlobals "zip"=some none) (zdict:Yas K mainGlobals "dict"=some none) (zenumerate:Yas K mainGlobals "enumerate"=some none) :
  ∃ fd:FuncData,(∀ (s:Shared) (v:Value),BindsTo s fd ⟨[v],[]⟩ [("script",v)])/\∀ base:Heap,K.In base->base.Ns mainGlobals mg->FnOk l.prog w K mg base CX0 8 fa fd ["script"] (ZjM K):=by
 have e:=hfa.symm.trans (YeV X G a42);cases e;have T:Txt mg:=⟨Ya2 X G z0,Ya2 X G z1,Ya2 X G z2,Ya2 X G z3,Ya2 X G z4,Ya2 X G z5,Ya2 X G z6,Ya2 X G z7,Ya2 X G z8,Ya2 X G z9,Ya2 X G z10,Ya2 X G z11,Ya2 X G z12⟩
 have F0:=Zaw (st:=ZdN) l0 c0 k0;have b0:=F0.binds (ps:=["thing"]) fun _ _ _ _ _ _ us hl=>@len1 (fun us=>bindArgs _ ⟨us,[]⟩=pure (Ya9 _ us)) us hl fun _=>rfl;have F1:=Zaw (st:=Zg7) l1 c1 k1;have b1:=F1.binds (ps:=["p"]) fun _ _ _ _ _ _ us hl=>@len1 (fun us=>bindArgs _ ⟨us,[]⟩=pure (Ya9 _ us)) us hl fun _=>rfl;have F2:=Zmh (st:=ZdS) l2 c2 k2;have b2:=F2.binds (ps:=["n","last"]) d2 rfl [.int 300 dt2_0] ["n"] rfl fun _ _ _ _ _ _ us hl=>match us,hl with | [_],_=>⟨_,rfl,rfl⟩
 have F3:=Zaw (st:=ZdT) l3 c3 k3;have b3:=F3.binds (ps:=["p"]) fun _ _ _ _ _ _ us hl=>@len1 (fun us=>bindArgs _ ⟨us,[]⟩=pure (Ya9 _ us)) us hl fun _=>rfl;have F4:=Zaw (st:=ZfW) l4 c4 k4;have b4:=F4.binds (ps:=["counts"]) fun _ _ _ _ _ _ us hl=>@len1 (fun us=>bindArgs _ ⟨us,[]⟩=pure (Ya9 _ us)) us hl fun _=>rfl;have F5:=Zaw (st:=ZcA) l5 c5 k5;have b5:=F5.binds (ps:=["p","n"]) fun _ _ _ _ _ _ us hl=>@len2 (fun us=>bindArgs _ ⟨us,[]⟩=pure (Ya9 _ us)) us hl fun _ _=>rfl;have F6:=Zaw (st:=ZdO) l6 c6 k6;have b6:=F6.binds (ps:=["p","n"]) fun _ _ _ _ _ _ us hl=>@len2 (fun us=>bindArgs _ ⟨us,[]⟩=pure (Ya9 _ us)) us hl fun _ _=>rfl;have F7:=Zaw (st:=sTot) l7 c7 k7;have b7:=F7.binds (ps:=["total"]) fun _ _ _ _ _ _ us hl=>@len1 (fun us=>bindArgs _ ⟨us,[]⟩=pure (Ya9 _ us)) us hl fun _=>rfl;have F8:=Zaw (st:=Zcw) l8 c8 k8;have b8:=F8.binds (ps:=["p","n"]) fun _ _ _ _ _ _ us hl=>@len2 (fun us=>bindArgs _ ⟨us,[]⟩=pure (Ya9 _ us)) us hl fun _ _=>rfl;have F9:=Zaw (st:=Zcz) l9 c9 k9;have b9:=F9.binds (ps:=["p"]) fun _ _ _ _ _ _ us hl=>@len1 (fun us=>bindArgs _ ⟨us,[]⟩=pure (Ya9 _ us)) us hl fun _=>rfl;have F10:=Zaw (st:=ZcL) l10 c10 k10;have b10:=F10.binds (ps:=["numbers"]) fun _ _ _ _ _ _ us hl=>@len1 (fun us=>bindArgs _ ⟨us,[]⟩=pure (Ya9 _ us)) us hl fun _=>rfl;have F11:=Zaw (st:=ZdV) l11 c11 k11;have b11:=F11.binds (ps:=["p","n","following"]) fun _ _ _ _ _ _ us hl=>@len3 (fun us=>bindArgs _ ⟨us,[]⟩=pure (Ya9 _ us)) us hl fun _ _ _=>rfl;have F12:=Zaw (st:=ZdR) l12 c12 k12;have b12:=F12.binds (ps:=["p","n"]) fun _ _ _ _ _ _ us hl=>@len2 (fun us=>bindArgs _ ⟨us,[]⟩=pure (Ya9 _ us)) us hl fun _ _=>rfl;have F13:=Zaw (st:=sLN) l13 c13 k13;have b13:=F13.binds (ps:=["p","n"]) fun _ _ _ _ _ _ us hl=>@len2 (fun us=>bindArgs _ ⟨us,[]⟩=pure (Ya9 _ us)) us hl fun _ _=>rfl;have F14:=Zaw (st:=Zcx) l14 c14 k14;have b14:=F14.binds (ps:=["rows"]) fun _ _ _ _ _ _ us hl=>@len1 (fun us=>bindArgs _ ⟨us,[]⟩=pure (Ya9 _ us)) us hl fun _=>rfl;have F15:=Zaw (st:=ZfU) l15 c15 k15;have b15:=F15.binds (ps:=["rows"]) fun _ _ _ _ _ _ us hl=>@len1 (fun us=>bindArgs _ ⟨us,[]⟩=pure (Ya9 _ us)) us hl fun _=>rfl;have F16:=Zaw (st:=ZfT) l16 c16 k16;have b16:=F16.binds (ps:=["taken","at"]) fun _ _ _ _ _ _ us hl=>@len2 (fun us=>bindArgs _ ⟨us,[]⟩=pure (Ya9 _ us)) us hl fun _ _=>rfl;have F17:=Zaw (st:=sLPh) l17 c17 k17;have b17:=F17.binds (ps:=["p","n"]) fun _ _ _ _ _ _ us hl=>@len2 (fun us=>bindArgs _ ⟨us,[]⟩=pure (Ya9 _ us)) us hl fun _ _=>rfl;have F18:=Zaw (st:=ZcK) l18 c18 k18;have b18:=F18.binds (ps:=["numbers"]) fun _ _ _ _ _ _ us hl=>@len1 (fun us=>bindArgs _ ⟨us,[]⟩=pure (Ya9 _ us)) us hl fun _=>rfl;have F19:=Zaw (st:=ZfV) l19 c19 k19;have b19:=F19.binds (ps:=["p","n"]) fun _ _ _ _ _ _ us hl=>@len2 (fun us=>bindArgs _ ⟨us,[]⟩=pure (Ya9 _ us)) us hl fun _ _=>rfl;have F20:=Zaw (st:=Zg8) l20 c20 k20;have b20:=F20.binds (ps:=["p","n"]) fun _ _ _ _ _ _ us hl=>@len2 (fun us=>bindArgs _ ⟨us,[]⟩=pure (Ya9 _ us)) us hl fun _ _=>rfl;have F21:=Zaw (st:=sLW) l21 c21 k21;have b21:=F21.binds (ps:=["p","counts"]) fun _ _ _ _ _ _ us hl=>@len2 (fun us=>bindArgs _ ⟨us,[]⟩=pure (Ya9 _ us)) us hl fun _ _=>rfl;have F22:=Zaw (st:=Zhb) l22 c22 k22;have b22:=F22.binds (ps:=["row"]) fun _ _ _ _ _ _ us hl=>@len1 (fun us=>bindArgs _ ⟨us,[]⟩=pure (Ya9 _ us)) us hl fun _=>rfl;have F23:=Zaw (st:=Zeu) l23 c23 k23;have b23:=F23.binds (ps:=["rows","at"]) fun _ _ _ _ _ _ us hl=>@len2 (fun us=>bindArgs _ ⟨us,[]⟩=pure (Ya9 _ us)) us hl fun _ _=>rfl;have F24:=Zaw (st:=sThT) l24 c24 k24;have b24:=F24.binds (ps:=["rows"]) fun _ _ _ _ _ _ us hl=>@len1 (fun us=>bindArgs _ ⟨us,[]⟩=pure (Ya9 _ us)) us hl fun _=>rfl;have F25:=Zaw (st:=sPhT) l25 c25 k25;have b25:=F25.binds (ps:=["reels","phase","merged"]) fun _ _ _ _ _ _ us hl=>@len3 (fun us=>bindArgs _ ⟨us,[]⟩=pure (Ya9 _ us)) us hl fun _ _ _=>rfl;have F26:=Zaw (st:=Zb0) l26 c26 k26;have b26:=F26.binds (ps:=["p","reels"]) fun _ _ _ _ _ _ us hl=>@len2 (fun us=>bindArgs _ ⟨us,[]⟩=pure (Ya9 _ us)) us hl fun _ _=>rfl;have F27:=Zaw (st:=Zcy) l27 c27 k27;have b27:=F27.binds (ps:=["p"]) fun _ _ _ _ _ _ us hl=>@len1 (fun us=>bindArgs _ ⟨us,[]⟩=pure (Ya9 _ us)) us hl fun _=>rfl;have F28:=Zaw (st:=ZdU) l28 c28 k28;have b28:=F28.binds (ps:=["one","other"]) fun _ _ _ _ _ _ us hl=>@len2 (fun us=>bindArgs _ ⟨us,[]⟩=pure (Ya9 _ us)) us hl fun _ _=>rfl;have F29:=Zaw (st:=Zdc) l29 c29 k29;have b29:=F29.binds (ps:=["spreads"]) fun _ _ _ _ _ _ us hl=>@len1 (fun us=>bindArgs _ ⟨us,[]⟩=pure (Ya9 _ us)) us hl fun _=>rfl;have F30:=Zaw (st:=ZdQ) l30 c30 k30;have b30:=F30.binds (ps:=["spreads"]) fun _ _ _ _ _ _ us hl=>@len1 (fun us=>bindArgs _ ⟨us,[]⟩=pure (Ya9 _ us)) us hl fun _=>rfl;have F31:=Zaw (st:=ZcB) l31 c31 k31;have b31:=F31.binds (ps:=["p","n","following"]) fun _ _ _ _ _ _ us hl=>@len3 (fun us=>bindArgs _ ⟨us,[]⟩=pure (Ya9 _ us)) us hl fun _ _ _=>rfl;have F32:=Zaw (st:=Zg9) l32 c32 k32;have b32:=F32.binds (ps:=["p","n"]) fun _ _ _ _ _ _ us hl=>@len2 (fun us=>bindArgs _ ⟨us,[]⟩=pure (Ya9 _ us)) us hl fun _ _=>rfl;have F33:=Zaw (st:=Zbg) l33 c33 k33;have b33:=F33.binds (ps:=["things","up"]) fun _ _ _ _ _ _ us hl=>@len2 (fun us=>bindArgs _ ⟨us,[]⟩=pure (Ya9 _ us)) us hl fun _ _=>rfl;have F34:=Zaw (st:=Zha) l34 c34 k34;have b34:=F34.binds (ps:=["script","k"]) fun _ _ _ _ _ _ us hl=>@len2 (fun us=>bindArgs _ ⟨us,[]⟩=pure (Ya9 _ us)) us hl fun _ _=>rfl;have F35:=Zaw (st:=ZdP) l35 c35 k35;have b35:=F35.binds (ps:=["pot","many"]) fun _ _ _ _ _ _ us hl=>@len2 (fun us=>bindArgs _ ⟨us,[]⟩=pure (Ya9 _ us)) us hl fun _ _=>rfl;have F36:=Zaw (st:=Zby) l36 c36 k36;have b36:=F36.binds (ps:=["p","n"]) fun _ _ _ _ _ _ us hl=>@len2 (fun us=>bindArgs _ ⟨us,[]⟩=pure (Ya9 _ us)) us hl fun _ _=>rfl;have F37:=Zaw (st:=ZfX) l37 c37 k37;have b37:=F37.binds (ps:=["pot","p","most"]) fun _ _ _ _ _ _ us hl=>@len3 (fun us=>bindArgs _ ⟨us,[]⟩=pure (Ya9 _ us)) us hl fun _ _ _=>rfl;have F38:=Zaw (st:=Zbx) l38 c38 k38;have b38:=F38.binds (ps:=["pot","ups","flip"]) fun _ _ _ _ _ _ us hl=>@len3 (fun us=>bindArgs _ ⟨us,[]⟩=pure (Ya9 _ us)) us hl fun _ _ _=>rfl;have F39:=Zaw (st:=Za1) l39 c39 k39;have b39:=F39.binds (ps:=["reels","numbers"]) fun _ _ _ _ _ _ us hl=>@len2 (fun us=>bindArgs _ ⟨us,[]⟩=pure (Ya9 _ us)) us hl fun _ _=>rfl;have F40:=Zaw (st:=ZaD) l40 c40 k40;have b40:=F40.binds (ps:=["pot","p","n","numbers","ups"]) fun _ _ _ _ _ _ us hl=>@len5 (fun us=>bindArgs _ ⟨us,[]⟩=pure (Ya9 _ us)) us hl fun _ _ _ _ _=>rfl;have F41:=Zaw (st:=Zbf) l41 c41 k41;have b41:=F41.binds (ps:=["numbers"]) fun _ _ _ _ _ _ us hl=>@len1 (fun us=>bindArgs _ ⟨us,[]⟩=pure (Ya9 _ us)) us hl fun _=>rfl;have F42:=Zaw (st:=sLaw) l42 c42 k42;refine⟨Yaw "law" "law" (Zaj sLaw) (Zai sLaw) (Zac sLaw) .none kV42 dc42 pm42 an42 cd42 ct42,fun s v=>.of_eq rfl,fun base _ _=>?_⟩;have m:=fun {x:Str}{v:Value} (a:Yas K mainGlobals x=some (some v))=>YeV X G a;have mLEAST_WAYS:=m y0;have mMOST_WAYS:=m y1;have mMOST_PLACES:=m y2;have Cis_whole:Cal l.prog w K mg base 1 "is_whole" ["thing"] Zef _ _:=⟨Zka F0 T,m a0,k0,b0⟩
 have Ccheck_ways:Cal l.prog w K mg base 2 "check_ways" ["p"] ZdK _ _:=⟨ZlU F1 T mLEAST_WAYS mMOST_WAYS Cis_whole,m a1,k1,b1⟩
 have Ccheck_level:CalD l.prog w K mg base 2 "check_level" ["n","last"] [.int 300] Zcg _ _:=⟨Zkl F2 T Cis_whole,m a2,k2,⟨_,b2,.cons ⟨_,rfl⟩ (.nil)⟩⟩
 have Cfirst_counts:Cal l.prog w K mg base 1 "first_counts" ["p"] Zdb _ _:=⟨Zko F3 T,m a3,k3,b3⟩
 have Cnext_counts:Cal l.prog w K mg base 1 "next_counts" ["counts"] (Ze2 K) _ _:=⟨Zl2 F4 T,m a4,k4,b4⟩
 have Clevel_counts:Cal l.prog w K mg base 3 "level_counts" ["p","n"] Zen _ _:=⟨Ziq F5 T Ccheck_ways Ccheck_level Cfirst_counts Cnext_counts,m a5,k5,b5⟩
 have Clevel_total:Cal l.prog w K mg base 4 "level_total" ["p","n"] ZfM _ _:=⟨Zkb F6 T Clevel_counts,m a6,k6,b6⟩
 have Ccheck_total:Cal l.prog w K mg base 1 "check_total" ["total"] Zlq _ _:=⟨Zm7 F7 T mMOST_PLACES,m a7,k7,b7⟩
 have Ccheck_places:Cal l.prog w K mg base 5 "check_places" ["p","n"] ZcV _ _:=⟨Zim F8 T Clevel_total Ccheck_total,m a8,k8,b8⟩
 have Cfirst_numbers:Cal l.prog w K mg base 1 "first_numbers" ["p"] Zem _ _:=⟨Zip F9 T,m a9,k9,b9⟩
 have Cnext_numbers:Cal l.prog w K mg base 1 "next_numbers" ["numbers"] Zej _ _:=⟨Zkk F10 T,m a10,k10,b10⟩
 have Cnumbers_after:Cal l.prog w K mg base 2 "numbers_after" ["p","n","following"] (ZfQ _) _ _:=⟨Zkq F11 T Cfirst_numbers Cnext_numbers,m a11,k11,b11⟩
 have Cnumbers_of:Cal l.prog w K mg base 3 "numbers_of" ["p","n"] Zg5 _ _:=⟨Zkh F12 T Cnext_numbers Cnumbers_after,m a12,k12,b12⟩
 have Clevel_numbers:Cal l.prog w K mg base 6 "level_numbers" ["p","n"] Zg5 _ _:=⟨Zn2 F13 T Ccheck_places Cnumbers_of,m a13,k13,b13⟩
 have Cmerged_row:Cal l.prog w K mg base 1 "merged_row" ["rows"] Zek _ _:=⟨Zin F14 T,m a14,k14,b14⟩
 have Cthings_in:Cal l.prog w K mg base 1 "things_in" ["rows"] Zlt _ _:=⟨Zkc F15 T,m a15,k15,b15⟩
 have Ctaken_at:Cal l.prog w K mg base 1 "taken_at" ["taken","at"] Zlr _ _:=⟨Zm8 F16 T,m a16,k16,b16⟩
 have Clevel_phases:Cal l.prog w K mg base 3 "level_phases" ["p","n"] Zlv _ _:=⟨Znc F17 T (Ya2 X G zenumerate) Ccheck_ways Ccheck_level Cfirst_counts Cnext_counts,m a17,k17,b17⟩
 have Cnext_turned:Cal l.prog w K mg base 1 "next_turned" ["numbers"] ZfO _ _:=⟨Zki F18 T,m a18,k18,b18⟩
 have Cturned_numbers:Cal l.prog w K mg base 6 "turned_numbers" ["p","n"] Zgz _ _:=⟨ZlX F19 T Ccheck_places Cnext_turned,m a19,k19,b19⟩
 have Cturned_ups:Cal l.prog w K mg base 7 "turned_ups" ["p","n"] ZhO _ _:=⟨ZlV F20 T Cturned_numbers,m a20,k20,b20⟩
 have Clevel_with:Cal l.prog w K mg base 2 "level_with" ["p","counts"] (spLW K) _ _:=⟨Znb F21 T Cfirst_counts Cnext_counts,m a21,k21,b21⟩
 have Ccopied_turned:Cal l.prog w K mg base 1 "copied_turned" ["row"] ZhU _ _:=⟨Zl5 F22 T,m a22,k22,b22⟩
 have Cmerged_turned:Cal l.prog w K mg base 2 "merged_turned" ["rows","at"] ZhS _ _:=⟨Zl3 F23 T Cmerged_row,m a23,k23,b23⟩
 have Cthings_turned:Cal l.prog w K mg base 2 "things_turned" ["rows"] Zls _ _:=⟨Zm9 F24 T Cthings_in,m a24,k24,b24⟩
 have Cturned_phase:Cal l.prog w K mg base 3 "turned_phase" ["reels","phase","merged"] Zlu _ _:=⟨Zna F25 T Cmerged_turned Ctaken_at Cthings_turned,m a25,k25,b25⟩
 have Cturned_play:Cal l.prog w K mg base 4 "turned_play" ["p","reels"] (Zeg K) _ _:=⟨Zkf F26 T Ccheck_ways Clevel_with Ccopied_turned Clevel_phases Cturned_phase,m a26,k26,b26⟩
 have Cfirst_spreads:Cal l.prog w K mg base 1 "first_spreads" ["p"] Zel _ _:=⟨Zio F27 T,m a27,k27,b27⟩
 have Cboth_spreads:Cal l.prog w K mg base 1 "both_spreads" ["one","other"] Zeo _ _:=⟨Zkp F28 T (Ya2 X G zdict),m a28,k28,b28⟩
 have Cnext_spreads:Cal l.prog w K mg base 2 "next_spreads" ["spreads"] (Zei ZdC) _ _:=⟨Zkj F29 T Cboth_spreads,m a29,k29,b29⟩
 have Cspread_over:Cal l.prog w K mg base 2 "spread_over" ["spreads"] ZfN _ _:=⟨Zkg F30 T Cboth_spreads,m a30,k30,b30⟩
 have Cspread_after:Cal l.prog w K mg base 3 "spread_after" ["p","n","following"] (Zep _ num) _ _:=⟨Zir (top:=300) (Yak _) (fun _=>rfl) (fun _ _=>rfl) (fun p n _=>Zjv p n) (fun p n h=>Zdh (by omega) n) F31 T Cfirst_spreads Cnext_spreads Cspread_over,m a31,k31,b31⟩
 have Cspread_of:Cal l.prog w K mg base 4 "spread_of" ["p","n"] (ZhP num 300) _ _:=⟨ZlY F32 T Ccheck_ways Ccheck_level Cnext_spreads Cspread_after,m a32,k32,b32⟩
 have C_law_sorted:Cal l.prog w K mg base 1 "_law_sorted" ["things","up"] Zc9 _ _:=⟨Zke F33 T,m a33,k33,b33⟩
 have C_law_pot:Cal l.prog w K mg base 1 "_law_pot" ["script","k"] (ZhR K) _ _:=⟨Zl0 F34 T,m a34,k34,b34⟩
 have C_law_take:Cal l.prog w K mg base 1 "_law_take" ["pot","many"] Zcu _ _:=⟨Zkd F35 T,m a35,k35,b35⟩
 have C_law_counts:Cal l.prog w K mg base 1 "_law_counts" ["p","n"] Zda _ _:=⟨Zhf F36 T,m a36,k36,b36⟩
 have C_law_level:Cal l.prog w K mg base 2 "_law_level" ["pot","p","most"] ZhT _ _:=⟨Zl4 F37 T C_law_counts C_law_take,m a37,k37,b37⟩
 have C_law_laid:Cal l.prog w K mg base 2 "_law_laid" ["pot","ups","flip"] ZfP _ _:=⟨Zkn F38 T C_law_sorted C_law_take,m a38,k38,b38⟩
 have C_law_together:Cal l.prog w K mg base 1 "_law_together" ["reels","numbers"] ZhN _ _:=⟨ZlW F39 T,m a39,k39,b39⟩
 have C_law_one_right:Cal l.prog w K mg base 5 "_law_one_right" ["pot","p","n","numbers","ups"] Zeh _ _:=⟨Zl1 F40 T C_law_sorted C_law_take Cturned_play,m a40,k40,b40⟩
 have C_law_spread:Cal l.prog w K mg base 1 "_law_spread" ["numbers"] ZhQ _ _:=⟨ZlZ F41 T,m a41,k41,b41⟩
 exact Zkm F42 T C_law_pot C_law_take C_law_level Cturned_numbers Cturned_ups C_law_laid Cturned_play C_law_together C_law_sorted C_law_one_right Clevel_numbers C_law_spread Cspread_of
theorem walk {l:Ydz}{q:Program}{loose:List Str}{XP:(Str->Option Value)->Heap->Prop}{YP:World->Heap->Prop}{d:DefRec}{K:Params->Yae} (hn:l.most=some 63) (hdf:d.params.defaults=[])
  (hY:∀ (w:World) (h:Heap),YP w h->(K w.params).In h)
  (F:∀ (w:World) (mg:Str->Option Value) (fa:Addr) (h:Heap),(K w.params).In h->h.Ns mainGlobals mg->mg d.name=some (.ref fa) ->
   ∃ fd:FuncData,(∀ (s:Shared) (u:Value),BindsTo s fd ⟨[u],[]⟩ [("script",u)])/\∀ base:Heap,(K w.params).In base->base.Ns mainGlobals mg->FnOk l.prog w (K w.params) mg base CX0 8 fa fd ["script"] (ZjM (K w.params))) :
  YeW q loose XP YP l.row.toRowW d [] (fun f vs=>YeH f vs) :=
 L2.walk_of (n:=63) (k:=8) (x:="script") (CX:=fun _=>CX0) (sp:=fun w=>ZjM (K w.params)) hn (by decide) hdf ⟨rfl,by decide,by decide,rfl⟩ hY F (fun _ _ a ns hl _ hS=>⟨a,ns,rfl,hS,hl,fun _=>rfl⟩) fun _ _ _ _ _ z=>z
end Fi58
def PySem.W.Fast.tw14390912502378582654 : Unit := ()
def PySem.W.Fast.tw4842714947100409200 : Unit := ()
def PySem.W.Fast.tw3718915454820791789 : Unit := ()
def PySem.W.Fast.tw13241732396270211761 : Unit := ()
def PySem.W.Fast.tw10891668412980824167 : Unit := ()
def PySem.W.Fast.tw14488366824511229973 : Unit := ()
def PySem.W.Fast.tw13237147556523493548 : Unit := ()
def PySem.W.Fast.tw11459433093466696002 : Unit := ()
def PySem.W.Fast.tw15153890828153183372 : Unit := ()
def PySem.W.Fast.tw13401564261987054367 : Unit := ()
def PySem.W.Fast.tw9171625663555193828 : Unit := ()
def PySem.W.Fast.tw579044132592010015 : Unit := ()
def PySem.W.Fast.tw125214087697331708 : Unit := ()
def PySem.W.Fast.tw10679657345789397168 : Unit := ()
def PySem.W.Fast.tw10305416285136903821 : Unit := ()
def PySem.W.Fast.tw6044410859787969281 : Unit := ()
def PySem.W.Fast.tw4231064666067333763 : Unit := ()
def PySem.W.Fast.tw6988541003204059807 : Unit := ()
def PySem.W.Fast.tw14320048946724956122 : Unit := ()
def PySem.W.Fast.tw1231959422964711465 : Unit := ()
def PySem.W.Fast.tw8021677367593935291 : Unit := ()
def PySem.W.Fast.tw4225856825529007976 : Unit := ()
def PySem.W.Fast.tw10675362100450315117 : Unit := ()
def PySem.W.Fast.tw4805357092244772765 : Unit := ()
def PySem.W.Fast.tw17509148899435909740 : Unit := ()
def PySem.W.Fast.tw9657368239275985992 : Unit := ()
def PySem.W.Fast.tw4182258385307271025 : Unit := ()
def PySem.W.Fast.tw10021261297528429892 : Unit := ()
def PySem.W.Fast.tw11412403841573934844 : Unit := ()
def PySem.W.Fast.tw360088263813050218 : Unit := ()
def PySem.W.Fast.tw2189142030788957202 : Unit := ()
def PySem.W.Fast.tw15617205142845655919 : Unit := ()
def PySem.W.Fast.tw5801902653466130483 : Unit := ()
def PySem.W.Fast.tw2147130149190145555 : Unit := ()
def PySem.W.Fast.tw14584691758644290183 : Unit := ()
def PySem.W.Fast.tw3085936137442508669 : Unit := ()
def PySem.W.Fast.tw12170693092902571424 : Unit := ()
def PySem.W.Fast.tw14447986977749792412 : Unit := ()
def PySem.W.Fast.tw8258914437344988789 : Unit := ()
def PySem.W.Fast.tw3530715282858914914 : Unit := ()
def PySem.W.Fast.tw13591551565839398992 : Unit := ()
def PySem.W.Fast.tw13312656477931312758 : Unit := ()
def PySem.W.Fast.tw14617836057178216496 : Unit := ()
def PySem.W.Fast.tw12219759358917621048 : Unit := ()
def PySem.W.Fast.tw10315339224062233529 : Unit := ()
def PySem.W.Fast.tw5399484548201897180 : Unit := ()
def PySem.W.Fast.tw2595635244878875825 : Unit := ()
def PySem.W.Fast.tw9772407670837329883 : Unit := ()
def PySem.W.Fast.tw2170914084933764970 : Unit := ()
def PySem.W.Fast.tw18282289055107718695 : Unit := ()
def PySem.W.Fast.tw2796627367331912180 : Unit := ()
def PySem.W.Fast.tw16516585984071209814 : Unit := ()
def PySem.W.Fast.tw7938930143807210649 : Unit := ()
def PySem.W.Fast.tw16363725218194653467 : Unit := ()
def PySem.W.Fast.tw10799725245199878405 : Unit := ()
def PySem.W.Fast.tw772740610157543469 : Unit := ()
def PySem.W.Fast.tw3122849739438839705 : Unit := ()
def PySem.W.Fast.tw17334095738066207235 : Unit := ()
def PySem.W.Fast.tw11419158044962425624 : Unit := ()
def PySem.W.Fast.tw526450443454310026 : Unit := ()
def PySem.W.Fast.tw8540145697427855016 : Unit := ()
def PySem.W.Fast.tw5053697907612225239 : Unit := ()
def PySem.W.Fast.tw4568265363145955955 : Unit := ()
def PySem.W.Fast.tw2817913554551381368 : Unit := ()
def PySem.W.Fast.tw2804876470016024712 : Unit := ()
def PySem.W.Fast.tw13849171634097861299 : Unit := ()
def PySem.W.Fast.tw99544534987575607 : Unit := ()
def PySem.W.Fast.tw12270884572014076397 : Unit := ()
def PySem.W.Fast.tw13201300172881248966 : Unit := ()
def PySem.W.Fast.tw18438379091455901141 : Unit := ()
def PySem.W.Fast.tw7114525777894039686 : Unit := ()
def PySem.W.Fast.tw12064280327849489651 : Unit := ()
def PySem.W.Fast.tw10844364141566417382 : Unit := ()
def PySem.W.Fast.tw9627207097515766342 : Unit := ()
def PySem.W.Fast.tw13895675094085705380 : Unit := ()
def PySem.W.Fast.tw7394611301135498160 : Unit := ()
def PySem.W.Fast.tw3121989614953771941 : Unit := ()
def PySem.W.Fast.tw17615373936361589363 : Unit := ()
def PySem.W.Fast.tw17127768038269890256 : Unit := ()
def PySem.W.Fast.tw8176248010288729844 : Unit := ()
def PySem.W.Fast.tw17725243279124439461 : Unit := ()
def PySem.W.Fast.tw2125025492504123073 : Unit := ()
def PySem.W.Fast.tw7268130352173042585 : Unit := ()
def PySem.W.Fast.tw7805269435614165236 : Unit := ()
def PySem.W.Fast.tw6359856721234373703 : Unit := ()
def PySem.W.Fast.tw3328313672135466156 : Unit := ()
def PySem.W.Fast.tw5175522093553128089 : Unit := ()
def PySem.W.Fast.tw906077770177087428 : Unit := ()
def PySem.W.Fast.tw11557971908348022007 : Unit := ()
def PySem.W.Fast.tw12339189931743350281 : Unit := ()
def PySem.W.Fast.tw284931055416440783 : Unit := ()
def PySem.W.Fast.tw6248766766063349504 : Unit := ()
def PySem.W.Fast.tw15962627629666841212 : Unit := ()
def PySem.W.Fast.tw8536160160785446958 : Unit := ()
def PySem.W.Fast.tw18398080276024824172 : Unit := ()
def PySem.W.Fast.tw4731280146844746911 : Unit := ()
def PySem.W.Fast.tw15069269836148629375 : Unit := ()
def PySem.W.Fast.tw14562612030365109719 : Unit := ()
def PySem.W.Fast.tw5057859319012654610 : Unit := ()
def PySem.W.Fast.tw16750947090014004176 : Unit := ()
def PySem.W.Fast.tw431988879650787783 : Unit := ()
def PySem.W.Fast.tw13950006725957597303 : Unit := ()
def PySem.W.Fast.tw950420621162222831 : Unit := ()
def PySem.W.Fast.tw14924851774815108986 : Unit := ()
def PySem.W.Fast.tw8378211495455394944 : Unit := ()
def PySem.W.Fast.tw9179308012976273595 : Unit := ()
def PySem.W.Fast.tw2367599489363524821 : Unit := ()
def PySem.W.Fast.tw5790342002520073134 : Unit := ()
def PySem.W.Fast.tw14331509041827616349 : Unit := ()
def PySem.W.Fast.tw16469825380586183646 : Unit := ()
def PySem.W.Fast.tw1073095903321326124 : Unit := ()
def PySem.W.Fast.tw14997204753671055828 : Unit := ()
def PySem.W.Fast.tw11933626371688603304 : Unit := ()
def PySem.W.Fast.tw1713672452438121325 : Unit := ()
def PySem.W.Fast.tw16657236263963965888 : Unit := ()
def PySem.W.Fast.tw5836131346019649496 : Unit := ()
def PySem.W.Fast.tw11117895929540212292 : Unit := ()
def PySem.W.Fast.tw15590704491505150119 : Unit := ()
def PySem.W.Fast.tw9658713896117673965 : Unit := ()
def PySem.W.Fast.tw8513232429572308614 : Unit := ()
def PySem.W.Fast.tw18057454441830861240 : Unit := ()
def PySem.W.Fast.tw6101084313776540029 : Unit := ()
def PySem.W.Fast.tw3177044703705427948 : Unit := ()
def PySem.W.Fast.tw3894362647754718067 : Unit := ()
def PySem.W.Fast.tw11965061769282779571 : Unit := ()
def PySem.W.Fast.tw16790023222192936910 : Unit := ()
def PySem.W.Fast.tw14739375101700381569 : Unit := ()
def PySem.W.Fast.tw8563379166110273571 : Unit := ()
def PySem.W.Fast.tw14104240509494666993 : Unit := ()
def PySem.W.Fast.tw5006132574826740012 : Unit := ()
def PySem.W.Fast.tw7321308568028913077 : Unit := ()
def PySem.W.Fast.tw9552268843655657632 : Unit := ()
def PySem.W.Fast.tw8051340672895744265 : Unit := ()
def PySem.W.Fast.tw16658144468098865859 : Unit := ()
def PySem.W.Fast.tw427454512858230498 : Unit := ()
def PySem.W.Fast.tw7829455003474879988 : Unit := ()
def PySem.W.Fast.tw17941104917676155993 : Unit := ()
def PySem.W.Fast.tw1693428173556775506 : Unit := ()
def PySem.W.Fast.tw18190065104852342621 : Unit := ()
def PySem.W.Fast.tw137524679289509448 : Unit := ()
def PySem.W.Fast.tw2272980104207285253 : Unit := ()
def PySem.W.Fast.tw8317602158260186769 : Unit := ()
def PySem.W.Fast.tw16097753754492043161 : Unit := ()
def PySem.W.Fast.tw16280844535651281017 : Unit := ()
def PySem.W.Fast.tw14709608191760076547 : Unit := ()
def PySem.W.Fast.tw52417938320607795 : Unit := ()
def PySem.W.Fast.tw10437964476606725460 : Unit := ()
def PySem.W.Fast.tw5328702137334156645 : Unit := ()
def PySem.W.Fast.tw7778079200335170837 : Unit := ()
def PySem.W.Fast.tw147821925409333809 : Unit := ()
def PySem.W.Fast.tw3974689404630564577 : Unit := ()
def PySem.W.Fast.tw10732573502684547345 : Unit := ()
def PySem.W.Fast.tw133011181838806105 : Unit := ()
def PySem.W.Fast.tw7035773892713527958 : Unit := ()
def PySem.W.Fast.tw6831575211900634872 : Unit := ()
def PySem.W.Fast.tw11553761841105196293 : Unit := ()
def PySem.W.Fast.tw10839781597676175615 : Unit := ()
def PySem.W.Fast.tw14476006676253858923 : Unit := ()
def PySem.W.Fast.tw3479442097259509338 : Unit := ()
def PySem.W.Fast.tw8355559032170779744 : Unit := ()
def PySem.W.Fast.tw6408708077310088907 : Unit := ()
def PySem.W.Fast.tw5816832280068715684 : Unit := ()
def PySem.W.Fast.tw6931981962570280590 : Unit := ()
def PySem.W.Fast.tw2636425335812836373 : Unit := ()
def PySem.W.Fast.tw2024118616973181605 : Unit := ()
def PySem.W.Fast.tw17150864865704680256 : Unit := ()
def PySem.W.Fast.tw233255249625797913 : Unit := ()
def PySem.W.Fast.tw6289118425651716537 : Unit := ()
def PySem.W.Fast.tw7964484660007187598 : Unit := ()
def PySem.W.Fast.tw7988950179860036581 : Unit := ()
def PySem.W.Fast.tw11789159462480735150 : Unit := ()
def PySem.W.Fast.tw17246897561566647978 : Unit := ()
def PySem.W.Fast.tw14276321464895551835 : Unit := ()
def PySem.W.Fast.tw2427826442086618746 : Unit := ()
def PySem.W.Fast.tw13811258445341322757 : Unit := ()
def PySem.W.Fast.tw4631789929045522148 : Unit := ()
def PySem.W.Fast.tw843525212926634995 : Unit := ()
def PySem.W.Fast.tw13889305513343318546 : Unit := ()
def PySem.W.Fast.tw5910992554012948613 : Unit := ()
def PySem.W.Fast.tw9521217637499094871 : Unit := ()
def PySem.W.Fast.tw6277525848983511918 : Unit := ()
def PySem.W.Fast.tw1348493841562550798 : Unit := ()
def PySem.W.Fast.tw5122659531039145293 : Unit := ()
def PySem.W.Fast.tw2518528346628456487 : Unit := ()
def PySem.W.Fast.tw17180101147217211495 : Unit := ()
def PySem.W.Fast.tw8205243030579174503 : Unit := ()
def PySem.W.Fast.tw2264796589816256061 : Unit := ()
def PySem.W.Fast.tw7533309564516884679 : Unit := ()
def PySem.W.Fast.tw10384097406426423444 : Unit := ()
def PySem.W.Fast.tw14003641078851963127 : Unit := ()
def PySem.W.Fast.tw1890978037503175943 : Unit := ()
def PySem.W.Fast.tw11288371508966601548 : Unit := ()
def PySem.W.Fast.tw1937775431537733302 : Unit := ()
def PySem.W.Fast.tw8413211546833214372 : Unit := ()
open PySem PySem.W PyProof.Rows
set_option maxRecDepth 100000 in
set_option maxHeartbeats 0 in
theorem PySem.Challenge.cw_fewreels_k58_whole_turned_as_numbered_holds : PySem.Challenge.rw_fewreels_k58_whole_turned_as_numbered.Holds := by
  w_on; o_law; k_head; (case hw => w_witness2)
  k_fill
  refine Fi58.walk (l := PySem.Challenge.rw_fewreels_k58_whole_turned_as_numbered) rfl rfl (fun w h Y => PySem.W.kIn_of Y) ?F
  case F =>
    intro w mg fa h KX G hmg
    refine' Fi58.all_mk KX G hmg ?a0 ?l0 ?c0 ?k0 ?a1 ?l1 ?c1 ?k1 ?a2 ?l2 ?c2 ?k2 ?d2 ?a3 ?l3 ?c3 ?k3 ?a4 ?l4 ?c4 ?k4 ?a5 ?l5 ?c5 ?k5 ?a6 ?l6 ?c6 ?k6 ?a7 ?l7 ?c7 ?k7 ?a8 ?l8 ?c8 ?k8 ?a9 ?l9 ?c9 ?k9 ?a10 ?l10 ?c10 ?k10 ?a11 ?l11 ?c11 ?k11 ?a12 ?l12 ?c12 ?k12 ?a13 ?l13 ?c13 ?k13 ?a14 ?l14 ?c14 ?k14 ?a15 ?l15 ?c15 ?k15 ?a16 ?l16 ?c16 ?k16 ?a17 ?l17 ?c17 ?k17 ?a18 ?l18 ?c18 ?k18 ?a19 ?l19 ?c19 ?k19 ?a20 ?l20 ?c20 ?k20 ?a21 ?l21 ?c21 ?k21 ?a22 ?l22 ?c22 ?k22 ?a23 ?l23 ?c23 ?k23 ?a24 ?l24 ?c24 ?k24 ?a25 ?l25 ?c25 ?k25 ?a26 ?l26 ?c26 ?k26 ?a27 ?l27 ?c27 ?k27 ?a28 ?l28 ?c28 ?k28 ?a29 ?l29 ?c29 ?k29 ?a30 ?l30 ?c30 ?k30 ?a31 ?l31 ?c31 ?k31 ?a32 ?l32 ?c32 ?k32 ?a33 ?l33 ?c33 ?k33 ?a34 ?l34 ?c34 ?k34 ?a35 ?l35 ?c35 ?k35 ?a36 ?l36 ?c36 ?k36 ?a37 ?l37 ?c37 ?k37 ?a38 ?l38 ?c38 ?k38 ?a39 ?l39 ?c39 ?k39 ?a40 ?l40 ?c40 ?k40 ?a41 ?l41 ?c41 ?k41 ?a42 ?l42 ?c42 ?k42 ?y0 ?y1 ?y2 ?z0 ?z1 ?z2 ?z3 ?z4 ?z5 ?z6 ?z7 ?z8 ?z9 ?z10 ?z11 ?z12 ?zdict ?zenumerate
    (case a0 => k_is); (case l0 => k_is); (case c0 => k_is); (case k0 => k_is); (case a1 => k_is); (case l1 => k_is)
    (case c1 => k_is); (case k1 => k_is); (case a2 => k_is); (case l2 => k_is); (case c2 => k_is); (case k2 => k_is)
    (case d2 => k_is); (case a3 => k_is); (case l3 => k_is); (case c3 => k_is); (case k3 => k_is); (case a4 => k_is)
    (case l4 => k_is); (case c4 => k_is); (case k4 => k_is); (case a5 => k_is); (case l5 => k_is); (case c5 => k_is)
    (case k5 => k_is); (case a6 => k_is); (case l6 => k_is); (case c6 => k_is); (case k6 => k_is); (case a7 => k_is)
    (case l7 => k_is); (case c7 => k_is); (case k7 => k_is); (case a8 => k_is); (case l8 => k_is); (case c8 => k_is)
    (case k8 => k_is); (case a9 => k_is); (case l9 => k_is); (case c9 => k_is); (case k9 => k_is); (case a10 => k_is)
    (case l10 => k_is); (case c10 => k_is); (case k10 => k_is); (case a11 => k_is); (case l11 => k_is); (case c11 => k_is)
    (case k11 => k_is); (case a12 => k_is); (case l12 => k_is); (case c12 => k_is); (case k12 => k_is); (case a13 => k_is)
    (case l13 => k_is); (case c13 => k_is); (case k13 => k_is); (case a14 => k_is); (case l14 => k_is); (case c14 => k_is)
    (case k14 => k_is); (case a15 => k_is); (case l15 => k_is); (case c15 => k_is); (case k15 => k_is); (case a16 => k_is)
    (case l16 => k_is); (case c16 => k_is); (case k16 => k_is); (case a17 => k_is); (case l17 => k_is); (case c17 => k_is)
    (case k17 => k_is); (case a18 => k_is); (case l18 => k_is); (case c18 => k_is); (case k18 => k_is); (case a19 => k_is)
    (case l19 => k_is); (case c19 => k_is); (case k19 => k_is); (case a20 => k_is); (case l20 => k_is); (case c20 => k_is)
    (case k20 => k_is); (case a21 => k_is); (case l21 => k_is); (case c21 => k_is); (case k21 => k_is); (case a22 => k_is)
    (case l22 => k_is); (case c22 => k_is); (case k22 => k_is); (case a23 => k_is); (case l23 => k_is); (case c23 => k_is)
    (case k23 => k_is); (case a24 => k_is); (case l24 => k_is); (case c24 => k_is); (case k24 => k_is); (case a25 => k_is)
    (case l25 => k_is); (case c25 => k_is); (case k25 => k_is); (case a26 => k_is); (case l26 => k_is); (case c26 => k_is)
    (case k26 => k_is); (case a27 => k_is); (case l27 => k_is); (case c27 => k_is); (case k27 => k_is); (case a28 => k_is)
    (case l28 => k_is); (case c28 => k_is); (case k28 => k_is); (case a29 => k_is); (case l29 => k_is); (case c29 => k_is)
    (case k29 => k_is); (case a30 => k_is); (case l30 => k_is); (case c30 => k_is); (case k30 => k_is); (case a31 => k_is)
    (case l31 => k_is); (case c31 => k_is); (case k31 => k_is); (case a32 => k_is); (case l32 => k_is); (case c32 => k_is)
    (case k32 => k_is); (case a33 => k_is); (case l33 => k_is); (case c33 => k_is); (case k33 => k_is); (case a34 => k_is)
    (case l34 => k_is); (case c34 => k_is); (case k34 => k_is); (case a35 => k_is); (case l35 => k_is); (case c35 => k_is)
    (case k35 => k_is); (case a36 => k_is); (case l36 => k_is); (case c36 => k_is); (case k36 => k_is); (case a37 => k_is)
    (case l37 => k_is); (case c37 => k_is); (case k37 => k_is); (case a38 => k_is); (case l38 => k_is); (case c38 => k_is)
    (case k38 => k_is); (case a39 => k_is); (case l39 => k_is); (case c39 => k_is); (case k39 => k_is); (case a40 => k_is)
    (case l40 => k_is); (case c40 => k_is); (case k40 => k_is); (case a41 => k_is); (case l41 => k_is); (case c41 => k_is)
    (case k41 => k_is); (case a42 => k_is); (case l42 => k_is); (case c42 => k_is); (case k42 => k_is); (case y0 => k_is)
    (case y1 => k_is); (case y2 => k_is); (case z0 => k_is); (case z1 => k_is); (case z2 => k_is); (case z3 => k_is)
    (case z4 => k_is); (case z5 => k_is); (case z6 => k_is); (case z7 => k_is); (case z8 => k_is); (case z9 => k_is)
    (case z10 => k_is); (case z11 => k_is); (case z12 => k_is); (case zdict => k_is); (case zenumerate => k_is)
