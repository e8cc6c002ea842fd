import PyProof.Rows.All
import Wide.All
import OpenK.AllK
import Wide.FinOn
import Lean
import PyProof.EqAt
import PyProof.EqKinds
import PyProof.TupleCall
import PyProof.NeKinds
import PyProof.Draws
import PyProof.SumWalkG
import PyProof.ListRange
import PyProof.ZipIter
import PyProof.Rows.SortRev
import KE.IntBitsLaws
import PyProof.ListMulRoad
import PyProof.TupleKey
import PyProof.ReprRoads
import PyProof.ReprLen
import PyProof.CallStr
import PyProof.Rows.RuleIs
import PyProof.StrLawsRepr
import PyProof.Rows.SortShellK
import KE.KSortTup
import PyProof.Rows.SeqMore2
import KE.KRevIter
import PyProof.RulesTry
import PyProof.StationsW
import PyProof.RulesAs
import PyProof.NsDelKeeps
import PyProof.Rows.Own
import PyProof.Rows.Catch
import KE.KTryMore
import KE.KIsNot
import OpenK.KDescr
import PyProof.ExcAttrAll.ValueError
import PyProof.FString
import PyProof.InstStoreFacts
import OpenK.KMake
import KE.KItemsList
import KE.KPairComp
import PyProof.DictWalks
import KE.KDictSum
import PyProof.Rows.TupAdd
import PyProof.FactsAll.range_2
import PyProof.RangeFor
import PyProof.Rows.StrJoin2
import PyProof.Rows.Range3
import PySem.Challenge.RW_fewreels_k56_turned_rows_played
open List renaming getElem?_eq_some_iff → Yaa, getElem?_eq_getElem → Yab, length_map → Yac, getD_eq_getElem?_getD → Yad, getElem?_map → Yaf, mem_of_getElem? → Yah, length_append → Yai, getElem?_append_left → Yaj, getElem?_append_right → Yak, replicate → Yal, map_cons → Yam, mem_cons_of_mem → Yan, mem_append → Yao, range → Yap, size_toArray → Yat, mem_cons → Yav, mem_cons_self → Yaw, mem_append_right → Yax, length_take → Yaz, map_append → YaB, sum_cons → YaD, mem_singleton → YaH, flatten_cons → YaI, filterMap_cons → YaJ, getElem?_of_mem → YaK, append_assoc → YaM, take_append_drop → YaQ, length_cons → YaR, take_length → YaT, take_of_length_le → YaW, mem_map → YaY, pairwise_append → YaZ, mem_append_left → Ya0, length_drop → Ya3, take_succ_eq_append_getElem → Ya4, getElem?_set_ne → Ya5, take_add_one → Ya9, flatten_append → Ybc, map_congr_left → Ybe, length → Ybf, take_zero → Ybj, getElem?_set_self → Ybk, getElem?_take_of_lt → Ybm, mem_range → Ybn, length_filterMap_le → Ybq, length_reverse → Ybr, getElem?_eq_none → Ybs, length_eq_zero_iff → Ybu, mem_of_mem_take → Ybv, map_map → Ybw, getElem?_drop → Ybx, length_set → Yby, append_nil → Ybz, dropLast → YbA, getElem?_range → YbB, dropLast_concat_getLast → YbD, flatten_replicate_singleton → YbI, reverse_cons → YbK, replicate_succ → YbL, zip → YbN, length_singleton → YbP, lookup_cons → YbQ, cons_append → YbR, not_mem_nil → YbW, mem_reverse → YbX, length_replicate → YbZ, pairwise_iff_getElem → Yb0, mem_of_mem_drop → Yb2, length_range → Yb3, pairwise_cons → Yca, mem_filterMap → Ycb, filterMap_map → Ycc, range_succ → Ych, getElem?_reverse → Yci, drop_eq_getElem_cons → Yct, ext_getElem → Ycu, all_eq_true → Ycv, reverse_append → YcA, map_nil → YcC, sum_append → YcE, pairwise_map → YcN, zipWith → YcO, filterMap_append → YcP, reverse_nil → YcS, mem_flatten → YcT, map_reverse → YcU, getElem_mem → YcV, nodup_cons → YcX, length_flatten → YcY, headD_cons → YcZ, take_left → Yc3, getElem?_eq_none_iff → Yc4, mem_singleton_self → Yc7, getLast_eq_getElem → Yc8, getElem?_cons_succ → Yc9, getElem_map → Ydc, length_eq_one_iff → Yde, singleton_append → Ydf, set_append_right → Ydg, perm_append_comm → Ydh, length_dropLast → Ydm, dropLast_concat → Ydn, map_replicate → Ydu, reverse_perm → YdA, getElem_take → YdB, ext_getElem? → YdC, zipIdx_cons → YdK, of_mem_zip → YdS, nil_append → YdT, length_nil → YdU, forIn_cons → YdV, foldl_cons → YdW, append_inj → YdX, mem_or_eq_of_mem_set → Yd9, getLastD_eq_getLast? → Yea, foldl → Yeh, pairwise_singleton → Yej, getElem?_replicate → Yek, any_cons → Yel, range_succ_eq_map → Yes, getElem?_dropLast → Yet, drop_of_length_le → Yeu, sum_nil → Yey, mem_iff_getElem? → Yez, map_set → YeA, extract → YeB, set_append_left → YeI, reverse_reverse → YeJ, mem_iff_getElem → YeK, map_eq_cons_iff → YeL, length_zipWith → YeO, getElem_of_mem → YeP, mem_replicate → YeW, getElem_range → YeX, getElem?_take → YeY, take_reverse → Ye4, getElem_drop → Ye5, count_append → Ye6, perm_middle → Yfa, cons_ne_nil → Yfb
open PySem.W renaming Frag → Yae, nsIn → YaC, keepIn → YaE, codeIn → YaL, fnOf → YaN, mg_none_of → Ya7, kia_one → YbE, kitOne → Yco, findIn → Yc0, methodObj → Ydr, instObj → YdD, OpenLaw → YdE, lookIn → YdL, cellsFrom_some → Yd8, specialIn → YeF, kitx_list → YeG, kitx_dict → YeH, plainGet → YeN, mg_of → Ye7, WalkO → Ye8
open PySem.Heap renaming get?_push_of_some → Yag, lt_size → Yar, get?_push_size → YaA, size_push → YbF, SameBut → Ydi, IsTuple → Ydj, ExtBut → Ydp, IsList → YdZ, get?_update_other → Yew, get?_update_self → YeD, get?_update_ne → YeQ
open Array renaming getElem?_toList → Yaq, getD_eq_getD_getElem? → Ya6, toList_append → Ybb, length_toList → Ybd, toList_reverse → Ycp, getElem?_eq_getElem → Ycr, toList_push → YcK, toList_extract → YcW, toList_setIfInBounds → Yd1, perm_iff_toList_perm → Yd2, getElem?_eq_some_iff → Yd3
open Nat renaming le_refl → Yas, lt_of_lt_of_le → Yau, zero_le → YaO, ne_of_lt → YaS, le_of_lt → Ybi, lt_irrefl → Ybp, lt_or_ge → Ybt, le_trans → YbC, add_sub_cancel_left → YbG, zero_add → YbT, ne_of_gt → YbU, sub_self → Yb6, lt_succ_self → Ycz, sub_zero → Yc2, le_succ → Ydb, eq_zero_or_pos → Ydw, add_sub_cancel → Ydx, mod_lt → YdF, lt_succ_of_lt → YdG, zero_mod → YdJ, mod_eq_of_lt → YdM, min_eq_right → YdN, max_eq_right → YdO, min_eq_left → Yd6, add_assoc → Yer, add_lt_add_left → YeV, lt_or_eq_of_le → Ye1, lt_of_le_of_lt → Ye2, lt_trichotomy → Ye9
open Option.some renaming inj → Yay, injEq → Yef
open Bool renaming false_ne_true → YaF, false_eq_true → YaU, eq_iff_iff → Yb4, and_eq_true → Yb8, not_true → Yda, and_self → Yeo, or_self → YeE
open PySem.F renaming plainAttrs_list → YaG, type_list_append → Ya1, slot_list_append → Ya2, type_list_pop → YcH, slot_list_pop → YcI, type_list_extend → YdQ, slot_list_extend → YdR
open Or renaming inl → YaP, inr → Yds
open PySem.PyData renaming shownAll → YaV, depthAll → Ybl, int → Ybo, canLayAll0 → YbS, showableAll → YbV, hasDictAll → Yb1, canLay0 → YcJ, shown → YcM, showable → Ydd, hasDict → Ydk, depth → Yei
open Ne renaming symm → YaX
open PySem.Builtin.SmallTypes renaming nextOf → Ya8, ownedTupleIsFree → YbO, ownedTupleHandOut → Yc1
open PySem.PassesOwn renaming never → Yba
open ForInStep renaming yield → Ybg, done → Ycm
open Int renaming toNat_natCast → Ybh, emod_lt_of_pos → Ycg, le_refl → Ycl, toNat → YcF, emod_nonneg → YcG, zero_add → Ydl, fdiv_eq_ediv_of_nonneg → Yeb, eq_ofNat_of_zero_le → Yev, add_zero → YeM, add_mul → YeZ
open PySem.Builtin.Int renaming intBits → YbH
open PySem renaming mem_of_lookup → YbJ, boot_len → YbM, call → YeR
open PySem.Obj renaming mapSeq → YbY, data_mapFields → Ye0
open PyProof.Rows renaming callWith_type1 → Yb5, slot_tuple_getitem → Ycy, envOfC → YcL
open PySem.Value renaming ref → Yb7, none → Ycx, bool → Yd7, str → Yep, int → Yeq
open List.Perm renaming append_left → Yb9, append_right → Yc5, trans → Yc6, refl → YdH
open PySem.Builtin.Slice renaming slicePlaces → Ycd, sliceAdjust → YcR, sliceApplied → Ydq
open PySem.NameKind renaming free → Yce, cell → Ye3
open PyProof.Rows.KeyOrd renaming kle_refl → Ycf, kle_of_klt → Ycj, kle_trans → YcQ, kle_antisymm → YeC
open PySem.Builtin.Tuple renaming tupleExact → Yck
open PySem.Builtin.List renaming listTooLong → Ycn
open PySem.AutoSeq1 renaming wpAny_loadPart' → Ycq
open PySem.Shared renaming heap → Ycs
open List.Pairwise renaming nil → Ycw
open False renaming elim → YcB
open PySem.Str renaming ofString → YcD, empty → Ydv
open Option renaming toList_some → Ydo, map_some → YdI, map_eq_some_iff → Yeg, none → Yex, getD_some → YeT, getD_none → YeU
open PyProof.Rows.SortSt renaming mk' → Ydt
open PySem.Builtin.Range renaming rangeSize → Ydy
open True renaming intro → Ydz
open PySem.Heap.IsSliceOf renaming new → YdP
open PySem.Heap.SameBut renaming update → YdY
open PySem.Calls renaming Name_function_global → Yd0, callWith_builtin → Yen
open Sum renaming inr → Yd4, inl → Yd5
open PySem.Heap.IsTuple renaming push → Yec
open PySem.SeqAt.EqAt renaming str_int → Yed, int_str → Yee
open PySem.Heap.IsList renaming push → Yem
open Prod renaming ext → YeS
set_option Elab.async false
set_option linter.all false
set_option maxRecDepth 100000
namespace L2
open PySem PySem.Spec PyProof.Rows
abbrev Key:=Sum Int Str
def Zli:Key->Value->Bool
 | .inl k,v=>Value.isInt k v
 | .inr x,v=>Value.isStrOf x v
def keyH (w:World):Key->Int
 | .inl k=>hashInt k
 | .inr x=>hashStr w x
theorem ZaI:∀ {k:Key}{v:Value},Zli k v=true->(∃ i t,k=Yd5 i/\v=Yeq i t)∨(∃ x t,k=Yd4 x/\v=Yep x t)
 | .inl i,v,h=>by
  obtain⟨t,e⟩:=Value.isInt_shape (k:=i) (v:=v) h;exact .inl ⟨i,t,rfl,e⟩
 | .inr x,v,h=>by
  obtain⟨t,e⟩:=Value.isStrOf_shape (x:=x) (v:=v) h;exact .inr ⟨x,t,rfl,e⟩
theorem Zlh (a b:Int):decide ((Yd5 a:Key)=Yd5 b)=(a == b):=by
 by_cases e:a=b
 ·subst e;simp
 ·have h:¬ (Yd5 a:Key)=Yd5 b:=fun q=>e (Sum.inl.inj q);rw[decide_eq_false h];exact (beq_eq_false_iff_ne.mpr e).symm
theorem Zle (a b:Str):decide ((Yd4 a:Key)=Yd4 b)=decide (a=b):=by
 by_cases e:a=b
 ·subst e;simp
 ·have h:¬ (Yd4 a:Key)=Yd4 b:=fun q=>e (Sum.inr.inj q);rw[decide_eq_false h,decide_eq_false e]
theorem Zlg (a:Int) (b:Str):decide ((Yd5 a:Key)=Yd4 b)=false:=decide_eq_false (fun q=>nomatch q)
theorem Zlf (a:Str) (b:Int):decide ((Yd4 a:Key)=Yd5 b)=false:=decide_eq_false (fun q=>nomatch q)
def Ze7 (prog:Program) (w:World):PySem.KeyKind prog w Key where
 is:=Zli
 hash:=keyH w
 inj:=fun v a b ha hb=>by
  rcases ZaI ha with ⟨i,t,rfl,rfl⟩ | ⟨x,t,rfl,rfl⟩
  ·rcases ZaI hb with ⟨j,u,rfl,e⟩ | ⟨y,u,rfl,e⟩
   ·injection e with e1 _;rw[e1]
   ·exact nomatch e
  ·rcases ZaI hb with ⟨j,u,rfl,e⟩ | ⟨y,u,rfl,e⟩
   ·exact nomatch e
   ·injection e with e1 _;rw[e1]
 byValue:=fun k v h=>by
  rcases ZaI h with ⟨i,t,rfl,rfl⟩ | ⟨x,t,rfl,rfl⟩ <;> rfl
 pyHash:=fun hv h=>by
  rcases ZaI hv with ⟨i,t,rfl,rfl⟩ | ⟨x,t,rfl,rfl⟩
  ·exact wpAny_pyHash_int h
  ·exact wpAny_pyHash_str h
 eqBool:=fun hu hv h=>by
  rcases ZaI hu with ⟨i,t,rfl,rfl⟩ | ⟨x,t,rfl,rfl⟩
  ·rcases ZaI hv with ⟨j,u,rfl,rfl⟩ | ⟨y,u,rfl,rfl⟩
   ·rw[Zlh] at h;exact wpAny_eqBool_int h
   ·rw[Zlg] at h;exact Yee i t y u _ _ _ _ h
  ·rcases ZaI hv with ⟨j,u,rfl,rfl⟩ | ⟨y,u,rfl,rfl⟩
   ·rw[Zlf] at h;exact Yed x t j u _ _ _ _ h
   ·rw[Zle] at h;exact wpAny_eqBool_str h
 «strs»:=fun k x t v h=>by
  rcases ZaI h with ⟨i,u,rfl,e⟩ | ⟨y,u,rfl,e⟩
  ·exact nomatch e
  ·injection e with e1 _;subst e1;cases v <;> rfl
end L2
namespace L2
open PySem PySem.Spec PyProof.Rows
inductive V where
 | non | bl (b:Bool) | int (i:Int) | str (x:Str) | byt (b:Array UInt8) | flt (b:UInt64) | ref (a:Addr) | ty (n:String)
 deriving DecidableEq
def RelV:V->Value->Prop
 | .non,u=>u=Ycx
 | .bl b,u=>u=Yd7 b
 | .int i,u=>∃ t,u=Yeq i t
 | .str x,u=>∃ t,u=Yep x t
 | .byt b,u=>∃ t,u=Value.bytes b t
 | .flt b,u=>∃ t,u=Value.float b t
 | .ref a,u=>u=Yb7 a
 | .ty n,u=>u=Value.type n
abbrev Vals:List V->List Value->Prop:=Paired RelV
theorem Vals.length {xs:List V}{us:List Value} (r:Vals xs us):xs.length=us.length:=Paired.length r
theorem Vals.get:∀ {xs:List V}{us:List Value}{i:Nat}{x:V},Vals xs us->xs[i]?=some x->∃ u,us[i]?=some u/\RelV x u
 | _,_,_,_,.nil,e=>by simp at e
 | _,_,0,_,.cons r _,e=>by simp at e;subst e;exact⟨_,rfl,r⟩
 | _,_,i+1,x,.cons _ t,e=>by
  obtain⟨u,h1,h2⟩:=Vals.get (i:=i) (x:=x) t (by simpa using e);exact⟨u,by simpa using h1,h2⟩
theorem Vals.set {x:V}{u:Value} (r:RelV x u):∀ {xs:List V}{us:List Value} (i:Nat),Vals xs us->Vals (xs.set i x) (us.set i u)
 | _,_,_,.nil=>.nil
 | _,_,0,.cons _ t=>.cons r t
 | _,_,i+1,.cons q t=>.cons q (Vals.set r i t)
theorem Vals.append:∀ {xs ys:List V}{us ws:List Value},Vals xs us->Vals ys ws->Vals (xs++ys) (us++ws)
 | _,_,_,_,.nil,s=>s
 | _,_,_,_,.cons r t,s=>.cons r (Vals.append t s)
theorem Vals.take:∀ {xs:List V}{us:List Value} (n:Nat),Vals xs us->Vals (xs.take n) (us.take n)
 | _,_,0,_=>.nil
 | _,_,_+1,.nil=>.nil
 | _,_,n+1,.cons r t=>.cons r (Vals.take n t)
theorem Vals.drop:∀ {xs:List V}{us:List Value} (n:Nat),Vals xs us->Vals (xs.drop n) (us.drop n)
 | _,_,0,r=>r
 | _,_,_+1,.nil=>.nil
 | _,_,n+1,.cons _ t=>Vals.drop n t
theorem Vals.none_of:∀ {xs:List V}{us:List Value}{i:Nat},Vals xs us->xs[i]?=none->us[i]?=none:=fun {xs us i} r e=>by
 have h1:=r.length;have h2:xs.length<=i:=Yc4.mp e;exact Yc4.mpr (by omega)
def RelO:Option V->Option Value->Prop
 | some v,some u=>RelV v u
 | none,none=>True
 | _,_=>False
def KV {κ:Type}:List (κ × V)->List (κ × Value)->Prop:=Paired fun (p:κ × V) (q:κ × Value)=>p.1=q.1/\RelV p.2 q.2
def kV:Key->V
 | .inl i=>.int i
 | .inr x=>.str x
inductive HO where
 | lst (xs:List V)
 | tup (xs:List V)
 | dK (kvs:List (Key × V)) | dT (kvs:List (List Key × V))
 | set (S:Int->Bool) (n:Nat)
 | ins (C dx:Addr) (fs:List (Str × V))
 | own (x:Addr)
 | xd (fs:List (Str × V))
 | met (f x:Addr)
 | rng (lo hi:Int)
 | frz (o:Obj) (u:HO)
 | tbl (ps:Array Value)
 | ext (φ:Heap->Prop)
abbrev Hp:=Addr->Option HO
def upd (H:Hp) (a:Addr) (o:HO):Hp:=fun b=>if b=a then some o else H b
theorem Zab {H:Hp}{a:Addr}{o:HO}:upd H a o a=some o:=by unfold upd;rw[if_pos rfl]
theorem upd_ne {H:Hp}{a b:Addr}{o:HO} (h:b≠a):upd H a o b=H b:=by unfold upd;rw[if_neg h]
theorem Zae {H:Hp}{a b:Addr}{o:HO} (h:H a=some o) (h':H b=none):a≠b:=by
 intro e;subst e;rw[h] at h';cases h'
def IsTupD (h:Heap) (a:Addr) (items:Array Value):Prop:=∃ o,h.get? a=some o/\o.cls=.type "tuple"/\o.dict=none/\∃ n,o.data=.seq items n
theorem IsTupD.tup {h:Heap}{a:Addr}{items:Array Value} (x:IsTupD h a items):IsTup h a items:=let ⟨o,e,c,_,d⟩:=x;⟨o,e,c,d⟩
theorem IsTupD.new (h:Heap) (items:Array Value):IsTupD (h.push { cls:=.type "tuple",data:=.seq items }) h.objs.size items:=⟨_,YaA _ rfl,rfl,rfl,_,rfl⟩
section
variable (P:Program) (w:World)
def ObjOk (H:Hp) (h:Heap) (a:Addr):HO->Prop
 | .lst xs=>xs.length<=sizeLine/\∃ (its:List Value) (n:Nat),Vals xs its/\h.get? a=some { cls:=.type "list",data:=.seq its.toArray n }
 | .tup xs=>xs.length<=sizeLine/\∃ its:List Value,Vals xs its/\IsTupD h a its.toArray
 | .dK kvs=>kvs.length<=sizeLine/\(a == sysModules)=false/\∃ vs,KV kvs vs/\h.DictOf (Ze7 P w) a vs
 | .dT kvs=>kvs.length<=sizeLine/\(a == sysModules)=false/\∃ xs:List (List Key × Addr × Value),
   Paired (fun (p:List Key × V) (q:List Key × Addr × Value)=>p.1=q.1/\H q.2.1=some (.tup (p.1.map kV))/\RelV p.2 q.2.2) kvs xs /\
   ∃ o es ep,h.get? a=some o/\o.ExactDict/\o.data=.dict es ep/\es.toList=xs.map (entryOfKey (tupleKind (Ze7 P w)))/\(xs.map (·.1)).Nodup
 | .set S n=>h.SetOf (intKind P w) a S n
 | .ins C dx fs=>H dx=some (.own a)/\fs.length<=1000/\dx≠a/\h.get? a=some (YdD C dx) /\
   ∃ mA,h.Ns1 dx mA/\(∀ f,RelO (fs.lookup f) (mA f))/\PySem.Within mA (fs.map (·.1))
 | .own _=>∃ o,h.get? a=some o
 | .xd fs=>∃ mA,h.Ns1 a mA/\∀ f,RelO (fs.lookup f) (mA f)
 | .rng lo hi=>∃ t u v,h.get? a=some { cls:=.type "range",data:=.fields #[.int lo t,.int hi u,.int 1 v] }
 | .frz o u=>h.get? a=some o/\ObjOk H h a u
 | .tbl ps=>h.get? a=some { cls:=.none,data:=.fields ps }
 | .met f x=>h.get? a=some (Ydr (.ref f) (.ref x))
 | .ext φ=>φ h/\(∃ o,h.get? a=some o)/\∀ h1 h2:Heap,φ h1->(∀ o,h1.get? a=some o->h2.get? a=some o)->φ h2
def HOk (H:Hp) (h:Heap):Prop:=∀ a o,H a=some o->ObjOk P w H h a o
end
section
variable {P:Program}{w:World}{H H':Hp}{h h':Heap}{a:Addr}{o:HO}
theorem ObjOk.lt (x:ObjOk P w H h a o):a<h.objs.size:=by
 cases o with
 | lst xs=>obtain⟨_,_,_,_,e⟩:=x;exact Yar e
 | tup xs=>obtain⟨_,_,_,p⟩:=x;exact p.tup.lt
 | dK kvs=>obtain⟨_,_,_,_,o,_,_,e,_⟩:=x;exact Yar e
 | dT kvs=>obtain⟨_,_,_,_,o,_,_,e,_⟩:=x;exact Yar e
 | set S n=>obtain⟨o,_,_,_,e,_⟩:=x;exact Yar e
 | ins C dx fs=>obtain⟨_,_,_,e,_⟩:=x;exact Yar e
 | own y=>obtain⟨_,e⟩:=x;exact Yar e
 | xd fs=>obtain⟨_,⟨_,_,_,e,_⟩,_⟩:=x;exact Yar e
 | rng lo hi=>obtain⟨_,_,_,e⟩:=x;exact Yar e
 | frz ob u=>obtain⟨e,_⟩:=x;exact Yar e
 | tbl ps=>exact Yar (show h.get? a=some _ from x)
 | met f y=>exact Yar (show h.get? a=some _ from x)
 | ext φ=>obtain⟨_,⟨_,e⟩,_⟩:=x;exact Yar e
theorem Paired.mapP {α β:Type}{F G:α->β->Prop}:∀ {l₁:List α}{l₂:List β},Paired F l₁ l₂->(∀ a b,F a b->G a b)->Paired G l₁ l₂
 | _,_,.nil,_=>.nil
 | _,_,.cons r t,f=>.cons (f _ _ r) (Paired.mapP t f)
theorem ObjOk.stay (x:ObjOk P w H h a o) (k:∀ b u,(b=a∨H b=some (.own a))->h.get? b=some u->h'.get? b=some u)
  (ho:∀ b,H b=some (.own a)->H' b=some (.own a)) (ht:∀ b xs,H b=some (.tup xs)->H' b=some (.tup xs)):ObjOk P w H' h' a o:=by
 induction o with
 | lst xs=>obtain⟨z,its,n,r,e⟩:=x;exact⟨z,its,n,r,k _ _ (.inl rfl) e⟩
 | tup xs=>obtain⟨z,its,r,ob,e,c⟩:=x;exact⟨z,its,r,ob,k _ _ (.inl rfl) e,c⟩
 | dK kvs=>obtain⟨z,y,vs,r,ob,es,ep,e,c⟩:=x;exact⟨z,y,vs,r,ob,es,ep,k _ _ (.inl rfl) e,c⟩
 | dT kvs=>
  obtain⟨z,y,xs,r,ob,es,ep,e,c⟩:=x;exact⟨z,y,xs,Paired.mapP r fun p q z=>⟨z.1,ht _ _ z.2.1,z.2.2⟩,ob,es,ep,k _ _ (.inl rfl) e,c⟩
 | set S n=>obtain⟨ob,es,ep,t,e,c⟩:=x;exact⟨ob,es,ep,t,k _ _ (.inl rfl) e,c⟩
 | ins C dx fs=>
  obtain⟨d,z,ne,e,mA,⟨od,es,ep,e2,c⟩,r⟩:=x;exact⟨ho _ d,z,ne,k _ _ (.inl rfl) e,mA,⟨od,es,ep,k _ _ (.inr d) e2,c⟩,r⟩
 | own y=>obtain⟨ob,e⟩:=x;exact⟨ob,k _ _ (.inl rfl) e⟩
 | xd fs=>obtain⟨mA,⟨od,es,ep,e,c⟩,r⟩:=x;exact⟨mA,⟨od,es,ep,k _ _ (.inl rfl) e,c⟩,r⟩
 | rng lo hi=>obtain⟨t,u,v,e⟩:=x;exact⟨t,u,v,k _ _ (.inl rfl) e⟩
 | frz ob u ih=>obtain⟨e,q⟩:=x;exact⟨k _ _ (.inl rfl) e,ih q⟩
 | tbl ps=>
  have e:h.get? a=some { cls:=.none,data:=.fields ps }:=x;show h'.get? a=some { cls:=.none,data:=.fields ps };exact k a _ (.inl rfl) e
 | met f y=>
  have e:h.get? a=some (Ydr (.ref f) (.ref y)):=x;show h'.get? a=some (Ydr (.ref f) (.ref y));exact k a _ (.inl rfl) e
 | ext φ=>obtain⟨p,⟨o,e⟩,st⟩:=x;exact⟨st _ _ p fun o q=>k _ _ (.inl rfl) q,⟨o,k _ _ (.inl rfl) e⟩,st⟩
theorem HOk.lt (x:HOk P w H h) (e:H a=some o):a<h.objs.size:=(x a o e).lt
theorem HOk.fresh (x:HOk P w H h) (e:h.objs.size<=a):H a=none:=by
 cases q:H a with
 | none=>rfl
 | some u=>exact absurd (Yau (x.lt q) e) (Ybp _)
theorem HOk.kept (x:HOk P w H h) (k:∀ b u,h.get? b=some u->h'.get? b=some u):HOk P w H h':=fun a o e=>
 (x a o e).stay (fun b u _ q=>k b u q) (fun _ q=>q) fun _ _ q=>q
theorem HOk.laid (x:HOk P w H h) (k:∀ b u,h.get? b=some u->h'.get? b=some u) (hp:h.objs.size<=a) (new:ObjOk P w (upd H a o) h' a o):HOk P w (upd H a o) h':=fun b u e=>by
 have hn:=x.fresh hp;by_cases hb:b=a
 ·subst hb;rw[Zab] at e;cases e;exact new
 ·rw[upd_ne hb] at e;exact (x b u e).stay (fun c v _ q=>k c v q) (fun c q=>by rw[upd_ne (Zae q hn)];exact q) fun c xs q=>by rw[upd_ne (Zae q hn)];exact q
end
def Rd (H:Hp) (a:Addr) (u:HO):Prop:=H a=some u∨∃ o,H a=some (.frz o u)
theorem Rd.ok {P:Program}{w:World}{H:Hp}{h:Heap}{a:Addr}{u:HO} (r:Rd H a u) (x:HOk P w H h):ObjOk P w H h a u:=by
 rcases r with r | ⟨o,r⟩
 ·exact x a u r
 ·obtain⟨_,q⟩:=x a _ r;exact q
def Mut:Option HO->Prop
 | some (.lst _)=>True
 | some (.dK _)=>True
 | some (.dT _)=>True
 | some (.set _ _)=>True
 | some (.ins _ _ _)=>True
 | some (.ext _)=>True
 | _=>False
section
variable {P:Program}{w:World}{H:Hp}{h h':Heap}{x e:Addr}{o':HO}
theorem HOk.write (ok:HOk P w H h) (mu:Mut (H x)) (he:e=x∨H e=some (.own x)) (k:∀ b u,b≠e->h.get? b=some u->h'.get? b=some u) (heo:∃ u,h'.get? e=some u)
  (new:ObjOk P w (upd H x o') h' x o'):HOk P w (upd H x o') h':=fun b u q=>by
 have nown:∀ c y,H c=some (.own y)->c≠x:=fun c y r z=>by subst z;rw[r] at mu;exact mu
 have ntup:∀ c xs,H c=some (.tup xs)->c≠x:=fun c xs r z=>by subst z;rw[r] at mu;exact mu
 by_cases hb:b=x
 ·subst hb;rw[Zab] at q;cases q;exact new
 ·rw[upd_ne hb] at q;by_cases hbe:b=e
  ·have q':H b=some (.own x):=by
    rcases he with z | z
    ·exact absurd (hbe.trans z) hb
    ·rw[hbe];exact z
   rw[q] at q';cases q';obtain⟨v,hv⟩:=heo;exact⟨v,by rw[hbe];exact hv⟩
  ·refine (ok b u q).stay (fun c v hc r=>k c v ?_ r) (fun c r=>by rw[upd_ne (nown c b r)];exact r) fun c xs r=>by rw[upd_ne (ntup c xs r)];exact r
   rcases hc with rfl | hc
   ·exact hbe
   ·rintro rfl;rcases he with z | z
    ·exact nown c b hc z
    ·rw[hc] at z;cases z;exact hb rfl
end
structure Un (fs ex:List Addr) (H H':Hp) (h h':Heap):Prop where
 keep:∀ b o,h.get? b=some o->H b=none->b ∉ fs->b ∉ ex->h'.get? b=some o
 slot:∀ b o,h.get? b=some o->H b=none->b∈fs->b ∉ ex->∃ sl,h'.get? b=some { o with slots:=sl }
 free:∀ b o,h.get? b=some o->H b=none->b ∉ ex->H' b=none
 there:∀ b o,h.get? b=some o->b ∉ ex->∃ o',h'.get? b=some o'
 tups:∀ b xs,H b=some (.tup xs)->H' b=some (.tup xs)
 frzs:∀ b o u,H b=some (.frz o u)->H' b=some (.frz o u)
 tbls:∀ b ps,H b=some (.tbl ps)->∃ more,H' b=some (.tbl (ps++more))
section
variable {fs fs' ex ex':List Addr}{H H1 H2:Hp}{h h1 h2 h':Heap}{a x e:Addr}{o:HO}
theorem Un.any (u:Un fs ex H H1 h h1) {b:Addr}{ob:Obj} (q:h.get? b=some ob) (n:H b=none) (hx:b ∉ ex):∃ sl,h1.get? b=some { ob with slots:=sl }:=by
 by_cases hb:b∈fs
 ·exact u.slot b ob q n hb hx
 ·exact⟨ob.slots,u.keep b ob q n hb hx⟩
theorem Un.kept (k:∀ b u,h.get? b=some u->h'.get? b=some u):Un fs ex H H h h' :=
 ⟨fun b ob q _ _ _=>k b ob q,fun b ob q _ _ _=>⟨ob.slots,k b ob q⟩,fun _ _ _ n _=>n,fun b ob q _=>⟨ob,k b ob q⟩,fun _ _ q=>q,fun _ _ _ q=>q,fun _ ps q=>⟨#[],by rw[q];simp⟩⟩
theorem Un.refl:Un fs ex H H h h:=Un.kept fun _ _ q=>q
theorem Un.laid (k:∀ b u,h.get? b=some u->h'.get? b=some u) (hp:h.objs.size<=a) (hn:H a=none):Un fs ex H (upd H a o) h h' where
 keep:=fun b u q _ _ _=>k b u q
 slot:=fun b u q _ _ _=>⟨u.slots,k b u q⟩
 free:=fun b u q n _=>by rw[upd_ne (YaS (Yau (Yar q) hp))];exact n
 there:=fun b u q _=>⟨u,k b u q⟩
 tups:=fun b xs q=>by rw[upd_ne (Zae q hn)];exact q
 frzs:=fun b u xs q=>by rw[upd_ne (Zae q hn)];exact q
 tbls:=fun b ps q=>⟨#[],by rw[upd_ne (Zae q hn),q];simp⟩
theorem Un.write (mu:Mut (H x)) (he:e=x∨H e=some (.own x)) (k:∀ b u,b≠e->h.get? b=some u->h'.get? b=some u) (heo:∃ u,h'.get? e=some u):Un fs ex H (upd H x o) h h':=by
 have hx:∀ b,H b=none->b≠x:=fun b n z=>by subst z;rw[n] at mu;exact mu
 have hb:∀ b,H b=none->b≠e:=fun b n z=>by
  subst z;rcases he with r | r
  ·exact hx b n r
  ·rw[n] at r;cases r
 have hm:∀ b u,H b=some u->¬ Mut (some u)->b≠x:=fun b u q nm z=>by subst z;rw[q] at mu;exact nm mu
 refine⟨fun b u q n _ _=>k b u (hb b n) q,fun b u q n _ _=>⟨u.slots,k b u (hb b n) q⟩,fun b u q n _=>by rw[upd_ne (hx b n)];exact n,fun b u q _=>?_,
  fun b xs q=>by rw[upd_ne (hm b _ q fun z=>z)];exact q,fun b u xs q=>by rw[upd_ne (hm b _ q fun z=>z)];exact q,fun b ps q=>⟨#[],by rw[upd_ne (hm b _ q fun z=>z),q];simp⟩⟩
 by_cases hbe:b=e
 ·subst hbe;exact heo
 ·exact⟨u,k b u hbe q⟩
end
def trk (h:Heap) (H:Hp):List Addr:=(Yap h.objs.size).filter fun a=>(H a).isSome
def hidT (h:Heap) (H:Hp):Heap:=PySem.W.hideAll h (trk h H)
theorem Zht (h:Heap) (H:Hp):(hidT h H).objs.size=h.objs.size:=PySem.W.hideAll_size _ _
theorem ZiO {h:Heap}{H:Hp}{b:Addr}{o:Obj} (e:h.get? b=some o) (n:H b=none):(hidT h H).get? b=some o :=
 PySem.W.hideAll_get _ e fun hm=>by
  have q:(H b).isSome=true:=(List.mem_filter.mp hm).2
  rw[n] at q;simp at q
theorem Zj1 {h:Heap}{H:Hp}{b:Addr}{o:Obj} (e:(hidT h H).get? b=some o):h.get? b=some o/\H b=none:=by
 have e':h.get? b=some o:=PySem.W.of_hideAll (trk h H) e;refine⟨e',?_⟩
 cases q:H b with
 | none=>rfl
 | some x=>
  have hm:b∈trk h H:=List.mem_filter.mpr ⟨Ybn.mpr (Yar e'),by simp[q]⟩;have z:(hidT h H).get? b=none:=PySem.W.hideAll_none (trk h H) hm;rw[z] at e;cases e
def Zkq (g h:Heap) (L:Addr):List (Addr × Obj):=(Yap h.objs.size).filterMap fun a=>if a=L∨(g.get? a).isSome=true then none else (h.get? a).map fun o=>(a,o)
def rest (g h:Heap) (L d:Addr):List (Addr × Obj):=(Zkq g h L).filter fun p=>decide (p.1≠d)
end L2
namespace L2
open PySem PySem.Spec PyProof.Rows
structure Mod (K:Yae) (mg:Str->Option Value) (base:Heap):Prop where
 kin:K.In base
 glob:base.Ns mainGlobals mg
 blt:∃ mb,base.Ns builtinsNs mb/\∀ x:Str,x≠"__name__"->mb x=bootBuiltins x
 nolimit:base.NoLimit
structure Cx where
 prog:Program
 w:World
 K:Yae
 mg:Str->Option Value
 base:Heap
 A:Around
 N:List Str
 s₀:Shared
 H₀:Hp
 env:Env
 outer:List Env
 stack:List Env
 ex:List Addr
 fn:Str->Bool
 calm:Bool
 pn:List (Addr × Obj)
 xe:Value->Shared->Prop
def frs (l:List Env):List Addr:=l.filterMap (·.frame)
abbrev Cx.fs (X:Cx):List Addr:=frs X.outer
def Vis (sc:Scope) (x:Str):Prop:=sc.names.lookup x=some .local ∨ sc.names.lookup x=some .cell∨sc.names.lookup x=some .free
def Loc (sc:Scope) (x:Str):Prop:=sc.names.lookup x=some .local ∨ sc.names.lookup x=some .cell
def Look (env:Env) (h:Heap) (m:Str->Option Value) (x:Str) (u:Value):Prop :=
 (env.kindOf x=some .local /\ m x=some u)∨((env.kindOf x=some .cell∨env.kindOf x=some .free)/\∃ c,env.cells.lookup x=some c/\h.IsCell c (some u))
structure Cx.Ok (X:Cx):Prop where
 mod:Mod X.K X.mg X.base
 kind:X.env.scope.kind=.function
 glob:X.env.globals=mainGlobals
 blt:X.env.builtins=builtinsNs
 above:X.s₀.heap.objs.size<=X.env.locals
 inj:∀ x y c,X.env.cells.lookup x=some c->X.env.cells.lookup y=some c->x=y
 has:∀ x,(X.env.kindOf x=some .cell∨X.env.kindOf x=some .free)->∃ c,X.env.cells.lookup x=some c
 cab:∀ x c,X.fn x=true->X.env.cells.lookup x=some c->X.s₀.heap.objs.size<=c
 hd:X.calm=true->X.A.handled=none
 frames:X.A.frames=some X.stack
 stk:X.stack=X.outer∨(X.stack=X.env::X.outer/\X.env.frame=some X.env.locals)
 exf:∀ b∈X.ex,b≠X.env.locals/\∀ x c,X.env.cells.lookup x=some c->c≠b
 bs:∀ b o,X.base.get? b=some o->X.s₀.heap.get? b=some o/\X.H₀ b=none
 bsz:X.base.objs.size<=X.s₀.heap.objs.size
 noex:∀ b o,X.base.get? b=some o->b ∉ X.ex
 exfs:∀ b∈X.ex,b ∉ X.fs
 funs:X.s₀.heap.FunFrames X.base X.outer
 frf:∀ b∈X.fs,X.H₀ b=none
structure Inv (X:Cx) (pins:List (Addr × Obj)) (σ:List (Option V)) (H:Hp) (s:Shared):Prop where
 ok:X.Ok
 os:s.os=X.s₀.os
 bare:AllBare s.gens
 base:Un X.fs X.ex X.H₀ H X.s₀.heap s.heap
 loc:∃ m,s.heap.Ns X.env.locals m/\∀ (i:Nat) (x:Str) (v:V),X.N[i]?=some x->σ[i]?=some (some v)->Vis X.env.scope x->∃ u,RelV v u/\Look X.env s.heap m x u
 cell:∀ x c,X.env.cells.lookup x=some c->∃ v,s.heap.IsCell c v
 free:H X.env.locals=none
 freeC:∀ x c,X.env.cells.lookup x=some c->H c=none
 pin:∀ p∈X.pn++pins,s.heap.get? p.1=some p.2/\H p.1=none/\p.1≠X.env.locals/\p.1 ∉ X.fs/\∀ v,p.2.data≠.cell v
 hok:HOk X.prog X.w H s.heap
 len:σ.length=X.N.length
section
variable {X:Cx}{pins:List (Addr × Obj)}{σ:List (Option V)}{H H':Hp}{s:Shared}{h':Heap}
theorem Cx.Ok.nofr (ok:X.Ok) {b:Addr}{o:Obj} (e:X.base.get? b=some o):b ∉ X.fs:=fun hb=>by
 have:=(ok.funs.mem hb).1
 rw[e] at this;cases this
theorem Inv.bs (I:Inv X pins σ H s):∀ b o,X.base.get? b=some o->s.heap.get? b=some o/\H b=none:=fun b o e=>
 ⟨I.base.keep b o (I.ok.bs b o e).1 (I.ok.bs b o e).2 (I.ok.nofr e) (I.ok.noex b o e),I.base.free b o (I.ok.bs b o e).1 (I.ok.bs b o e).2 (I.ok.noex b o e)⟩
theorem Inv.bk (I:Inv X pins σ H s):∀ b o,X.base.get? b=some o->s.heap.get? b=some o:=fun b o e=>(I.bs b o e).1
theorem Inv.mod (I:Inv X pins σ H s):Mod X.K X.mg X.base:=I.ok.mod
theorem Inv.kIn (I:Inv X pins σ H s):X.K.In s.heap:=I.ok.mod.kin.keeps I.bk
theorem Inv.lt (I:Inv X pins σ H s):X.env.locals<s.heap.objs.size:=let ⟨_,hn,_⟩:=I.loc;hn.lt
theorem Inv.sz (I:Inv X pins σ H s):X.s₀.heap.objs.size<=s.heap.objs.size:=YbC I.ok.above (Ybi I.lt)
theorem Inv.nofs (I:Inv X pins σ H s) {a:Addr} (h:s.heap.objs.size<=a):a ∉ X.fs:=fun hb=>by
 obtain⟨_,o,ho,_⟩:=I.ok.funs.mem hb;exact absurd (Yau (Yar ho) (YbC I.sz h)) (Ybp _)
theorem Inv.cne (I:Inv X pins σ H s):∀ x c,X.env.cells.lookup x=some c->c≠X.env.locals:=fun x c e z=>by
 obtain⟨v,o,ho,hd⟩:=I.cell x c e;obtain⟨m,⟨o',es,ep,ho',hd',_⟩,_⟩:=I.loc;rw[z,ho'] at ho;cases ho;rw[hd'] at hd;cases hd
theorem Inv.funs (I:Inv X pins σ H s):s.heap.FunFrames X.base X.outer:=by
 have all:∀ (l:List Env),(∀ b∈frs l,b∈X.fs)->X.s₀.heap.FunFrames X.base l->s.heap.FunFrames X.base l:=by
  intro l
  induction l with
  | nil=>intro _ _;trivial
  | cons env r ih=>
   intro hs hl;obtain⟨hk,⟨L,o,hf,hn,ho,hd⟩,hr⟩:=hl;have hL:L∈X.fs:=hs L (by unfold frs;rw[YaJ,hf];exact Yaw);obtain⟨sl,e⟩:=I.base.slot L o ho (I.ok.frf L hL) hL fun z=>I.ok.exfs L z hL;exact⟨hk,⟨L,_,hf,hn,e,hd⟩,ih (fun b hb=>hs b (by unfold frs;rw[YaJ,hf];exact Yan _ hb)) hr⟩
 exact all X.outer (fun _ hb=>hb) I.ok.funs
theorem Inv.stack (I:Inv X pins σ H s):s.heap.FunFrames X.base X.stack:=by
 rcases I.ok.stk with e | ⟨e,hf⟩
 ·rw[e];exact I.funs
 ·rw[e];obtain⟨m,hn,_⟩:=I.loc;refine .cons (by rw[I.ok.kind];decide) hf hn ?_ I.funs;exact Heap.get?_none_of_le (YbC I.ok.bsz I.ok.above)
theorem Inv.stkSub (I:Inv X pins σ H s):∀ b∈frs X.stack,b∈X.env.locals::X.fs:=fun b hb=>by
 rcases I.ok.stk with e | ⟨e,hf⟩
 ·rw[e] at hb;exact Yan _ hb
 ·rw[e] at hb;unfold frs at hb;rw[YaJ,hf] at hb;exact hb
theorem Inv.stkFree (I:Inv X pins σ H s):∀ b∈frs X.stack,H b=none:=fun b hb=>by
 rcases Yav.mp (I.stkSub b hb) with e | hb
 ·rw[e];exact I.free
 ·obtain⟨_,o,ho,_⟩:=I.ok.funs.mem hb;exact I.base.free b o ho (I.ok.frf b hb) fun z=>I.ok.exfs b z hb
theorem Inv.step {g':Array GenState}{t':Nat}{d':Drawn}{ch:List Addr} (I:Inv X pins σ H s)
  (hch:∀ b∈ch,(b∈X.ex∨X.s₀.heap.objs.size<=b)/\b≠X.env.locals/\(∀ x c,X.env.cells.lookup x=some c->c≠b)/\∀ p∈X.pn++pins,p.1≠b)
  (keep:∀ b o,b≠X.env.locals->b ∉ X.fs->b ∉ ch->s.heap.get? b=some o->H b=none->h'.get? b=some o)
  (slot:∀ b o,b≠X.env.locals->b∈X.fs->b ∉ ch->s.heap.get? b=some o->H b=none->∃ sl,h'.get? b=some { o with slots:=sl }) (free:∀ b o,b ∉ ch->s.heap.get? b=some o->H b=none->H' b=none)
  (there:∀ b o,b ∉ ch->s.heap.get? b=some o->∃ o',h'.get? b=some o')
  (tups:∀ b xs,H b=some (.tup xs)->H' b=some (.tup xs)) (frzs:∀ b o u,H b=some (.frz o u)->H' b=some (.frz o u)) (tbls:∀ b ps,H b=some (.tbl ps)->∃ more,H' b=some (.tbl (ps++more)))
  (ns:∀ m,s.heap.Ns X.env.locals m->h'.Ns X.env.locals m) (hok:HOk X.prog X.w H' h') (hg:AllBare g') :
  Inv X pins σ H' { s with heap:=h',gens:=g',drawn:=d',toks:=t' }:=by
 have neL:∀ b o,X.s₀.heap.get? b=some o->b≠X.env.locals:=fun b o e=>YaS (Yau (Yar e) I.ok.above);have neC:∀ b o,X.s₀.heap.get? b=some o->b ∉ X.ex->b ∉ ch:=fun b o e hx hb=>by
  rcases (hch b hb).1 with z | z
  ·exact hx z
  ·exact absurd (Yau (Yar e) z) (Ybp _)
 have cellK:∀ x c,X.env.cells.lookup x=some c->∀ v,s.heap.IsCell c v->h'.IsCell c v:=fun x c e v ⟨o,ho,hd⟩=>by
  have nch:c ∉ ch:=fun z=>(hch c z).2.2.1 x c e rfl;by_cases hc:c∈X.fs
  ·obtain⟨sl,q⟩:=slot c o (I.cne x c e) hc nch ho (I.freeC x c e);exact⟨_,q,hd⟩
  ·exact⟨o,keep c o (I.cne x c e) hc nch ho (I.freeC x c e),hd⟩
 refine⟨I.ok,I.os,hg,⟨fun b o e n hb hx=>?_,fun b o e n hb hx=>?_,fun b o e n hx=>?_,fun b o e hx=>?_,fun b xs e=>tups b xs (I.base.tups b xs e),fun b o xs e=>frzs b o xs (I.base.frzs b o xs e),fun b ps e=>?_⟩,?_,fun x c e=>?_,?_,fun x c e=>?_,fun p hp=>?_,hok,I.len⟩
 ·exact keep b o (neL b o e) hb (neC b o e hx) (I.base.keep b o e n hb hx) (I.base.free b o e n hx)
 ·obtain⟨sl,e1⟩:=I.base.slot b o e n hb hx;obtain⟨sl',e2⟩:=slot b _ (neL b o e) hb (neC b o e hx) e1 (I.base.free b o e n hx);exact⟨sl',e2⟩
 ·obtain⟨o',e1⟩:=I.base.there b o e hx;exact free b o' (neC b o e hx) e1 (I.base.free b o e n hx)
 ·obtain⟨o',e1⟩:=I.base.there b o e hx;exact there b o' (neC b o e hx) e1
 ·obtain⟨m1,e1⟩:=I.base.tbls b ps e;obtain⟨m2,e2⟩:=tbls b _ e1;exact⟨m1++m2,by rw[e2,Array.append_assoc]⟩
 ·obtain⟨m,hn,hl⟩:=I.loc;refine⟨m,ns m hn,fun i x v e1 e2 e3=>?_⟩;obtain⟨u,r,l⟩:=hl i x v e1 e2 e3;refine⟨u,r,?_⟩;rcases l with l | ⟨k,c,e,z⟩
  ·exact .inl l
  ·exact .inr ⟨k,c,e,cellK x c e _ z⟩
 ·obtain⟨v,z⟩:=I.cell x c e;exact⟨v,cellK x c e v z⟩
 ·obtain⟨m,⟨o,_,_,ho,_⟩,_⟩:=I.loc;exact free _ o (fun z=>(hch _ z).2.1 rfl) ho I.free
 ·obtain⟨v,o,ho,hd⟩:=I.cell x c e;exact free c o (fun z=>(hch c z).2.2.1 x c e rfl) ho (I.freeC x c e)
 ·obtain⟨e,n,ne,nf,d⟩:=I.pin p hp;have nch:p.1 ∉ ch:=fun z=>(hch p.1 z).2.2.2 p hp rfl;exact⟨keep p.1 p.2 ne nf nch e n,free p.1 p.2 nch e n,ne,nf,d⟩
theorem Inv.un {t':Nat} (I:Inv X pins σ H s) (u:Un X.fs [] H H' s.heap h') (hok:HOk X.prog X.w H' h'):Inv X pins σ H' { s with heap:=h',toks:=t' }:=by
 obtain⟨m,⟨o,es,ep,ho,r⟩,_⟩:=id I.loc;obtain⟨sl,hL⟩:=u.any ho I.free (by simp);exact I.step (g':=s.gens) (d':=s.drawn) (ch:=[]) (fun _ z=>nomatch z) (fun b o _ hb _ e n=>u.keep b o e n hb (by simp)) (fun b o _ hb _ e n=>u.slot b o e n hb (by simp)) (fun b o _ e n=>u.free b o e n (by simp)) (fun b o _ e=>u.there b o e (by simp)) u.tups u.frzs u.tbls (fun m' hm=>by
  obtain⟨o',es',ep',ho',r'⟩:=hm;rw[ho] at ho';cases ho';exact⟨_,es',ep',hL,r'⟩) hok I.bare
theorem Inv.call {g':Array GenState}{t':Nat}{d':Drawn}{ch:List Addr} (I:Inv X pins σ H s) (u:Un (frs X.stack) ch H H' s.heap h') (hok:HOk X.prog X.w H' h') (hg:AllBare g')
  (hch:∀ b∈ch,(b∈X.ex∨X.s₀.heap.objs.size<=b)/\b≠X.env.locals/\(∀ x c,X.env.cells.lookup x=some c->c≠b)/\∀ p∈X.pn++pins,p.1≠b) :
  Inv X pins σ H' { s with heap:=h',gens:=g',drawn:=d',toks:=t' }:=by
 obtain⟨m,⟨o,es,ep,ho,r⟩,_⟩:=id I.loc;obtain⟨sl,hL⟩:=u.any ho I.free fun z=>(hch _ z).2.1 rfl;exact I.step (ch:=ch) hch (fun b o hL hb hc e n=>u.keep b o e n (fun z=>(Yav.mp (I.stkSub b z)).elim hL hb) hc) (fun b o _ _ hc e n=>u.any e n hc) (fun b o hc e n=>u.free b o e n hc) (fun b o hc e=>u.there b o e hc) u.tups u.frzs u.tbls (fun m' hm=>by
  obtain⟨o',es',ep',ho',r'⟩:=hm;rw[ho] at ho';cases ho';exact⟨_,es',ep',hL,r'⟩) hok hg
theorem Inv.turned {t':Nat}{it:Addr} (I:Inv X pins σ H s) (k:∀ b o,b≠it->s.heap.get? b=some o->h'.get? b=some o) (hn:H it=none) (hL:it≠X.env.locals)
  (h1:it∈X.ex∨X.s₀.heap.objs.size<=it) (h2:∀ x c,X.env.cells.lookup x=some c->c≠it) (h3:∀ p∈X.pn++pins,p.1≠it):Inv X pins σ H { s with heap:=h',toks:=t' }:=by
 have nit:∀ b u,H b=some u->b≠it:=fun b u e z=>by rw[z,hn] at e;cases e
 refine I.step (g':=s.gens) (d':=s.drawn) (ch:=[it]) (fun b hb=>?_) (fun b o _ _ hc e _=>k b o (fun z=>hc (by simp[z])) e) (fun b o _ _ hc e _=>⟨o.slots,k b o (fun z=>hc (by simp[z])) e⟩) (fun _ _ _ _ n=>n)
  (fun b o hc e=>⟨o,k b o (fun z=>hc (by simp[z])) e⟩) (fun _ _ e=>e) (fun _ _ _ e=>e) (fun b ps e=>⟨#[],by rw[e];simp⟩) (fun m hm=>?_) (fun b u e=>?_) I.bare
 ·have e:b=it:=by simpa using hb
  subst e;exact⟨h1,hL,h2,h3⟩
 ·obtain⟨o,es,ep,ho,r⟩:=hm;exact⟨o,es,ep,k _ o (YaX hL) ho,r⟩
 ·refine (I.hok b u e).stay (fun c v hc q=>k c v ?_ q) (fun _ q=>q) fun _ _ q=>q;rcases hc with z | z
  ·rw[z];exact nit b u e
  ·exact nit c _ z
theorem Inv.tok (I:Inv X pins σ H s) (t:Nat):Inv X pins σ H { s with toks:=t }:=I.un (h':=s.heap) (t':=t) Un.refl I.hok
theorem Inv.kept {t':Nat} (I:Inv X pins σ H s) (k:∀ b u,s.heap.get? b=some u->h'.get? b=some u):Inv X pins σ H { s with heap:=h',toks:=t' }:=I.un (Un.kept k) (I.hok.kept k)
theorem Inv.laid {a:Addr}{o:HO}{t':Nat} (I:Inv X pins σ H s) (k:∀ b u,s.heap.get? b=some u->h'.get? b=some u) (hp:s.heap.objs.size<=a) (new:ObjOk X.prog X.w (upd H a o) h' a o) :
  Inv X pins σ (upd H a o) { s with heap:=h',toks:=t' }:=I.un (Un.laid k hp (I.hok.fresh hp)) (I.hok.laid k hp new)
theorem Inv.write {x e:Addr}{o:HO}{t':Nat} (I:Inv X pins σ H s) (mu:Mut (H x)) (he:e=x∨H e=some (.own x)) (k:∀ b u,b≠e->s.heap.get? b=some u->h'.get? b=some u) (heo:∃ u,h'.get? e=some u)
  (new:ObjOk X.prog X.w (upd H x o) h' x o):Inv X pins σ (upd H x o) { s with heap:=h',toks:=t' }:=I.un (Un.write mu he k heo) (I.hok.write mu he k heo new)
theorem Inv.weak {σ':List (Option V)} (I:Inv X pins σ H s) (hl:σ'.length=σ.length) (w:∀ (i:Nat) v,σ'[i]?=some (some v)->σ[i]?=some (some v)):Inv X pins σ' H s :=
 ⟨I.ok,I.os,I.bare,I.base,let ⟨m,hn,hl'⟩:=I.loc;⟨m,hn,fun i x v e1 e2 e3=>hl' i x v e1 (w i v e2) e3⟩,I.cell,I.free,I.freeC,I.pin,I.hok,hl.trans I.len⟩
theorem Inv.pins_of {pins':List (Addr × Obj)} (I:Inv X pins σ H s) (h:∀ p∈pins',s.heap.get? p.1=some p.2/\H p.1=none/\p.1≠X.env.locals/\p.1 ∉ X.fs/\∀ v,p.2.data≠.cell v):Inv X pins' σ H s :=
 ⟨I.ok,I.os,I.bare,I.base,I.loc,I.cell,I.free,I.freeC,fun p hp=>(Yao.mp hp).elim (fun z=>I.pin p (Ya0 _ z)) (h p),I.hok,I.len⟩
theorem ZfH {N:List Str} (hN:N.Nodup) {i j:Nat}{x:Str} (a:N[i]?=some x) (b:N[j]?=some x):i=j:=by
 obtain⟨h1,e1⟩:=Yaa.mp a;obtain⟨h2,e2⟩:=Yaa.mp b;exact (List.getElem_inj hN).mp (e1.trans e2.symm)
theorem ZcH {M:Model}{A:Around}{E:Value->Shared->Prop}{i:Nat}{x:Str}{v:V}{u:Value}{Q:Unit->Shared->Prop} (I:Inv X pins σ H s) (hN:X.N.Nodup) (hi:X.N[i]?=some x) (hx:Loc X.env.scope x) (r:RelV v u)
  (h:∀ s',Inv X pins (σ.set i (some v)) H s'->(∃ a,Ydi a s.heap s'.heap/\(a=X.env.locals∨X.env.cells.lookup x=some a))->Q () s') (hf:X.fn x=true∨X.env.scope.names.lookup x=some .local:=by first | exact .inl rfl | exact .inr rfl | assumption):wpAny M A (storeName X.env x u) Q E s:=by
 obtain⟨m,hn,hl⟩:=id I.loc;have hcls:(X.env.scope.kind == .class || (X.env.scope.kind == .module && X.env.locals != X.env.globals))=false:=by rw[I.ok.kind];rfl
 have hiσ:i<σ.length:=by rw[I.len];exact (Yaa.mp hi).1
 have cne:=I.cne;have tracked:∀ {a:Addr}{h':Heap},(∃ o,s.heap.get? a=some o/\H a=none)->Ydi a s.heap h'->HOk X.prog X.w H h':=fun {a h'} ha hs b ob e=>by
  obtain⟨_,_,hfree⟩:=ha;refine (I.hok b ob e).stay (fun c w' hc q=>(hs.2 c ?_).trans q) (fun _ q=>q) fun _ _ q=>q;rintro rfl;rcases hc with rfl | hc
  ·rw[hfree] at e;cases e
  ·rw[hfree] at hc;cases hc
 rcases hx with hk | hk
 ·refine wpAny_storeName_local hk hn (fun h' hn' hs=>?_) hcls;obtain⟨oL,_,_,hoL,_⟩:=id hn;refine h _ ⟨I.ok,I.os,I.bare,⟨fun b o e n hb hx=>?_,fun b o e n hb hx=>?_,I.base.free,fun b o e hx=>?_,I.base.tups,I.base.frzs,I.base.tbls⟩,⟨_,hn',fun j y v' e1 e2 e3=>?_⟩,fun y c e=>?_,I.free,I.freeC,fun p hp=>?_,tracked ⟨oL,hoL,I.free⟩ hs,by simpa using I.len⟩ ⟨_,hs,.inl rfl⟩
  ·exact (hs.2 b (YaS (Yau (Yar e) I.ok.above))).trans (I.base.keep b o e n hb hx)
  ·obtain⟨sl,e1⟩:=I.base.slot b o e n hb hx;exact⟨sl,(hs.2 b (YaS (Yau (Yar e) I.ok.above))).trans e1⟩
  ·obtain⟨o',e1⟩:=I.base.there b o e hx;exact⟨o',(hs.2 b (YaS (Yau (Yar e) I.ok.above))).trans e1⟩
  ·by_cases hj:j=i
   ·subst hj;rw[hi] at e1;cases e1;rw[Ybk hiσ] at e2;cases e2;exact⟨u,r,.inl ⟨hk,by simp⟩⟩
   ·rw[Ya5 (YaX hj)] at e2;obtain⟨u',r',q⟩:=hl j y v' e1 e2 e3;refine⟨u',r',?_⟩;rcases q with ⟨k,e⟩ | ⟨k,c,e,z⟩
    ·refine .inl ⟨k,?_⟩;have:y≠x:=fun e=>hj (ZfH hN e1 (e ▸ hi));simp[this,e]
    ·exact .inr ⟨k,c,e,z.sameBut hs (cne y c e)⟩
  ·obtain⟨w',z⟩:=I.cell y c e;exact⟨w',z.sameBut hs (cne y c e)⟩
  ·obtain⟨e,n,ne,nf,d⟩:=I.pin p hp;exact⟨(hs.2 p.1 ne).trans e,n,ne,nf,d⟩
 ·have hfn:X.fn x=true:=by
   rcases hf with z | z
   ·exact z
   ·rw[z] at hk;cases hk
  obtain⟨c,hc⟩:=I.ok.has x (.inl hk);obtain⟨w',z⟩:=I.cell x c hc;refine wpAny_storeName_cell I.ok.kind hk hc z (fun h' hc' hs=>?_);obtain⟨oc,hoc,hocd⟩:=id z;refine h { s with heap:=h' } ⟨I.ok,I.os,I.bare,⟨fun b o e n hb hx=>?_,fun b o e n hb hx=>?_,I.base.free,fun b o e hx=>?_,I.base.tups,I.base.frzs,I.base.tbls⟩,⟨m,hn.sameBut hs (YaX (cne x c hc)),fun j y v' e1 e2 e3=>?_⟩,fun y c' e=>?_,I.free,I.freeC,fun p hp=>?_,tracked ⟨oc,hoc,I.freeC x c hc⟩ hs,by simpa using I.len⟩ ⟨c,hs,.inr hc⟩
  ·exact (hs.2 b (YaS (Yau (Yar e) (I.ok.cab x c hfn hc)))).trans (I.base.keep b o e n hb hx)
  ·obtain⟨sl,e1⟩:=I.base.slot b o e n hb hx;exact⟨sl,(hs.2 b (YaS (Yau (Yar e) (I.ok.cab x c hfn hc)))).trans e1⟩
  ·obtain⟨o',e1⟩:=I.base.there b o e hx;exact⟨o',(hs.2 b (YaS (Yau (Yar e) (I.ok.cab x c hfn hc)))).trans e1⟩
  ·by_cases hj:j=i
   ·subst hj;rw[hi] at e1;cases e1;rw[Ybk hiσ] at e2;cases e2;exact⟨u,r,.inr ⟨.inl hk,c,hc,hc'⟩⟩
   ·rw[Ya5 (YaX hj)] at e2;obtain⟨u',r',q⟩:=hl j y v' e1 e2 e3;refine⟨u',r',?_⟩;rcases q with q | ⟨k,c',e,z'⟩
    ·exact .inl q
    ·refine .inr ⟨k,c',e,z'.sameBut hs ?_⟩;rintro rfl;exact hj (ZfH hN e1 (I.ok.inj _ _ _ e hc ▸ hi))
  ·by_cases hcc:c'=c
   ·subst hcc;exact⟨_,hc'⟩
   ·obtain⟨w2,z2⟩:=I.cell y c' e;exact⟨w2,z2.sameBut hs hcc⟩
  ·obtain⟨e,n,ne,nf,d⟩:=I.pin p hp;refine⟨(hs.2 p.1 ?_).trans e,n,ne,nf,d⟩;intro q;rw[q,hoc] at e;have q':oc=p.2:=Yay e;exact d w' (by rw[<- q'];exact hocd)
theorem Zdw {M:Model}{A:Around}{E:Value->Shared->Prop}{i:Nat}{x:Str}{v:V}{u:Value}{Q:Unit->Shared->Prop} (I:Inv X pins σ H s) (hN:X.N.Nodup) (hi:X.N[i]?=some x) (hx:Loc X.env.scope x) (r:RelV v u)
  (h:∀ s',Inv X pins (σ.set i (some v)) H s'->Q () s') (hf:X.fn x=true∨X.env.scope.names.lookup x=some .local:=by first | exact .inl rfl | exact .inr rfl | assumption):wpAny M A (storeName X.env x u) Q E s :=
 ZcH I hN hi hx r (fun s' I' _=>h s' I') hf
theorem Inv.call' {s':Shared}{ch:List Addr} (I:Inv X pins σ H s) (ho:s'.os=s.os) (u:Un (frs X.stack) ch H H' s.heap s'.heap) (hok:HOk X.prog X.w H' s'.heap) (hg:AllBare s'.gens)
  (hch:∀ b∈ch,(b∈X.ex∨X.s₀.heap.objs.size<=b)/\b≠X.env.locals/\(∀ x c,X.env.cells.lookup x=some c->c≠b)/\∀ p∈X.pn++pins,p.1≠b):Inv X pins σ H' s':=by
 obtain⟨h',g',d',t',o'⟩:=s';have e:o'=s.os:=ho;subst e;exact I.call (g':=g') (t':=t') (d':=d') u hok hg hch
end
abbrev XK:=Value->Option Addr->Hp->Prop
abbrev St:=List (Option V)
abbrev VK:=V->Hp->Prop
abbrev TE:=St->Hp->VK->Prop
abbrev TT:=St->Hp->(Bool->Hp->Prop)->Prop
abbrev TA:=St->Hp->(List V->Hp->Prop)->Prop
structure Ends where
 nx:St->Hp->Prop
 rt:VK
 bk:St->Hp->Prop:=fun _ _=>False
 ct:St->Hp->Prop:=fun _ _=>False
abbrev TS:=Ends->St->Hp->Prop
def EP (X:Cx) (pins:List (Addr × Obj)) (σ:St) (Q:VK) (u:Value) (s':Shared):Prop:=∃ v H',Inv X pins σ H' s'/\RelV v u/\Q v H'
def TP (X:Cx) (pins:List (Addr × Obj)) (σ:St) (Q:Bool->Hp->Prop) (b:Bool) (s':Shared):Prop:=∃ H',Inv X pins σ H' s'/\Q b H'
def AP (X:Cx) (pins:List (Addr × Obj)) (σ:St) (Q:List V->Hp->Prop) (us:List Value) (s':Shared):Prop:=∃ vs H',Inv X pins σ H' s'/\Vals vs us/\Q vs H'
def SP (X:Cx) (pins:List (Addr × Obj)) (D:Ends) (f:Flow) (s':Shared):Prop :=
 match f with
 | .next=>∃ σ' H',Inv X pins σ' H' s'/\D.nx σ' H'
 | .brk=>∃ σ' H',Inv X pins σ' H' s'/\D.bk σ' H'
 | .cont=>∃ σ' H',Inv X pins σ' H' s'/\D.ct σ' H'
 | .ret u=>∃ v σ' H',Inv X pins σ' H' s'/\RelV v u/\D.rt v H'
def PE (X:Cx) (e:Expr) (t:TE):Prop :=
 ∀ (pins:List (Addr × Obj)) (s:Shared) (σ:St) (H:Hp) (Q:VK),Inv X pins σ H s->t σ H Q->wpAny (model X.prog X.w) X.A (eval e X.env) (EP X pins σ Q) X.xe s
def PT (X:Cx) (e:Expr) (t:TT):Prop :=
 ∀ (pins:List (Addr × Obj)) (s:Shared) (σ:St) (H:Hp) (Q:Bool->Hp->Prop),Inv X pins σ H s->t σ H Q->wpAny (model X.prog X.w) X.A (isTrue e X.env (eval e X.env)) (TP X pins σ Q) X.xe s
def PW (X:Cx) (e:Expr) (t:TT):Prop :=
 ∀ (whole:Sem Value) (pins:List (Addr × Obj)) (s:Shared) (σ:St) (H:Hp) (Q:Bool->Hp->Prop),Inv X pins σ H s->t σ H Q->wpAny (model X.prog X.w) X.A (isTrue e X.env whole) (TP X pins σ Q) X.xe s
theorem PW.pt {X:Cx}{e:Expr}{t:TT} (h:PW X e t):PT X e t:=h _
def PA (X:Cx) (es:List Expr) (t:TA):Prop :=
 ∀ (pos:Pos) (pins:List (Addr × Obj)) (s:Shared) (σ:St) (H:Hp) (Q:List V->Hp->Prop),Inv X pins σ H s->t σ H Q->wpAny (model X.prog X.w) X.A (spliced (backTo pos (starEach es X.env))) (AP X pins σ Q) X.xe s
def PS (X:Cx) (st:Stmt) (t:TS):Prop :=
 ∀ (pins:List (Addr × Obj)) (s:Shared) (σ:St) (H:Hp) (D:Ends),Inv X pins σ H s->t D σ H->wpAny (model X.prog X.w) X.A (exec st X.env) (SP X pins D) X.xe s
def PSs (X:Cx) (st:List Stmt) (t:TS):Prop :=
 ∀ (pins:List (Addr × Obj)) (s:Shared) (σ:St) (H:Hp) (D:Ends),Inv X pins σ H s->t D σ H->wpAny (model X.prog X.w) X.A (execs st X.env) (SP X pins D) X.xe s
theorem thn {α:Type}{t:Sem α}{Q Q':α->Shared->Prop}{M:Model}{A:Around}{E:Value->Shared->Prop}{s:Shared} (h:wpAny M A t Q E s) (hQ:∀ a s,Q a s->Q' a s):wpAny M A t Q' E s:=wpAny_mono h hQ fun _ _ x=>x
end L2
namespace L2
open PySem PySem.Spec PyProof.Rows
section
variable {X:Cx}
def tVar (i:Nat):TE:=fun σ H Q=>∃ v,σ[i]?=some (some v)/\Q v H
def tC (v:V):TE:=fun _ H Q=>Q v H
theorem ZkY {i:Nat}{x:Str}{pos:Pos} (hN:X.N[i]?=some x) (hv:Vis X.env.scope x) (hd:(x == ("__debug__":Str))=false:=by decide) (hcd:(x == ("__classdict__":Str))=false:=by decide):PE X (.Name x pos) (tVar i):=by
 intro pins s σ H Q I h;obtain⟨v,e,h⟩:=h;obtain⟨m,hn,hl⟩:=I.loc;obtain⟨u,r,l⟩:=hl i x v hN e hv;have fin:EP X pins σ Q u s:=⟨v,H,I,r,h⟩
 rcases l with ⟨hk,hm⟩ | ⟨hk,c,hc,hcell⟩
 ·exact wpAny_Name (wpAny_loadName_local I.ok.kind hk hn hm fin) hd
 ·rcases hk with hk | hk
  ·exact wpAny_Name (wpAny_loadName_cell I.ok.kind hk hc hcell fin) hd
  ·exact wpAny_Name (wpAny_loadName_free I.ok.kind hk hc hcell fin hcd) hd
theorem Zaf {i j pos}:PE X (.Constant (.int i) j pos) (tC (.int i)):=fun _ _ _ H _ I h=>wpAny_Constant_int ⟨.int i,H,I.tok _,⟨_,rfl⟩,h⟩
theorem Ze6 {b j pos}:PE X (.Constant (.bool b) j pos) (tC (.bl b)):=fun _ _ _ H _ I h=>Constant_bool ⟨.bl b,H,I,rfl,h⟩
theorem ZfC {j pos}:PE X (.Constant .none j pos) (tC .non):=fun _ _ _ H _ I h=>Constant_none ⟨.non,H,I,rfl,h⟩
def Gl (X:Cx) (x:Str):Prop:=X.env.kindOf x=some .globalImplicit
theorem Zhh {E:Value->Shared->Prop}{pins:List (Addr × Obj)}{s:Shared}{σ:St}{H:Hp}{x:Str}{u:Value}{pos:Pos}{Q:Value->Shared->Prop} (I:Inv X pins σ H s) (hg:Gl X x) (hm:X.mg x=some u) (h:Q u s)
  (hd:(x == ("__debug__":Str))=false:=by decide):wpAny (model X.prog X.w) X.A (eval (.Name x pos) X.env) Q E s :=
 Yd0 I.ok.kind hg (Calls.loadGlobal_global (by rw[I.ok.glob];exact I.mod.glob.keeps I.bk) hm h) hd
theorem Zdk {E:Value->Shared->Prop}{pins:List (Addr × Obj)}{s:Shared}{σ:St}{H:Hp}{x:Str}{u:Value}{pos:Pos}{Q:Value->Shared->Prop} (I:Inv X pins σ H s) (hg:Gl X x) (hm:X.mg x=none) (hv:bootBuiltins x=some u) (h:Q u s)
  (hn:x≠"__name__":=by decide) (hd:(x == ("__debug__":Str))=false:=by decide):wpAny (model X.prog X.w) X.A (eval (.Name x pos) X.env) Q E s:=by
 obtain⟨mb,h1,h2⟩:=I.mod.blt;exact Yd0 I.ok.kind hg (Calls.loadGlobal_builtin (by rw[I.ok.glob];exact I.mod.glob.keeps I.bk) hm (by rw[I.ok.blt];exact h1.keeps I.bk) ((h2 x hn).trans hv) h) hd
theorem ZjR {x:Str}{v:V}{u:Value}{pos:Pos} (hg:Gl X x) (hm:X.mg x=some u) (r:RelV v u) (hd:(x == ("__debug__":Str))=false:=by decide):PE X (.Name x pos) (tC v) :=
 fun _ _ _ H _ I h=>Zhh I hg hm ⟨v,H,I,r,h⟩ hd
theorem ZjT {x:Str}{v:V}{u:Value}{pos:Pos} (hg:Gl X x) (hm:X.mg x=none) (hv:bootBuiltins x=some u) (r:RelV v u) (hn:x≠"__name__":=by decide) (hd:(x == ("__debug__":Str))=false:=by decide):PE X (.Name x pos) (tC v) :=
 fun _ _ _ H _ I h=>Zdk I hg hm hv ⟨v,H,I,r,h⟩ hn hd
variable {a b:Expr}{ta tb:TE}{pos:Pos}
def PC (X:Cx) (op:CmpOp) (a b:Expr) (t:TE):Prop :=
 ∀ (pins:List (Addr × Obj)) (s:Shared) (σ:St) (H:Hp) (Q:VK),Inv X pins σ H s->t σ H Q ->
  wpAny (model X.prog X.w) X.A (eval a X.env) (fun v s₁=>wpAny (model X.prog X.w) X.A (eval b X.env) (fun u s₂=>wpAny (model X.prog X.w) X.A (compareOp op v u) (EP X pins σ Q) X.xe s₂) X.xe s₁) X.xe s
theorem ZiH (b:Expr) {op:CmpOp} (h:op≠.In) (h2:op≠.NotIn):behindInMarks op b=false:=by
 have e1:(op == CmpOp.In)=false:=by cases op <;> first | rfl | exact absurd rfl h
 have e2:(op == CmpOp.NotIn)=false:=by cases op <;> first | rfl | exact absurd rfl h2
 cases b <;> simp[behindInMarks,e1,e2]
def tIsN (ta:TE):TE:=fun σ H Q=>ta σ H fun x H1=>Q (.bl (decide (x=.non))) H1
def ZlC (ta:TE):TE:=fun σ H Q=>ta σ H fun x H1=>Q (.bl (!decide (x=.non))) H1
theorem RelV.none_iff {x:V}{v:Value} (r:RelV x v):(v == Ycx)=decide (x=.non):=by
 cases x with
 | non=>cases r;rfl
 | bl _=>cases r;rfl
 | int _=>obtain⟨t,rfl⟩:=r;rfl
 | str _=>obtain⟨t,rfl⟩:=r;rfl
 | byt _=>obtain⟨t,rfl⟩:=r;rfl
 | flt _=>obtain⟨t,rfl⟩:=r;rfl
 | ref _=>cases r;rfl
 | ty _=>cases r;rfl
theorem Zjh {j pos'} (ha:PE X a ta):PC X .Is a (.Constant .none j pos') (tIsN ta):=by
 intro pins s σ H Q I h;refine thn (ha pins s σ H _ I h) fun v s1 ⟨x,H1,I1,r1,q1⟩=>?_;exact Constant_none (is_none_gen ⟨.bl _,H1,I1,by rw[r1.none_iff];rfl,q1⟩)
theorem ZcU {j pos'} (ha:PE X a ta):PC X .IsNot a (.Constant .none j pos') (ZlC ta):=by
 intro pins s σ H Q I h;refine thn (ha pins s σ H _ I h) fun v s1 ⟨x,H1,I1,r1,q1⟩=>?_;exact Constant_none (isnot_none_gen ⟨.bl _,H1,I1,by rw[r1.none_iff];rfl,q1⟩)
def tB (t:TE):TT:=fun σ H Q=>t σ H fun x H1=>∃ c,x=.bl c/\Q c H1
theorem ZcO {op:CmpOp}{t:TE} (h:PC X op a b t) (h1:behindInMarks op b=false:=by first | exact ZiH _ (by decide) (by decide) | rfl):PT X (.Compare a [op] [b] pos) (tB t):=by
 intro pins s σ H Q I hw;refine wpAny_isTrue_Compare1 (thn (h pins s σ H _ I hw) fun v s1 h1=>thn h1 fun u s2 h2=>thn h2 fun c s3 ⟨x,H1,I1,r1,q1⟩=>?_) h1;obtain⟨d,rfl,q⟩:=q1;cases r1;exact wpAny_truthy_bool ⟨H1,I1,q⟩
theorem Zcu {e:Expr}{t:TE} (h:PE X e t) (he:∀ whole,isTrue e X.env whole=(do let v <- whole;standAt e.pos;holding [v] (truthy v)):=by intro _;rfl):PT X e (tB t):=by
 intro pins s σ H Q I hw;refine isTrue_plain (thn (h pins s σ H _ I hw) fun v s1 ⟨x,H1,I1,r1,q1⟩=>?_) (he _);obtain⟨d,rfl,q⟩:=q1;cases r1;exact wpAny_truthy_bool ⟨H1,I1,q⟩
variable {tA tB':TT}{rest:List Expr}
def tAnd (t u:TT):TT:=fun σ H Q=>t σ H fun c H1=>if c=true then u σ H1 Q else Q false H1
def tOr (t u:TT):TT:=fun σ H Q=>t σ H fun c H1=>if c=true then Q true H1 else u σ H1 Q
def tNot (t:TT):TT:=fun σ H Q=>t σ H fun c H1=>Q (!c) H1
theorem ZgJ (ha:PT X a tA):PW X (.BoolOp .And [a] pos) tA:=by
 intro wh pins s σ H Q I h;refine isTrue_and (thn (ha pins s σ H Q I h) fun c s1 e=>?_)
 cases c with
 | true=>exact isTrue_and_nil e
 | false=>exact e
theorem Zfv (ha:PT X a tA):PW X (.BoolOp .Or [a] pos) tA:=by
 intro wh pins s σ H Q I h;refine isTrue_or (thn (ha pins s σ H Q I h) fun c s1 e=>?_)
 cases c with
 | false=>exact isTrue_or_nil e
 | true=>exact e
theorem Zjc (ha:PT X a tA) (hb:PW X (.BoolOp .And (b::rest) pos) tB'):PW X (.BoolOp .And (a::b::rest) pos) (tAnd tA tB'):=by
 intro wh pins s σ H Q I h;refine isTrue_and (thn (ha pins s σ H _ I h) fun c s1 ⟨H1,I1,q1⟩=>?_)
 cases c with
 | true=>exact hb wh pins s1 σ H1 Q I1 q1
 | false=>exact⟨H1,I1,q1⟩
theorem Ze3 (ha:PT X a tA) (hb:PW X (.BoolOp .Or (b::rest) pos) tB'):PW X (.BoolOp .Or (a::b::rest) pos) (tOr tA tB'):=by
 intro wh pins s σ H Q I h;refine isTrue_or (thn (ha pins s σ H _ I h) fun c s1 ⟨H1,I1,q1⟩=>?_)
 cases c with
 | true=>exact⟨H1,I1,q1⟩
 | false=>exact hb wh pins s1 σ H1 Q I1 q1
theorem Zb2 (ha:PT X a tA):PT X (.UnaryOp .Not a pos) (tNot tA):=by
 intro pins s σ H Q I h;exact isTrue_not (ha pins s σ H (fun c H1=>Q (!c) H1) I h)
def ZlE (ta tb:TE):TE:=fun σ H Q=>ta σ H fun x H1=>∃ c,x=.bl c/\if c=true then tb σ H1 Q else Q (.bl false) H1
def ZlB (ta:TE):TE:=fun σ H Q=>ta σ H fun x H1=>∃ c,x=.bl c/\Q (.bl (!c)) H1
theorem Zjg {op}{t:TE} (h:PE X a t):PE X (.BoolOp op [a] pos) t:=fun pins s σ H Q I hw=>BoolOp_one (h pins s σ H Q I hw)
theorem ZfD (ha:PE X a ta) (hb:PE X (.BoolOp .And (b::rest) pos) tb):PE X (.BoolOp .And (a::b::rest) pos) (ZlE ta tb):=by
 intro pins s σ H Q I h;refine BoolOp_and (thn (ha pins s σ H _ I h) fun v s1 ⟨x,H1,I1,r1,q1⟩=>?_);obtain⟨c,rfl,q1⟩:=q1;cases r1;refine wpAny_truthy_bool ?_
 cases c with
 | true=>exact hb pins s1 σ H1 Q I1 q1
 | false=>exact⟨.bl false,H1,I1,rfl,q1⟩
theorem ZgU (ha:PE X a ta):PE X (.UnaryOp .Not a pos) (ZlB ta):=by
 intro pins s σ H Q I h;refine UnaryOp_ (thn (ha pins s σ H _ I h) fun v s1 ⟨x,H1,I1,r1,q1⟩=>?_);obtain⟨c,rfl,q1⟩:=q1;cases r1;exact not_of (wpAny_truthy_bool ⟨.bl (!c),H1,I1,rfl,q1⟩)
def tIf (t:TT) (ta tb:TE):TE:=fun σ H Q=>t σ H fun c H1=>if c=true then ta σ H1 Q else tb σ H1 Q
theorem Zit {c:Expr} (hc:PT X c tA) (ha:PE X a ta) (hb:PE X b tb):PE X (.IfExp c a b pos) (tIf tA ta tb):=by
 intro pins s σ H Q I h;refine wpAny_IfExp (thn (hc pins s σ H _ I h) fun d s1 ⟨H1,I1,q1⟩=>?_)
 cases d with
 | true=>exact ha pins s1 σ H1 Q I1 q1
 | false=>exact hb pins s1 σ H1 Q I1 q1
end
end L2
namespace L2
open PySem PySem.Spec PyProof.Rows
def SqL (K:Yae) (H:Hp) (a:Addr) (xs:List V):Prop :=
 Rd H a (.lst xs) ∨
  ∃ (o:Obj) (its:Array Value) (n:Nat),K.lookup a=some o/\o.cls=.type "list"/\o.dict=none/\o.data=.seq its n/\its.size<=sizeLine/\Vals xs its.toList
def SqT (K:Yae) (H:Hp) (a:Addr) (xs:List V):Prop :=
 Rd H a (.tup xs) ∨
  ∃ (o:Obj) (its:Array Value) (n:Nat),K.lookup a=some o/\o.cls=.type "tuple"/\o.data=.seq its n/\its.size<=sizeLine/\Vals xs its.toList
def absV:Value->Option V
 | .none=>some .non
 | .bool b=>some (.bl b)
 | .int i _=>some (.int i)
 | .str x _=>some (.str x)
 | .bytes b _=>some (.byt b)
 | .float b _=>some (.flt b)
 | .ref a=>some (.ref a)
 | .type n=>some (.ty n)
 | _=>none
theorem RelV.abs {x:V}{u:Value} (r:RelV x u):absV u=some x:=by
 cases x with
 | non=>cases r;rfl
 | bl _=>cases r;rfl
 | int _=>obtain⟨t,rfl⟩:=r;rfl
 | str _=>obtain⟨t,rfl⟩:=r;rfl
 | byt _=>obtain⟨t,rfl⟩:=r;rfl
 | flt _=>obtain⟨t,rfl⟩:=r;rfl
 | ref _=>cases r;rfl
 | ty _=>cases r;rfl
theorem RelV.inj {x y:V}{u:Value} (r:RelV x u) (q:RelV y u):x=y:=Yay (r.abs.symm.trans q.abs)
theorem Vals.inj:∀ {xs ys:List V}{us:List Value},Vals xs us->Vals ys us->xs=ys
 | _,_,_,.nil,.nil=>rfl
 | _,_,_,.cons r t,.cons r' t'=>by rw[r.inj r',Vals.inj t t']
section
variable {X:Cx}{pins:List (Addr × Obj)}{σ:St}{H:Hp}{s:Shared}{a:Addr}{xs ys:List V}
theorem SqL.of {K:Yae} (h:H a=some (.lst xs)):SqL K H a xs:=.inl (.inl h)
theorem SqT.of {K:Yae} (h:H a=some (.tup xs)):SqT K H a xs:=.inl (.inl h)
theorem Inv.list (I:Inv X pins σ H s) (h:SqL X.K H a xs):∃ its:List Value,Vals xs its/\PlainL s.heap a its.toArray/\xs.length<=sizeLine:=by
 rcases h with h | ⟨o,its,n,hk,hc,hd,hs,hz,r⟩
 ·obtain⟨z,its,n,r,e⟩:=h.ok I.hok;exact⟨its,r,⟨_,n,e,rfl,rfl,rfl⟩,z⟩
 ·refine⟨its.toList,r,⟨o,n,I.kIn a o hk,hc,hd,by simpa using hs⟩,?_⟩;have e:=r.length;simp only[Ybd] at e;omega
theorem Inv.tuple (I:Inv X pins σ H s) (h:SqT X.K H a xs):∃ its:List Value,Vals xs its/\IsTup s.heap a its.toArray/\xs.length<=sizeLine:=by
 rcases h with h | ⟨o,its,n,hk,hc,hs,hz,r⟩
 ·obtain⟨z,its,r,p⟩:=h.ok I.hok;exact⟨its,r,p.tup,z⟩
 ·refine⟨its.toList,r,⟨o,I.kIn a o hk,hc,n,by simpa using hs⟩,?_⟩;have e:=r.length;simp only[Ybd] at e;omega
theorem Inv.list_inj (I:Inv X pins σ H s) (h:SqL X.K H a xs) (h':SqL X.K H a ys):xs=ys:=by
 obtain⟨its,r,⟨o,n,e,_,_,d⟩,_⟩:=I.list h;obtain⟨its',r',⟨o',n',e',_,_,d'⟩,_⟩:=I.list h';rw[e] at e';cases e';rw[d] at d';injection d' with d1 _;have:its=its':=by simpa using congrArg Array.toList d1
 subst this;exact r.inj r'
theorem Inv.tuple_inj (I:Inv X pins σ H s) (h:SqT X.K H a xs) (h':SqT X.K H a ys):xs=ys:=by
 obtain⟨its,r,⟨o,e,_,n,d⟩,_⟩:=I.tuple h;obtain⟨its',r',⟨o',e',_,n',d'⟩,_⟩:=I.tuple h';rw[e] at e';cases e';rw[d] at d';injection d' with d1 _;have:its=its':=by simpa using congrArg Array.toList d1
 subst this;exact r.inj r'
end
abbrev Cx.wish (X:Cx) (E:Value->Shared->Prop):Cx:={ X with xe:=E }
abbrev Cx.nox (X:Cx):Cx:=X.wish fun _ _=>False
theorem Cx.Ok.wish {X:Cx} (ok:X.Ok) (E:Value->Shared->Prop):(X.wish E).Ok :=
 ⟨ok.mod,ok.kind,ok.glob,ok.blt,ok.above,ok.inj,ok.has,ok.cab,ok.hd,ok.frames,ok.stk,ok.exf,ok.bs,ok.bsz,ok.noex,ok.exfs,ok.funs,ok.frf⟩
theorem Cx.Ok.unwish {X:Cx}{E:Value->Shared->Prop} (ok:(X.wish E).Ok):X.Ok :=
 ⟨ok.mod,ok.kind,ok.glob,ok.blt,ok.above,ok.inj,ok.has,ok.cab,ok.hd,ok.frames,ok.stk,ok.exf,ok.bs,ok.bsz,ok.noex,ok.exfs,ok.funs,ok.frf⟩
section
variable {X:Cx}{pins:List (Addr × Obj)}{σ:St}{H:Hp}{s:Shared}{E:Value->Shared->Prop}
theorem Inv.wish (I:Inv X pins σ H s) (E:Value->Shared->Prop):Inv (X.wish E) pins σ H s:=⟨I.ok.wish E,I.os,I.bare,I.base,I.loc,I.cell,I.free,I.freeC,I.pin,I.hok,I.len⟩
theorem Inv.unwish (I:Inv (X.wish E) pins σ H s):Inv X pins σ H s:=⟨I.ok.unwish,I.os,I.bare,I.base,I.loc,I.cell,I.free,I.freeC,I.pin,I.hok,I.len⟩
theorem SP.unwish {D:Ends}{f:Flow}{s':Shared} (h:SP (X.wish E) pins D f s'):SP X pins D f s':=by
 cases f with
 | next=>obtain⟨σ',H',I,q⟩:=h;exact⟨σ',H',I.unwish,q⟩
 | brk=>obtain⟨σ',H',I,q⟩:=h;exact⟨σ',H',I.unwish,q⟩
 | cont=>obtain⟨σ',H',I,q⟩:=h;exact⟨σ',H',I.unwish,q⟩
 | ret u=>obtain⟨v,σ',H',I,r,q⟩:=h;exact⟨v,σ',H',I.unwish,r,q⟩
theorem PSs.nox {st:List Stmt}{t:TS} (h:PSs X.nox st t):PSs X st t:=fun pins s σ H D I hw=>
 wpAny_mono (h pins s σ H D (I.wish _) hw) (fun _ _ q=>q.unwish) fun _ _ z=>YcB z
end
section
variable {X:Cx}{st:Stmt}{rest:List Stmt}{t u:TS}{e:Expr}{te:TE}{pos:Pos}
def ZkG:TS:=fun D σ H=>D.nx σ H
def tSeq (t u:TS):TS:=fun D σ H=>t { D with nx:=u D } σ H
theorem ZcP:PSs X [] ZkG:=fun _ _ σ H _ I h=>wpAny_execs_nil ⟨σ,H,I,h⟩
theorem Zai (h1:PS X st t) (h2:PSs X rest u):PSs X (st::rest) (tSeq t u):=by
 intro pins s σ H D I h;refine wpAny_execs_cons (thn (h1 pins s σ H { D with nx:=u D } I h) fun f s1 q=>?_)
 cases f with
 | next=>
  obtain⟨σ',H',I',q⟩:=q;exact h2 pins s1 σ' H' D I' q
 | ret v=>exact q
 | brk=>exact q
 | cont=>exact q
theorem Zax (h1:PS X st t):PSs X [st] t:=by
 intro pins s σ H D I h;refine wpAny_execs_cons (thn (h1 pins s σ H D I h) fun f s1 q=>?_)
 cases f with
 | next=>exact wpAny_execs_nil q
 | ret v=>exact q
 | brk=>exact q
 | cont=>exact q
theorem Inv.quiet {pins:List (Addr × Obj)}{σ:St}{H:Hp}{s:Shared} (I:Inv X pins σ H s):interactive X.env=false:=by simp[interactive,I.ok.kind]
def ZlD (te:TE):TS:=fun D σ H=>te σ H fun _ H1=>D.nx σ H1
theorem ZaJ (he:PE X e te) (hs:swapsWith e none pos.line X.env=pure false:=by rfl):PS X (.Expr e pos) (ZlD te):=by
 intro pins s σ H D I h;exact wpAny_Expr_any (thn (he pins s σ H _ I h) fun v s1 ⟨x,H1,I1,r1,q1⟩=>⟨σ,H1,I1,q1⟩) I.quiet hs
def tRet (te:TE):TS:=fun D σ H=>te σ H D.rt
theorem Zay (he:PE X e te):PS X (.Return (some e) pos) (tRet te):=by
 intro pins s σ H D I h;exact wpAny_Return_some (thn (he pins s σ H _ I h) fun v s1 ⟨x,H1,I1,r1,q1⟩=>⟨x,σ,H1,I1,r1,q1⟩)
def tIfS (c:TT) (t u:TS):TS:=fun D σ H=>c σ H fun b H1=>if b=true then t D σ H1 else u D σ H1
theorem ZgL {c:Expr}{a b:List Stmt}{tc:TT} (hc:PT X c tc) (ha:PSs X a t) (hb:PSs X b u):PS X (.If c a b pos) (tIfS tc t u):=by
 intro pins s σ H D I h;refine wpAny_If (thn (hc pins s σ H _ I h) fun d s1 ⟨H1,I1,q1⟩=>?_)
 cases d with
 | true=>exact ha pins s1 σ H1 D I1 q1
 | false=>exact hb pins s1 σ H1 D I1 q1
def ZkH:TS:=fun _ _ _=>False
theorem Zby {sts:List Stmt}:PSs X sts ZkH:=fun _ _ _ _ _ _ h=>h.elim
end
abbrev TG:=V->St->Hp->(St->Hp->Prop)->Prop
abbrev TGs:=List V->St->Hp->(St->Hp->Prop)->Prop
def PG (X:Cx) (target:Expr) (t:TG):Prop :=
 ∀ (pins:List (Addr × Obj)) (s:Shared) (σ:St) (H:Hp) (v:V) (u:Value) (Q:St->Hp->Prop),Inv X pins σ H s->RelV v u->t v σ H Q ->
  wpAny (model X.prog X.w) X.A (assign target X.env u) (fun _ s'=>∃ σ' H',Inv X pins σ' H' s'/\Q σ' H') X.xe s
def PGs (X:Cx) (ts:List Expr) (t:TGs):Prop :=
 ∀ (pins:List (Addr × Obj)) (s:Shared) (σ:St) (H:Hp) (vs:List V) (us:List Value) (Q:St->Hp->Prop),Inv X pins σ H s->Vals vs us->t vs σ H Q ->
  wpAny (model X.prog X.w) X.A (assignInOrder ((assignEach ts X.env).map (·.2)) us) (fun _ s'=>∃ σ' H',Inv X pins σ' H' s'/\Q σ' H') X.xe s
abbrev TSet:=V->V->V->Hp->(Hp->Prop)->Prop
def PSet (X:Cx) (t:TSet):Prop :=
 ∀ (pins:List (Addr × Obj)) (s:Shared) (σ:St) (H:Hp) (o i v:V) (ov iv u:Value) (Q:Hp->Prop),Inv X pins σ H s->RelV o ov->RelV i iv->RelV v u->t o i v H Q ->
  wpAny (model X.prog X.w) X.A (setItem ov iv u) (fun _ s'=>∃ H',Inv X pins σ H' s'/\Q H') X.xe s
abbrev TIp:=V->V->Hp->VK->Prop
def PIp (X:Cx) (op:Operator) (t:TIp):Prop :=
 ∀ (pins:List (Addr × Obj)) (s:Shared) (σ:St) (H:Hp) (x y:V) (v u:Value) (Q:VK),Inv X pins σ H s->RelV x v->RelV y u->t x y H Q ->
  wpAny (model X.prog X.w) X.A (inplaceOp op v u) (EP X pins σ Q) X.xe s
section
variable {X:Cx}{pos:Pos}
def ZcB (i:Nat):TG:=fun v σ H Q=>Q (σ.set i (some v)) H
theorem Zah {i:Nat}{x:Str} (hN:X.N.Nodup) (hi:X.N[i]?=some x) (hx:Loc X.env.scope x) (hf:X.fn x=true∨X.env.scope.names.lookup x=some .local:=by first | exact .inl rfl | exact .inr rfl | assumption):PG X (.Name x pos) (ZcB i):=by
 intro pins s σ H v u Q I r h;exact wpAny_assign_Name (Zdw I hN hi hx r (fun s' I'=>⟨_,H,I',h⟩) hf)
def gNil:TGs:=fun vs σ H Q=>vs=[]/\Q σ H
def Zka (t:TG) (u:TGs):TGs:=fun vs σ H Q=>∃ v r,vs=v::r/\t v σ H fun σ' H'=>u r σ' H' Q
theorem ZbP:PGs X [] gNil:=by
 intro pins s σ H vs us Q I r h;obtain⟨e,h⟩:=h;subst e;cases r;exact assignInOrder_nil ⟨σ,H,I,h⟩
theorem ZaK {e:Expr}{es:List Expr}{t:TG}{u:TGs} (h1:PG X e t) (h2:PGs X es u)
  (hs:(assignEach (e::es) X.env).map (·.2)=assign e X.env::(assignEach es X.env).map (·.2):=by rfl):PGs X (e::es) (Zka t u):=by
 intro pins s σ H vs us Q I r h;obtain⟨v,vr,e1,h⟩:=h;subst e1
 cases r with
 | cons r rr=>
  rw[hs];refine assignInOrder_cons (thn (h1 pins s σ H _ _ _ I r h) fun _ s1 ⟨σ1,H1,I1,q1⟩=>?_);exact h2 pins s1 σ1 H1 _ _ Q I1 rr q1
def gTup (K:Yae) (n:Nat) (t:TGs):TG:=fun v σ H Q=>∃ a xs,v=.ref a/\SqT K H a xs/\xs.length=n/\t xs σ H Q
theorem ZfA {es:List Expr}{k:Nat}{t:TGs}{n:Nat} (hc:X.calm=true) (h:PGs X es t)
  (hn:(assignEach es X.env).length=n:=by rfl) (hst:(assignEach es X.env).findIdx? (·.1)=none:=by rfl):PG X (.Tuple es k pos) (gTup X.K n t):=by
 intro pins s σ H v u Q I r hw;obtain⟨a,xs,e1,hq,hl,hw⟩:=hw;subst e1;cases r;obtain⟨its,rv,ht,hz⟩:=I.tuple hq;refine assign_Tuple_tuple (I.ok.hd hc) ht (by simp[hn,<- hl,rv.length]) hst fun h' hx=>?_;have I1:Inv X pins σ H { s with heap:=h' }:=I.kept (t':=s.toks) fun b o e=>hx b o (YaS (Yar e)) e;exact h pins _ σ H xs _ Q I1 (by simpa using rv) hw
def gSub (to ti:TE) (t:TSet):TG:=fun v σ H Q=>to σ H fun o H1=>ti σ H1 fun i H2=>t o i v H2 fun H3=>Q σ H3
theorem Zei {o i:Expr}{to ti:TE}{t:TSet} (ho:PE X o to) (hi:PE X i ti) (hs:PSet X t)
  (ha:∀ v,assign (.Subscript o i pos) X.env v=(do
   let ov <- holding [v] (eval o X.env)
   let iv <- holding [v,ov] (eval i X.env)
   standAt pos
   holding [v,ov,iv] (setItem ov iv v)
   release [v,ov,iv] []):=by intro _;rfl):PG X (.Subscript o i pos) (gSub to ti t):=by
 intro pins s σ H v u Q I r h;rw[ha];refine wpAny_bind (wpAny_holding (thn (ho pins s σ H _ I h) fun ov s1 ⟨x,H1,I1,r1,q1⟩=>?_));refine wpAny_bind (wpAny_holding (thn (hi pins s1 σ H1 _ I1 q1) fun iv s2 ⟨y,H2,I2,r2,q2⟩=>?_));refine wpAny_bind (wpAny_standAt (wpAny_bind (wpAny_holding (thn (hs pins s2 σ H2 x y v ov iv u _ I2 r1 r2 r q2) fun _ s3 ⟨H3,I3,q3⟩=>?_))));exact wpAny_release ⟨σ,H3,I3,q3⟩
def tAsg (te:TE) (g:TG):TS:=fun D σ H=>te σ H fun x H1=>g x σ H1 D.nx
theorem Zcv {tg e:Expr}{te:TE}{g:TG} (he:PE X e te) (hg:PG X tg g) (hs:swapsWithSole [tg] e pos.line X.env=pure false:=by rfl) (hw:swappedStores [tg] e X.env=pure none:=by rfl)
  (h1:(assignEach [tg] X.env).map (·.2)=[assign tg X.env]:=by rfl):PS X (.Assign [tg] e pos) (tAsg te g):=by
 intro pins s σ H D I h;refine wpAny_Assign_stores (thn (he pins s σ H _ I h) fun v s1 ⟨x,H1,I1,r1,q1⟩=>?_) hs hw;rw[h1];exact thn (hg pins s1 σ H1 x v _ I1 r1 q1) fun _ s2 q=>q
theorem Zaj {i:Nat}{x:Str}{e:Expr}{te:TE}{pos':Pos} (hN:X.N.Nodup) (hi:X.N[i]?=some x) (hx:Loc X.env.scope x) (he:PE X e te) (hs:swapsWith e (some (.Name x pos')) pos.line X.env=pure false:=by rfl) (hf:X.fn x=true∨X.env.scope.names.lookup x=some .local:=by first | exact .inl rfl | exact .inr rfl | assumption) :
  PS X (.Assign [.Name x pos'] e pos) (tAsg te (ZcB i)):=by
 intro pins s σ H D I h;refine wpAny_Assign_Name (thn (he pins s σ H _ I h) fun v s1 ⟨y,H1,I1,r1,q1⟩=>?_) hs;exact Zdw I1 hN hi hx r1 (fun s2 I2=>⟨_,H1,I2,q1⟩) hf
def tAug (i:Nat) (te:TE) (ti:TIp):TS:=fun D σ H=>∃ x,σ[i]?=some (some x)/\te σ H fun y H1=>ti x y H1 fun z H2=>D.nx (σ.set i (some z)) H2
theorem Zjd {i:Nat}{x:Str}{e:Expr}{te:TE}{op:Operator}{ti:TIp}{pos':Pos} (hN:X.N.Nodup) (hi:X.N[i]?=some x) (hx:Loc X.env.scope x) (he:PE X e te) (ho:PIp X op ti) (hf:X.fn x=true∨X.env.scope.names.lookup x=some .local:=by first | exact .inl rfl | exact .inr rfl | assumption) :
  PS X (.AugAssign (.Name x pos') op e pos) (tAug i te ti):=by
 intro pins s σ H D I h;obtain⟨v,e1,h⟩:=h;obtain⟨m,hn,hl⟩:=I.loc;have vis:Vis X.env.scope x:=by rcases hx with k | k;exact .inl k;exact .inr (.inl k)
 obtain⟨u,r,l⟩:=hl i x v hi e1 vis;refine wpAny_AugAssign_Name ?_;have go:wpAny (model X.prog X.w) X.A (eval e X.env) (fun w s₂=>wpAny (model X.prog X.w) X.A (inplaceOp op u w) (fun r s₃=>wpAny (model X.prog X.w) X.A (storeName X.env x r) (fun _=>SP X pins D .next) X.xe s₃) X.xe s₂) X.xe s:=by
  refine thn (he pins s σ H _ I h) fun w s1 ⟨y,H1,I1,r1,q1⟩=>?_;refine thn (ho pins s1 σ H1 v y u w _ I1 r r1 q1) fun z s2 ⟨zv,H2,I2,r2,q2⟩=>?_;exact Zdw I2 hN hi hx r2 (fun s3 I3=>⟨_,H2,I3,q2⟩) hf
 rcases l with ⟨hk,hm⟩ | ⟨hk,c,hc,hcell⟩
 ·exact wpAny_loadName_local I.ok.kind hk hn hm go
 ·rcases hk with hk | hk
  ·exact wpAny_loadName_cell I.ok.kind hk hc hcell go
  ·rcases hx with k | k
   ·have:X.env.scope.names.lookup x=some .free:=hk;rw[k] at this;cases this
   ·have:X.env.scope.names.lookup x=some .free:=hk;rw[k] at this;cases this
def ipI (f:Int->Int->Int):TIp:=fun x y H Q=>∃ i j,x=.int i/\y=.int j/\Q (.int (f i j)) H
theorem Zjk:PIp X .Add (ipI fun i j=>i+j):=by
 intro pins s σ H x y v u Q I r1 r2 h;obtain⟨i,j,e1,e2,q⟩:=h;subst e1;subst e2;obtain⟨t,rfl⟩:=r1;obtain⟨t',rfl⟩:=r2;exact iadd_int ⟨.int _,H,I.tok _,⟨_,rfl⟩,q⟩
end
section
variable {X:Cx}{pos:Pos}
def ZkD (c:TT) (tb:TS):TS:=fun D σ H=>∃ W:Nat->St->Hp->Prop,(∃ m,W m σ H)/\∀ m σ H,W m σ H ->
 c σ H fun b H1=>if b=true then ∃ N:St->Hp->Prop,(∀ σ' H',N σ' H'->∃ m',m'<m/\W m' σ' H')/\tb { D with nx:=N,ct:=N,bk:=D.nx } σ H1 else D.nx σ H1
theorem ZdK {c:Expr}{body:List Stmt}{tc:TT}{tb:TS} (hp:PassesOwn (model X.prog X.w) X.A X.env X.xe) (hc:PT X c tc) (hb:PSs X body tb):PS X (.While c body [] pos) (ZkD tc tb):=by
 intro pins s σ H D I h;obtain⟨W,⟨m0,w0⟩,turn⟩:=h;refine wpAny_While (codeAny_whileLoop (fun n s'=>∃ σ' H',Inv X pins σ' H' s'/\W n σ' H') ?_ m0 ⟨σ,H,I,w0⟩);rintro n s1 ⟨σ1,H1,I1,w1⟩;refine wpAny_passesOwn hp (thn (hc pins s1 σ1 H1 _ I1 (turn n σ1 H1 w1)) fun b s2 ⟨H2,I2,q2⟩=>?_)
 cases b with
 | true=>
  obtain⟨N,hN,q2⟩:=q2;rw[if_pos rfl];refine wpAny_passesOwn hp (thn (hb pins s2 σ1 H2 _ I2 q2) fun f s3 q3=>?_)
  cases f with
  | next=>
   obtain⟨σ3,H3,I3,n3⟩:=q3;obtain⟨m',hm,w3⟩:=hN σ3 H3 n3;exact⟨m',hm,σ3,H3,I3,w3⟩
  | cont=>
   obtain⟨σ3,H3,I3,n3⟩:=q3;obtain⟨m',hm,w3⟩:=hN σ3 H3 n3;exact⟨m',hm,σ3,H3,I3,w3⟩
  | brk=>exact q3
  | ret v=>exact q3
 | false=>
  rw[if_neg YaF];exact wpAny_execs_nil ⟨σ1,H2,I2,q2⟩
end
structure It where
 go:Nat->Hp->Prop
 yld:Nat->Hp->V->Hp->Prop
 stop:Nat->Hp->Prop
def FpOk (X:Cx) (pins:List (Addr × Obj)) (H:Hp) (b:Addr):Prop :=
 H b=none/\b≠X.env.locals/\b ∉ X.fs/\(b∈X.ex∨X.s₀.heap.objs.size<=b)/\(∀ x c,X.env.cells.lookup x=some c->c≠b)/\∀ p∈X.pn++pins,p.1≠b
theorem Inv.fpOk {X:Cx}{pins:List (Addr × Obj)}{σ:St}{H H':Hp}{s:Shared}{b:Addr} (I:Inv X pins σ H s) (hb:s.heap.objs.size<=b) (hn:H' b=none):FpOk X pins H' b:=by
 refine⟨hn,YbU (Yau I.lt hb),I.nofs hb,.inr (YbC I.sz hb),fun x c e z=>?_,fun p hp z=>?_⟩
 ·obtain⟨v,q⟩:=I.cell x c e;exact absurd (Yau q.lt (by rw[z];exact hb)) (Ybp _)
 ·exact absurd (Yau (Yar (I.pin p hp).1) (by rw[z];exact hb)) (Ybp _)
structure Turn (P:Program) (w:World) (K:Yae) (tg:Expr) (J:It) (fp:List Addr) (it:Addr) (tn:Nat->Heap->Prop):Prop where
 mem:it∈fp
 obj:∀ i h,tn i h->∀ b∈fp,∃ o,h.get? b=some o/\∀ v,o.data≠.cell v
 keep:∀ i h h',tn i h->(∀ b∈fp,∀ o,h.get? b=some o->h'.get? b=some o)->tn i h'
 item:∀ (X:Cx),X.prog=P->X.w=w->X.K=K->X.calm=true->∀ (i:Nat) (pins:List (Addr × Obj)) (s:Shared) (σ:St) (H:Hp) (E:Value->Shared->Prop),Inv X pins σ H s->(∀ b∈fp,FpOk X pins H b)->tn i s.heap->J.go i H ->
  wpAny (model P w) X.A (pyNext (.ref it)) (fun r s1=>∃ u,r=some u /\
   wpAny (model P w) X.A (letOwnedTupleGo tg (.ref it) u) (fun _ s2=>∃ x H',Inv X pins σ H' s2/\RelV x u/\J.yld i H x H'/\tn (i+1) s2.heap/\∀ b∈fp,H' b=none) E s1) E s
 done:∀ (X:Cx),X.prog=P->X.w=w->X.K=K->X.calm=true->∀ (i:Nat) (pins:List (Addr × Obj)) (s:Shared) (σ:St) (H:Hp) (E:Value->Shared->Prop),Inv X pins σ H s->(∀ b∈fp,FpOk X pins H b)->tn i s.heap->J.stop i H ->
  wpAny (model P w) X.A (pyNext (.ref it)) (fun r s1=>r=none/\Inv X pins σ H s1) E s
 self:∀ (A:Around) (i:Nat) (s:Shared) (Q:Value->Shared->Prop) (E:Value->Shared->Prop),tn i s.heap->Q (.ref it) s->wpAny (model P w) A (pyIter (.ref it)) Q E s
abbrev TI:=St->Hp->(It->Hp->Prop)->Prop
def PIE (X:Cx) (pins:List (Addr × Obj)) (σ:St) (tg:Expr) (R:It->Hp->Prop) (itv:Value) (s2:Shared):Prop :=
 ∃ (it:Addr) (fp:List Addr) (tn:Nat->Heap->Prop) (J:It) (H':Hp),itv=.ref it/\Inv X pins σ H' s2/\Turn X.prog X.w X.K tg J fp it tn/\tn 0 s2.heap/\(∀ b∈fp,FpOk X pins H' b)/\R J H'
def PI (X:Cx) (tg iter:Expr) (wi:TI):Prop :=
 ∀ (pins:List (Addr × Obj)) (s:Shared) (σ:St) (H:Hp) (R:It->Hp->Prop),Inv X pins σ H s->wi σ H R ->
  wpAny (model X.prog X.w) X.A (eval iter X.env) (fun v s1=>wpAny (model X.prog X.w) X.A (pyIter v) (PIE X pins σ tg R) X.xe s1) X.xe s
theorem Zj9 {M:Model}{A:Around}{E:Value->Shared->Prop}{s:Shared}{tg:Expr}{it:Addr}{u:Value}{o:Obj}{n:String}{vs:Array Value}{Q:Unit->Shared->Prop} (ho:s.heap.get? it=some o) (hc:o.cls=.type n) (hd:o.data=.fields vs)
    (hn:["enumerate","zip","dict_itemiterator","dict_reverseitemiterator","odict_iterator","itertools.zip_longest","itertools.pairwise"].contains n=false) (hQ:Q () s):wpAny M A (letOwnedTupleGo tg (.ref it) u) Q E s:=by
  unfold letOwnedTupleGo;cases tg <;> first
    | exact wpAny_pure hQ
    | (cases u <;> first
        | exact wpAny_pure hQ
        | (refine wpAny_bind (wpAny_load ho ?_)
           rw[hc,hd];show wpAny M A (if (["enumerate","zip","dict_itemiterator","dict_reverseitemiterator","odict_iterator","itertools.zip_longest","itertools.pairwise"].contains n && vs[0]? == some (rawInt _))=true then _ else _) Q E s;rw[if_neg (by intro h;rw[hn,Bool.false_and] at h;cases h)];exact wpAny_pure hQ))
def Itl (K:Yae) (a:Addr):It :=
 ⟨fun i H=>∃ xs x,SqL K H a xs/\xs[i]?=some x,fun i H x H'=>H'=H/\∀ xs,SqL K H a xs->xs[i]?=some x,fun i H=>∃ xs,SqL K H a xs/\xs.length<=i⟩
def Itt (K:Yae) (a:Addr):It :=
 ⟨fun i H=>∃ xs x,SqT K H a xs/\xs[i]?=some x,fun i H x H'=>H'=H/\∀ xs,SqT K H a xs->xs[i]?=some x,fun i H=>∃ xs,SqT K H a xs/\xs.length<=i⟩
def Itr (lo:Int) (n:Nat):It:=⟨fun i _=>i<n,fun i H x H'=>H'=H/\x=.int (lo+i),fun i _=>n<=i⟩
theorem Zd8 {P:Program}{w:World}{K:Yae}{tg:Expr} (a it:Addr):Turn P w K tg (Itl K a) [it] it (fun i h=>h.IsListIter it a i) where
 mem:=by simp
 obj:=fun i h st b hb=>by
  have e:b=it:=by simpa using hb
  subst e;obtain⟨o,e,c,d⟩:=st;exact⟨o,e,fun v z=>by rw[d] at z;cases z⟩
 keep:=fun i h h' st k=>st.at fun o e=>k it (by simp) o e
 item:=by
  intro X hP hw hK hc i pins s σ H E I hf st hg;subst hP hw hK;obtain⟨xs,x,hq,hx⟩:=hg;obtain⟨its,rv,p,hz⟩:=I.list hq;obtain⟨u,hu,ru⟩:=rv.get hx;obtain⟨f0,f1,f2,f3,f4,f5⟩:=hf it (by simp);refine wpAny_pyNext_list_item st p.isList (x:=u) (by simpa using hu) fun h' st' sb=>?_;have I1:Inv X pins σ H { s with heap:=h' }:=I.turned (t':=s.toks) (fun b o hb e=>(sb.2 b hb).trans e) f0 f1 f3 f4 f5;obtain⟨o,e,c,d⟩:=id st';exact⟨u,rfl,Zj9 (s:={ s with heap:=h' }) e c d (by decide) ⟨x,H,I1,ru,⟨rfl,fun ys hy=>by rw[I.list_inj hy hq];exact hx⟩,st',fun b hb=>(hf b hb).1⟩⟩
 done:=by
  intro X hP hw hK hc i pins s σ H E I hf st hg;subst hP hw hK;obtain⟨xs,hq,hx⟩:=hg;obtain⟨its,rv,p,hz⟩:=I.list hq;obtain⟨f0,f1,f2,f3,f4,f5⟩:=hf it (by simp);have hl:=rv.length;exact wpAny_pyNext_list_end (I.ok.hd hc) st p.isList (by simp;(clear f3 f2 f1 hz;omega)) fun h' eb=>⟨rfl,I.turned (t':=s.toks) (fun b o hb e=>eb b o hb e) f0 f1 f3 f4 f5⟩
 self:=fun _ _ _ _ _ st h=>wpAny_pyIter_listiter st h
theorem Zdc {P:Program}{w:World}{K:Yae}{tg:Expr} (a it:Addr):Turn P w K tg (Itt K a) [it] it (fun i h=>h.IsTupleIter it a i) where
 mem:=by simp
 obj:=fun i h st b hb=>by
  have e:b=it:=by simpa using hb
  subst e;obtain⟨o,e,c,d⟩:=st;exact⟨o,e,fun v z=>by rw[d] at z;cases z⟩
 keep:=fun i h h' st k=>st.at fun o e=>k it (by simp) o e
 item:=by
  intro X hP hw hK hc i pins s σ H E I hf st hg;subst hP hw hK;obtain⟨xs,x,hq,hx⟩:=hg;obtain⟨its,rv,p,hz⟩:=I.tuple hq;obtain⟨u,hu,ru⟩:=rv.get hx;obtain⟨f0,f1,f2,f3,f4,f5⟩:=hf it (by simp);refine wpAny_pyNext_tuple_item st (show s.heap.IsTuple a its.toArray from p) (x:=u) (by simpa using hu) fun h' st' sb=>?_;have I1:Inv X pins σ H { s with heap:=h' }:=I.turned (t':=s.toks) (fun b o hb e=>(sb.2 b hb).trans e) f0 f1 f3 f4 f5;obtain⟨o,e,c,d⟩:=id st';exact⟨u,rfl,Zj9 (s:={ s with heap:=h' }) e c d (by decide) ⟨x,H,I1,ru,⟨rfl,fun ys hy=>by rw[I.tuple_inj hy hq];exact hx⟩,st',fun b hb=>(hf b hb).1⟩⟩
 done:=by
  intro X hP hw hK hc i pins s σ H E I hf st hg;subst hP hw hK;obtain⟨xs,hq,hx⟩:=hg;obtain⟨its,rv,p,hz⟩:=I.tuple hq;obtain⟨f0,f1,f2,f3,f4,f5⟩:=hf it (by simp);have hl:=rv.length;exact wpAny_pyNext_tuple_end (I.ok.hd hc) st (show s.heap.IsTuple a its.toArray from p) (by simp;(clear f3 f2 f1 hz;omega)) fun h' eb=>⟨rfl,I.turned (t':=s.toks) (fun b o hb e=>eb b o hb e) f0 f1 f3 f4 f5⟩
 self:=fun _ _ _ _ _ st h=>wpAny_pyIter_tupleiter st h
theorem ZfX {P:Program}{w:World}{K:Yae}{tg:Expr} (it:Addr) (lo:Int) (n:Nat):Turn P w K tg (Itr lo n) [it] it (fun i h=>IsRangeIter h it (lo+(i:Nat)*1) ((n:Int) - (i:Nat)) 1) where
 mem:=by simp
 obj:=fun i h st b hb=>by
  have e:b=it:=by simpa using hb
  subst e;exact⟨_,st,fun v z=>by
   have z':Data.fields _=Data.cell v:=z;cases z'⟩
 keep:=fun i h h' st k=>k it (by simp) _ st
 item:=by
  intro X hP hw hK hc i pins s σ H E I hf st hg;subst hP hw hK;obtain⟨f0,f1,f2,f3,f4,f5⟩:=hf it (by simp);have W:=Walks.range (prog:=X.prog) (w:=X.w) (I.ok.hd hc) it lo 1 n;refine W.item i s _ _ hg st fun v h' tk hv st' kk=>?_;obtain⟨t,rfl⟩:=hv;have I1:Inv X pins σ H { s with heap:=h',toks:=tk }:=I.turned (fun b o hb e=>kk b o (by simpa using hb) e) f0 f1 f3 f4 f5;refine⟨_,rfl,Zj9 (s:={ s with heap:=h',toks:=tk }) (n:="range_iterator") st' rfl rfl (by decide) ⟨.int (lo+i),H,I1,⟨t,?_⟩,⟨rfl,rfl⟩,st',fun b hb=>(hf b hb).1⟩⟩;rw[Int.mul_one]
 done:=by
  intro X hP hw hK hc i pins s σ H E I hf st hg;subst hP hw hK;obtain⟨f0,f1,f2,f3,f4,f5⟩:=hf it (by simp);exact wpAny_pyNext_range_end (I.ok.hd hc) st (by have:n<=i:=hg;(clear f3 f2 f1;omega)) fun h' eb=>⟨rfl,I.turned (t':=s.toks) (fun b o hb e=>eb b o hb e) f0 f1 f3 f4 f5⟩
 self:=fun _ _ _ _ _ st h=>wpAny_pyIter_rangeiter st h
end L2
namespace L2
open PySem PySem.Spec PyProof.Rows
section
variable {X:Cx}{tg:Expr}
def ZlU (K:Yae) (tl:TE):TI:=fun σ H R=>tl σ H fun x H1=>∃ a,x=.ref a/\(∃ xs,SqL K H1 a xs)/\R (Itl K a) H1
def iTup (K:Yae) (tl:TE):TI:=fun σ H R=>tl σ H fun x H1=>∃ a,x=.ref a/\(∃ xs,SqT K H1 a xs)/\R (Itt K a) H1
theorem Zbg {l:Expr}{tl:TE} (hl:PE X l tl):PI X tg l (ZlU X.K tl):=by
 intro pins s σ H R I h;refine thn (hl pins s σ H _ I h) fun v s1 ⟨x,H1,I1,r1,q1⟩=>?_;obtain⟨a,e,⟨xs,hq⟩,q⟩:=q1;subst e;cases r1;obtain⟨its,rv,p,hz⟩:=I1.list hq;refine wpAny_pyIter_list p.isList ?_;refine⟨s1.heap.objs.size,[s1.heap.objs.size],_,_,H1,rfl,I1.kept (t':=s1.toks) fun b o e=>Yag _ e,Zd8 a _,⟨_,YaA _ rfl,rfl,rfl⟩,fun b hb=>?_,q⟩;have e:b=s1.heap.objs.size:=by simpa using hb
 subst e;exact I1.fpOk (Yas _) (I1.hok.fresh (Yas _))
theorem ZkW {l:Expr}{tl:TE} (hl:PE X l tl):PI X tg l (iTup X.K tl):=by
 intro pins s σ H R I h;refine thn (hl pins s σ H _ I h) fun v s1 ⟨x,H1,I1,r1,q1⟩=>?_;obtain⟨a,e,⟨xs,hq⟩,q⟩:=q1;subst e;cases r1;obtain⟨its,rv,p,hz⟩:=I1.tuple hq;refine wpAny_pyIter_tuple (show s1.heap.IsTuple a its.toArray from p) ?_;refine⟨s1.heap.objs.size,[s1.heap.objs.size],_,_,H1,rfl,I1.kept (t':=s1.toks) fun b o e=>Yag _ e,Zdc a _,⟨_,YaA _ rfl,rfl,rfl⟩,fun b hb=>?_,q⟩;have e:b=s1.heap.objs.size:=by simpa using hb
 subst e;exact I1.fpOk (Yas _) (I1.hok.fresh (Yas _))
theorem Zim {pins:List (Addr × Obj)}{σ:St}{H:Hp}{s:Shared}{R:It->Hp->Prop}{E:Value->Shared->Prop}{lo hi:Int}{t u v:Tok}{tk:Nat} (I:Inv X pins σ H s) (h1:-(2 ^ 62)<=lo) (h2:lo<2 ^ 62) (h3:-(2 ^ 62)<=hi) (h4:hi<2 ^ 62)
  (q:R (Itr lo (hi - lo).toNat) H):wpAny (model X.prog X.w) X.A (pyIter (.ref s.heap.objs.size)) (PIE X pins σ tg R) E { s with heap:=s.heap.push { cls:=.type "range",data:=.fields #[.int lo t,.int hi u,.int 1 v] },toks:=tk }:=by
 refine wpAny_pyIter_range (IsRange.new ..) (small_one h1 h2 h3 h4) ?_;have I1:Inv X pins σ H { s with heap:=s.heap.push { cls:=.type "range",data:=.fields #[.int lo t,.int hi u,.int 1 v] },toks:=tk }:=I.kept fun b o e=>Yag _ e;refine⟨(s.heap.push { cls:=.type "range",data:=.fields #[.int lo t,.int hi u,.int 1 v] }).objs.size,[(s.heap.push { cls:=.type "range",data:=.fields #[.int lo t,.int hi u,.int 1 v] }).objs.size],_,_,H,rfl,
  I1.kept (t':=tk) fun b o e=>Yag _ e,ZfX _ lo (hi - lo).toNat,?_,fun b hb=>?_,q⟩
 ·have e1:lo+((0:Nat):Int)*1=lo:=by simp
  have e2:(((hi - lo).toNat:Nat):Int) - ((0:Nat):Int)=Ydy lo hi 1:=by rw[rangeSize_one];split <;> (clear e1 h4 h3 h2 h1;omega)
  show IsRangeIter _ _ (lo+((0:Nat):Int)*1) ((((hi - lo).toNat:Nat):Int) - ((0:Nat):Int)) 1;rw[e1,e2];exact YaA _ rfl
 ·have e:b=(s.heap.push { cls:=.type "range",data:=.fields #[.int lo t,.int hi u,.int 1 v] }).objs.size:=by simpa using hb
  subst e;exact I1.fpOk (Yas _) (I1.hok.fresh (Yas _))
def ZlT (ta:TA):TI:=fun σ H R=>ta σ H fun vs H1=>∃ j:Int,vs=[.int j]/\-(2 ^ 62)<=j/\j<2 ^ 62/\R (Itr 0 j.toNat) H1
theorem ZaR {a:Expr}{ta:TA}{p pos:Pos} (hg:Gl X "range") (hm:X.mg "range"=none) (ha:PA X [a] ta) (hs:starEach [a] X.env=[(false,eval a X.env)]:=by rfl):PI X tg (.Call (.Name "range" p) [a] [] pos) (ZlT ta):=by
 intro pins s σ H R I h;refine Call_ (Zdk I hg hm boot_range (Yb5 (thn (ha pos pins s σ H _ I h) fun us s1 ⟨vs,H1,I1,r1,q1⟩=>?_) hs rfl));obtain⟨j,e,q1,q2,q⟩:=q1;subst e
 cases r1 with
 | cons r rr=>
  cases rr;obtain⟨t,rfl⟩:=r;exact call_range_1 (Zim I1 (by (clear q2 q1;omega)) (by (clear q2 q1;omega)) q1 q2 (by simpa using q))
def tFor (wi:TI) (g:TG) (tb:TS):TS:=fun D σ H=>wi σ H fun J H1=>∃ W:Nat->Nat->St->Hp->Prop,(∃ m,W 0 m σ H1)/\∀ i m σ H,W i m σ H ->
 (J.stop i H/\D.nx σ H)∨(J.go i H/\∃ N:St->Hp->Prop,(∀ σ' H',N σ' H'->∃ m',m'<m/\W (i+1) m' σ' H')/\∀ x H',J.yld i H x H'->g x σ H' fun σ2 H2=>tb { D with nx:=N,ct:=N,bk:=D.nx } σ2 H2)
def ZcR (fp:List Addr) (h:Heap):List (Addr × Obj):=fp.filterMap fun b=>(h.get? b).map fun o=>(b,o)
theorem ZaX {fp:List Addr}{h:Heap}{b:Addr}{o:Obj} (hb:b∈fp) (e:h.get? b=some o):(b,o)∈ZcR fp h:=Ycb.mpr ⟨b,hb,by rw[e];rfl⟩
theorem Zg8 {fp:List Addr}{h:Heap}{p:Addr × Obj} (hp:p∈ZcR fp h):p.1∈fp/\h.get? p.1=some p.2:=by
 obtain⟨b,hb,e⟩:=Ycb.mp hp
 cases q:h.get? b with
 | none=>rw[q] at e;cases e
 | some o=>
  rw[q] at e;have e':(b,o)=p:=Yay e;subst e';exact⟨hb,q⟩
theorem Inv.pinned {pins:List (Addr × Obj)}{σ:St}{H:Hp}{s:Shared}{fp:List Addr} (I:Inv X pins σ H s) (hf:∀ b∈fp,FpOk X pins H b) (ho:∀ b∈fp,∃ o,s.heap.get? b=some o/\∀ v,o.data≠.cell v):Inv X (pins++ZcR fp s.heap) σ H s :=
 I.pins_of fun p hp=>(Yao.mp hp).elim (fun z=>I.pin p (Yax _ z)) fun z=>by
  obtain⟨hb,e⟩:=Zg8 z;obtain⟨f0,f1,f2,_⟩:=hf p.1 hb;obtain⟨o,e',d⟩:=ho p.1 hb;rw[e] at e';cases e';exact⟨e,f0,f1,f2,d⟩
theorem Inv.unpinned {pins pl:List (Addr × Obj)}{σ:St}{H:Hp}{s:Shared} (I:Inv X (pins++pl) σ H s):Inv X pins σ H s:=I.pins_of fun p hp=>I.pin p (Yax _ (Ya0 _ hp))
theorem Zbb {iter:Expr}{body:List Stmt}{wi:TI}{g:TG}{tb:TS}{pos:Pos} (hp:PassesOwn (model X.prog X.w) X.A X.env X.xe) (hc:X.calm=true) (hi:PI X tg iter wi) (hg:PG X tg g) (hb:PSs X body tb)
  (hs:∀ x,foldedSetIterable iter X.env x=pure x:=by intro _;rfl):PS X (.For tg iter body [] pos) (tFor wi g tb):=by
 intro pins s σ H D I h;refine wpAny_For (thn (hi pins s σ H _ I h) fun v s1 h1=>thn h1 fun itv s2 h2=>?_) hs;obtain⟨it,fp,tn,J,H2,e,I2,T,st2,f2,W,⟨m0,w0⟩,turn⟩:=h2;subst e;have stat:∀ {H':Hp},(∀ b∈fp,H' b=none)->∀ b∈fp,FpOk X pins H' b:=fun hn b hb=>⟨hn b hb,(f2 b hb).2⟩
 refine codeAny_forLoop_any (fun n s'=>∃ i σ' H',Inv X pins σ' H' s'/\tn i s'.heap/\(∀ b∈fp,H' b=none)/\W i n σ' H') ?_ m0 ⟨0,σ,H2,I2,st2,fun b hb=>(f2 b hb).1,w0⟩;rintro n s3 ⟨i,σ3,H3,I3,st3,fr3,w3⟩;rcases turn i n σ3 H3 w3 with ⟨stop,qn⟩ | ⟨go,N,hN,step⟩
 ·refine wpAny_passesOwn hp (thn (T.done X rfl rfl rfl hc i pins s3 σ3 H3 X.xe I3 (stat fr3) st3 stop) fun r s4 ⟨hr,I4⟩=>?_);subst hr;exact wpAny_execs_nil ⟨σ3,H3,I4,qn⟩
 ·refine wpAny_passesOwn hp (thn (T.item X rfl rfl rfl hc i pins s3 σ3 H3 X.xe I3 (stat fr3) st3 go) fun r s4 ⟨u,hr,h4⟩=>?_);subst hr;refine wpAny_passesOwn hp (thn h4 fun _ s5 ⟨x,H5,I5,r5,y5,st5,fr5⟩=>?_);have I5':=I5.pinned (stat fr5) (T.obj _ _ st5);refine wpAny_passesOwn hp (thn (hg _ s5 σ3 H5 x u _ I5' r5 (step x H5 y5)) fun _ s6 ⟨σ6,H6,I6,q6⟩=>?_);refine wpAny_passesOwn hp (thn (hb _ s6 σ6 H6 _ I6 q6) fun f s7 q7=>?_);have again:∀ {σ7:St}{H7:Hp},Inv X (pins++ZcR fp s5.heap) σ7 H7 s7->N σ7 H7->∃ m,m<n/\∃ i σ' H',Inv X pins σ' H' s7/\tn i s7.heap/\(∀ b∈fp,H' b=none)/\W i m σ' H':=fun {σ7 H7} I7 n7=>by
   obtain⟨m',hm,w7⟩:=hN σ7 H7 n7;refine⟨m',hm,i+1,σ7,H7,I7.unpinned,T.keep _ _ _ st5 fun b hb o e=>(I7.pin (b,o) (Yax _ (Yax _ (ZaX hb e)))).1,fun b hb=>?_,w7⟩;obtain⟨o,e,d⟩:=T.obj _ _ st5 b hb;exact (I7.pin (b,o) (Yax _ (Yax _ (ZaX hb e)))).2.1
  cases f with
  | next=>obtain⟨σ7,H7,I7,n7⟩:=q7;exact again I7 n7
  | cont=>obtain⟨σ7,H7,I7,n7⟩:=q7;exact again I7 n7
  | brk=>obtain⟨σ7,H7,I7,q7⟩:=q7;exact⟨σ7,H7,I7.unpinned,q7⟩
  | ret v=>obtain⟨x7,σ7,H7,I7,r7,q7⟩:=q7;exact⟨x7,σ7,H7,I7.unpinned,r7,q7⟩
end
theorem Za6 {K:Yae}{a:Addr}{xs:List V}{g:TG}{tb:TS}{D:Ends}{σ:St}{H:Hp} (Pv:Nat->St->Hp->Prop) (h0:Pv 0 σ H) (hl:∀ i σ H,i<=xs.length->Pv i σ H->SqL K H a xs)
  (hs:∀ i x σ H,xs[i]?=some x->Pv i σ H->g x σ H fun σ2 H2=>tb { D with nx:=Pv (i+1),ct:=Pv (i+1),bk:=D.nx } σ2 H2) (hd:∀ σ H,Pv xs.length σ H->D.nx σ H) :
  ∃ W:Nat->Nat->St->Hp->Prop,(∃ m,W 0 m σ H)/\∀ i m σ H,W i m σ H ->
   ((Itl K a).stop i H/\D.nx σ H)∨((Itl K a).go i H/\∃ N:St->Hp->Prop,(∀ σ' H',N σ' H'->∃ m',m'<m/\W (i+1) m' σ' H')/\∀ x H',(Itl K a).yld i H x H'->g x σ H' fun σ2 H2=>tb { D with nx:=N,ct:=N,bk:=D.nx } σ2 H2):=by
 refine⟨fun i m σ H=>m=xs.length - i/\i<=xs.length/\Pv i σ H,⟨xs.length,by simp,YaO _,h0⟩,?_⟩;rintro i m σ H ⟨rfl,hi,p⟩;have q:=hl i σ H hi p;by_cases hlt:i<xs.length
 ·refine .inr ⟨⟨xs,xs[i],q,by simp[hlt]⟩,Pv (i+1),fun σ' H' p'=>⟨xs.length - (i+1),by (clear hi;omega),rfl,hlt,p'⟩,fun x H' y=>?_⟩;obtain⟨e,y⟩:=y;subst e;exact hs i x σ _ (y xs q) p
 ·have e:i=xs.length:=by omega
  subst e;exact .inl ⟨⟨xs,q,Yas _⟩,hd σ H p⟩
theorem Zbi {lo:Int}{n:Nat}{g:TG}{tb:TS}{D:Ends}{σ:St}{H:Hp} (Pv:Nat->St->Hp->Prop) (h0:Pv 0 σ H)
  (hs:∀ i σ H,i<n->Pv i σ H->g (.int (lo+i)) σ H fun σ2 H2=>tb { D with nx:=Pv (i+1),ct:=Pv (i+1),bk:=D.nx } σ2 H2) (hd:∀ σ H,Pv n σ H->D.nx σ H) :
  ∃ W:Nat->Nat->St->Hp->Prop,(∃ m,W 0 m σ H)/\∀ i m σ H,W i m σ H ->
   ((Itr lo n).stop i H/\D.nx σ H)∨((Itr lo n).go i H/\∃ N:St->Hp->Prop,(∀ σ' H',N σ' H'->∃ m',m'<m/\W (i+1) m' σ' H')/\∀ x H',(Itr lo n).yld i H x H'->g x σ H' fun σ2 H2=>tb { D with nx:=N,ct:=N,bk:=D.nx } σ2 H2):=by
 refine⟨fun i m σ H=>m=n - i/\i<=n/\Pv i σ H,⟨n,by simp,YaO _,h0⟩,?_⟩;rintro i m σ H ⟨rfl,hi,p⟩;by_cases hlt:i<n
 ·refine .inr ⟨hlt,Pv (i+1),fun σ' H' p'=>⟨n - (i+1),by (clear hi;omega),rfl,hlt,p'⟩,fun x H' y=>?_⟩;obtain⟨e,y⟩:=y;subst e y;exact hs i σ _ hlt p
 ·have e:i=n:=by omega
  subst e;exact .inl ⟨Yas _,hd σ H p⟩
end L2
namespace L2
open PySem PySem.Spec PyProof.Rows
abbrev R2:=V->V->Hp->VK->Prop
def OpR (X:Cx) (f:Value->Value->Sem Value) (r:R2):Prop :=
 ∀ (pins:List (Addr × Obj)) (s:Shared) (σ:St) (H:Hp) (x y:V) (v u:Value) (Q:VK),Inv X pins σ H s->RelV x v->RelV y u->r x y H Q ->
  wpAny (model X.prog X.w) X.A (f v u) (EP X pins σ Q) X.xe s
def UnR (X:Cx) (f:Value->Sem Value) (r:V->Hp->VK->Prop):Prop :=
 ∀ (pins:List (Addr × Obj)) (s:Shared) (σ:St) (H:Hp) (x:V) (v:Value) (Q:VK),Inv X pins σ H s->RelV x v->r x H Q ->
  wpAny (model X.prog X.w) X.A (f v) (EP X pins σ Q) X.xe s
def Zbk (X:Cx) (f:Value) (r:List V->Hp->VK->Prop):Prop :=
 ∀ (pins:List (Addr × Obj)) (s:Shared) (σ:St) (H:Hp) (xs:List V) (us:List Value) (Q:VK),Inv X pins σ H s->Vals xs us->r xs H Q ->
  wpAny (model X.prog X.w) X.A (call f us) (EP X pins σ Q) X.xe s
def TruR (X:Cx) (r:V->Hp->(Bool->Hp->Prop)->Prop):Prop :=
 ∀ (pins:List (Addr × Obj)) (s:Shared) (σ:St) (H:Hp) (x:V) (v:Value) (Q:Bool->Hp->Prop),Inv X pins σ H s->RelV x v->r x H Q ->
  wpAny (model X.prog X.w) X.A (truthy v) (TP X pins σ Q) X.xe s
def tOp (r:R2) (ta tb:TE):TE:=fun σ H Q=>ta σ H fun x H1=>tb σ H1 fun y H2=>r x y H2 Q
def tUn (r:V->Hp->VK->Prop) (ta:TE):TE:=fun σ H Q=>ta σ H fun x H1=>r x H1 Q
def rI (C:Int->Int->Prop) (g:Int->Int->V):R2:=fun x y H Q=>∃ i j,x=.int i/\y=.int j/\C i j/\Q (g i j) H
def rI0 (g:Int->Int->V):R2:=fun x y H Q=>∃ i j,x=.int i/\y=.int j/\Q (g i j) H
def rU (g:Int->V):V->Hp->VK->Prop:=fun x H Q=>∃ i,x=.int i/\Q (g i) H
section
variable {X:Cx}{a b c:Expr}{ta tb tc:TE}{pos:Pos}
theorem binT (ha:PE X a ta) (hb:PE X b tb) {pins:List (Addr × Obj)}{s:Shared}{σ:St}{H:Hp}{R:V->V->Hp->Prop} (I:Inv X pins σ H s)
  (h:ta σ H fun x H1=>tb σ H1 fun y H2=>R x y H2) {Q:Value->Shared->Prop}{f:Value->Value->Sem Value}
  (hf:∀ v u s2 x y H2,Inv X pins σ H2 s2->RelV x v->RelV y u->R x y H2->wpAny (model X.prog X.w) X.A (f v u) Q X.xe s2) :
  wpAny (model X.prog X.w) X.A (eval a X.env) (fun v s₁=>wpAny (model X.prog X.w) X.A (eval b X.env) (fun u s₂=>wpAny (model X.prog X.w) X.A (f v u) Q X.xe s₂) X.xe s₁) X.xe s:=by
 refine thn (ha pins s σ H _ I h) fun v s1 ⟨x,H1,I1,r1,q1⟩=>?_;refine thn (hb pins s1 σ H1 _ I1 q1) fun u s2 ⟨y,H2,I2,r2,q2⟩=>?_;exact hf v u s2 x y H2 I2 r1 r2 q2
theorem Zaq {op:Operator}{r:R2} (ho:OpR X (binaryOp op) r) (ha:PE X a ta) (hb:PE X b tb):PE X (.BinOp a op b pos) (tOp r ta tb):=by
 intro pins s σ H Q I h;exact wpAny_BinOp (binT ha hb I h fun v u s2 x y H2 I2 rx ry q=>ho pins s2 σ H2 x y v u Q I2 rx ry q)
theorem Zf8 {op:UnaryOp}{r:V->Hp->VK->Prop} (ho:UnR X (unaryOp op) r) (ha:PE X a ta):PE X (.UnaryOp op a pos) (tUn r ta):=by
 intro pins s σ H Q I h;exact UnaryOp_ (thn (ha pins s σ H _ I h) fun v s1 ⟨x,H1,I1,r1,q1⟩=>ho pins s1 σ H1 x v Q I1 r1 q1)
theorem opI {f:Value->Value->Sem Value}{C:Int->Int->Prop}{g:Int->Int->Int}
  (rule:∀ (i j:Int) (t u:Tok) (s:Shared) (Q:Value->Shared->Prop) (E:Value->Shared->Prop),C i j->Q (.int (g i j) s.toks) { s with toks:=s.toks+1 }->wpAny (model X.prog X.w) X.A (f (.int i t) (.int j u)) Q E s) :
  OpR X f (rI C fun i j=>.int (g i j)):=by
 intro pins s σ H x y v u Q I rx ry h;obtain⟨i,j,rfl,rfl,hc,q⟩:=h;obtain⟨t,rfl⟩:=rx;obtain⟨t',rfl⟩:=ry;exact rule i j t t' s _ _ hc ⟨.int (g i j),H,I.tok _,⟨_,rfl⟩,q⟩
theorem opI0 {f:Value->Value->Sem Value}{g:Int->Int->Int}
  (rule:∀ (i j:Int) (t u:Tok) (s:Shared) (Q:Value->Shared->Prop) (E:Value->Shared->Prop),Q (.int (g i j) s.toks) { s with toks:=s.toks+1 }->wpAny (model X.prog X.w) X.A (f (.int i t) (.int j u)) Q E s) :
  OpR X f (rI0 fun i j=>.int (g i j)):=by
 intro pins s σ H x y v u Q I rx ry h;obtain⟨i,j,rfl,rfl,q⟩:=h;obtain⟨t,rfl⟩:=rx;obtain⟨t',rfl⟩:=ry;exact rule i j t t' s _ _ ⟨.int (g i j),H,I.tok _,⟨_,rfl⟩,q⟩
theorem opB0 {f:Value->Value->Sem Value}{g:Int->Int->Bool}
  (rule:∀ (i j:Int) (t u:Tok) (s:Shared) (Q:Value->Shared->Prop) (E:Value->Shared->Prop),Q (.bool (g i j)) s->wpAny (model X.prog X.w) X.A (f (.int i t) (.int j u)) Q E s) :
  OpR X f (rI0 fun i j=>.bl (g i j)):=by
 intro pins s σ H x y v u Q I rx ry h;obtain⟨i,j,rfl,rfl,q⟩:=h;obtain⟨t,rfl⟩:=rx;obtain⟨t',rfl⟩:=ry;exact rule i j t t' s _ _ ⟨.bl (g i j),H,I,rfl,q⟩
def CDiv (i j:Int):Prop:=0<j/\j<1073741824
def CPow (i j:Int):Prop:=0<=j/\j<=1000000/\i.natAbs<2 ^ 64
def CMul (i j:Int):Prop:=(-(2 ^ 64)<i/\i<2 ^ 64)∨(-(2 ^ 64)<j/\j<2 ^ 64)
theorem CMul.ok {i j:Int} (h:CMul i j):IntMulOk i j:=by
 rcases h with ⟨h1,h2⟩ | ⟨h1,h2⟩
 ·exact .of_left (intBits_le_64 h1 h2)
 ·exact .of_right (intBits_le_64 h1 h2)
theorem Za1:OpR X (binaryOp .Add) (rI0 fun i j=>.int (i+j)):=opI0 fun _ _ _ _ _ _ _ q=>add_int q
theorem ZcV:OpR X (binaryOp .Sub) (rI0 fun i j=>.int (i - j)):=opI0 fun _ _ _ _ _ _ _ q=>sub_int q
theorem Zg1:OpR X (binaryOp .Mult) (rI CMul fun i j=>.int (i*j)):=opI fun _ _ _ _ _ _ _ hc q=>mul_int q hc.ok
theorem ZjU:OpR X (binaryOp .FloorDiv) (rI CDiv fun i j=>.int (i / j)):=opI fun i j _ _ _ _ _ hc q=>by
 have h1:(0:Int)<j:=hc.1;have h2:j<1073741824:=hc.2;exact floordiv_int (by (clear h2;omega)) (by rw[Yeb i (by (clear h2;omega))];exact q) (.inl (PyProof.noPylong_small (by omega)))
theorem ZbL:OpR X (binaryOp .Mod) (rI (fun _ j=>0<j) fun i j=>.int (i % j)):=opI fun i j _ _ _ _ _ hc q=>by
 have h1:(0:Int)<j:=hc;exact mod_int' (by (clear h1;omega)) (by rw[Int.fmod_eq_emod_of_nonneg i (by (clear h1;omega))];exact q)
theorem ZcW:OpR X (binaryOp .Pow) (rI CPow fun i j=>.int (i ^ j.toNat)):=opI fun _ _ _ _ _ _ _ hc q=>pow_int_small hc.1 hc.2.1 hc.2.2 q
theorem unI {f:Value->Sem Value}{g:Int->Int}
  (rule:∀ (i:Int) (t:Tok) (s:Shared) (Q:Value->Shared->Prop) (E:Value->Shared->Prop),Q (.int (g i) s.toks) { s with toks:=s.toks+1 }->wpAny (model X.prog X.w) X.A (f (.int i t)) Q E s) :
  UnR X f (rU fun i=>.int (g i)):=by
 intro pins s σ H x v Q I rx h;obtain⟨i,rfl,q⟩:=h;obtain⟨t,rfl⟩:=rx;exact rule i t s _ _ ⟨.int (g i),H,I.tok _,⟨_,rfl⟩,q⟩
theorem Zdb:UnR X (unaryOp .USub) (rU fun i=>.int (-i)):=unI fun _ _ _ _ _ q=>neg_int q
end
def scal:V->V->Bool
 | .non,.non=>true | .non,.int _=>true | .int _,.non=>true | .non,.bl _=>true | .bl _,.non=>true | .non,.str _=>true | .str _,.non=>true
 | .int _,.int _=>true | .bl _,.bl _=>true | .str _,.str _=>true | .byt _,.byt _=>true
 | .int _,.str _=>true | .str _,.int _=>true | .bl _,.str _=>true | .str _,.bl _=>true
 | _,_=>false
def rEq:R2:=fun x y H Q=>scal x y=true/\Q (.bl (decide (x=y))) H
def rNe:R2:=fun x y H Q=>scal x y=true/\Q (.bl (!decide (x=y))) H
theorem Zfg {i j:Int}:decide (V.int i=V.int j)=(i == j):=by
 rw[Yb4];simp
theorem ZhG {i j:Bool}:decide (V.bl i=V.bl j)=(i == j):=by
 rw[Yb4];simp
theorem ZhE {i j:Str}:decide (V.str i=V.str j)=(i == j):=by
 rw[Yb4];simp
theorem ZhF {i j:Array UInt8}:decide (V.byt i=V.byt j)=(i.toList == j.toList):=by
 rw[Yb4];cases i;cases j;simp
section
variable {X:Cx}{a b c:Expr}{ta tb tc:TE}{pos:Pos}
theorem Zaz {pins:List (Addr × Obj)}{σ:St}{H:Hp}{s:Shared}{Q:VK}{k k':Bool} (I:Inv X pins σ H s) (q:Q (.bl k) H) (e:k=k'):EP X pins σ Q (.bool k') s:=by
 subst e;exact⟨.bl k,H,I,rfl,q⟩
theorem Zg4:OpR X (compareOp .Eq) rEq:=by
 intro pins s σ H x y v u Q I rx ry h;obtain⟨hs,q⟩:=h
 cases x with
 | non=>
  cases rx
  cases y with
  | non=>cases ry;exact PySem.EqNone.eq_none_none (Zaz I q (by simp))
  | bl j=>cases ry;exact PySem.EqNone.eq_none_bool (Zaz I q (by simp))
  | int j=>obtain⟨t',rfl⟩:=ry;exact PySem.EqNone.eq_none_int (Zaz I q (by simp))
  | str j=>obtain⟨t',rfl⟩:=ry;exact PySem.EqNone.eq_none_str (Zaz I q (by simp))
  | _=>exact absurd (show false=true from hs) YaF
 | bl i=>
  cases rx
  cases y with
  | non=>cases ry;exact PySem.EqNone.eq_bool_none (Zaz I q (by simp))
  | bl j=>cases ry;exact eq_bool (Zaz I q ZhG)
  | str j=>obtain⟨t',rfl⟩:=ry;exact PySem.EqMixed.eq_bool_str (Zaz I q (by simp))
  | _=>exact absurd (show false=true from hs) YaF
 | int i=>
  obtain⟨t,rfl⟩:=rx
  cases y with
  | non=>cases ry;exact PySem.EqNone.eq_int_none (Zaz I q (by simp))
  | int j=>obtain⟨t',rfl⟩:=ry;exact eq_int (Zaz I q Zfg)
  | str j=>obtain⟨t',rfl⟩:=ry;exact PySem.EqMixed.eq_int_str (Zaz I q (by simp))
  | _=>exact absurd (show false=true from hs) YaF
 | str i=>
  obtain⟨t,rfl⟩:=rx
  cases y with
  | non=>cases ry;exact PySem.EqNone.eq_str_none (Zaz I q (by simp))
  | bl j=>cases ry;exact PySem.EqMixed.eq_str_bool (Zaz I q (by simp))
  | int j=>obtain⟨t',rfl⟩:=ry;exact PySem.EqMixed.eq_str_int (Zaz I q (by simp))
  | str j=>obtain⟨t',rfl⟩:=ry;exact eq_str (Zaz I q ZhE)
  | _=>exact absurd (show false=true from hs) YaF
 | byt i=>
  obtain⟨t,rfl⟩:=rx
  cases y with
  | byt j=>obtain⟨t',rfl⟩:=ry;exact PySem.W.eq_bytes (Zaz I q ZhF)
  | _=>exact absurd (show false=true from hs) YaF
 | _=>cases y <;> exact absurd (show false=true from hs) YaF
theorem Ziw:OpR X (compareOp .NotEq) rNe:=by
 intro pins s σ H x y v u Q I rx ry h;obtain⟨hs,q⟩:=h
 cases x with
 | non=>
  cases rx
  cases y with
  | non=>cases ry;exact PySem.EqNone.ne_none_none (Zaz I q (by simp))
  | bl j=>cases ry;exact PySem.EqNone.ne_none_bool (Zaz I q (by simp))
  | int j=>obtain⟨t',rfl⟩:=ry;exact PySem.EqNone.ne_none_int (Zaz I q (by simp))
  | str j=>obtain⟨t',rfl⟩:=ry;exact PySem.EqNone.ne_none_str (Zaz I q (by simp))
  | _=>exact absurd (show false=true from hs) YaF
 | bl i=>
  cases rx
  cases y with
  | non=>cases ry;exact PySem.EqNone.ne_bool_none (Zaz I q (by simp))
  | bl j=>cases ry;exact ne_bool (Zaz I q (congrArg not ZhG))
  | str j=>obtain⟨t',rfl⟩:=ry;exact PySem.EqMixed.ne_bool_str (Zaz I q (by simp))
  | _=>exact absurd (show false=true from hs) YaF
 | int i=>
  obtain⟨t,rfl⟩:=rx
  cases y with
  | non=>cases ry;exact PySem.EqNone.ne_int_none (Zaz I q (by simp))
  | int j=>obtain⟨t',rfl⟩:=ry;exact ne_int (Zaz I q (congrArg not Zfg))
  | str j=>obtain⟨t',rfl⟩:=ry;exact PySem.EqMixed.ne_int_str (Zaz I q (by simp))
  | _=>exact absurd (show false=true from hs) YaF
 | str i=>
  obtain⟨t,rfl⟩:=rx
  cases y with
  | non=>cases ry;exact PySem.EqNone.ne_str_none (Zaz I q (by simp))
  | bl j=>cases ry;exact PySem.EqMixed.ne_str_bool (Zaz I q (by simp))
  | int j=>obtain⟨t',rfl⟩:=ry;exact PySem.EqMixed.ne_str_int (Zaz I q (by simp))
  | str j=>obtain⟨t',rfl⟩:=ry;exact ne_str (Zaz I q (congrArg not ZhE))
  | _=>exact absurd (show false=true from hs) YaF
 | byt i=>
  obtain⟨t,rfl⟩:=rx
  cases y with
  | byt j=>obtain⟨t',rfl⟩:=ry;exact PySem.W.ne_bytes (Zaz I q (congrArg not ZhF))
  | _=>exact absurd (show false=true from hs) YaF
 | _=>cases y <;> exact absurd (show false=true from hs) YaF
theorem Zg2:OpR X (compareOp .Lt) (rI0 fun i j=>.bl (decide (i<j))):=opB0 fun _ _ _ _ _ _ _ q=>lt_int q
theorem Zg3:OpR X (compareOp .LtE) (rI0 fun i j=>.bl (decide (i<=j))):=opB0 fun _ _ _ _ _ _ _ q=>le_int q
theorem ZlL:OpR X (compareOp .Gt) (rI0 fun i j=>.bl (decide (j<i))):=opB0 fun _ _ _ _ _ _ _ q=>gt_int q
theorem ZaS (b:Expr) {op:CmpOp} (h:op≠.In:=by decide) (h2:op≠.NotIn:=by decide):behindInMarks op b=false:=by
 have e1:(op == CmpOp.In)=false:=by cases op <;> first | rfl | exact absurd rfl h
 have e2:(op == CmpOp.NotIn)=false:=by cases op <;> first | rfl | exact absurd rfl h2
 cases b <;> simp[behindInMarks,e1,e2]
theorem Zcp {op:CmpOp}{r:R2} (ho:OpR X (compareOp op) r) (ha:PE X a ta) (hb:PE X b tb) (hm:behindInMarks op b=false):PE X (.Compare a [op] [b] pos) (tOp r ta tb):=by
 intro pins s σ H Q I h;exact wpAny_Compare1 (binT ha hb I h fun v u s2 x y H2 I2 rx ry q=>ho pins s2 σ H2 x y v u Q I2 rx ry q) hm
def ZkE (t:TE):TT:=fun σ H Q=>t σ H fun x H'=>∃ k,x=.bl k/\Q k H'
theorem ZaM {op:CmpOp}{r:R2} (ho:OpR X (compareOp op) r) (ha:PE X a ta) (hb:PE X b tb) (hm:behindInMarks op b=false):PT X (.Compare a [op] [b] pos) (ZkE (tOp r ta tb)):=by
 intro pins s σ H Q I h;refine wpAny_isTrue_Compare1 (thn (ha pins s σ H _ I h) fun v s1 ⟨x,H1,I1,r1,q1⟩=>thn (hb pins s1 σ H1 _ I1 q1) fun u s2 ⟨y,H2,I2,r2,q2⟩=>
  thn (ho pins s2 σ H2 x y v u _ I2 r1 r2 q2) fun c s3 ⟨z,H3,I3,r3,k,e,q3⟩=>?_) hm
 subst e;cases r3;exact wpAny_truthy_bool ⟨H3,I3,q3⟩
def ZkK (r r':R2) (ta tb tc:TE):TE:=fun σ H Q=>ta σ H fun x H1=>tb σ H1 fun y H2=>r x y H2 fun z H3=>∃ k,z=.bl k /\
 (if k=true then tc σ H3 fun w' H4=>r' y w' H4 Q else Q (.bl false) H3)
theorem Zfw {op op':CmpOp}{r r':R2} (ho:OpR X (compareOp op) r) (ho':OpR X (compareOp op') r') (ha:PE X a ta) (hb:PE X b tb) (hc:PE X c tc)
  (hm:lastMarks [op,op'] [b,c]=false:=by with_unfolding_all rfl):PT X (.Compare a [op,op'] [b,c] pos) (ZkE (ZkK r r' ta tb tc)):=by
 intro pins s σ H Q I h;refine isTrue_chain (thn (ha pins s σ H _ I h) fun v s1 ⟨x,H1,I1,r1,q1⟩=>test_link (thn (hb pins s1 σ H1 _ I1 q1) fun u s2 ⟨y,H2,I2,r2,q2⟩=>
  thn (ho pins s2 σ H2 x y v u _ I2 r1 r2 q2) fun d s3 ⟨z,H3,I3,r3,k,e,q3⟩=>?_)) hm
 subst e;cases r3;refine wpAny_truthy_bool ?_
 cases k with
 | false=>
  obtain⟨k',e',q'⟩:=q3;cases e';exact ite_ff ⟨H3,I3,q'⟩
 | true=>
  refine ite_tt (test_last (thn (hc pins s3 σ H3 _ I3 q3) fun w' s4 ⟨z',H4,I4,r4,q4⟩=>thn (ho' pins s4 σ H4 y z' u w' _ I4 r2 r4 q4) fun d' s5 ⟨z2,H5,I5,r5,k2,e2,q5⟩=>?_));subst e2;cases r5;exact wpAny_truthy_bool ⟨H5,I5,q5⟩
def TruV (K:Yae) (x:V) (H:Hp) (k:Bool):Prop :=
 match x with
 | .non=>k=false
 | .bl b=>k=b
 | .int i=>k=(i != 0)
 | .str y=>y.length<=sizeLine/\k=((y.length:Int) != 0)
 | .byt y=>y.size<=sizeLine/\k=((y.size:Int) != 0)
 | .ref p=>(∃ xs,SqL K H p xs/\k = !xs.isEmpty)∨(∃ xs,SqT K H p xs/\k = !xs.isEmpty)∨∃ kvs,H p=some (.dK kvs)/\k = !kvs.isEmpty
 | _=>False
theorem Zgd {κ:Type}{kvs:List (κ × V)}{vs:List (κ × Value)} (r:KV kvs vs):(!vs.isEmpty) = !kvs.isEmpty:=by
 cases r <;> rfl
theorem Zdl {xs:List V}{its:List Value} (r:Vals xs its):(!its.toArray.isEmpty) = !xs.isEmpty:=by
 cases r <;> simp
theorem Zep:(sizeLine:Nat)<2 ^ 63:=by rw[sizeLine_eq];decide
theorem ZkB:TruR X (fun x H Q=>∃ k,TruV X.K x H k/\Q k H):=by
 intro pins s σ H x v Q I rx h;obtain⟨k,e,q⟩:=h;have hl:=Zep;have hs:sizeLine=16777216:=sizeLine_eq
 cases x with
 | non=>
  cases rx;have e':k=false:=e;subst e';exact truthy_none ⟨H,I,q⟩
 | bl b=>
  cases rx;have e':k=b:=e;subst e';exact wpAny_truthy_bool ⟨H,I,q⟩
 | int i=>
  obtain⟨t,rfl⟩:=rx;have e':k=(i != 0):=e;subst e';exact PySem.P.truthy_int ⟨H,I,q⟩
 | str y=>
  obtain⟨t,rfl⟩:=rx;obtain⟨hy,e'⟩:y.length<=sizeLine/\k=((y.length:Int) != 0):=e;subst e';exact PySem.P.truthy_str (by (clear hs;omega)) ⟨H,I.tok _,q⟩
 | byt y=>
  obtain⟨t,rfl⟩:=rx;obtain⟨hy,e'⟩:y.size<=sizeLine/\k=((y.size:Int) != 0):=e;subst e';exact PySem.W.truthy_bytes (by (clear hl;omega)) ⟨H,I.tok _,q⟩
 | ref p=>
  cases rx;have e':(∃ xs,SqL X.K H p xs/\k = !xs.isEmpty)∨(∃ xs,SqT X.K H p xs/\k = !xs.isEmpty)∨∃ kvs,H p=some (.dK kvs)/\k = !kvs.isEmpty:=e;rcases e' with ⟨xs,hx,e'⟩ | ⟨xs,hx,e'⟩ | ⟨kvs,hx,e'⟩
  ·subst e';obtain⟨its,r,pl,hz⟩:=I.list hx;have hlen:=r.length;exact wpAny_truthy_list pl.isList (by simp only[Yat];(clear hs;omega)) ⟨H,I.tok _,by rw[Zdl r];exact q⟩
  ·subst e';obtain⟨its,r,pl,hz⟩:=I.tuple hx;have hlen:=r.length;exact truthy_tuple pl (by simp only[Yat];(clear hs;omega)) ⟨H,I.tok _,by rw[Zdl r];exact q⟩
  ·subst e';obtain⟨hz,hS,vs,r,m⟩:kvs.length<=sizeLine/\(p == sysModules)=false/\∃ vs,KV kvs vs/\s.heap.DictOf (Ze7 X.prog X.w) p vs:=I.hok p _ hx;have hlen:kvs.length=vs.length:=Paired.length r;exact wpAny_truthy_dict hS m (by (clear hs;omega)) ⟨H,I.tok _,by rw[Zgd r];exact q⟩
 | _=>exact (show False from e).elim
theorem Zio (ha:PE X a ta) (he:∀ whole,isTrue a X.env whole=(do let v <- whole;standAt a.pos;holding [v] (truthy v))) :
  PT X a (fun σ H Q=>ta σ H fun x H'=>∃ k,TruV X.K x H' k/\Q k H'):=by
 intro pins s σ H Q I h;exact isTrue_plain (thn (ha pins s σ H _ I h) fun v s1 ⟨x,H1,I1,r1,q1⟩=>ZkB pins s1 σ H1 x v Q I1 r1 q1) (he _)
theorem Zci {x:V}{us:List Value} (r:Vals [x] us):∃ u,us=[u]/\RelV x u:=by
 cases r with
 | cons r1 r2=>cases r2;exact⟨_,rfl,r1⟩
theorem Zh9 {x y:V}{us:List Value} (r:Vals [x,y] us):∃ u w',us=[u,w']/\RelV x u/\RelV y w':=by
 cases r with
 | cons r1 r2=>
  cases r2 with
  | cons r3 r4=>cases r4;exact⟨_,_,rfl,r1,r3⟩
theorem Zc6 (hc:X.calm=true):Zbk X (.builtin "max") (fun xs H Q=>∃ i j,xs=[.int i,.int j]/\Q (.int (if j > i then j else i)) H):=by
 intro pins s σ H xs us Q I r h;obtain⟨i,j,rfl,q⟩:=h;obtain⟨u,w',rfl,⟨t,rfl⟩,⟨t',rfl⟩⟩:=Zh9 r;refine max_two_ints (I.ok.hd hc) fun h' tk k=>⟨_,H,I.kept k,?_,q⟩
 by_cases hj:j > i
 ·rw[if_pos hj,if_pos hj];exact⟨_,rfl⟩
 ·rw[if_neg hj,if_neg hj];exact⟨_,rfl⟩
theorem ZhS (hc:X.calm=true):Zbk X (.builtin "min") (fun xs H Q=>∃ i j,xs=[.int i,.int j]/\Q (.int (if j<i then j else i)) H):=by
 intro pins s σ H xs us Q I r h;obtain⟨i,j,rfl,q⟩:=h;obtain⟨u,w',rfl,⟨t,rfl⟩,⟨t',rfl⟩⟩:=Zh9 r;refine min_two_ints (I.ok.hd hc) fun h' tk k=>⟨_,H,I.kept k,?_,q⟩
 by_cases hj:j<i
 ·rw[if_pos hj,if_pos hj];exact⟨_,rfl⟩
 ·rw[if_neg hj,if_neg hj];exact⟨_,rfl⟩
theorem ZhT:Zbk X (.type "int") (fun xs H Q=>(∃ i,xs=[.int i]/\Q (.int i) H)∨∃ k,xs=[.bl k]/\Q (.int (if k then 1 else 0)) H):=by
 intro pins s σ H xs us Q I r h;rcases h with ⟨i,rfl,q⟩ | ⟨k,rfl,q⟩
 ·obtain⟨u,rfl,t,rfl⟩:=Zci r;exact call_int_int ⟨.int i,H,I,⟨_,rfl⟩,q⟩
 ·obtain⟨u,rfl,r1⟩:=Zci r;cases r1;exact call_int_bool ⟨.int (if k then 1 else 0),H,I.tok _,⟨_,rfl⟩,q⟩
end
end L2
namespace L2
open PySem PySem.Spec PyProof.Rows
structure ObjM (h:Heap) (x dx C:Addr) (mA:Str->Option Value):Prop where
 obj:h.get? x=some (YdD C dx)
 ns:h.Ns1 dx mA
 ne:dx≠x
theorem Zhe {h:Heap}{dx:Addr}{mA:Str->Option Value} (n:h.Ns1 dx mA):∃ od,h.get? dx=some od/\∀ name,YdL name od=some (mA name):=by
 obtain⟨o,es,ep,ho,hd,hk,_,hm⟩:=n;refine⟨o,ho,fun name=>?_⟩;have e:=hm name;unfold nsFind findBy at e;rw[<- Array.find?_toList] at e;unfold YdL;rw[hd];dsimp only;split
 ·rename_i y q;rw[q] at e;exact congrArg some e
 ·rename_i q;rw[q] at e;have a:es.toList.any (·.refKey)=false:=by
   rw[List.any_eq_false];intro y hy;obtain⟨z,t,hkey⟩:=hk y (Array.mem_toList_iff.mp hy);simp[DictEntry.refKey,hkey]
  have a':¬ es.toList.any (·.refKey)=true:=by rw[a];exact YaF
  rw[if_neg a'];exact congrArg some e
theorem ObjM.look {h:Heap}{x dx C:Addr}{mA:Str->Option Value} (I:ObjM h x dx C mA):∃ od,PySem.W.InstAt h x (YdD C dx) C (some od)/\∀ name,YdL name od=some (mA name) :=
 let ⟨od,ho,hl⟩:=Zhe I.ns
 ⟨od,⟨I.obj,rfl,rfl,ho⟩,hl⟩
section
variable {prog:Program}{w:World}{A:Around}{E:Value->Shared->Prop}{s:Shared}{K:Yae}{x dx C f:Addr}{mA:Str->Option Value}{name:Str}{v:Value}
end
section
variable {P:Program}{w:World}{H H':Hp}{h h':Heap}{a C dx:Addr}{fs fs':List (Str × V)}
theorem Zj8 (hok:HOk P w H h) (e:H a=some (.ins C dx fs)):∃ mA,ObjM h a dx C mA/\(∀ f,RelO (fs.lookup f) (mA f))/\PySem.Within mA (fs.map (·.1))/\fs.length<=1000/\H dx=some (.own a):=by
 obtain⟨d,z,ne,ob,mA,n,r,q⟩:=(show ObjOk P w H h a (.ins C dx fs) from hok a _ e)
 exact⟨mA,⟨ob,n,ne⟩,r,q,z,d⟩
end
structure Cls (K:Yae) (C:Addr):Prop where
 pg:YeN K C Ydv=true
 hd:PySem.W.hasDictIn K C=true
 po:PySem.W.plainOver K C=true
 sa:Yc0 K (.ref C) "__setattr__"=some (some (.builtin "object.__setattr__"))
theorem Cls.get {K:Yae}{C:Addr} (c:Cls K C) (f:Str):YeN K C f=true:=c.pg
structure Con (K:Yae) (C:Addr) (f:Str) (v:V) (u:Value):Prop where
 at_:Yc0 K (.ref C) f=some (some u)
 rel:RelV v u
 get:YeF K u "__get__"=some none
 cp:PySem.W.copiedNames.contains f=false
structure Meth (K:Yae) (C:Addr) (m:Str) (f:Addr):Prop where
 at_:Yc0 K (.ref C) m=some (some (.ref f))
 fn:PySem.W.isFn K (.ref f)=true
 kp:YaE K (.ref f)=true
section
variable {X:Cx}{pins:List (Addr × Obj)}{σ:St}{H:Hp}{s:Shared}{a C dx:Addr}{fs:List (Str × V)}{f:Str}{v:V}{A:Around}{E:Value->Shared->Prop}
end
section
variable {X:Cx}{o e value:Expr}{f:Str}{pos pos' tpos:Pos}{ta tv:TE}
end
section
variable {X:Cx}{pins:List (Addr × Obj)}{σ:St}{H:Hp}{s:Shared}{A:Around}{E:Value->Shared->Prop}{Q:Value->Shared->Prop}{c:Value}{b:Bool}
inductive TyOf (K:Yae) (H:Hp):V->Value->Prop where
 | non:TyOf K H .non (.type "NoneType")
 | bl (x:Bool):TyOf K H (.bl x) (.type "bool")
 | int (i:Int):TyOf K H (.int i) (.type "int")
 | str (x:Str):TyOf K H (.str x) (.type "str")
 | flt (x:UInt64):TyOf K H (.flt x) (.type "float")
 | lst {a:Addr}{xs:List V} (e:H a=some (.lst xs)):TyOf K H (.ref a) (.type "list")
 | frz {a:Addr}{o:Obj}{xs:List V} (e:H a=some (.frz o (.lst xs))):TyOf K H (.ref a) (.type "list")
 | tup {a:Addr}{xs:List V} (e:H a=some (.tup xs)):TyOf K H (.ref a) (.type "tuple")
 | dK {a:Addr}{kvs:List (Key × V)} (e:H a=some (.dK kvs)):TyOf K H (.ref a) (.type "dict")
 | dT {a:Addr}{kvs:List (List Key × V)} (e:H a=some (.dT kvs)):TyOf K H (.ref a) (.type "dict")
 | ins {a C dx:Addr}{fs:List (Str × V)} (e:H a=some (.ins C dx fs)) (cl:Cls K C) (ha:Yc0 K (.ref C) "__class__"=some (some (.builtin "object.__class__")))
   (hn:YeF K (.builtin "object.__class__") "__get__"=some (some (.builtin "getset_descriptor.__get__"))) (htk:PySem.W.takesIn K (.builtin "object.__class__")=some true)
   (hm:PySem.W.mroIn K C (.type "object")=some true):TyOf K H (.ref a) (.ref C)
theorem Zhn {x:V}{u t:Value} (I:Inv X pins σ H s) (rx:RelV x u) (ty:TyOf X.K H x t) (e:Yco X.K t c=some b) (h:∀ tk,Q (.bool b) { s with toks:=tk }) :
  wpAny (model X.prog X.w) A (call (.builtin "isinstance") [u,c]) Q E s:=by
 cases ty with
 | non=>cases (show u=Ycx from rx);exact YbE PySem.W.kitx_none I.kIn Ydz e (fun z=>nomatch z) h
 | bl y=>cases (show u=Yd7 y from rx);exact YbE PySem.W.kitx_bool I.kIn Ydz e (fun z=>nomatch z) h
 | int i=>obtain⟨t,q⟩:=(show ∃ t,u=Yeq i t from rx);cases q;exact YbE PySem.W.kitx_int I.kIn Ydz e (fun z=>nomatch z) h
 | str y=>obtain⟨t,q⟩:=(show ∃ t,u=Yep y t from rx);cases q;exact YbE PySem.W.kitx_str I.kIn Ydz e (fun z=>nomatch z) h
 | flt y=>obtain⟨t,q⟩:=(show ∃ t,u=Value.float y t from rx);cases q;exact YbE PySem.W.kitx_float I.kIn Ydz e (fun z=>nomatch z) h
 | @lst a xs ea=>
  cases (show u=Yb7 a from rx);obtain⟨_,_,n,_,h1⟩:=(show ObjOk X.prog X.w H s.heap a (.lst xs) from I.hok a _ ea)
  exact YbE YeG I.kIn ⟨_,h1,rfl⟩ e (fun z=>nomatch z) h
 | @frz a ob xs ea=>
  cases (show u=Yb7 a from rx);obtain⟨_,_,_,n,_,h1⟩:=(show ObjOk X.prog X.w H s.heap a (.frz ob (.lst xs)) from I.hok a _ ea)
  exact YbE YeG I.kIn ⟨_,h1,rfl⟩ e (fun z=>nomatch z) h
 | @tup a xs ea=>
  cases (show u=Yb7 a from rx);obtain⟨_,_,_,p⟩:=(show ObjOk X.prog X.w H s.heap a (.tup xs) from I.hok a _ ea)
  obtain⟨o,h1,h2,_⟩:=p;exact YbE PySem.W.kitx_tuple I.kIn ⟨o,h1,h2⟩ e (fun z=>nomatch z) h
 | @dK a kvs ea=>
  cases (show u=Yb7 a from rx);obtain⟨_,_,vs,_,p⟩:=(show ObjOk X.prog X.w H s.heap a (.dK kvs) from I.hok a _ ea)
  obtain⟨o,es,ep,h1,h2,_⟩:=p;exact YbE YeH I.kIn ⟨o,h1,h2.1⟩ e (fun z=>nomatch z) h
 | @dT a kvs ea=>
  cases (show u=Yb7 a from rx);obtain⟨_,_,xs,_,o,es,ep,h1,h2,_⟩:=(show ObjOk X.prog X.w H s.heap a (.dT kvs) from I.hok a _ ea)
  exact YbE YeH I.kIn ⟨o,h1,h2.1⟩ e (fun z=>nomatch z) h
 | @ins a C dx fs ea cl ha hn htk hm=>
  cases (show u=Yb7 a from rx);obtain⟨mA,O,_⟩:=Zj8 I.hok ea;obtain⟨od,J,_⟩:=O.look;exact YbE (PySem.W.kitx_own (cl.get _) cl.hd ha hn htk hm) I.kIn J e (fun z=>nomatch z) h
end
end L2
namespace L2
open PySem PySem.Spec PyProof.Rows
structure Room (k:Nat) (A:Around):Prop where
 hd:A.handled=none
 dp:A.depth+3*k+5<recursionLimit
 un:A.units+16*k+200<cLine
 gd:A.guards=some []
theorem Room.mono {j k:Nat}{A:Around} (r:Room k A) (h:j<=k):Room j A:=⟨r.hd,by have:=r.dp;omega,by have:=r.un;omega,r.gd⟩
theorem Room.deeper {k:Nat}{A:Around} (r:Room (k+1) A) (env:Env):Room k (A.deeper env) :=
 ⟨r.hd,by have:=r.dp;show A.depth+1+3*k+5<_;omega,by have:=r.un;show A.units+3+16*k+200<_;omega,r.gd⟩
theorem Room.depth {k:Nat}{A:Around} (r:Room k A):A.depth<recursionLimit:=by have:=r.dp;omega
theorem Room.units0 {k:Nat}{A:Around} (r:Room k A):A.units<cLine:=by have:=r.un;omega
def tNil:TA:=fun _ H Q=>Q [] H
def ZkI (ta:TE) (tr:TA):TA:=fun σ H Q=>ta σ H fun x H1=>tr σ H1 fun xs H2=>Q (x::xs) H2
section
variable {X:Cx}{e:Expr}{es:List Expr}{te:TE}{t:TA}{pos:Pos}
theorem Zad:PA X [] tNil:=fun _ _ _ _ H Q I h=>Calls.spliced_nil ⟨[],H,I,.nil,h⟩
theorem Zaa (ha:PE X e te) (hr:PA X es t) (hs:starEach (e::es) X.env=(false,eval e X.env)::starEach es X.env:=by rfl):PA X (e::es) (ZkI te t):=by
 intro pos pins s σ H Q I h;rw[hs];show wpAny _ _ (spliced ((false,eval e X.env)::backTo pos (starEach es X.env))) _ _ s;refine Calls.spliced_cons (thn (ha pins s σ H _ I h) fun u s1 ⟨x,H1,I1,r1,q1⟩=>?_);exact thn (hr pos pins s1 σ H1 _ I1 q1) fun us s2 ⟨xs,H2,I2,r2,q2⟩=>⟨x::xs,H2,I2,.cons r1 r2,q2⟩
def tTup (t:TA):TE:=fun σ H Q=>t σ H fun xs H1=>xs.length<=sizeLine/\∀ p,H1 p=none->Q (.ref p) (upd H1 p (.tup xs))
def tLst (t:TA):TE:=fun σ H Q=>t σ H fun xs H1=>xs.length<=sizeLine/\∀ p,H1 p=none->Q (.ref p) (upd H1 p (.lst xs))
theorem Zb3 {x1} (h:PA X es t):PE X (.Tuple es x1 pos) (tTup t):=by
 intro pins s σ H Q I hq;refine wpAny_Tuple_spliced (thn (h pos pins s σ H _ I hq) fun us s1 ⟨xs,H1,I1,r,z,q⟩=>⟨by rw[<- r.length];exact z,?_⟩);have hf:H1 s1.heap.objs.size=none:=I1.hok.fresh (Yas _);refine⟨.ref s1.heap.objs.size,upd H1 s1.heap.objs.size (.tup xs),I1.laid (t':=s1.toks) (fun b u e=>Yag _ e) (Yas _) ?_,rfl,q _ hf⟩;exact⟨z,us,r,⟨_,YaA _ rfl,rfl,rfl,_,rfl⟩⟩
theorem Zav (h:PA X es t):PE X (.List es pos) (tLst t):=by
 intro pins s σ H Q I hq;refine wpAny_List_spliced (thn (h pos pins s σ H _ I hq) fun us s1 ⟨xs,H1,I1,r,z,q⟩=>⟨by rw[<- r.length];exact z,?_⟩);have hf:H1 s1.heap.objs.size=none:=I1.hok.fresh (Yas _);refine⟨.ref s1.heap.objs.size,upd H1 s1.heap.objs.size (.lst xs),I1.laid (t':=s1.toks) (fun b u e=>Yag _ e) (Yas _) ?_,rfl,q _ hf⟩;exact⟨z,us,0,r,YaA _ rfl⟩
end
abbrev Sp:=List V->Hp->VK->XK->Prop
abbrev CXT:=List Env->Hp->Shared->XK->Value->Shared->Prop
structure Env0 (P:Program) (w:World) (K:Yae) (mg:Str->Option Value) (base:Heap) (A:Around) (outer:List Env) (s:Shared) (H:Hp):Prop where
 frames:A.frames=some outer
 mod:Mod K mg base
 bs:∀ b o,base.get? b=some o->s.heap.get? b=some o/\H b=none
 bsz:base.objs.size<=s.heap.objs.size
 funs:s.heap.FunFrames base outer
 frf:∀ b∈frs outer,H b=none
 hok:HOk P w H s.heap
 bare:AllBare s.gens
def CE (outer:List Env) (P:Program) (w:World) (H:Hp) (s:Shared) (Q:VK) (u:Value) (s':Shared):Prop :=
 ∃ v H',s'.os=s.os/\AllBare s'.gens/\Un (frs outer) [] H H' s.heap s'.heap/\HOk P w H' s'.heap/\RelV v u/\Q v H'
def CR (CX:CXT) (outer:List Env) (P:Program) (w:World) (H:Hp) (s:Shared) (Q:VK) (E:XK) (r:Result) (s':Shared):Prop :=
 match r with
 | .ok (.ret u)=>CE outer P w H s Q u s'
 | .ok _=>False
 | .error e=>CX outer H s E e s'
structure FnOk (P:Program) (w:World) (K:Yae) (mg:Str->Option Value) (base:Heap) (CX:CXT) (k:Nat) (f:Addr) (fd:FuncData) (ps:List Str) (sp:Sp):Prop where
 len:∀ vs H Q E,sp vs H Q E->vs.length=ps.length
 run:∀ (A:Around) (outer:List Env) (s:Shared) (H:Hp) (args:Args) (us:List Value) (vs:List V) (Q:VK) (E:XK),Room k A->Env0 P w K mg base A outer s H->BindsTo s fd args (ps.zip us)->Vals vs us->sp vs H Q E ->
  codeAny (model P w) A (.call (.ref f) args) (CR CX outer P w H s Q E) s
section
variable {X:Cx}{pins:List (Addr × Obj)}{σ:St}{H:Hp}{s s':Shared}
theorem Inv.env0 (I:Inv X pins σ H s):Env0 X.prog X.w X.K X.mg X.base X.A X.stack s H :=
 ⟨I.ok.frames,I.ok.mod,I.bs,YbC I.ok.bsz I.sz,I.stack,I.stkFree,I.hok,I.bare⟩
theorem Inv.after {Q:VK}{u:Value} (I:Inv X pins σ H s) (h:CE X.stack X.prog X.w H s Q u s'):EP X pins σ Q u s':=by
 obtain⟨v,H',os,bare,un,hok,r,q⟩:=h;obtain⟨hh,g,d,t,os'⟩:=s';obtain rfl:os'=s.os:=os;exact⟨v,H',I.call (h':=hh) (g':=g) (d':=d) (t':=t) (ch:=[]) un hok bare (fun b z=>absurd z (by simp)),r,q⟩
end
def Zjy (sp:Sp) (dvs:List V) (E:XK) (t:TA):TE:=fun σ H Q=>t σ H fun vs H1=>sp (vs++dvs) H1 Q E
def Binds (K:Yae) (fd:FuncData) (ps:List Str) (ds:List Value):Prop :=
 ∀ (s:Shared) (us:List Value),K.In s.heap->(us++ds).length=ps.length->BindsTo s fd ⟨us,[]⟩ (ps.zip (us++ds))
theorem Binds.all {K:Yae}{fd:FuncData}{ps:List Str} (h:∀ us:List Value,us.length=ps.length->bindArgs fd ⟨us,[]⟩=pure (ps.zip us)):Binds K fd ps []:=fun s us _ hl=>by
 rw[Ybz] at hl ⊢;exact .of_eq (h us hl)
def Zh4 (CX:CXT) (X:Cx) (E:XK):Prop:=∀ (pins:List (Addr × Obj)) (σ:St) (H:Hp) (s:Shared) (e:Value) (s':Shared),Inv X pins σ H s->CX X.stack H s E e s'->X.xe e s'
section
variable {X:Cx}{CX:CXT}{k:Nat}{f C:Addr}{fd:FuncData}{ps:List Str}{sp:Sp}{dvs:List V}{ds:List Value}{E:XK}{x m:Str}{p pos apos:Pos}{e o:Expr}{es:List Expr}{ta:TE}{t:TA}
theorem ZkS {pins:List (Addr × Obj)}{σ:St}{H:Hp}{s:Shared}{Q:VK}{us:List Value}{vs:List V} (F:FnOk X.prog X.w X.K X.mg X.base CX k f fd ps sp) (hr:Room k X.A) (hb:Binds X.K fd ps ds) (hd:Vals dvs ds) (hx:Zh4 CX X E)
  (I:Inv X pins σ H s) (r:Vals vs us) (h:sp (vs++dvs) H Q E):wpAny (model X.prog X.w) X.A (call (.ref f) us) (EP X pins σ Q) X.xe s:=by
 have r2:Vals (vs++dvs) (us++ds):=r.append hd;have hl:(us++ds).length=ps.length:=by rw[<- r2.length];exact F.len _ _ _ _ h
 refine wpAny_call (codeAny_mono (F.run X.A X.stack s H ⟨us,[]⟩ (us++ds) (vs++dvs) Q E hr I.env0 (hb s us I.kIn hl) r2 h) fun r s' hq=>?_)
 cases r with
 | error e=>exact hx pins σ H s e s' I hq
 | ok fl=>
  cases fl with
  | ret u=>exact I.after hq
  | next=>exact YcB hq
  | brk=>exact YcB hq
  | cont=>exact YcB hq
theorem ZgW (F:FnOk X.prog X.w X.K X.mg X.base CX k f fd ps sp) (hr:Room k X.A) (hg:Gl X x) (hm:X.mg x=some (.ref f)) (hk:YaE X.K (.ref f)=true) (hb:Binds X.K fd ps ds) (hd:Vals dvs ds) (hx:Zh4 CX X E)
  (ha:PA X (e::es) t) (hdb:(x == ("__debug__":Str))=false:=by decide) (he:starEach (e::es) X.env=(false,eval e X.env)::starEach es X.env:=by rfl) (hpl:(backTo pos (starEach es X.env)).any (·.1)=false:=by rfl) :
  PE X (.Call (.Name x p) (e::es) [] pos) (Zjy sp dvs E t):=by
 intro pins s σ H Q I h;refine wpAny_Call_Name_kw (Zhh I hg hm ?_ hdb);refine PySem.W.callWith_K (h₀:=X.base) I.ok.mod.kin hk (thn (ha pos pins s σ H _ I h) fun us s1 ⟨vs,H1,I1,r,q⟩=>⟨I1.kIn,?_⟩) he hpl;exact ZkS F hr hb hd hx I1 r q
structure Mk (K:Yae) (C f:Addr):Prop where
 makes:PySem.W.makesIn K C=true
 init:Yc0 K (.ref C) "__init__"=some (some (.ref f))
 fn:PySem.W.isFn K (.ref f)=true
 kp:YaE K (.ref C)=true
end
section
variable {X:Cx}{CX:CXT}{k:Nat}{f C:Addr}{fd:FuncData}{ps ks:List Str}{sp:Sp}{E:XK}{x m:Str}{p pos apos kpos:Pos}{e o:Expr}{es:List Expr}{kws:List Keyword}{te ta:TE}{t tk:TA}{nm:Option Str}
structure KBinds (K:Yae) (fd:FuncData) (ps ks:List Str) (g:List Value->List Value->List Value) (gV:List V->List V->List V):Prop where
 to:∀ (s:Shared) (us ws:List Value),K.In s.heap->(g us ws).length=ps.length->BindsTo s fd ⟨us,ks.zip ws⟩ (ps.zip (g us ws))
 rel:∀ {vs:List V}{us:List Value}{zs:List V}{ws:List Value},Vals vs us->Vals zs ws->Vals (gV vs zs) (g us ws)
variable {g:List Value->List Value->List Value}{gV:List V->List V->List V}
end
structure FnScope (N P:List Str) (sc:Scope):Prop where
 kind:sc.kind=.function
 co:sc.isCoroutine=false
 gen:sc.isGenerator=false
 nd:N.Nodup
 pre:N.take P.length=P
 par:∀ x∈P,sc.names.lookup x=some .local ∨ sc.names.lookup x=some .cell
 nofree:∀ y∈sc.names,y.2≠.free
theorem ZeH {kindOf:Str->Option NameKind}{x:Str}:∀ {binds:List (Str × Value)}{m:Str->Option Value},(∀ v,(x,v) ∉ binds)->bindL kindOf binds m x=m x
 | [],_,_=>rfl
 | (n,v)::r,m,h=>by
  unfold bindL;rw[ZeH fun w hw=>h w (Yan _ hw)];split
  ·have:x≠n:=by rintro rfl;exact h v Yaw
   simp[this]
  ·rfl
theorem ZeJ {kindOf:Str->Option NameKind}{x:Str}:∀ {binds:List (Str × Value)}{m:Str->Option Value},(∀ v,(x,v) ∉ binds)->bindC kindOf binds m x=m x
 | [],_,_=>rfl
 | (n,v)::r,m,h=>by
  unfold bindC;rw[ZeJ fun w hw=>h w (Yan _ hw)];split
  ·rfl
  ·have:x≠n:=by rintro rfl;exact h v Yaw
   simp[this]
theorem ZeI {kindOf:Str->Option NameKind}{x:Str}{v:Value}:∀ {P:List Str}{vs:List Value}{i:Nat}{m:Str->Option Value},P.Nodup->P[i]?=some x->vs[i]?=some v->kindOf x=some .local ->
  bindL kindOf (P.zip vs) m x=some v
 | [],_,_,_,_,h,_,_=>by simp at h
 | _::_,[],_,_,_,_,h,_=>by simp at h
 | p::P,w::vs,0,m,nd,h1,h2,hk=>by
  simp at h1 h2;subst h1;subst h2;show bindL kindOf ((p,w)::P.zip vs) m p=_;unfold bindL;rw[ZeH fun v hv=>(YcX.mp nd).1 (YdS hv).1,if_pos hk];simp
 | p::P,w::vs,i+1,m,nd,h1,h2,hk=>by
  show bindL kindOf ((p,w)::P.zip vs) m x=_;unfold bindL;exact ZeI (i:=i) (YcX.mp nd).2 (by simpa using h1) (by simpa using h2) hk
theorem ZeK {kindOf:Str->Option NameKind}{x:Str}{v:Value}:∀ {P:List Str}{vs:List Value}{i:Nat}{m:Str->Option Value},P.Nodup->P[i]?=some x->vs[i]?=some v->kindOf x≠some .local ->
  bindC kindOf (P.zip vs) m x=some v
 | [],_,_,_,_,h,_,_=>by simp at h
 | _::_,[],_,_,_,_,h,_=>by simp at h
 | p::P,w::vs,0,m,nd,h1,h2,hk=>by
  simp at h1 h2;subst h1;subst h2;show bindC kindOf ((p,w)::P.zip vs) m p=_;unfold bindC;rw[ZeJ fun v hv=>(YcX.mp nd).1 (YdS hv).1,if_neg hk];simp
 | p::P,w::vs,i+1,m,nd,h1,h2,hk=>by
  show bindC kindOf ((p,w)::P.zip vs) m x=_;unfold bindC;exact ZeK (i:=i) (YcX.mp nd).2 (by simpa using h1) (by simpa using h2) hk
def start (N:List Str) (vs:List V):St:=vs.map some++Yal (N.length - vs.length) none
def cxOf (CX:CXT) (P:Program) (w:World) (K:Yae) (mg:Str->Option Value) (base:Heap) (N:List Str) (qual:Str) (scope:Scope) (f:Addr) (cd:Value) (A:Around) (outer:List Env) (s:Shared) (H:Hp) (E:XK):Cx where
 prog:=P
 w:=w
 K:=K
 mg:=mg
 base:=base
 A:=A.deeper (envOfC qual scope s.heap.objs.size f cd)
 N:=N
 s₀:=s
 H₀:=H
 env:=envOfC qual scope s.heap.objs.size f cd
 outer:=outer
 stack:=envOfC qual scope s.heap.objs.size f cd::outer
 ex:=[]
 calm:=true
 fn:=fun _=>true
 pn:=[]
 xe:=fun e s'=>wpAny (model P w) (A.deeper (envOfC qual scope s.heap.objs.size f cd)) (leaving (envOfC qual scope s.heap.objs.size f cd) e) (fun _ s''=>CX outer H s E e s'') (fun e' s''=>CX outer H s E e' s'') s'
theorem ZfR {sc:Scope}{n:Nat}{x:Str} (h:sc.names.lookup x=some .cell):∃ c,(cellsFrom n sc.names []).lookup x=some c:=by
 have q:=Yd8 sc.names n [] (.inl h);exact Option.isSome_iff_exists.mp q
theorem Zho {CX:CXT}{P:Program}{w:World}{K:Yae}{mg:Str->Option Value}{base:Heap}{N ps:List Str}{qual:Str}{scope:Scope}{f:Addr}{cd:Value}{A:Around}{outer:List Env}{s s1:Shared}{H:Hp}{E:XK}{us:List Value}{vs:List V}
  (S:FnScope N ps scope) (hd:A.handled=none) (e0:Env0 P w K mg base A outer s H) (hl:vs.length=ps.length) (r:Vals vs us)
  (x:InCallC s s.heap.objs.size (bindL (envOfC qual scope s.heap.objs.size f cd).kindOf (ps.zip us) fun _=>none) (cellsFrom (s.heap.objs.size+1) scope.names []) (bindC (envOfC qual scope s.heap.objs.size f cd).kindOf (ps.zip us) fun _=>none) s1) :
  Inv (cxOf CX P w K mg base N qual scope f cd A outer s H E) [] (start N vs) H s1:=by
 have hpl:ps.length<=N.length:=by have:=congrArg Ybf S.pre;rw[Yaz] at this;(clear hl;omega)
 obtain⟨h1,tk,rfl,hk⟩:=x.done;have noA:∀ b:Addr,b ∉ (cxOf CX P w K mg base N qual scope f cd A outer s H E).ex:=fun b z=>absurd (show b∈([]:List Addr) from z) (by simp);refine⟨⟨e0.mod,S.kind,rfl,rfl,Yas _,fun y z c h1 h2=>?_,fun y hy=>?_,fun y c _ h=>?_,fun _=>hd,Around.frames_deeper e0.frames,.inr ⟨rfl,rfl⟩,fun b z=>absurd z (noA b),e0.bs,e0.bsz,fun b _ _=>noA b,fun b z=>absurd z (noA b),e0.funs,e0.frf⟩,
  rfl,e0.bare,Un.kept hk,⟨_,x.toInCall.ns,fun i y v h1 h2 h3=>?_⟩,fun y c h=>⟨_,x.cell y c h⟩,e0.hok.fresh (Yas _),fun y c h=>?_,fun p hp=>absurd (show p∈([]:List (Addr × Obj)) from hp) (by simp),e0.hok.kept hk,?_⟩
 ·exact name_of_addr x.apart (YbJ h1) (YbJ h2)
 ·have hy:scope.names.lookup y=some .cell∨scope.names.lookup y=some .free:=hy;rcases hy with hy | hy
  ·exact ZfR hy
  ·exact absurd rfl (S.nofree _ (YbJ hy))
 ·exact Ybi (x.above y c (YbJ h))
 ·have hi:i<vs.length:=by
   unfold start at h2;by_cases hi:i<vs.length
   ·exact hi
   ·rw[Yak (by simpa using hi)] at h2;rw[Yek] at h2;split at h2 <;> cases h2
  have ha:vs[i]?=some v:=by
   unfold start at h2;rw[Yaj (by simpa using hi),Yaf] at h2
   cases e:vs[i]? with
   | none=>rw[e] at h2;cases h2
   | some a=>rw[e] at h2;cases h2;rfl
  obtain⟨u,hu,rv⟩:=r.get ha;have hp:ps[i]?=some y:=by
   rw[<- S.pre,Ybm (by (clear hpl;omega))];exact h1
  have ndP:ps.Nodup:=by rw[<- S.pre];exact S.nd.sublist (List.take_sublist _ _)
  refine⟨u,rv,?_⟩;rcases S.par y (Yah hp) with k | k
  ·exact .inl ⟨k,ZeI ndP hp hu k⟩
  ·obtain⟨c,e⟩:=ZfR (n:=s.heap.objs.size+1) k;refine .inr ⟨.inl k,c,e,?_⟩;have q:=x.cell y c e;rw[ZeK ndP hp hu (by show scope.names.lookup y≠_;rw[k];decide)] at q;exact q
 ·exact e0.hok.fresh (Ybi (x.above y c (YbJ h)))
 ·unfold start;show _=N.length;rw[Yai,Yac,YbZ];omega
theorem Zlo {CX:CXT}{P:Program}{w:World}{K:Yae}{mg:Str->Option Value}{base:Heap}{k:Nat}{f:Addr}{name qual:Str}{params:Arguments}{body:List Stmt}{scope:Scope}{dV kV doc pm cdv ct oc:Value}{an od:Option Addr}
  {osl:Array (Option Value)}{N ps:List Str}{sp:Sp} (lk:K.lookup f=some ⟨oc,od,.func (YaN name qual params body scope dV kV doc pm an cdv ct),osl⟩) (hcd:YaL K cdv qual=true) (S:FnScope N ps scope)
  (len:∀ vs H Q E,sp vs H Q E->vs.length=ps.length)
  (hbody:∀ (A:Around) (outer:List Env) (s:Shared) (H:Hp) (vs:List V) (Q:VK) (E:XK),Room k (A.deeper (envOfC qual scope s.heap.objs.size f cdv))->sp vs H Q E ->
   ∃ t,PSs (cxOf CX P w K mg base N qual scope f cdv A outer s H E) body t/\t { nx:=fun _ H'=>Q .non H',rt:=Q } (start N vs) H) :
  FnOk P w K mg base CX (k+1) f (YaN name qual params body scope dV kV doc pm an cdv ct) ps sp:=by
 refine⟨len,fun A outer s H args us vs Q E hr e0 hb r hsp=>?_⟩;have hl:=len _ _ _ _ hsp;have KX:K.In s.heap:=e0.mod.kin.keeps fun b o e=>(e0.bs b o e).1
 have lim:s.heap.NoLimit:=e0.mod.nolimit.keeps fun b o e=>(e0.bs b o e).1
 have hkind:∀ y∈ps.zip us,scope.names.lookup y.1=some .local ∨ (scope.names.lookup y.1=some .cell/\((cellsFrom (s.heap.objs.size+1) scope.names []).lookup y.1).isSome=true):=fun ⟨n,v⟩ hy=>by
  rcases S.par n (YdS hy).1 with q | q
  ·exact .inl q
  ·exact .inr ⟨q,Yd8 _ _ _ (.inl q)⟩
 refine codeAny_call_function hr.depth (KX _ _ lk) rfl S.co S.gen rfl (PySem.W.codeRec_of KX hcd) (hb _ _ _ _ ?_);refine wpAny_newFunctionEnv_cells S.kind hkind fun env he s1 x=>?_;subst he;refine⟨lim.keeps x.toInCall.keep,codeAny_func ?_⟩;obtain⟨t,ht,hq⟩:=hbody A outer s H vs Q E (hr.deeper _) hsp;have I:Inv (cxOf CX P w K mg base N qual scope f cdv A outer s H E) [] (start N vs) H s1:=Zho S hr.hd e0 hl r x;refine wpAny_mono (ht [] s1 (start N vs) H _ I hq) (fun fl s' hs=>?_) fun e s' hs=>hs;have fin:∀ {σ':St}{H':Hp}{v:V}{u:Value},Inv (cxOf CX P w K mg base N qual scope f cdv A outer s H E) [] σ' H' s'->RelV v u->Q v H'->CE outer P w H s Q u s' :=
  fun {σ' H' v u} J rv q=>⟨v,H',J.os,J.bare,J.base,J.hok,rv,q⟩
 cases fl with
 | ret u=>
  obtain⟨v,σ',H',J,rv,q⟩:=hs;exact fin J rv q
 | next=>
  obtain⟨σ',H',J,q⟩:=hs;exact fin (v:=V.non) (u:=Ycx) J rfl q
 | brk=>
  obtain⟨_,_,_,q⟩:=hs;exact YcB q
 | cont=>
  obtain⟨_,_,_,q⟩:=hs;exact YcB q
end L2
namespace L2
open PySem PySem.Spec PyProof.Rows
section
variable {X:Cx}{x:Str}{p pos:Pos}{e:Expr}{es:List Expr}{t:TA}{id T:String}{r:List V->Hp->VK->Prop}
def tCB (r:List V->Hp->VK->Prop) (t:TA):TE:=fun σ H Q=>t σ H fun vs H1=>r vs H1 Q
theorem Zal (hc:Zbk X (.builtin id) r) (hg:Gl X x) (hm:X.mg x=none) (hv:bootBuiltins x=some (.builtin id)) (ha:PA X (e::es) t) (hn:x≠"__name__":=by decide) (hdb:(x == ("__debug__":Str))=false:=by decide)
  (he:starEach (e::es) X.env=(false,eval e X.env)::starEach es X.env:=by rfl) (hpl:(backTo pos (starEach es X.env)).any (·.1)=false:=by rfl):PE X (.Call (.Name x p) (e::es) [] pos) (tCB r t):=by
 intro pins s σ H Q I h;refine wpAny_Call_Name_kw (Zdk I hg hm hv ?_ hn hdb);exact PyProof.Rows.callWith_builtin1 (thn (ha pos pins s σ H _ I h) fun us s1 ⟨vs,H1,I1,r1,q1⟩=>hc pins s1 σ H1 vs us Q I1 r1 q1) he hpl
theorem ZaB (hc:Zbk X (.type T) r) (hg:Gl X x) (hm:X.mg x=none) (hv:bootBuiltins x=some (.type T)) (ha:PA X (e::es) t) (hn:x≠"__name__":=by decide) (hdb:(x == ("__debug__":Str))=false:=by decide)
  (he:starEach (e::es) X.env=(false,eval e X.env)::starEach es X.env:=by rfl) (hpl:(backTo pos (starEach es X.env)).any (·.1)=false:=by rfl):PE X (.Call (.Name x p) (e::es) [] pos) (tCB r t):=by
 intro pins s σ H Q I h;refine wpAny_Call_Name_kw (Zdk I hg hm hv ?_ hn hdb);exact Yb5 (thn (ha pos pins s σ H _ I h) fun us s1 ⟨vs,H1,I1,r1,q1⟩=>hc pins s1 σ H1 vs us Q I1 r1 q1) he hpl
end
end L2
namespace HT
open PySem PyProof.Rows
section
open PySem.SeqAt
open PySem.AutoSeq1 (wpAny_loadPart')
open PySem.MeetsSeq PySem.MeetsSeq2 PySem.MeetsSeq3
end
section
variable {prog:Program}{w:World}{A:Around}{E:Value->Shared->Prop}{s:Shared}
def sIx (n d:Nat):Option Int->Nat
 | none=>d
 | some v=>if v<0 then (v+(n:Int)).toNat else min v.toNat n
theorem sIx_nat (n d k:Nat):sIx n d (some (k:Int))=min k n:=by
 show (if (k:Int)<0 then ((k:Int)+(n:Int)).toNat else min (k:Int).toNat n)=min k n;rw[if_neg (by omega),Ybh]
theorem ZkR (n d:Nat) (hd:d<=n) (o:Option Int):sIx n d o<=n:=by
 cases o with
 | none=>exact hd
 | some v=>
  show (if v<0 then (v+(n:Int)).toNat else min v.toNat n)<=n;by_cases hv:v<0
  ·rw[if_pos hv];(clear hd;omega)
  ·rw[if_neg hv];exact Nat.min_le_right _ _
theorem ZhO (v:Int) (n d:Nat):(if v<0 then max (v+(n:Int)) 0 else min v (n:Int))=((sIx n d (some v):Nat):Int):=by
 show (if v<0 then max (v+(n:Int)) 0 else min v (n:Int))=(((if v<0 then (v+(n:Int)).toNat else min v.toNat n):Nat):Int);by_cases hv:v<0
 ·simp only[if_pos hv];(clear hv;omega)
 ·simp only[if_neg hv];omega
theorem Zgj (lo hi:Option Int) (n:Nat):YcR lo hi 1 (n:Int)=(((sIx n 0 lo:Nat):Int),((sIx n n hi:Nat):Int)):=by
 have h1:¬ ((1:Int)<0):=by omega
 unfold YcR;simp only[h1,if_false];refine YeS ?_ ?_
 ·cases lo with
  | none=>rfl
  | some v=>exact ZhO v n 0
 ·cases hi with
  | none=>rfl
  | some v=>exact ZhO v n n
theorem Zf7 (i j:Nat):Ycd (i:Int) (j:Int) 1=j - i:=by
 unfold Ycd;have h1:(1:Int) > 0:=by omega
 simp only[h1,if_true,Int.ediv_one];split <;> (clear h1;omega)
theorem Zdd {v:Value}{o:Option Int}{Q:Option Int->Shared->Prop} (p:IsPart v o) (h:Q o s):wpAny (model prog w) A (Builtin.Slice.slicePartIndex v) Q E s:=by
 cases p with
 | none=>exact slicePart_none h
 | int i t=>exact slicePart_int h
theorem ZcA {sl:Addr}{vl vu:Value}{lo hi:Option Int}{n:Nat}{Q:Int × Int × Nat->Shared->Prop} (hs:s.heap.IsSliceOf sl vl vu .none) (pl:IsPart vl lo) (pu:IsPart vu hi)
  (h:Q (((sIx n 0 lo:Nat):Int),1,sIx n n hi - sIx n 0 lo) s):wpAny (model prog w) A (Ydq (.ref sl) (pure (n:Int))) Q E s:=by
 obtain⟨os,hos,hcs,hds⟩:=id hs;unfold Ydq Builtin.Slice.sliceFields;refine wpAny_bind (wpAny_bind (wpAny_field hos hds (x:=vl) rfl (wpAny_bind (wpAny_field hos hds (x:=vu) rfl (wpAny_bind (wpAny_field hos hds (x:=.none) rfl (wpAny_pure ?_)))))));refine wpAny_bind (slicePart_none ?_);show wpAny _ _ (if ((1:Int) == 0)=true then _ else _) _ _ s;rw[if_neg (by decide)];refine wpAny_bind (Zdd pl (wpAny_bind (Zdd pu (wpAny_bind (wpAny_pure ?_)))));show wpAny _ _ (match YcR lo hi 1 (n:Int) with | (lo,hi)=>pure (lo,(1:Int),Ycd lo hi 1)) _ _ s;rw[Zgj lo hi n];show wpAny _ _ (pure (((sIx n 0 lo:Nat):Int),(1:Int),Ycd ((sIx n 0 lo:Nat):Int) ((sIx n n hi:Nat):Int) 1)) _ _ s;rw[Zf7];exact wpAny_pure h
theorem Zir (xs:Array Value) (i k:Nat):((Yap k).filterMap fun (m:Nat)=>xs[((i:Int)+(m:Int)*1).toNat]?).toArray=((xs.toList.drop i).take k).toArray:=by
 have e:(fun (m:Nat)=>xs[((i:Int)+(m:Int)*1).toNat]?)=fun m=>xs[i+m]?:=by
  funext m
  have:((i:Int)+(m:Int)*1).toNat=i+m:=by omega
  rw[this]
 rw[e];have:=pick_run xs i k;rw[Ycc] at this;have e2:((fun x=>xs[x]?) ∘ fun x=>i+x)=fun m=>xs[i+m]?:=rfl;rw[e2] at this;rw[this]
theorem getItem_tuple_cut {t sl:Addr}{items:Array Value}{vl vu:Value}{lo hi:Option Int}{Q:Value->Shared->Prop} (ht:IsTup s.heap t items) (hs:s.heap.IsSliceOf sl vl vu .none) (pl:IsPart vl lo) (pu:IsPart vu hi)
  (hw:¬ (sIx items.size 0 lo=0/\sIx items.size items.size hi=items.size))
  (h:Q (.ref s.heap.objs.size) { s with heap:=s.heap.push { cls:=.type "tuple",data:=.seq ((items.toList.drop (sIx items.size 0 lo)).take (sIx items.size items.size hi - sIx items.size 0 lo)).toArray } })
  (hsz:items.size<=sizeLine):wpAny (model prog w) A (getItem (.ref t) (.ref sl)) Q E s:=by
 have htake:sizeOk (.seq ((items.toList.drop (sIx items.size 0 lo)).take (sIx items.size items.size hi - sIx items.size 0 lo)).toArray):=by
  show ((items.toList.drop (sIx items.size 0 lo)).take (sIx items.size items.size hi - sIx items.size 0 lo)).toArray.size<=sizeLine;rw[Yat,Yaz,Ya3,Ybd]
  (clear hw;omega)
 have hj:sIx items.size items.size hi<=items.size:=ZkR _ _ (Yas _) hi;obtain⟨os,hos,hcs,hds⟩:=id hs;have hTs:s.TypeIs (.ref sl) "slice":=⟨os,hos,hcs⟩
 unfold getItem
 try with_reducible refine wpAny_holding ?_
 first | refine wpAny_bind (wpAny_pure ?_) | skip
 refine wpAny_bind (wpAny_sequenceKey ht.typeIs (by decide) ?_);refine wpAny_bind (wpAny_callSpecial?_slot (name:=YcD "__getitem__") ht.typeIs Ycy
  (wpAny_call_entry Ycy ht.typeIs entry_tuple_getitem ?_ (args_tuple_getitem _ _)))
 show wpAny _ _ (Builtin.Tuple.tupleItemsOf (.ref t) >>= _) _ _ s;refine wpAny_bind (tupleItemsOf_ ht ?_);refine wpAny_bind (wpAny_typeOf hTs ?_);rw[if_pos (by decide)];refine wpAny_bind (ZcA hs pl pu ?_);have hno:¬ ((((sIx items.size 0 lo:Nat):Int) == 0 && (1:Int) == 1 && (sIx items.size items.size hi - sIx items.size 0 lo) == items.size)=true):=by
  intro q;rw[Yb8,Yb8] at q;have q1:((sIx items.size 0 lo:Nat):Int)=0:=eq_of_beq q.1.1;have q2:sIx items.size items.size hi - sIx items.size 0 lo=items.size:=eq_of_beq q.2;exact hw ⟨by (clear q2 q hj hsz hw;omega),by (clear q1 q hsz hw;omega)⟩
 show wpAny _ _ (if (((sIx items.size 0 lo:Nat):Int) == 0 && (1:Int) == 1 && (sIx items.size items.size hi - sIx items.size 0 lo) == items.size)=true then _ else _) _ _ s;rw[if_neg hno,Zir]
 first
  | exact wpAny_bind (m:=Yck _) (wpAny_newObj_type (wpAny_pure ⟨_,rfl,wpAny_pure h⟩) htake)
  | exact wpAny_bind (m:=Yck _) (wpAny_newObj_type (wpAny_bind (wpAny_pure (wpAny_pure ⟨_,rfl,wpAny_pure h⟩))) htake)
  | exact wpAny_bind (wpAny_bind (m:=Yck _) (wpAny_newObj_type (wpAny_pure (wpAny_pure ⟨_,rfl,wpAny_pure h⟩)) htake))
  | exact wpAny_bind (wpAny_bind (m:=Yck _) (wpAny_newObj_type (wpAny_pure ⟨_,rfl,wpAny_pure h⟩) htake))
end
end HT
namespace L2
open PySem PySem.Spec PyProof.Rows
abbrev TO:=St->Hp->(Option Int->Hp->Prop)->Prop
def PO (X:Cx) (e:Option Expr) (t:TO):Prop :=
 ∀ (pins:List (Addr × Obj)) (s:Shared) (σ:St) (H:Hp) (Q:Option Int->Hp->Prop),Inv X pins σ H s->t σ H Q ->
  wpAny (model X.prog X.w) X.A (evalPart e X.env) (fun u s'=>∃ o H',Inv X pins σ H' s'/\IsPart u o/\Q o H') X.xe s
def Zjx:TO:=fun _ H Q=>Q none H
def ZlA (t:TE):TO:=fun σ H Q=>t σ H fun x H1=>∃ i,x=.int i/\Q (some i) H1
theorem Zdn {ns:List Int}:∀ {us:List Value},Vals (ns.map V.int) us->IntsAre us ns:=by
 induction ns with
 | nil=>intro us r;rw[YcC] at r;cases r;exact .nil
 | cons n ns ih=>
  intro us r;rw[Yam] at r
  cases r with
  | cons r1 r2=>
   obtain⟨t,e⟩:=r1;subst e;exact .cons n t (ih r2)
section
variable {X:Cx}{e:Expr}{te:TE}{lo hi:Option Expr}{tl th:TO}{pos p2:Pos}
theorem Zco:PO X none Zjx:=by
 intro pins s σ H Q I h;rw[evalPart_none];exact wpAny_pure ⟨none,H,I,.none,h⟩
theorem Zbf (h:PE X e te):PO X (some e) (ZlA te):=by
 intro pins s σ H Q I hw;rw[evalPart_some];refine thn (h pins s σ H _ I hw) fun u s1 ⟨x,H1,I1,r1,q1⟩=>?_;obtain⟨i,rfl,q⟩:=q1;obtain⟨t,rfl⟩:=r1;exact⟨some i,H1,I1,.int i t,q⟩
def SlR (X:Cx) (r:V->Option Int->Option Int->Hp->VK->Prop):Prop :=
 ∀ (pins:List (Addr × Obj)) (s:Shared) (σ:St) (H:Hp) (x:V) (v vl vu:Value) (lo hi:Option Int) (sl:Addr) (Q:VK),Inv X pins σ H s->RelV x v->s.heap.IsSliceOf sl vl vu .none->IsPart vl lo->IsPart vu hi->r x lo hi H Q ->
  ∃ T id,typeLookup (.type T) "__getitem__"=pure (some (.builtin id))/\s.TypeIs v T/\wpAny (model X.prog X.w) X.A (getItem v (.ref sl)) (EP X pins σ Q) X.xe s
def tSl (r:V->Option Int->Option Int->Hp->VK->Prop) (te:TE) (tl th:TO):TE:=fun σ H Q=>te σ H fun x H1=>tl σ H1 fun l H2=>th σ H2 fun u H3=>r x l u H3 Q
theorem ZbF {r:V->Option Int->Option Int->Hp->VK->Prop} (hr:SlR X r) (he:PE X e te) (hl:PO X lo tl) (hu:PO X hi th):PE X (.Subscript e (.Slice lo hi none p2) pos) (tSl r te tl th):=by
 intro pins s σ H Q I h;refine Subscript_ (thn (he pins s σ H _ I h) fun v s1 ⟨x,H1,I1,r1,q1⟩=>?_);refine wpAny_Slice (thn (hl pins s1 σ H1 _ I1 q1) fun vl s2 ⟨l,H2,I2,pl,q2⟩=>thn (hu pins s2 σ H2 _ I2 q2) fun vu s3 ⟨u,H3,I3,pu,q3⟩=>?_);rw[evalPart_none];refine wpAny_pure ?_;have I4:Inv X pins σ H3 { s3 with heap:=s3.heap.push { cls:=.type "slice",data:=.fields #[vl,vu,.none] } }:=I3.kept (t':=s3.toks) fun b ob q=>Yag _ q;obtain⟨T,id,hT,ht,hg⟩:=hr pins { s3 with heap:=s3.heap.push { cls:=.type "slice",data:=.fields #[vl,vu,.none] } } σ H3 x v vl vu l u s3.heap.objs.size Q I4 r1 (YdP ..) pl pu q3;show wpAny (model X.prog X.w) X.A (subscriptTail e (.Slice lo hi none p2) v (.ref s3.heap.objs.size)) (EP X pins σ Q) X.xe { s3 with heap:=s3.heap.push { cls:=.type "slice",data:=.fields #[vl,vu,.none] } };exact tail_any (ops:=[.ref s3.heap.objs.size,v]) ht hT hg (by with_unfolding_all rfl)
def cutV (xs:List V) (lo hi:Option Int):List V:=(xs.drop (HT.sIx xs.length 0 lo)).take (HT.sIx xs.length xs.length hi - HT.sIx xs.length 0 lo)
theorem Zc5 (xs:List V) (lo hi:Option Int):(cutV xs lo hi).length<=xs.length:=by
 unfold cutV;rw[Yaz,Ya3];omega
def rSlT (K:Yae):V->Option Int->Option Int->Hp->VK->Prop:=fun x lo hi H Q=>∃ a xs,x=.ref a/\SqT K H a xs /\
 ¬ (HT.sIx xs.length 0 lo=0/\HT.sIx xs.length xs.length hi=xs.length)/\∀ p,H p=none->Q (.ref p) (upd H p (.tup (cutV xs lo hi)))
theorem ZkM:SlR X (rSlT X.K):=by
 intro pins s σ H x v vl vu lo hi sl Q I rx hs pl pu h;obtain⟨a,xs,rfl,hx,hw,q⟩:=h;cases rx;obtain⟨its,r,ht,hz⟩:=I.tuple hx;have hlen:its.toArray.size=xs.length:=by rw[Yat];exact r.length.symm
 refine⟨"tuple",_,Ycy.lookup,ht.typeIs,?_⟩;refine HT.getItem_tuple_cut ht hs pl pu (by rw[hlen];exact hw) ?_ (by rw[hlen];exact hz);rw[hlen];refine⟨.ref s.heap.objs.size,_,I.laid (t':=s.toks) (o:=.tup (cutV xs lo hi)) (fun b ob q=>Yag _ q) (Yas _) ?_,rfl,q _ (I.hok.fresh (Yas _))⟩;exact⟨YbC (Zc5 xs lo hi) hz,_,(r.drop (HT.sIx xs.length 0 lo)).take (HT.sIx xs.length xs.length hi - HT.sIx xs.length 0 lo),IsTupD.new _ _⟩
end
end L2
namespace L2
open PySem PySem.Spec PyProof.Rows
def ixN (n:Nat) (i:Int):Option Nat:=if 0<=i then (if i<n then some i.toNat else none) else if -(n:Int)<=i then some (i+n).toNat else none
def atI {α:Type} (xs:List α) (i:Int):Option α:=(ixN xs.length i).bind fun j=>xs[j]?
theorem Zhl {n:Nat}{i:Int}{j:Nat} (h:ixN n i=some j):seqIndex? i n=some j/\j<n/\-(n:Int)<=i/\i<n:=by
 unfold ixN at h;by_cases h0:0<=i
 ·rw[if_pos h0] at h;by_cases h1:i<n
  ·rw[if_pos h1] at h;have e:i.toNat=j:=Yay h;exact⟨by rw[seqIndex_of h0 h1,e],by omega,by (clear e h1;omega),h1⟩
  ·rw[if_neg h1] at h;cases h
 ·rw[if_neg h0] at h;by_cases h1:-(n:Int)<=i
  ·rw[if_pos h1] at h;have e:(i+n).toNat=j:=Yay h;exact⟨by rw[seqIndex_neg (by (clear e h1;omega)) h1,e],by omega,h1,by (clear e h1;omega)⟩
  ·rw[if_neg h1] at h;cases h
theorem Zh1 {α:Type}{xs:List α}{i:Int}{v:α} (h:atI xs i=some v):∃ j,seqIndex? i xs.length=some j/\xs[j]?=some v/\j<xs.length/\-(xs.length:Int)<=i/\i<xs.length:=by
 unfold atI at h
 cases e:ixN xs.length i with
 | none=>rw[e] at h;cases h
 | some j=>
  rw[e] at h;obtain⟨h1,h2,h3,h4⟩:=Zhl e;exact⟨j,h1,h,h2,h3,h4⟩
theorem ZaP {α:Type}{xs:List α}{j:Nat}{v:α} (h:xs[j]?=some v):atI xs (j:Int)=some v:=by
 have hj:j<xs.length:=(Yaa.mp h).1
 have e:ixN xs.length (j:Int)=some j:=by
  unfold ixN;rw[if_pos (by (clear hj;omega)),if_pos (by omega)];simp
 unfold atI;rw[e];exact h
def Zh3 (b:Expr):Prop:=∀ o i,subscripted b false o i=operate [o,i] (getItem o i)
def IxR (X:Cx) (r:R2):Prop :=
 ∀ (value slice:Expr) (pins:List (Addr × Obj)) (s:Shared) (σ:St) (H:Hp) (x y:V) (v u:Value) (Q:VK),Inv X pins σ H s->RelV x v->RelV y u->r x y H Q ->
  subscripted slice false v u=operate [v,u] (getItem v u)->wpAny (model X.prog X.w) X.A (subscriptTail value slice v u) (EP X pins σ Q) X.xe s
def MtR (X:Cx) (id:String) (r:V->List V->Hp->VK->Prop):Prop :=
 ∀ (pins:List (Addr × Obj)) (s:Shared) (σ:St) (H:Hp) (x:V) (xs:List V) (v:Value) (us:List Value) (Q:VK),Inv X pins σ H s->RelV x v->Vals xs us->r x xs H Q ->
  wpAny (model X.prog X.w) X.A (call (.builtin id) (v::us)) (EP X pins σ Q) X.xe s
section
variable {X:Cx}{a b:Expr}{ta tb:TE}{pos:Pos}
theorem Zaw {r:R2} (hr:IxR X r) (ha:PE X a ta) (hb:PE X b tb) (hs:Zh3 b):PE X (.Subscript a b pos) (tOp r ta tb):=by
 intro pins s σ H Q I h;exact Subscript_ (binT ha hb I h fun v u s2 x y H2 I2 rx ry q=>hr a b pins s2 σ H2 x y v u Q I2 rx ry q (hs _ _))
def rIxL (K:Yae):R2:=fun x y H Q=>∃ p xs i v,x=.ref p/\y=.int i/\SqL K H p xs/\atI xs i=some v/\Q v H
def rIxT (K:Yae):R2:=fun x y H Q=>∃ p xs i v,x=.ref p/\y=.int i/\SqT K H p xs/\atI xs i=some v/\Q v H
theorem Zar:IxR X (rIxL X.K):=by
 intro value slice pins s σ H x y v u Q I rx ry h hs;obtain⟨p,xs,i,z,rfl,rfl,hq,he,q⟩:=h;cases rx;obtain⟨t,rfl⟩:=ry;obtain⟨its,r,pl,hz⟩:=I.list hq;obtain⟨j,h1,h2,h3,h4,h5⟩:=Zh1 he;obtain⟨w,ew,rw'⟩:=r.get h2;have hl:=r.length;have hn:=Zep;have fin:EP X pins σ Q w s:=⟨z,H,I,rw',q⟩
 by_cases h0:0<=i
 ·have hj:i.toNat=j:=by
   rw[seqIndex_of h0 h5] at h1;exact Yay h1
  exact item_listR pl.isList h0 (by (clear hj h0 hl h4 h3;omega)) (by rw[hj];simpa using ew) fin hs
 ·have hj:(i+(its.toArray.size:Int)).toNat=j:=by
   rw[seqIndex_neg (by (clear hn hl h5 h4 h3 hz;omega)) h4] at h1;rw[Yat,<- hl];exact Yay h1
  exact subscriptTail_builtinR (x:=w) pl.isList.typeIs slot_list_getitem.lookup
   (wpAny_getItem_list_neg (Q:=fun r s'=>r=w/\EP X pins σ Q r s') pl.isList (by (clear hj hn hl h5 h4 h3 hz;omega)) (by rw[Yat] <;> (clear hj h0 hn h5 h3 hz;omega)) (by (clear hj h0 hl h5 h3;omega)) (by rw[hj];simpa using ew) ⟨rfl,fin⟩) hs
theorem Za4:IxR X (rIxT X.K):=by
 intro value slice pins s σ H x y v u Q I rx ry h hs;obtain⟨p,xs,i,z,rfl,rfl,hq,he,q⟩:=h;cases rx;obtain⟨t,rfl⟩:=ry;obtain⟨its,r,pl,hz⟩:=I.tuple hq;obtain⟨j,h1,h2,h3,h4,h5⟩:=Zh1 he;obtain⟨w,ew,rw'⟩:=r.get h2;have hl:=r.length;have hn:=Zep;have fin:EP X pins σ Q w s:=⟨z,H,I,rw',q⟩
 exact subscriptTail_builtinR (x:=w) pl.typeIs slot_tuple_getitem.lookup
  (getItem_tuple (j:=j) (Q:=fun r s'=>r=w/\EP X pins σ Q r s') pl (by (clear hl h5 h3;omega)) (by (clear hl h4 h3;omega)) (by rw[Yat,<- hl];exact h1) (by simpa using ew) ⟨rfl,fin⟩) hs
theorem Zgb (its:List Value) (n j:Nat) (u:Value):YbY (·.setIfInBounds j u) { cls:=.type "list",data:=.seq its.toArray n }={ cls:=.type "list",data:=.seq (its.set j u).toArray n }:=by
 simp[YbY]
theorem Inv.lst {pins:List (Addr × Obj)}{σ:St}{H:Hp}{s:Shared}{p:Addr}{xs:List V} (I:Inv X pins σ H s) (h:H p=some (.lst xs)) :
  ∃ (its:List Value) (n:Nat),Vals xs its/\s.heap.get? p=some { cls:=.type "list",data:=.seq its.toArray n }/\xs.length<=sizeLine:=by
 obtain⟨z,its,n,r,e⟩:=I.hok p _ h;exact⟨its,n,r,e,z⟩
theorem Inv.lstUpd {pins:List (Addr × Obj)}{σ:St}{H:Hp}{s:Shared}{p:Addr}{xs ys:List V}{its its':List Value}{n n':Nat}{f:Obj->Obj} (I:Inv X pins σ H s) (h:H p=some (.lst xs))
  (ho:s.heap.get? p=some { cls:=.type "list",data:=.seq its.toArray n }) (hf:f { cls:=.type "list",data:=.seq its.toArray n }={ cls:=.type "list",data:=.seq its'.toArray n' }) (r:Vals ys its') (hz:ys.length<=sizeLine) (t:Nat) :
  Inv X pins σ (upd H p (.lst ys)) { s with heap:=s.heap.update p f,toks:=t }:=by
 have e:(s.heap.update p f).get? p=some { cls:=.type "list",data:=.seq its'.toArray n' }:=by
  rw[YeD f ho (by rw[hf] <;> rfl),hf]
 refine I.write (x:=p) (e:=p) (by rw[h];trivial) (.inl rfl) (fun b u hb q=>(Yew _ _ (YaX hb)).trans q) ⟨_,e⟩ ?_;exact⟨hz,its',n',r,e⟩
def ZlH:V->V->V->Hp->(Hp->Prop)->Prop:=fun o i v H Q=>∃ p xs k j,o=.ref p/\i=.int k/\H p=some (.lst xs)/\ixN xs.length k=some j/\Q (upd H p (.lst (xs.set j v)))
theorem Zb1:PSet X ZlH:=by
 intro pins s σ H o i v ov iv u Q I ro ri rv h;obtain⟨p,xs,k,j,rfl,rfl,hp,hj,q⟩:=h;cases ro;obtain⟨t,rfl⟩:=ri;obtain⟨its,n,r,ho,hz⟩:=I.lst hp;obtain⟨h1,h2,h3,h4⟩:=Zhl hj;have hl:=r.length;have hn:=Zep;have I':Inv X pins σ (upd H p (.lst (xs.set j v))) { s with heap:=s.heap.update p (YbY (·.setIfInBounds j u)) } :=
  I.lstUpd hp ho (Zgb its n j u) (r.set rv j) (by rw[Yby];exact hz) s.toks
 by_cases h0:0<=k
 ·have hk:k.toNat=j:=by
   rw[seqIndex_of h0 h4] at h1;exact Yay h1
  exact PySem.W.ki_setAt ho h0 (by (clear hk h0 hl h3 h2;omega)) (by rw[Yat,<- hl];exact h4) (by rw[hk];exact⟨_,I',q⟩)
 ·have hk:(k+(its.toArray.size:Int)).toNat=j:=by
   rw[seqIndex_neg (by (clear hn hl h4 h3 h2 hz;omega)) h3] at h1;rw[Yat,<- hl];exact Yay h1
  exact PySem.W.ki_setBack ho (by (clear hk hn hl h4 h3 h2 hz;omega)) (by rw[Yat,<- hl];exact h3) (by (clear hk h0 hl h4 h2;omega)) (by rw[hk];exact⟨_,I',q⟩)
theorem Zee (lo hi:Option Int) (n:Nat):(sliceBounds lo hi none n).1=((HT.sIx n 0 lo:Nat):Int)/\(sliceBounds lo hi none n).2.1=((HT.sIx n n hi:Nat):Int)/\(sliceBounds lo hi none n).2.2=1:=by
 refine⟨?_,?_,rfl⟩
 ·cases lo with
  | none=>simp[sliceBounds,HT.sIx]
  | some i=>
   simp only[sliceBounds,HT.sIx,YeU,show (1:Int) > 0 by decide,if_true];by_cases h:i<0
   ·simp only[h,if_true] <;> omega
   ·simp only[h,if_false] <;> (clear h;omega)
 ·cases hi with
  | none=>simp[sliceBounds,HT.sIx]
  | some i=>
   simp only[sliceBounds,HT.sIx,YeU,show (1:Int) > 0 by decide,if_true];by_cases h:i<0
   ·simp only[h,if_true] <;> omega
   ·simp only[h,if_false] <;> (clear h;omega)
theorem ZdG (its:List Value) (lo hi:Option Int):slicePick its.toArray lo hi none=((its.drop (HT.sIx its.length 0 lo)).take (HT.sIx its.length its.length hi - HT.sIx its.length 0 lo)).toArray:=by
 obtain⟨h1,h2,h3⟩:=Zee lo hi its.toArray.size;unfold slicePick;rw[h1,h2,h3];simp only[sliceRange_one,pick_run,Yat] <;> rfl
def rSlL (K:Yae):V->Option Int->Option Int->Hp->VK->Prop:=fun x lo hi H Q=>∃ a xs,x=.ref a/\SqL K H a xs/\∀ p,H p=none->Q (.ref p) (upd H p (.lst (cutV xs lo hi)))
theorem ZdH:SlR X (rSlL X.K):=by
 intro pins s σ H x v vl vu lo hi sl Q I rx hs pl pu h;obtain⟨a,xs,rfl,hx,q⟩:=h;cases rx;obtain⟨its,r,ht,hz⟩:=I.list hx;have hlen:=r.length;refine⟨"list",_,slot_list_getitem.lookup,ht.isList.typeIs,?_⟩;refine wpAny_getItem_list_slice ht.isList hs pl pu .none (by simp) ?_ (by rw[Yat] <;> omega);rw[ZdG,<- hlen];refine⟨.ref s.heap.objs.size,_,I.laid (t':=s.toks) (o:=.lst (cutV xs lo hi)) (fun b ob q=>Yag _ q) (Yas _) ?_,rfl,q _ (I.hok.fresh (Yas _))⟩;exact⟨YbC (Zc5 xs lo hi) hz,_,0,(r.drop (HT.sIx xs.length 0 lo)).take (HT.sIx xs.length xs.length hi - HT.sIx xs.length 0 lo),YaA _ rfl⟩
def ZdU:V->Bool
 | .non=>true
 | .bl _=>true
 | .int _=>true
 | .str _=>true
 | _=>false
def eqV:V->V->Bool
 | .non,.non=>true
 | .bl a,.bl b=>a == b
 | .bl a,.int b=>(if a then 1 else 0) == b
 | .int a,.bl b=>a == (if b then 1 else 0)
 | .int a,.int b=>a == b
 | .str a,.str b=>a == b
 | _,_=>false
theorem Zls {A:Around}{s:Shared}{y x:V}{u v:Value} (ry:RelV y u) (rx:RelV x v) (fy:ZdU y=true) (fx:ZdU x=true):SeqAt.EqAt A s u v (eqV y x):=by
 cases y with
 | non=>
  cases ry
  cases x with
  | non=>cases rx;exact SeqAt.EqAt.same _
  | bl b=>cases rx;exact SeqAt.EqAt.none_bool b
  | int b=>obtain⟨t,rfl⟩:=rx;exact SeqAt.EqAt.none_int b t
  | str b=>obtain⟨t,rfl⟩:=rx;exact SeqAt.EqAt.none_str b t
  | _=>exact absurd (show false=true from fx) YaF
 | bl a=>
  cases ry
  cases x with
  | non=>cases rx;exact SeqAt.EqAt.bool_none a
  | bl b=>cases rx;exact SeqAt.EqAt.bool_bool a b
  | int b=>obtain⟨t,rfl⟩:=rx;exact SeqAt.EqAt.bool_int a b t
  | str b=>obtain⟨t,rfl⟩:=rx;exact SeqAt.EqAt.bool_str a b t
  | _=>exact absurd (show false=true from fx) YaF
 | int a=>
  obtain⟨t',rfl⟩:=ry
  cases x with
  | non=>cases rx;exact SeqAt.EqAt.int_none a t'
  | bl b=>cases rx;exact SeqAt.EqAt.int_bool a t' b
  | int b=>obtain⟨t,rfl⟩:=rx;exact SeqAt.EqAt.int_int a t' b t
  | str b=>obtain⟨t,rfl⟩:=rx;exact Yee a t' b t
  | _=>exact absurd (show false=true from fx) YaF
 | str a=>
  obtain⟨t',rfl⟩:=ry
  cases x with
  | non=>cases rx;exact SeqAt.EqAt.str_none a t'
  | bl b=>cases rx;exact SeqAt.EqAt.str_bool a t' b
  | int b=>obtain⟨t,rfl⟩:=rx;exact Yed a t' b t
  | str b=>obtain⟨t,rfl⟩:=rx;exact SeqAt.EqAt.str_str a t' b t
  | _=>exact absurd (show false=true from fx) YaF
 | _=>exact absurd (show false=true from fy) YaF
def eqU (x:V) (u:Value):Bool:=match u with
 | .none=>eqV .non x
 | .bool b=>eqV (.bl b) x
 | .int i _=>eqV (.int i) x
 | .str z _=>eqV (.str z) x
 | _=>false
theorem Zjn {x y:V}{u:Value} (r:RelV y u) (f:ZdU y=true):eqU x u=eqV y x:=by
 cases y with
 | non=>cases r;rfl
 | bl b=>cases r;rfl
 | int i=>obtain⟨t,rfl⟩:=r;rfl
 | str z=>obtain⟨t,rfl⟩:=r;rfl
 | _=>exact absurd (show false=true from f) YaF
theorem Zfk {x:V}:∀ {xs:List V}{us:List Value},Vals xs us->xs.all ZdU=true->us.any (eqU x)=xs.any fun y=>eqV y x
 | _,_,.nil,_=>rfl
 | y::xs,u::us,.cons r t,f=>by
  rw[List.all_cons,Yb8] at f;rw[Yel,Yel,Zjn r f.1,Zfk t f.2]
theorem ZdP {A:Around}{s:Shared}{x:V}{v:Value} (rx:RelV x v) (fx:ZdU x=true):∀ {xs:List V}{us:List Value},Vals xs us->xs.all ZdU=true->∀ u∈us,SeqAt.EqAt A s u v (eqU x u)
 | _,_,.nil,_=>fun u hu=>by cases hu
 | y::xs,u::us,.cons r t,f=>fun u' hu=>by
  rw[List.all_cons,Yb8] at f;rcases Yav.mp hu with rfl | hu
  ·rw[Zjn r f.1];exact Zls r rx f.1 fx
  ·exact ZdP rx fx t f.2 u' hu
def inV (x:V) (xs:List V):Bool:=xs.any fun y=>eqV y x
def rIn (K:Yae) (neg:Bool):R2:=fun x y H Q=>∃ p xs,y=.ref p/\(SqL K H p xs∨SqT K H p xs)/\ZdU x=true/\xs.all ZdU=true/\Q (.bl (if neg then !inV x xs else inV x xs)) H
theorem Zel:OpR X (compareOp .In) (rIn X.K false):=by
 intro pins s σ H x y v u Q I rx ry h;obtain⟨p,xs,rfl,hq,fx,fs,q⟩:=h;cases ry;rcases hq with hq | hq
 ·obtain⟨its,r,pl,hz⟩:=I.list hq;refine SeqAt.in_listAt (eqU x) pl.isList (fun w hw=>ZdP rx fx r fs w (by simpa using hw)) ⟨.bl _,H,I,rfl,?_⟩;rw[show its.toArray.any (eqU x)=its.any (eqU x) by simp,Zfk r fs];exact q
 ·obtain⟨its,r,pl,hz⟩:=I.tuple hq;refine SeqAt.in_tupleAt (eqU x) pl (fun w hw=>ZdP rx fx r fs w (by simpa using hw)) ⟨.bl _,H,I,rfl,?_⟩;rw[show its.toArray.any (eqU x)=its.any (eqU x) by simp,Zfk r fs];exact q
theorem ZaH:Zbk X (.builtin "len") (fun xs H Q=>∃ p ys,xs=[.ref p]/\(SqL X.K H p ys∨SqT X.K H p ys)/\Q (.int ys.length) H):=by
 intro pins s σ H xs us Q I r h;obtain⟨p,ys,rfl,hq,q⟩:=h;obtain⟨u,rfl,rx⟩:=Zci r;cases rx;have hn:=Zep;rcases hq with hq | hq
 ·obtain⟨its,r',pl,hz⟩:=I.list hq;have hlen:=r'.length;exact Calls.call_len_list pl.isList (by simp only[Yat] <;> omega) ⟨.int ys.length,H,I.tok _,⟨s.toks+1,by rw[Yat,hlen]⟩,q⟩
 ·obtain⟨its,r',pl,hz⟩:=I.tuple hq;have hlen:=r'.length;exact len_tuple pl (by simp only[Yat] <;> omega) ⟨.int ys.length,H,I.tok _,⟨s.toks+1,by rw[Yat,hlen]⟩,q⟩
theorem Zcy:Zbk X (.type "list") (fun xs H Q=>∃ p ys,xs=[.ref p]/\(SqL X.K H p ys∨SqT X.K H p ys)/\∀ l,H l=none->Q (.ref l) (upd H l (.lst ys))):=by
 intro pins s σ H xs us Q I r h;obtain⟨p,ys,rfl,hq,q⟩:=h;obtain⟨u,rfl,rx⟩:=Zci r;cases rx;have fin:∀ (its:List Value),Vals ys its->ys.length<=sizeLine->∀ (h':Heap) (c':Nat),(∀ b o',s.heap.get? b=some o'->h'.get? b=some o') ->
   h'.get? s.heap.objs.size=some { cls:=.type "list",dict:=none,data:=.seq its.toArray c',slots:=#[] }->EP X pins σ Q (.ref s.heap.objs.size) { s with heap:=h' }:=fun its r' hz h' c' kp e=>
  ⟨.ref s.heap.objs.size,_,I.laid (t':=s.toks) kp (Yas _) (show ObjOk X.prog X.w _ h' _ (.lst ys) from⟨hz,its,c',r',e⟩),rfl,q _ (I.hok.fresh (Yas _))⟩
 rcases hq with hq | hq
 ·obtain⟨its,r',pl,hz⟩:=I.list hq;have hlen:=r'.length;obtain⟨o,ho,hc,n,hd⟩:=pl.isList;exact call_list_seq p (.inl rfl) ho hc hd (fun h' c' kp e=>fin its r' hz h' c' kp e) (by simp only[Yat] <;> omega)
 ·obtain⟨its,r',pl,hz⟩:=I.tuple hq;have hlen:=r'.length;obtain⟨o,ho,hc,n,hd⟩:=pl;exact call_list_seq p (.inr rfl) ho hc hd (fun h' c' kp e=>fin its r' hz h' c' kp e) (by simp only[Yat] <;> omega)
theorem Za0:Zbk X (.type "tuple") (fun xs H Q=>∃ p ys,xs=[.ref p]/\((SqL X.K H p ys/\∀ l,H l=none->Q (.ref l) (upd H l (.tup ys)))∨(SqT X.K H p ys/\Q (.ref p) H))):=by
 intro pins s σ H xs us Q I r h;obtain⟨p,ys,rfl,h⟩:=h;obtain⟨u,rfl,rx⟩:=Zci r;cases rx;rcases h with ⟨hq,q⟩ | ⟨hq,q⟩
 ·obtain⟨its,r',pl,hz⟩:=I.list hq;have hlen:=r'.length;refine call_tuple_list pl.isList (fun h' kp=>?_) (by simp only[Yat] <;> omega);have I1:Inv X pins σ H { s with heap:=h' }:=I.kept (t':=s.toks) kp;have I2:Inv X pins σ (upd H h'.objs.size (.tup ys)) { s with heap:=h'.push { cls:=.type "tuple",data:=.seq its.toArray } } :=
   I1.laid (t':=s.toks) (fun b o e=>Yag _ e) (Yas _) (show ObjOk X.prog X.w _ _ _ (.tup ys) from⟨hz,its,r',IsTupD.new _ _⟩)
  exact⟨.ref h'.objs.size,_,I2,rfl,q _ (I1.hok.fresh (Yas _))⟩
 ·obtain⟨its,r',pl,hz⟩:=I.tuple hq;exact call_tuple_same pl ⟨.ref p,H,I,rfl,q⟩
def tyV (K:Yae) (T:String) (x:V) (H:Hp):Prop:=match x with
 | .str _=>T="str"
 | .int _=>T="int"
 | .ref p=>(T="list"/\∃ xs,SqL K H p xs)∨(T="tuple"/\∃ o,K.lookup p=some o/\o.cls=.type "tuple"/\o.dict=none) ∨
   (T="dict"/\((∃ kvs,H p=some (.dK kvs))∨∃ kvs,H p=some (.dT kvs)))∨(T="set"/\∃ S n,H p=some (.set S n))
 | _=>False
theorem Zi5 {pins:List (Addr × Obj)}{σ:St}{H:Hp}{s:Shared}{T:String}{x:V}{v:Value} (I:Inv X pins σ H s) (r:RelV x v) (ty:tyV X.K T x H) :
  s.TypeIs v T/\∀ a,v=.ref a->∃ ob,s.heap.get? a=some ob/\ob.dict=none:=by
 cases x with
 | str z=>
  obtain⟨t,rfl⟩:=r;cases (show T="str" from ty);exact⟨typeIs_str s z t,fun _ e=>nomatch e⟩
 | int i=>
  obtain⟨t,rfl⟩:=r;cases (show T="int" from ty);exact⟨typeIs_int s i t,fun _ e=>nomatch e⟩
 | ref p=>
  cases r;rcases ty with ⟨rfl,xs,hq⟩ | ⟨rfl,o,hk,hc,hd⟩ | ⟨rfl,hk⟩ | ⟨rfl,S,n,hk⟩
  ·obtain⟨its,_,pl,_⟩:=I.list hq;refine⟨pl.isList.typeIs,fun a e=>?_⟩;cases e;obtain⟨o,n,e,c,hd,_⟩:=pl;exact⟨o,e,hd⟩
  ·refine⟨⟨o,I.kIn p o hk,hc⟩,fun a e=>?_⟩;cases e;exact⟨o,I.kIn _ o hk,hd⟩
  ·have z:∃ o,s.heap.get? p=some o/\o.ExactDict:=by
    rcases hk with ⟨kvs,hk⟩ | ⟨kvs,hk⟩
    ·obtain⟨_,_,_,_,o,_,_,e,ex,_⟩:=I.hok p _ hk;exact⟨o,e,ex⟩
    ·obtain⟨_,_,_,_,o,_,_,e,ex,_⟩:=I.hok p _ hk;exact⟨o,e,ex⟩
   obtain⟨o,e,ex⟩:=z;refine⟨⟨o,e,ex.1⟩,fun a e2=>?_⟩;cases e2;exact⟨o,e,ex.2.1⟩
  ·obtain⟨o,_,_,_,e,ex,_⟩:=I.hok p _ hk;refine⟨⟨o,e,ex.1⟩,fun a e2=>?_⟩;cases e2;exact⟨o,e,ex.2.1⟩
 | _=>exact YcB ty
def tBM0 (K:Yae) (T:String) (r:V->List V->Hp->VK->Prop) (to:TE):TE:=fun σ H Q=>to σ H fun x H1=>tyV K T x H1/\r x [] H1 Q
def tBM (K:Yae) (T:String) (r:V->List V->Hp->VK->Prop) (to:TE) (t:TA):TE:=fun σ H Q=>to σ H fun x H1=>tyV K T x H1/\t σ H1 fun xs H2=>r x xs H2 Q
variable {o e:Expr}{es:List Expr}{to:TE}{t:TA}{name:Str}{apos cpos:Pos}{T id:String}{r:V->List V->Hp->VK->Prop}
theorem Zej (pa:PlainAttrs T) (slot:Slot T name id) (hty:typeOf (.builtin id)=pure (.type "method_descriptor")) (hm:MtR X id r) (ho:PE X o to)
  (hbase:attributeBase o name X.env (eval o X.env)=eval o X.env:=by rfl) (hline:(apos.endLine == cpos.line)=true:=by rfl):PE X (.Call (.Attribute o name apos) [] [] cpos) (tBM0 X.K T r to):=by
 intro pins s σ H Q I h;refine wpAny_Call_method0_late hbase hline (thn (ho pins s σ H _ I h) fun v s1 ⟨x,H1,I1,r1,ty,q1⟩=>?_);obtain⟨h1,h2⟩:=Zi5 I1 r1 ty;exact⟨T,id,pa,slot,hty,h1,h2,Yen rfl (PySem.evalArgs_none (hm pins s1 σ H1 x [] v [] Q I1 r1 .nil q1))⟩
theorem Zb4 (pa:PlainAttrs T) (slot:Slot T name id) (hty:typeOf (.builtin id)=pure (.type "method_descriptor")) (hm:MtR X id r) (ho:PE X o to) (ha:PA X (e::es) t)
  (hbase:attributeBase o name X.env (eval o X.env)=eval o X.env:=by rfl)
  (hfew:((backTo cpos (starEach (e::es) X.env)).all (fun x=>!x.1) && (backToKw cpos (keywordEach [] X.env)).all (fun x=>x.1.isSome)
   && decide ((e::es).length+([]:List Keyword).length+(if ([]:List Keyword).isEmpty then 0 else 1)<30))=true:=by rfl)
  (hline:(apos.endLine == cpos.line)=true:=by rfl) (hs:starEach (e::es) X.env=(false,eval e X.env)::starEach es X.env:=by rfl) (hplain:(backTo cpos (starEach es X.env)).any (·.1)=false:=by rfl) :
  PE X (.Call (.Attribute o name apos) (e::es) [] cpos) (tBM X.K T r to t):=by
 intro pins s σ H Q I h;refine wpAny_Call_method_late hbase hfew hline rfl (thn (ho pins s σ H _ I h) fun v s1 ⟨x,H1,I1,r1,ty,q1⟩=>?_);obtain⟨h1,h2⟩:=Zi5 I1 r1 ty;refine⟨T,id,pa,slot,hty,h1,h2,?_⟩;have hA:=ha cpos pins s1 σ H1 _ I1 q1;rw[hs] at hA ⊢;refine Yen (by show (false || (backTo cpos (starEach es X.env)).any (·.1))=false;rw[hplain] <;> rfl) (Calls.evalArgs_plain ?_);exact thn hA fun us s2 ⟨vs,H2,I2,r2,q2⟩=>hm pins s2 σ H2 x vs v us Q I2 r1 r2 q2
end
end L2
namespace L2
open PySem PySem.Spec PyProof.Rows
def MtM (X:Cx) (id:String) (r:V->List V->Hp->VK->Prop):Prop :=
 ∀ (pins:List (Addr × Obj)) (s:Shared) (σ:St) (H:Hp) (x:V) (xs:List V) (v:Value) (us:List Value) (Q:VK),Inv X pins σ H s->RelV x v->Vals xs us->r x xs H Q ->
  wpAny (model X.prog X.w) X.A (call (.builtin id) (v::us)) (EP X pins σ Q) X.xe s
theorem Vals.one:∀ {x:V}{us:List Value},Vals [x] us->∃ u,us=[u]/\RelV x u
 | _,_,.cons r .nil=>⟨_,rfl,r⟩
theorem Vals.zero:∀ {us:List Value},Vals [] us->us=[]
 | _,.nil=>rfl
theorem Vals.dropLast {xs:List V}{us:List Value} (h:Vals xs us):Vals xs.dropLast us.dropLast:=by
 induction h with
 | nil=>exact .nil
 | cons r t ih=>
  cases t with
  | nil=>exact .nil
  | cons q t'=>exact .cons r ih
theorem Vals.reverse {xs:List V}{us:List Value} (h:Vals xs us):Vals xs.reverse us.reverse:=by
 induction h with
 | nil=>exact .nil
 | cons r t ih=>rw[YbK,YbK];exact Vals.append ih (.cons r .nil)
theorem Vals.rep {xs:List V}{us:List Value} (h:Vals xs us):∀ k:Nat,Vals (Yal k xs).flatten (Yal k us).flatten
 | 0=>.nil
 | k+1=>by
  rw[YbL,YbL,YaI,YaI];exact Vals.append h (Vals.rep h k)
theorem Zge {α:Type} (l:List α):l.eraseIdx (l.length - 1)=l.dropLast:=by
 induction l with
 | nil=>rfl
 | cons a r ih=>
  cases r with
  | nil=>rfl
  | cons b r=>
   have e:(a::b::r).length - 1=((b::r).length - 1)+1:=by
    have h1:(a::b::r).length=r.length+2:=rfl;have h2:(b::r).length=r.length+1:=rfl;omega
   rw[e,List.eraseIdx_cons_succ,ih]
   all_goals rfl
theorem Zer (its:List Value):∀ (k:Nat) (acc:List Value),
  Yeh (fun x1 x2=>x1++x2) acc.toArray (Yal k its.toArray)=(acc++(Yal k its).flatten).toArray
 | 0,acc=>by simp
 | k+1,acc=>by
  have e:acc.toArray++its.toArray=(acc++its).toArray:=by simp
  have e2:(acc++its)++(Yal k its).flatten=acc++(Yal (k+1) its).flatten:=by
   rw[YbL,YaI,YaM]
  rw[<- e2,<- Zer its k (acc++its),<- e,YbL,YdW]
section
variable {X:Cx}{pins:List (Addr × Obj)}{σ:St}{H:Hp}{s:Shared}{l b:Addr}{xs ys zs:List V}
theorem Inv.lset {its its':List Value}{n:Nat}{f:Array Value->Array Value}{t':Nat} (I:Inv X pins σ H s) (hH:H l=some (.lst xs))
  (e:s.heap.get? l=some { cls:=.type "list",data:=.seq its.toArray n }) (hf:f its.toArray=its'.toArray) (hv:Vals ys its') (hz:ys.length<=sizeLine) :
  Inv X pins σ (upd H l (.lst ys)) { s with heap:=s.heap.update l (YbY f),toks:=t' }:=by
 have q:=PySem.IsL.update e f;rw[hf] at q;refine I.write (x:=l) (e:=l) (by rw[hH];exact trivial) (.inl rfl) (fun b' u hb hu=>(Yew s.heap (YbY f) (YaX hb)).trans hu) ⟨_,q⟩ ?_;exact⟨hz,its',_,hv,q⟩
theorem Inv.lnew {its:List Value}{t':Nat} (I:Inv X pins σ H s) (hv:Vals ys its) (hz:ys.length<=sizeLine) :
  Inv X pins σ (upd H s.heap.objs.size (.lst ys)) { s with heap:=s.heap.push { cls:=.type "list",data:=.seq its.toArray },toks:=t' } :=
 I.laid (fun _ _ q=>Yag _ q) (Yas _) ⟨hz,its,0,hv,YaA _ rfl⟩
theorem Inv.fresh (I:Inv X pins σ H s):H s.heap.objs.size=none:=I.hok.fresh (Yas _)
theorem Inv.lstM (I:Inv X pins σ H s) (hH:H l=some (.lst xs)):xs.length<=sizeLine/\∃ (its:List Value) (n:Nat),Vals xs its/\xs.length=its.length/\s.heap.get? l=some { cls:=.type "list",data:=.seq its.toArray n }:=by
 obtain⟨z,its,n,r,e⟩:=I.hok l _ hH;exact⟨z,its,n,r,r.length,e⟩
theorem ZfG {n:Nat} (h:n<=sizeLine):Ycn n=false:=by
 unfold Ycn;exact decide_eq_false (by omega)
end
section
variable {X:Cx}
def ZjN:V->List V->Hp->VK->Prop:=fun x vs H Q=>∃ l xs y,x=.ref l/\vs=[y]/\H l=some (.lst xs)/\xs.length<sizeLine/\Q .non (upd H l (.lst (xs++[y])))
theorem ZaC:MtM X "list.append" ZjN:=by
 intro pins s σ H x vs v us Q I rx rv h;obtain⟨l,xs,y,rfl,rfl,hH,hz,q⟩:=h;cases rx;obtain⟨u,rfl,ru⟩:=rv.one;obtain⟨z,its,n,r,hl,e⟩:=I.lstM hH;refine call_meets F.slot_list_append ⟨_,e,rfl⟩ F.entry_list_append (F.args_list_append_2 _ _) (PySem.list_append l its.toArray n u (by rw[Yat];(clear z;omega))) ⟨e,?_⟩;refine⟨.non,_,I.lset (its':=its++[u]) hH e (by simp) (r.append (.cons ru .nil)) ?_,rfl,q⟩;rw[Yai,YbP]
 (clear hl z;omega)
def ZjM:V->List V->Hp->VK->Prop:=fun x vs H Q=>∃ l b xs zs,x=.ref l/\vs=[.ref b]/\H l=some (.lst xs)/\H b=some (.lst zs)/\xs.length+zs.length<=sizeLine/\Q .non (upd H l (.lst (xs++zs)))
theorem Zeo:MtM X "list.extend" ZjM:=by
 intro pins s σ H x vs v us Q I rx rv h;obtain⟨l,b,xs,zs,rfl,rfl,hH,hB,hz,q⟩:=h;cases rx;obtain⟨u,rfl,ru⟩:=rv.one;cases ru;obtain⟨z,its,n,r,hl,e⟩:=I.lstM hH;obtain⟨z2,its2,n2,r2,hl2,e2⟩:=I.lstM hB;have hsz:its.toArray.size+its2.toArray.size<=sizeLine:=by rw[Yat,Yat];(clear z2 z;omega)
 have hlong:¬ (!its.toArray.isEmpty && Ycn (its.toArray.size+its2.toArray.size))=true:=by
  rw[ZfG hsz,Bool.and_false];exact YaF
 refine call_meets F.slot_list_extend ⟨_,e,rfl⟩ F.entry_list_extend (F.args_list_extend_2 _ _)
  (AutoSeq1.list_extend_list_list_0 l its.toArray n b its2.toArray n2 hlong (by rw[Yat];(clear hlong hsz hl2 z2 z;omega)) (by (clear hlong hl2 z2 hl z hz;omega))) ⟨e,e2,?_⟩
 refine⟨.non,_,I.lset (its':=its++its2) hH e (by simp) (r.append r2) ?_,rfl,q⟩;rw[Yai]
 (clear hlong hsz hl2 z2 hl z;omega)
def rPop:V->List V->Hp->VK->Prop:=fun x vs H Q=>∃ l xs y,x=.ref l/\vs=[]/\H l=some (.lst xs)/\xs[xs.length - 1]?=some y/\Q y (upd H l (.lst xs.dropLast))
theorem ZfI:MtM X "list.pop" rPop:=by
 intro pins s σ H x vs v us Q I rx rv h;obtain⟨l,xs,y,rfl,rfl,hH,hy,q⟩:=h;cases rx;have hus:=rv.zero;subst hus;obtain⟨z,its,n,r,hl,e⟩:=I.lstM hH;obtain⟨u,hu,ru⟩:=r.get hy;have hy':its.toArray[its.toArray.size - 1]?=some u:=by
  show its.toArray[its.length - 1]?=some u;rw[<- Yaq,<- hl];exact hu
 refine call_meets F.slot_list_pop ⟨_,e,rfl⟩ F.entry_list_pop (F.args_list_pop_1 _) (MeetsSeq.list_pop_last l its.toArray n u hy' (by rw[Yat];omega)) ⟨e,?_⟩;refine⟨y,_,I.lset (its':=its.dropLast) hH e ?_ r.dropLast ?_,ru,q⟩
 ·show its.toArray.eraseIdxIfInBounds (its.toArray.size - 1)=its.dropLast.toArray;rw[Yat,List.eraseIdxIfInBounds_toArray,Zge]
 ·rw[Ydm]
  (clear hl;omega)
def ZkU:V->List V->Hp->VK->Prop:=fun x vs H Q=>∃ l xs,x=.ref l/\vs=[]/\H l=some (.lst xs)/\Q .non (upd H l (.lst []))
theorem ZiJ:MtM X "list.clear" ZkU:=by
 intro pins s σ H x vs v us Q I rx rv h;obtain⟨l,xs,rfl,rfl,hH,q⟩:=h;cases rx;have hus:=rv.zero;subst hus;obtain⟨z,its,n,r,hl,e⟩:=I.lstM hH;refine call_meets F.slot_list_clear ⟨_,e,rfl⟩ F.entry_list_clear (F.args_list_clear_1 _) (AutoSeq1.list_clear_list_0 l its.toArray n (by rw[Yat];omega)) ⟨e,?_⟩;exact⟨.non,_,I.lset (its':=[]) (ys:=[]) hH e rfl .nil (YaO _),rfl,q⟩
def rCat:R2:=fun x y H Q=>∃ l b xs zs,x=.ref l/\y=.ref b/\H l=some (.lst xs)/\H b=some (.lst zs)/\xs.length+zs.length<=sizeLine/\∀ p,H p=none->Q (.ref p) (upd H p (.lst (xs++zs)))
theorem Zcw:OpR X (binaryOp .Add) rCat:=by
 intro pins s σ H x y v u Q I rx ry h;obtain⟨l,b,xs,zs,rfl,rfl,hH,hB,hz,q⟩:=h;cases rx;cases ry;obtain⟨z,its,n,r,hl,e⟩:=I.lstM hH;obtain⟨z2,its2,n2,r2,hl2,e2⟩:=I.lstM hB;refine PySem.P.add_list e e2 ?_ (by rw[Yat,Yat];(clear z2 z;omega));have ea:its.toArray++its2.toArray=(its++its2).toArray:=by simp
 rw[ea];exact⟨.ref _,_,I.lnew (t':=s.toks) (r.append r2) (by rw[Yai];(clear hl2 z2 hl z;omega)),rfl,q _ I.fresh⟩
def rRep:R2:=fun x y H Q=>∃ l k xs,x=.ref l/\y=.int k/\H l=some (.lst xs)/\-(2 ^ 63)<=k/\k<2 ^ 63/\xs.length*k.toNat<=sizeLine /\
 ∀ p,H p=none->Q (.ref p) (upd H p (.lst (Yal k.toNat xs).flatten))
theorem Zj4 {α:Type} (xs:List α) (k:Nat):(Yal k xs).flatten.length=k*xs.length:=by
 induction k with
 | zero=>simp
 | succ k ih=>rw[YbL,YaI,Yai,ih,Nat.succ_mul,Nat.add_comm]
theorem Zek:OpR X (binaryOp .Mult) rRep:=by
 intro pins s σ H x y v u Q I rx ry h;obtain⟨l,k,xs,rfl,rfl,hH,h1,h2,hz,q⟩:=h;cases rx;obtain⟨t,rfl⟩:=ry;obtain⟨z,its,n,r,hl,e⟩:=I.lstM hH;have hlen:its.toArray.size*k.toNat<=sizeLine:=by rw[Yat,<- hl];exact hz
 have hcap:¬ its.toArray.size*k.toNat > (2 ^ 63 - 1) / 8:=by
  have:(sizeLine:Nat)<=(2 ^ 63 - 1) / 8:=by decide
  (clear hl z hz h2 h1;omega)
 have hfit:¬ (!Builtin.List.listFitsIndex k)=true:=by
  rw[fitsIndex_both h1 h2];exact YaF
 have hlong:¬ Ycn (its.toArray.size*k.toNat)=true:=by
  rw[ZfG hlen];exact YaF
 have hnew:Yeh (fun x1 x2=>x1++x2) #[] (Yal (if its.toArray.isEmpty=true then 0 else k.toNat) its.toArray)=(Yal k.toNat its).flatten.toArray:=by
  have f0:∀ m:Nat,Yeh (fun x1 x2=>x1++x2) #[] (Yal m its.toArray)=(Yal m its).flatten.toArray:=fun m=>by
   have:=Zer its m [];rw[YdT] at this;exact this
  rw[f0]
  cases its with
  | nil=>simp
  | cons a r'=>rw[if_neg (by simp)]
 refine wpAny_binaryOp_repeat_ref (T:="list") (U:="int") (by decide) ⟨_,e,rfl⟩ (fun s'=>typeIs_int s' k t) noFill_list_mul F.fills_int_mul F.slot_int_rmul repeat_list F.slot_int_index.lookup
  (call_meets F.slot_int_rmul (typeIs_int s k t) F.entry_int_rmul (F.args_int_rmul_2 _ _) (int___rmul___int_list k t l its.toArray n)
   ⟨e,rfl,⟨_,e,rfl⟩,call_meets F.slot_list_mul ⟨_,e,rfl⟩ F.entry_list_mul (F.args_list_mul_2 _ _) (AutoListH.list___mul___list_int_3 l its.toArray n k t hfit hcap hlong) ⟨e,?_⟩⟩)
 rw[hnew];exact⟨.ref _,_,I.lnew (t':=s.toks) (r.rep k.toNat) (by rw[Zj4,Nat.mul_comm];exact hz),rfl,q _ I.fresh⟩
end
section
variable {prog:Program}{w:World}{A:Around}{E:Value->Shared->Prop}{s:Shared}
set_option maxRecDepth 100000 in
end
section
variable {X:Cx}
end
end L2
namespace Att
open PySem PySem.W PySem.Calls PyProof.Rows
theorem Zc0 {P:Params}{h:Heap}:∀ (ns:List Int) (vs:List Value),WellAll P h vs (ns.map WData.int)->IntsAre vs ns:=by
 intro ns
 induction ns with
 | nil=>
  intro vs w;rw[YcC] at w;cases w;exact .nil
 | cons n ns ih=>
  intro vs w;rw[Yam] at w
  cases w with
  | cons a b=>
   cases a;exact .cons _ _ (ih _ b)
theorem ZgC {l:OpenLaw}{n:Nat} (hn:l.most=some n) {P:Params}{h:Heap}{args:List WData}{vals:List Value}
  (hpre:l.row.toRowW.claim.pre args=true) (hwl:WellAll P h vals args) :
  ∃ a vs ns,vals=[Yb7 a]/\args=[WData.list (ns.map WData.int)]/\h.get? a=some { cls:=.type "list",data:=.seq vs.toArray }/\IntsAre vs ns/\ns.length<=n:=by
 have hsh:WShape.hasAll [] args [.list .int]=true:=(pre_splitW hpre).1
 have hc:l.pre.holds [] { args:=args }=true:=(pre_splitW hpre).2
 obtain⟨d,r,rfl,h1,h2⟩:=hasAllW_cons hsh;obtain rfl:=hasAllW_nil h2;obtain⟨xs,rfl,h3⟩:=hasW_list h1;obtain⟨ns,rfl⟩:=items_int h3;have hlen:ns.length<=n:=by
  unfold OpenLaw.pre at hc;have h4:(WTm.not (.lt (.lit (.int (n:Int))) (.len (.arg 0)))).holds [] { args:=[.list (ns.map .int)] }=true:=by
   have h4:=(holds_andW hc).1
   rw[hn] at h4;exact h4
  have h5:=condW_of h4 (w_not (w_lt w_lit (w_len_list (w_arg rfl))));rw[Yac] at h5;refine Nat.le_of_not_lt fun q=>?_;have q':(n:Int)<((ns.length:Nat):Int):=by omega
  first
   | (rw[decide_eq_true q'] at h5;exact absurd h5 (by decide))
   | (simp at h5;omega)
 cases hwl with
 | cons w1 w2=>
  cases w2
  cases w1 with
  | list ho hall=>exact⟨_,_,ns,rfl,rfl,ho,Zc0 ns _ hall,hlen⟩
theorem ZgO (l:OpenLaw) (args:List WData):l.row.toRowW.claim.post args (.bool true) args=true :=
 postW_of (r:=l.row.toRowW) (X:=(true == true))
  (show WShape.has [] (.bool true) .bool=true by first | rfl | decide | simp[WShape.has,WShape.arms,WShape.armsAll])
  (show (WTm.eq .res (.lit (.bool true))).value [] { args:=args,res:=some (.bool true),after:=args }=some (.bool (true == true)) from w_eq_bool (w_res rfl) w_lit) rfl
theorem attach_call {l:OpenLaw}{n:Nat}{q:Program}{loose:List Str}{XP:(Str->Option Value)->Heap->Prop}{YP:World->Heap->Prop}{d:DefRec}
  (hn:l.most=some n) (hdf:d.params.defaults=[])
  (call:∀ (w:World) (s₀ s₁:Shared) (mg mb:Str->Option Value) (fa:Addr) (o:Obj) (pm cd doc:Value) (a:Addr) (vs:List Value) (ns:List Int),
   Ground q loose [] XP w s₀ mg mb s₁.heap->YP w s₁.heap ->
   s₁.heap.get? fa=some o->o.data=.func (docDef d.name d.params d.body d.scope pm cd doc)->s₁.heap.CodeRec cd d.name->mg d.name=some (.ref fa) ->
   s₁.heap.get? a=some { cls:=.type "list",data:=.seq vs.toArray }->IntsAre vs ns->ns.length<=n->s₁.gens=#[] ->
   codeAny (model l.prog w) callerA (.call (.ref fa) ⟨[.ref a],[]⟩) (fun r s'=>r=.ok (.ret (.bool true))/\OldK s₁.heap s'.heap/\s'.os=s₁.os/\AllBare s'.gens) s₁) :
  WalkO q loose XP YP l.row.toRowW d [] (fun f vs=>YeR f vs):=by
 intro w s₀ s₁ mg mb G Y fa o pm cd doc dV kV ho hd hcd hD hmg hg args vals as hpre hlay hrd hwl hlo;obtain rfl:dV=.none:=Dflts.none hD hdf;obtain rfl:kV=.none:=Dflts.noKw hD;obtain⟨a,vs,ns,rfl,rfl,hobj,hints,hlen⟩:=ZgC hn hpre hwl;refine enter_call (codeAny_mono (call w s₀ s₁ mg mb fa o pm cd doc a vs ns G Y ho (fd_plain hd) hcd hmg hobj hints hlen hg) fun r s' hq=>?_);obtain⟨rfl,h2,h3,h4⟩:=hq;exact⟨.inl ⟨.bool true,.bool true,[],rfl,fun _=>rfl,.bool true,ZgO l _,fun _=>⟨Ycw,fun _ hm=>(nomatch hm)⟩⟩,h2,h3,h4⟩
section
variable {prog:Program}{w:World}{A:Around}{E:Value->Shared->Prop}{s:Shared}{K:Frag}
def Zl3 (h:Heap) (L d:Addr):List (Addr × Obj):=(Yap h.objs.size).filterMap fun a=>if a=L∨a=d then none else (h.get? a).map fun o=>(a,o)
end
end Att
namespace L2
open PySem PySem.Spec PyProof.Rows
theorem Zd7:∀ {vs:List Value}{ns:List Int},IntsAre vs ns->Vals (ns.map V.int) vs
 | _,_,.nil=>.nil
 | _,_,.cons n t h=>.cons ⟨t,rfl⟩ (Zd7 h)
def Only (H:Hp):Prop:=∀ b,H b=none∨∃ o xs,H b=some (.frz o (.lst xs))
theorem ZiM {P:Program}{w:World}{K:Yae}{mg mb:Str->Option Value}{CX:CXT}{k:Nat}{fa a:Addr}{fd:FuncData}{x:Str}{sp:Sp}{s₁:Shared}{vs:List Value}{ns:List Int}
  (KX:K.In s₁.heap) (hns:s₁.heap.Ns mainGlobals mg) (hb:s₁.heap.Ns builtinsNs mb) (hbb:∀ x:Str,x≠"__name__"->mb x=bootBuiltins x) (hlim:s₁.heap.NoLimit) (hg:s₁.gens=#[])
  (ha:s₁.heap.get? a=some { cls:=.type "list",data:=.seq vs.toArray }) (hi:IntsAre vs ns) (hl:ns.length<=sizeLine) (hr:Room k callerA)
  (F:∀ base:Heap,K.In base->base.Ns mainGlobals mg->FnOk P w K mg base CX k fa fd [x] sp) (hbind:∀ (s:Shared) (u:Value),BindsTo s fd ⟨[u],[]⟩ [(x,u)])
  (hsp:∀ H:Hp,Only H->SqL K H a (ns.map V.int)->sp [.ref a] H (fun v _=>v=.bl true) fun _ _ _=>False)
  (hCX:∀ H e s',CX [] H s₁ (fun _ _ _=>False) e s'->False) :
  codeAny (model P w) callerA (.call (.ref fa) ⟨[.ref a],[]⟩) (fun r s'=>r=.ok (.ret (.bool true))/\OldK s₁.heap s'.heap/\s'.os=s₁.os/\AllBare s'.gens) s₁:=by
 have rv:=Zd7 hi;have lenV:=hi.length;have core:∀ H:Hp,Only H->SqL K H a (ns.map V.int)->HOk P w H s₁.heap->(∀ b,H b≠none->b=a)->(H a≠none->K.lookup a=none) ->
   codeAny (model P w) callerA (.call (.ref fa) ⟨[.ref a],[]⟩) (fun r s'=>r=.ok (.ret (.bool true))/\OldK s₁.heap s'.heap/\s'.os=s₁.os/\AllBare s'.gens) s₁:=by
  intro H hO hS hok hA hK;have base_of:∀ {b:Addr}{o:Obj},s₁.heap.get? b=some o->H b=none->(hidT s₁.heap H).get? b=some o:=fun e n=>ZiO e n;have noA:∀ {b:Addr}{o:Obj}{es:Array DictEntry}{ep:Nat},s₁.heap.get? b=some o->o.data=.dict es ep->H b=none:=fun {b o es ep} e d=>by
   cases q:H b with
   | none=>rfl
   | some u=>
    have e':b=a:=hA b (by rw[q];simp);subst e';rw[ha] at e;cases e;have d':Data.seq vs.toArray _=Data.dict es ep:=d;cases d'
  have nsK:∀ {b:Addr}{m:Str->Option Value},s₁.heap.Ns b m->(hidT s₁.heap H).Ns b m:=fun {b m} ⟨o,es,ep,e,d,r⟩=>⟨o,es,ep,base_of e (noA e d),d,r⟩
  have hKb:K.In (hidT s₁.heap H):=fun b o e=>base_of (KX b o e) (by
   cases q:H b with
   | none=>rfl
   | some u=>
    have e':b=a:=hA b (by rw[q];simp);subst e';rw[hK (by rw[q];simp)] at e;cases e)
  have hM:Mod K mg (hidT s₁.heap H):=⟨hKb,nsK hns,⟨mb,nsK hb,hbb⟩,let ⟨mc,h1,h2⟩:=hlim;⟨mc,nsK h1,h2⟩⟩
  have e0:Env0 P w K mg (hidT s₁.heap H) callerA [] s₁ H:=⟨rfl,hM,fun b o e=>Zj1 e,Nat.le_of_eq (Zht _ _),trivial,fun b hb=>absurd (show b∈([]:List Addr) from hb) (by simp),hok,.of_eq hg⟩
  refine codeAny_mono ((F _ hKb (nsK hns)).run callerA [] s₁ H ⟨[.ref a],[]⟩ [.ref a] [.ref a] _ _ hr e0 (hbind s₁ (.ref a)) (.cons rfl .nil) (hsp H hO hS)) fun r s' h=>?_
  cases r with
  | error e=>exact (hCX H e s' h).elim
  | ok fl=>
   cases fl with
   | next=>exact YcB h
   | brk=>exact YcB h
   | cont=>exact YcB h
   | ret u=>
    obtain⟨v,H',os,bare,un,hok',r',q⟩:=h;have q':v=.bl true:=q;subst q';obtain rfl:u=Yd7 true:=r';refine⟨rfl,OldK.of_keep fun b o e=>?_,os,bare⟩
    cases q:H b with
    | none=>exact un.keep b o e q (by intro z;exact absurd (show b∈([]:List Addr) from z) (by simp)) (by simp)
    | some u=>
     rcases hO b with z | ⟨ob,xs,z⟩
     ·rw[q] at z;cases z
     ·have z2:=un.frzs b ob _ z;obtain⟨e1,_⟩:=hok b _ z;obtain⟨e2,_⟩:=hok' b _ z2;rw[e] at e1;cases e1;exact e2
 cases hk:K.lookup a with
 | some o=>
  have e:=KX a o hk;rw[ha] at e;cases e;refine core (fun _=>none) (fun _=>.inl rfl) (.inr ⟨_,vs.toArray,_,hk,rfl,rfl,rfl,by rw[Yat,lenV];exact hl,by simpa using rv⟩) (fun b u z=>by have z':(none:Option HO)=some u:=z;cases z') (fun b z=>absurd rfl z) fun z=>absurd rfl z
 | none=>
  refine core (fun b=>if b=a then some (.frz { cls:=.type "list",data:=.seq vs.toArray } (.lst (ns.map V.int))) else none) (fun b=>?_) (.inl (.inr ⟨{ cls:=.type "list",data:=.seq vs.toArray },if_pos rfl⟩)) (fun b u z=>?_) (fun b z=>?_) fun _=>hk
  ·by_cases hb:b=a
   ·exact .inr ⟨_,_,if_pos hb⟩
   ·exact .inl (if_neg hb)
  ·by_cases hb:b=a
   ·have z':=(if_pos hb).symm.trans z;cases z';subst hb;exact⟨ha,by rw[Yac];exact hl,vs,_,rv,ha⟩
   ·have z':=(if_neg hb).symm.trans z;cases z'
  ·by_cases hb:b=a
   ·exact hb
   ·exact absurd (if_neg hb) z
end L2
namespace L2
open PySem PySem.Spec PyProof.Rows
theorem walk_of {l:YdE}{n k:Nat}{q:Program}{loose:List Str}{XP:(Str->Option Value)->Heap->Prop}{YP:World->Heap->Prop}{d:DefRec}{K:Params->Yae}{CX:World->CXT}{sp:World->Sp}{x:Str}
  (hn:l.most=some n) (hn2:n<=sizeLine) (hdf:d.params.defaults=[]) (hr:Room k callerA)
  (hY:∀ (w:World) (h:Heap),YP w h->(K w.params).In h)
  (F:∀ (w:World) (mg:Str->Option Value) (fa:Addr) (h:Heap),(K w.params).In h->h.Ns mainGlobals mg->mg d.name=some (.ref fa) ->
   ∃ fd:FuncData,(∀ (s:Shared) (u:Value),BindsTo s fd ⟨[u],[]⟩ [(x,u)]) /\
    ∀ base:Heap,(K w.params).In base->base.Ns mainGlobals mg->FnOk l.prog w (K w.params) mg base (CX w) k fa fd [x] (sp w))
  (hsp:∀ (w:World) (H:Hp) (a:Addr) (ns:List Int),ns.length<=n->Only H->SqL (K w.params) H a (ns.map V.int)->sp w [.ref a] H (fun v _=>v=.bl true) fun _ _ _=>False)
  (hCX:∀ (w:World) (H:Hp) (s:Shared) (e:Value) (s':Shared),CX w [] H s (fun _ _ _=>False) e s'->False) :
  Ye8 q loose XP YP l.row.toRowW d [] (fun f vs=>YeR f vs):=by
 refine Att.attach_call hn hdf fun w s₀ s₁ mg mb fa o pm cd doc a vs ns G Y ho hd hcd hmg hobj hints hlen hg=>?_;have KX:=hY w _ Y;obtain⟨fd,hb,hF⟩:=F w mg fa _ KX G.T.g hmg;exact ZiM KX G.T.g G.T.b G.T.builtins G.T.nolimit hg hobj hints (YbC hlen hn2) hr hF hb (fun H hO hS=>hsp w H a ns hlen hO hS) fun H e s'=>hCX w H s₁ e s'
end L2
namespace L2
open PySem PySem.Spec PyProof.Rows
def Zap (s:Stmt):Arguments:=match s with
 | .FunctionDef _ a _ _ _ _ _ _ _ _=>a
 | _=>{ posonlyargs:=[],args:=[],vararg:=none,kwonlyargs:=[],kw_defaults:=[],kwarg:=none,defaults:=[] }
def Zam (s:Stmt):List Stmt:=match s with
 | .FunctionDef _ _ b _ _ _ _ _ _ _=>b
 | _=>[]
def Zac (s:Stmt):Scope:=match s with
 | .FunctionDef _ _ _ _ _ _ sc _ _ _=>sc
 | _=>{ kind:=.function,names:=[],isGenerator:=false,isCoroutine:=false }
abbrev CX0:CXT:=fun _ _ _ _ _ _=>False
abbrev E0:XK:=fun _ _ _=>False
theorem ZkZ {X:Cx}:Zh4 CX0 X E0:=fun _ _ _ _ _ _ _ h=>h.elim
structure Fun (K:Yae) (x qual:Str) (st:Stmt) (f:Addr) (fd:FuncData):Prop where
 ex:∃ (oc:Value) (od:Option Addr) (kV doc pm:Value) (an:Option Addr) (cdv ct:Value) (osl:Array (Option Value)),
  fd=YaN x qual (Zap st) (Zam st) (Zac st) .none kV doc pm an cdv ct/\K.lookup f=some ⟨oc,od,.func fd,osl⟩/\YaL K cdv qual=true
 kp:YaE K (.ref f)=true
section
variable {P:Program}{w:World}{K:Yae}{mg:Str->Option Value}{base:Heap}
theorem Fun.ok {x qual:Str}{st:Stmt}{f:Addr}{fd:FuncData}{N ps:List Str}{k:Nat}{sp:Sp} (F:Fun K x qual st f fd) (S:FnScope N ps (Zac st)) (len:∀ vs H Q E,sp vs H Q E->vs.length=ps.length)
  (hbody:∀ (cdv:Value) (A:Around) (outer:List Env) (s:Shared) (H:Hp) (vs:List V) (Q:VK) (E:XK),Room k (A.deeper (envOfC qual (Zac st) s.heap.objs.size f cdv))->sp vs H Q E ->
   ∃ t,PSs (cxOf CX0 P w K mg base N qual (Zac st) f cdv A outer s H E).nox (Zam st) t/\t { nx:=fun _ H'=>Q .non H',rt:=Q } (start N vs) H):FnOk P w K mg base CX0 (k+1) f fd ps sp:=by
 obtain⟨oc,od,kV,doc,pm,an,cdv,ct,osl,rfl,lk,hcd⟩:=F.ex;refine Zlo lk hcd S len fun A outer s H vs Q E hr hsp=>?_;obtain⟨t,h,q⟩:=hbody cdv A outer s H vs Q E hr hsp;exact⟨t,h.nox,q⟩
theorem Fun.binds {x qual:Str}{st:Stmt}{f:Addr}{fd:FuncData}{ps:List Str} (F:Fun K x qual st f fd)
  (h:∀ (kV doc pm:Value) (an:Option Addr) (cdv ct:Value) (us:List Value),us.length=ps.length->bindArgs (YaN x qual (Zap st) (Zam st) (Zac st) .none kV doc pm an cdv ct) ⟨us,[]⟩=pure (ps.zip us)):Binds K fd ps []:=by
 obtain⟨oc,od,kV,doc,pm,an,cdv,ct,osl,rfl,lk,hcd⟩:=F.ex;exact .all (h kV doc pm an cdv ct)
theorem ZaL {x qual:Str}{st:Stmt}{f:Addr}{oc:Value}{od an:Option Addr}{osl:Array (Option Value)}{kV doc pm cdv ct:Value} (l:K.lookup f=some ⟨oc,od,.func (YaN x qual (Zap st) (Zam st) (Zac st) .none kV doc pm an cdv ct),osl⟩)
  (c:YaL K cdv qual=true) (k:YaE K (.ref f)=true):Fun K x qual st f (YaN x qual (Zap st) (Zam st) (Zac st) .none kV doc pm an cdv ct):=⟨⟨oc,od,kV,doc,pm,an,cdv,ct,osl,rfl,l,c⟩,k⟩
end
theorem Zas {n:Nat} (h:n<=1000):n<sizeLine:=Ye2 h (by decide)
section
variable {X:Cx}
theorem pv (i:Nat) {x:Str}{pos:Pos} (hN:X.N[i]?=some x:=by rfl) (hv:Vis X.env.scope x:=by first | exact YaP rfl | exact Yds (YaP rfl) | exact Yds (Yds rfl)) (hd:(x == ("__debug__":Str))=false:=by decide)
  (hcd:(x == ("__classdict__":Str))=false:=by decide):PE X (.Name x pos) (tVar i):=ZkY hN hv hd hcd
end
theorem iteF {A B:Prop} (h:B):if false=true then A else B:=by
 rw[if_neg YaF];exact h
theorem iteT {A B:Prop} (h:A):if true=true then A else B:=by
 rw[if_pos rfl];exact h
theorem ite2 {c A B:Prop} [Decidable c] (h1:c->A) (h2:¬ c->B):if c then A else B:=by
 by_cases h:c
 ·rw[if_pos h];exact h1 h
 ·rw[if_neg h];exact h2 h
def Same (H H':Hp):Prop:=∀ b o,H b=some o->H' b=some o
theorem Same.refl (H:Hp):Same H H:=fun _ _ h=>h
theorem Same.trans {H H1 H2:Hp} (a:Same H H1) (b:Same H1 H2):Same H H2:=fun c o h=>b c o (a c o h)
theorem Same.free {H H':Hp} (e:Same H H') {l:Addr} (h:H' l=Yex):H l=Yex:=by
 cases q:H l with
 | none=>rfl
 | some o=>
  rw[e l o q] at h;cases h
theorem Same.seq {K:Yae}{H H':Hp}{a:Addr}{xs:List V} (e:Same H H') (h:SqL K H a xs):SqL K H' a xs:=by
 rcases h with (h | ⟨o,h⟩) | h
 ·exact .inl (.inl (e _ _ h))
 ·exact .inl (.inr ⟨o,e _ _ h⟩)
 ·exact .inr h
end L2
set_option maxHeartbeats 4000000
namespace L2
open PySem PySem.Spec PyProof.Rows
def ZbC (env:Env):List (Str × NameKind)->List (Str × Addr)->List (Str × Addr)
 | [],cs=>cs
 | (n,k)::r,cs=>ZbC env r (if k == .free then (n,(env.cells.lookup n).getD 0)::cs else cs)
abbrev clOf (scope:Scope) (env:Env):List (Str × Addr):=ZbC env scope.names []
theorem Zcd {env:Env}:∀ (names:List (Str × NameKind)) (cs:List (Str × Addr)),(∀ x∈names,x.2=.free->∃ c,env.cells.lookup x.1=some c) ->
  (forIn names cs fun (x:Str × NameKind) r=>do
   if x.2 == .free then
    let c <- cellOf env x.1
    pure (Ybg ((x.1,c)::r))
   else pure (Ybg r):Sem (List (Str × Addr)))=pure (ZbC env names cs)
 | [],cs,_=>rfl
 | (n,k)::r,cs,h=>by
  rw[YdV];have ih:=fun cs'=>Zcd (env:=env) r cs' fun x hx=>h x (Yan _ hx);by_cases hk:k=.free
  ·subst hk;obtain⟨c,hc⟩:=h (n,.free) Yaw rfl;have hc':env.cells.lookup n=some c:=hc;have ec:cellOf env n=pure c:=by unfold cellOf;rw[hc']
   dsimp only;rw[if_pos (by rfl),ec];show (forIn r ((n,c)::cs) _:Sem _)=_;rw[ih]
   conv=>rhs;unfold ZbC
   rw[if_pos (by rfl),hc'];rfl
  ·have hb:(k == Yce)=false:=by simpa using hk
   dsimp only;rw[if_neg (by rw[hb];decide)];show (forIn r cs _:Sem _)=_;rw[ih]
   conv=>rhs;unfold ZbC
   rw[if_neg (by rw[hb];decide)]
theorem ZbI {scope:Scope}{env:Env} (h:∀ x∈scope.names,x.2=.free->∃ c,env.cells.lookup x.1=some c):closureFor scope env=pure (clOf scope env):=by
 unfold closureFor;have e:=Zcd (env:=env) scope.names [] h;simp only[bind_pure];exact e
theorem ZeB {env:Env}{x:Str}{c:Addr}:∀ (names:List (Str × NameKind)) (cs:List (Str × Addr)),(ZbC env names cs).lookup x=some c->((x,Yce)∈names/\c=(env.cells.lookup x).getD 0)∨cs.lookup x=some c
 | [],_,h=>.inr h
 | (n,k)::r,cs,h=>by
  unfold ZbC at h;rcases ZeB r _ h with ⟨h1,h2⟩ | h1
  ·exact .inl ⟨Yan _ h1,h2⟩
  ·by_cases hk:k=.free
   ·subst hk;rw[if_pos (by rfl),YbQ] at h1
    cases e:x == n with
    | true=>
     rw[e] at h1;have en:x=n:=eq_of_beq e;subst en;exact .inl ⟨Yaw,(Yay h1).symm⟩
    | false=>rw[e] at h1;exact .inr h1
   ·have hb:(k == Yce)=false:=by simpa using hk
    rw[if_neg (by rw[hb];decide)] at h1;exact .inr h1
theorem ZhP {env:Env}{x:Str}:∀ (names:List (Str × NameKind)) (cs:List (Str × Addr)),(∃ c,cs.lookup x=some c)->∃ c,(ZbC env names cs).lookup x=some c
 | [],_,h=>h
 | (n,k)::r,cs,h=>by
  unfold ZbC;refine ZhP r _ ?_;split
  ·rw[YbQ];split
   ·exact⟨_,rfl⟩
   ·exact h
  ·exact h
theorem ZhQ {env:Env}{x:Str}:∀ (names:List (Str × NameKind)) (cs:List (Str × Addr)),(x,Yce)∈names->∃ c,(ZbC env names cs).lookup x=some c
 | [],_,h=>by simp at h
 | (n,k)::r,cs,h=>by
  unfold ZbC;rcases Yav.mp h with e | h
  ·cases e;refine ZhP r _ ?_;rw[if_pos (by rfl),YbQ];exact⟨(env.cells.lookup x).getD 0,by simp⟩
  ·exact ZhQ r _ h
theorem Zf6 {scope:Scope}{env:Env}{x:Str} (hcell:∀ y∈scope.names,y.2≠.cell) (h:(relabel scope env).names.lookup x=some .cell∨(relabel scope env).names.lookup x=some .free):(x,Yce)∈scope.names:=by
 have hm:∃ k,(x,k)∈(relabel scope env).names/\(k=.cell∨k=.free):=by
  rcases h with h | h
  ·exact⟨_,YbJ h,.inl rfl⟩
  ·exact⟨_,YbJ h,.inr rfl⟩
 obtain⟨k,hm,hk⟩:=hm;obtain⟨⟨n,k'⟩,h1,h2⟩:=YaY.mp hm;dsimp only at h2;split at h2
 ·rename_i hc;have:k'=.free:=by
   simp only[Yb8,beq_iff_eq] at hc;exact hc.1.1
  cases h2;subst this;exact h1
 ·cases h2;rcases hk with rfl | rfl
  ·exact absurd rfl (hcell _ h1)
  ·exact h1
theorem Zct {env:Env}{x:Str}:∀ {names:List (Str × NameKind)},names.lookup x=some .free ->
  (names.map fun (n,k)=>if (k == Yce && env.scope.kind == .function && env.kindOf n == some .cell) then (n,Ye3) else (n,k)).lookup x=some .cell ∨
  (names.map fun (n,k)=>if (k == Yce && env.scope.kind == .function && env.kindOf n == some .cell) then (n,Ye3) else (n,k)).lookup x=some .free
 | [],h=>by simp at h
 | (n,k)::r,h=>by
  have ih:=@Zct env x r;rw[Yam];dsimp only
  cases hx:x == n with
  | true=>
   simp only[YbQ,hx] at h;cases h;split
   ·left;simp[YbQ,hx]
   ·right;simp[YbQ,hx]
  | false=>
   simp only[YbQ,hx] at h;split
   ·simp only[YbQ,hx];exact ih h
   ·simp only[YbQ,hx];exact ih h
section
variable {prog:Program}{w:World}{A:Around}{R:Result->Shared->Prop}{s:Shared}
theorem ZbS {elt target iter:Expr}{ifs:List Expr}{scope:Scope}{pos:Pos}{it acc:Value}{env:Env} (I:Nat->Shared->Prop)
  (turn:∀ n s,I n s->wpAny (model prog w) A (pyNext it) (fun r s₁=>match r with
   | none=>R (.ok .next) s₁
   | some v=>wpAny (model prog w) A (letOwnedTupleGo target it v) (fun _ s₁'=>wpAny (model prog w) A (assign target env v) (fun _ s₂=>
     wpAny (model prog w) A (forIn ifs true fun c r=>if r=true then do let ok <- isTrue c env (eval c env);pure (Ybg ok) else pure (Ybg r)) (fun ok s₃=>
      if ok=true then wpAny (model prog w) A (eval elt env) (fun x s₄=>
       wpAny (model prog w) A (call (.builtin "list.append") [acc,x]) (fun _ s₅=>∃ m,m<n/\I m s₅) (fun _ _=>False) s₄) (fun _ _=>False) s₃
      else ∃ m,m<n/\I m s₃) (fun _ _=>False) s₂) (fun _ _=>False) s₁') (fun _ _=>False) s₁) (fun _ _=>False) s)
  (n:Nat) (h:I n s) :
  codeAny (model prog w) A (.compLoop (.ListComp elt [⟨target,iter,ifs,0⟩] scope pos) 0 it acc env) R s:=by
 refine codeAny_loop rfl I (fun n s hI=>?_) n h;show wpAny _ A ((compTurn (.ListComp elt [⟨target,iter,ifs,0⟩] scope pos) 0 it acc env).onRaise (fun x=>do noteFrame x env;theTreesLotGoes x)) _ _ s;refine wpAny_noted ?_;rw[compTurn_list];refine wpAny_bind (wpAny_standAt (wpAny_bind (wpAny_mono (turn n s hI) (fun r s₁ h₁=>?_) fun _ _ h'=>h'.elim)))
 cases r with
 | none=>exact wpAny_pure h₁
 | some v=>
  refine wpAny_bind (wpAny_mono h₁ (fun _ s₁' h₁=>?_) fun _ _ h'=>h'.elim);refine wpAny_bind (wpAny_mono h₁ (fun _ s₂ h₂=>wpAny_bind (wpAny_mono h₂ (fun ok s₃ h₃=>?_) fun _ _ h'=>h'.elim)) fun _ _ h'=>h'.elim)
  cases ok with
  | false=>exact wpAny_pure ⟨rfl,h₃⟩
  | true=>
   exact wpAny_bind (wpAny_bind (wpAny_mono h₃ (fun x s₄ h₄=>wpAny_bind (wpAny_mono h₄ (fun _ s₅ h₅=>wpAny_pure (wpAny_pure ⟨rfl,h₅⟩)) fun _ _ h'=>h'.elim)) fun _ _ h'=>h'.elim))
end
def PTs (X:Cx) (ifs:List Expr) (t:TT):Prop :=
 ∀ (pins:List (Addr × Obj)) (s:Shared) (σ:St) (H:Hp) (Q:Bool->Hp->Prop),Inv X pins σ H s->t σ H Q ->
  wpAny (model X.prog X.w) X.A (forIn ifs true fun c r=>if r=true then do let ok <- isTrue c X.env (eval c X.env);pure (Ybg ok) else pure (Ybg r)) (TP X pins σ Q) X.xe s
def Zbw:TT:=fun _ H Q=>Q true H
theorem ZaA {X:Cx}:PTs X [] Zbw:=fun _ _ _ H _ I h=>wpAny_tests_nil ⟨H,I,h⟩
theorem ZcN {X:Cx}{c:Expr}{t:TT} (h:PT X c t):PTs X [c] t:=fun pins s σ H Q I q=>wpAny_tests_one (h pins s σ H Q I q)
def Cx.blk (X:Cx) (scope:Scope) (own:List Str) (js:List Nat) (s₂:Shared) (H₂:Hp) (C:Addr) (fp:List Addr) (pins:List (Addr × Obj)):Cx where
 prog:=X.prog
 w:=X.w
 K:=X.K
 mg:=X.mg
 base:=X.base
 A:=X.A
 N:=own++js.map fun j=>X.N.getD j Ydv
 s₀:=s₂
 H₀:=H₂
 env:=compEnvC scope (clOf scope X.env) C X.env
 outer:=X.stack
 stack:=X.stack
 ex:=fp
 fn:=fun _=>false
 calm:=X.calm
 pn:=X.pn++pins
 xe:=fun _ _=>False
def blkσ (own:List Str) (js:List Nat) (σ:St):St:=own.map (fun _=>none)++js.map fun j=>(σ[j]?).join
section
variable {X:Cx}{pins:List (Addr × Obj)}{σ:St}{H H':Hp}{s s':Shared}{scope:Scope}{own:List Str}{js:List Nat}{C:Addr}{fp:List Addr}
structure CompOk (X:Cx) (scope:Scope) (own:List Str) (js:List Nat):Prop where
 kind:scope.kind=.function
 cell:∀ y∈scope.names,y.2≠.cell
 free:∀ y∈scope.names,y.2=.free->X.env.kindOf y.1=some .cell∨X.env.kindOf y.1=some .free
 names:∀ y∈scope.names,y.2=.local -> scope.names.lookup y.1=some .local
 out:∀ j∈js,∃ x,X.N[j]?=some x/\scope.names.lookup x=some .free
theorem CompOk.cl (c:CompOk X scope own js) (I:Inv X pins σ H s):∀ x∈scope.names,x.2=.free->∃ c,X.env.cells.lookup x.1=some c:=fun x hx hf=>I.ok.has x.1 (c.free x hx hf)
theorem CompOk.look (c:CompOk X scope own js) (I:Inv X pins σ H s) {x:Str}{a:Addr} (h:(clOf scope X.env).lookup x=some a):X.env.cells.lookup x=some a:=by
 rcases ZeB _ _ h with ⟨h1,h2⟩ | h1
 ·obtain⟨c',e⟩:=c.cl I (x,.free) h1 rfl;have e':X.env.cells.lookup x=some c':=e;rw[e'] at h2 ⊢;subst h2;rfl
 ·simp at h1
theorem Zlt (c:CompOk X scope own js) (I:Inv X pins σ H s) (hC:s.heap.objs.size<=C) (hf:∀ b∈fp,FpOk X pins H b) (ho:∀ b∈fp,∃ o,s.heap.get? b=some o):(X.blk scope own js s H C fp pins).Ok where
 mod:=I.ok.mod
 kind:=c.kind
 glob:=I.ok.glob
 blt:=I.ok.blt
 above:=hC
 inj:=fun x y a h1 h2=>I.ok.inj x y a (c.look I h1) (c.look I h2)
 has:=fun x hx=>ZhQ _ _ (Zf6 c.cell hx)
 cab:=fun x a h=>by cases h
 hd:=I.ok.hd
 frames:=I.ok.frames
 stk:=.inl rfl
 exf:=fun b hb=>by
  obtain⟨o,e⟩:=ho b hb;exact⟨YaS (Yau (Yar e) hC),fun x a h=>(hf b hb).2.2.2.2.1 x a (c.look I h)⟩
 bs:=I.bs
 bsz:=YbC I.ok.bsz I.sz
 noex:=fun b o e hb=>by
  rcases (hf b hb).2.2.2.1 with z | z
  ·exact I.ok.noex b o e z
  ·exact absurd (Yau (Yar e) (YbC I.ok.bsz z)) (Ybp _)
 exfs:=fun b hb hm=>by
  rcases Yav.mp (I.stkSub b hm) with z | z
  ·exact (hf b hb).2.1 z
  ·exact (hf b hb).2.2.1 z
 funs:=I.stack
 frf:=I.stkFree
theorem Zfj (own:List Str) (js:List Nat) (σ:St) (X:Cx):(blkσ own js σ).length=(own++js.map fun j=>X.N.getD j Ydv).length:=by
 unfold blkσ;simp
theorem ZeG {acc:Addr}{m:Str->Option Value}{tk:Nat}{h':Heap} (c:CompOk X scope own js) (I:Inv X pins σ H s) (hC:s.heap.objs.size<=C) (hf:∀ b∈fp,FpOk X pins H b) (ho:∀ b∈fp,∃ o,s.heap.get? b=some o)
  (hn:h'.Ns C m) (k:∀ b u,s.heap.get? b=some u->h'.get? b=some u) (hacc:s.heap.objs.size<=acc) (haC:acc≠C) (hl:h'.get? acc=some { cls:=.type "list",data:=.seq ([]:List Value).toArray 0 }) :
  Inv (X.blk scope own js s H C fp pins) [] (blkσ own js σ) (upd H acc (.lst [])) { s with heap:=h',toks:=tk }:=by
 have ok:=Zlt c I hC hf ho;have fresh:∀ {a:Addr},s.heap.objs.size<=a->H a=none:=fun h=>I.hok.fresh h;have neA:∀ b o,s.heap.get? b=some o->b≠acc:=fun b o e=>YaS (Yau (Yar e) hacc);refine⟨ok,rfl,I.bare,Un.laid k hacc (fresh hacc),⟨m,hn,fun i x v e1 e2 e3=>?_⟩,fun x a e=>?_,?_,fun x a e=>?_,fun p hp=>?_,I.hok.laid k hacc ⟨YaO _,[],0,.nil,hl⟩,Zfj own js σ X⟩
 ·
  have hi:own.length<=i:=by
   refine Nat.le_of_not_lt fun hi=>?_;unfold blkσ at e2;rw[Yaj (by simpa using hi),Yaf] at e2
   cases q:own[i]? with
   | none=>rw[q] at e2;cases e2
   | some z=>rw[q] at e2;cases e2
  have e1':(js.map fun j=>X.N.getD j Ydv)[i - own.length]?=some x:=by
   have e1:(own++js.map fun j=>X.N.getD j Ydv)[i]?=some x:=e1
   rwa [Yak hi] at e1
  have e2':(js.map fun j=>(σ[j]?).join)[i - own.length]?=some (some v):=by
   unfold blkσ at e2;rw[Yak (by simpa using hi)] at e2;simpa using e2
  rw[Yaf] at e1' e2'
  cases q:js[i - own.length]? with
  | none=>rw[q] at e1';cases e1'
  | some j=>
   rw[q] at e1' e2';obtain⟨x',hx',hfree⟩:=c.out j (Yah q);have ex:x'=x:=by
    have:X.N.getD j Ydv=x:=Yay e1';rw[Yad,hx'] at this;exact this
   subst ex;have eσ:σ[j]?=some (some v):=by
    have e2'':(σ[j]?).join=some v:=Yay e2'
    cases r:σ[j]? with
    | none=>rw[r] at e2'';cases e2''
    | some z=>rw[r] at e2'';cases z with
     | none=>cases e2''
     | some y=>cases e2'';rfl
   have hmem:(x',Yce)∈scope.names:=YbJ hfree;have hkX:=c.free _ hmem rfl;have vis:Vis X.env.scope x':=by
    rcases hkX with z | z
    ·exact .inr (.inl z)
    ·exact .inr (.inr z)
   obtain⟨m0,hn0,hl0⟩:=I.loc;obtain⟨u,r,l⟩:=hl0 j x' v hx' eσ vis;refine⟨u,r,.inr ⟨Zct hfree,?_⟩⟩;obtain⟨a,ha⟩:=ZhQ (env:=X.env) scope.names [] hmem;refine⟨a,ha,?_⟩;have haX:=c.look I ha;rcases l with ⟨z,_⟩ | ⟨_,a',ha',⟨o,ho',hd⟩⟩
   ·have z:X.env.kindOf x'=some .local:=z;rcases hkX with y | y
    ·have y:X.env.kindOf x'=some .cell:=y;rw[z] at y;cases y
    ·have y:X.env.kindOf x'=some .free:=y;rw[z] at y;cases y
   ·rw[haX] at ha';cases ha';exact⟨o,k _ o ho',hd⟩
 ·obtain⟨v,o,ho',hd⟩:=I.cell x a (c.look I e);exact⟨v,o,k _ o ho',hd⟩
 ·show upd H acc (.lst []) C=none;rw[upd_ne (YaX haC)];exact fresh hC
 ·have e':=c.look I e;obtain⟨v,o,ho',hd⟩:=I.cell x a e';rw[upd_ne (neA a o ho')];exact I.freeC x a e'
 ·have hp:p∈X.pn++pins:=by simpa[Cx.blk] using hp
  obtain⟨e,n,ne,nf,d⟩:=I.pin p hp;refine⟨k _ _ e,by rw[upd_ne (neA _ _ e)];exact n,YaS (Yau (Yar e) hC),fun z=>?_,d⟩;rcases Yav.mp (I.stkSub _ z) with q | q
  ·exact ne q
  ·exact nf q
theorem ZhW {τ:St}{pl:List (Addr × Obj)} (I:Inv X pins σ H s) (hf:∀ b∈fp,FpOk X pins H b) (J:Inv (X.blk scope own js s H C fp pins) pl τ H' s'):Inv X pins σ H' s' :=
 I.call' J.os J.base J.hok J.bare fun b hb=>⟨(hf b hb).2.2.2.1,(hf b hb).2.1,(hf b hb).2.2.2.2.1,(hf b hb).2.2.2.2.2⟩
theorem Inv.other {h':Heap} (I:Inv X pins σ H s) (hs:Ydi C s.heap h') (hn:H C=none) (hL:C≠X.env.locals) (h1:X.s₀.heap.objs.size<=C) (h2:∀ x c,X.env.cells.lookup x=some c->c≠C) (h3:∀ p∈X.pn++pins,p.1≠C) :
  Inv X pins σ H { s with heap:=h' } :=
 I.turned (t':=s.toks) (fun b o hb e=>(hs.2 b hb).trans e) hn hL (.inr h1) h2 h3
end
def Zh5 (own:List Str) (g:TG):Prop:=∀ (js:List Nat) (σ:St) (x:V) (H:Hp) (Q:St->Hp->Prop),g x (blkσ own js σ) H Q ->
 g x (blkσ own js σ) H fun τ H'=>(∀ (j:Nat) v,(blkσ own js σ)[j]?=some (some v)->τ[j]?=some (some v))/\Q τ H'
theorem ZbD {own:List Str}{js:List Nat}{σ:St}{i:Nat}{v:V} (hi:i<own.length):(blkσ own js σ)[i]?≠some (some v):=by
 unfold blkσ;rw[Yaj (by simpa using hi),Yaf]
 cases own[i]? with
 | none=>intro h;cases h
 | some z=>intro h;cases h
theorem Zao {own:List Str}{i:Nat} (hi:i<own.length:=by decide):Zh5 own (ZcB i):=fun js σ x H Q h=>⟨fun j v e=>by
 have hj:j≠i:=by rintro rfl;exact ZbD hi e
 rw[Ya5 (YaX hj)];exact e,h⟩
theorem Zb8 {K:Yae}{own:List Str}{i k:Nat} (hi:i<own.length:=by decide) (hk:k<own.length:=by decide):Zh5 own (gTup K 2 (Zka (ZcB i) (Zka (ZcB k) gNil))):=fun js σ x H Q h=>by
 obtain⟨a,xs,rfl,hq,hl,v,r,rfl,w,r',rfl,e,h⟩:=h;refine⟨a,_,rfl,hq,hl,v,_,rfl,w,r',rfl,e,fun j z e=>?_,h⟩;have hj:j≠i:=by rintro rfl;exact ZbD hi e
 have hj':j≠k:=by rintro rfl;exact ZbD hk e
 rw[Ya5 (YaX hj'),Ya5 (YaX hj)];exact e
def ZaY (own:List Str) (js:List Nat) (g:TG) (tt:TT) (te:TE) (σ:St) (J:It) (H1:Hp) (Q:VK):Prop :=
 ∀ acc,H1 acc=none->∃ (W:Nat->Hp->Prop) (n:Nat),W 0 (upd H1 acc (.lst []))/\∀ i H2,W i H2 ->
  (J.stop i H2/\Q (.ref acc) H2)∨(i<n/\J.go i H2/\∀ x H3,J.yld i H2 x H3->g x (blkσ own js σ) H3 fun τ H4=>tt τ H4 fun c H5=>
   if c=true then te τ H5 fun y H6=>∃ ys,H6 acc=some (.lst ys)/\ys.length<sizeLine/\W (i+1) (upd H6 acc (.lst (ys++[y]))) else W (i+1) H5)
def ZkJ (own:List Str) (js:List Nat) (wi:TI) (g:TG) (tt:TT) (te:TE):TE:=fun σ H Q=>wi σ H fun J H1=>ZaY own js g tt te σ J H1 Q
section
variable {X:Cx}{scope:Scope}{own:List Str}{js:List Nat}{elt iter target:Expr}{ifs:List Expr}{wi:TI}{g:TG}{tt:TT}{te:TE}{pos:Pos}
theorem ZhV {pins:List (Addr × Obj)}{σ:St}{H2:Hp}{s₂:Shared}{it:Addr}{fp:List Addr}{tn:Nat->Heap->Prop}{J:It}{Q:VK}{E:Value->Shared->Prop}{RR:Value->Addr->Result->Shared->Prop}
  (c:CompOk X scope own js) (hc:X.calm=true) (hgk:Zh5 own g)
  (hg:∀ s H C fp pins,PG (X.blk scope own js s H C fp pins) target g) (ht:∀ s H C fp pins,PTs (X.blk scope own js s H C fp pins) ifs tt) (he:∀ s H C fp pins,PE (X.blk scope own js s H C fp pins) elt te)
  (I:Inv X pins σ H2 s₂) (T:Turn X.prog X.w X.K target J fp it tn) (st:tn 0 s₂.heap) (hf:∀ b∈fp,FpOk X pins H2 b) (h:ZaY own js g tt te σ J H2 Q)
  (hRR:∀ acc C H' s' m,s₂.heap.objs.size<=C->H' C=none->Inv X pins σ H' s'->s'.heap.Ns C m->Q (.ref acc) H'->RR (.ref acc) C (.ok .next) s') :
  wpAny (model X.prog X.w) X.A (newList []) (fun acc s₃=>wpAny (model X.prog X.w) X.A (newFunctionEnv scope X.env.globals (clOf scope X.env) [] X.env.qual none .none (some X.env)) (fun cenv s₄=>
   codeAny (model X.prog X.w) X.A (.compStart (.ListComp elt [⟨target,iter,ifs,0⟩] scope pos) 0 (.ref it) acc { cenv with scope:=relabel scope X.env }) (RR acc cenv.locals) s₄) E s₃) E s₂:=by
 refine wpAny_newObj_type (wpAny_newFunctionEnv c.cell (by intro y hy;simp at hy) (fun h₁ hns₁ hsb₁=>?_) c.kind);dsimp only at hns₁ hsb₁ ⊢;generalize hH2:s₂.heap.push { cls:=.type "list",dict:=none,data:=.seq ([]:List Value).toArray }=G2 at hns₁ hsb₁ ⊢;have hC:G2.objs.size=s₂.heap.objs.size+1:=by rw[<- hH2,YbF]
 have hDC:s₂.heap.objs.size≠G2.objs.size:=by rw[hC];exact YaS (Ycz _)
 have hCle:s₂.heap.objs.size<=G2.objs.size:=by rw[hC];exact Ydb _
 have old:∀ b o,s₂.heap.get? b=some o->h₁.get? b=some o:=fun b o e=>hsb₁.extBut b o (YaS (Yau (Yar e) hCle)) (Yag _ (hH2 ▸ Yag _ e));have hacc:h₁.get? s₂.heap.objs.size=some { cls:=.type "list",data:=.seq ([]:List Value).toArray 0 }:=hsb₁.extBut _ _ hDC (Yag _ (hH2 ▸ YaA _ rfl));have ho2:∀ b∈fp,∃ o,s₂.heap.get? b=some o:=fun b hb=>let ⟨o,e,_⟩:=T.obj 0 _ st b hb;⟨o,e⟩
 have I0:∀ tk,Inv (X.blk scope own js s₂ H2 G2.objs.size fp pins) [] (blkσ own js σ) (upd H2 s₂.heap.objs.size (.lst [])) { s₂ with heap:=h₁,toks:=tk }:=fun tk=>
  ZeG c I hCle hf ho2 hns₁ old (Yas _) hDC hacc
 obtain⟨W,nn,w0,turn⟩:=h s₂.heap.objs.size (I.hok.fresh (Yas _));generalize hacc':s₂.heap.objs.size=acc at *;generalize hGC:G2.objs.size=C at *;have st1:tn 0 h₁:=T.keep 0 _ _ st fun b _ o e=>old b o e;have fOk:∀ {H':Hp},(∀ b∈fp,H' b=none)->∀ b∈fp,FpOk (X.blk scope own js s₂ H2 C fp pins) [] H' b:=fun hn b hb=>by
  obtain⟨f0,f1,f2,f3,f4,f5⟩:=hf b hb;obtain⟨o,e⟩:=ho2 b hb;refine⟨hn b hb,YaS (Yau (Yar e) (by rw[<- hacc'] at hCle;exact hCle)),fun z=>?_,.inl hb,fun x a h=>f4 x a (c.look I h),fun p hp=>f5 p (by simpa[Cx.blk] using hp)⟩;rcases Yav.mp (I.stkSub b z) with q | q
  ·exact f1 q
  ·exact f2 q
 have loop:∀ s₃:Shared,s₃={ s₂ with heap:=h₁,toks:=s₂.toks+([]:List (Str × Value)).length } ->
   codeAny (model X.prog X.w) X.A (.compLoop (.ListComp elt [⟨target,iter,ifs,0⟩] scope pos) 0 (.ref it) (.ref acc) (compEnvC scope (clOf scope X.env) C X.env)) (RR (.ref acc) C) s₃:=by
  rintro s₃ rfl;refine ZbS (fun n s'=>∃ i H',n=nn - i/\Inv (X.blk scope own js s₂ H2 C fp pins) [] (blkσ own js σ) H' s'/\tn i s'.heap/\(∀ b∈fp,H' b=none)/\W i H') ?_ nn ⟨0,_,rfl,I0 _,st1,fun b hb=>?_,w0⟩
  ·rintro n s3 ⟨i,H3,en,I3,st3,fr3,w3⟩;rcases turn i H3 w3 with ⟨stop,qn⟩ | ⟨hin,go,step⟩
   ·refine thn (T.done (X.blk scope own js s₂ H2 C fp pins) rfl rfl rfl hc i [] s3 _ H3 (fun _ _=>False) I3 (fOk fr3) st3 stop) fun r s4 ⟨hr,I4⟩=>?_;subst hr;obtain⟨m,hn,_⟩:=I4.loc;exact hRR acc C H3 s4 m hCle I4.free (ZhW I hf I4) hn qn
   ·refine thn (T.item (X.blk scope own js s₂ H2 C fp pins) rfl rfl rfl hc i [] s3 _ H3 (fun _ _=>False) I3 (fOk fr3) st3 go) fun r s4 ⟨u,hr,h4⟩=>?_;subst hr;refine thn h4 fun _ s5 ⟨x,H5,I5,r5,y5,st5,fr5⟩=>?_;have I5':=I5.pinned (fOk fr5) (T.obj _ _ st5);have again:∀ {σ7:St}{H7:Hp}{s7:Shared},Inv (X.blk scope own js s₂ H2 C fp pins) ([]++ZcR fp s5.heap) σ7 H7 s7->(∀ (j:Nat) v,(blkσ own js σ)[j]?=some (some v)->σ7[j]?=some (some v))->W (i+1) H7 ->
      ∃ m,m<n/\∃ i H',m=nn - i/\Inv (X.blk scope own js s₂ H2 C fp pins) [] (blkσ own js σ) H' s7/\tn i s7.heap/\(∀ b∈fp,H' b=none)/\W i H':=fun {σ7 H7 s7} I7 hw w7=>by
     refine⟨nn - (i+1),by (clear hCle hDC hC hGC hacc';omega),i+1,H7,rfl,(I7.unpinned).weak ((Zfj own js σ X).trans I7.len.symm) hw,T.keep _ _ _ st5 fun b hb o e=>(I7.pin (b,o) (Yax _ (Yax _ (ZaX hb e)))).1,fun b hb=>?_,w7⟩;obtain⟨o,e,d⟩:=T.obj _ _ st5 b hb;exact (I7.pin (b,o) (Yax _ (Yax _ (ZaX hb e)))).2.1
    refine thn (hg s₂ H2 C fp pins _ s5 _ H5 x u _ I5' r5 (hgk _ _ _ _ _ (step x H5 y5))) fun _ s6 ⟨σ6,H6,I6,kp,q6⟩=>?_;refine thn (ht s₂ H2 C fp pins _ s6 σ6 H6 _ I6 q6) fun ok s7 ⟨H7,I7,q7⟩=>?_
    cases ok with
    | false=>
     exact again I7 kp q7
    | true=>
     refine thn (he s₂ H2 C fp pins _ s7 σ6 H7 _ I7 q7) fun y s8 ⟨v,H8,I8,r8,ys,hl,hz,w8⟩=>?_;refine thn (ZaC (X:=X.blk scope own js s₂ H2 C fp pins) _ s8 σ6 H8 (.ref acc) [v] (.ref acc) [y] (fun _ H9=>W (i+1) H9) I8 rfl (.cons r8 .nil) ⟨acc,ys,v,rfl,rfl,hl,hz,w8⟩) fun _ s9 ⟨_,H9,I9,_,w9⟩=>?_;exact again I9 kp w9
  ·rw[upd_ne ?_]
   ·exact (hf b hb).1
   ·obtain⟨o,e⟩:=ho2 b hb;rw[<- hacc'];exact YaS (Yar e)
 exact codeAny_compStart_list (loop _ rfl) (T.self _ 0 _ _ _ st1 (loop _ rfl))
theorem ZaN (c:CompOk X scope own js) (hc:X.calm=true) (hi:PI X target iter wi) (hgk:Zh5 own g)
  (hg:∀ s H C fp pins,PG (X.blk scope own js s H C fp pins) target g) (ht:∀ s H C fp pins,PTs (X.blk scope own js s H C fp pins) ifs tt) (he:∀ s H C fp pins,PE (X.blk scope own js s H C fp pins) elt te)
  (hs:∀ x,foldedSetIterable iter X.env x=pure x:=by intro _;rfl):PE X (.ListComp elt [⟨target,iter,ifs,0⟩] scope pos) (ZkJ own js wi g tt te):=by
 intro pins s σ H Q I h;rw[eval_ListComp];refine wpAny_comprehension_free (use:=none) rfl hs (ZbI (c.cl I)) c.kind c.names (thn (hi pins s σ H _ I h) fun v s1 h1=>thn h1 fun itv s2 h2=>?_);obtain⟨it,fp,tn,J,H2,e,I2,T,st2,f2,hw⟩:=h2;subst e;refine ZhV (RR:=fun acc C=>compPost (model X.prog X.w) X.A X.xe none (EP X pins σ Q) acc C) c hc hgk hg ht he I2 T st2 f2 hw ?_;intro acc C H' s' m hCs hCn I' hn q;refine⟨m,hn,fun h' hs'=>⟨.ref acc,H',I'.other hs' hCn ?_ ?_ ?_ ?_,rfl,q⟩⟩
 ·exact YbU (Yau I2.lt hCs)
 ·exact YbC I2.sz hCs
 ·intro x a e z;obtain⟨v,q⟩:=I2.cell x a e;exact absurd (Yau q.lt (by rw[z];exact hCs)) (Ybp _)
 ·intro p hp z;exact absurd (Yau (Yar (I2.pin p hp).1) (by rw[z];exact hCs)) (Ybp _)
theorem Zcl {i:Nat}{y:Str}{py spos:Pos} (hN:X.N.Nodup) (hy:X.N[i]?=some y) (hyl:X.env.scope.names.lookup y=some .local) (c:CompOk X scope own js) (hc:X.calm=true) (hi:PI X target iter wi) (hgk:Zh5 own g)
  (hg:∀ s H C fp pins,PG (X.blk scope own js s H C fp pins) target g) (ht:∀ s H C fp pins,PTs (X.blk scope own js s H C fp pins) ifs tt) (he:∀ s H C fp pins,PE (X.blk scope own js s H C fp pins) elt te)
  (hsw:swapsWith (.ListComp elt [⟨target,iter,ifs,0⟩] scope pos) (some (.Name y py)) spos.line X.env=pure true:=by rfl)
  (hs:∀ x,foldedSetIterable iter X.env x=pure x:=by intro _;rfl):PS X (.Assign [.Name y py] (.ListComp elt [⟨target,iter,ifs,0⟩] scope pos) spos) (tAsg (ZkJ own js wi g tt te) (ZcB i)):=by
 intro pins s σ H D I h;rw[exec_Assign_Name_used _ _ _ _ hsw];refine wpAny_bind (wpAny_standAt (wpAny_bind ?_));show wpAny _ X.A (do let _ <- comprehension (.ListComp elt [⟨target,iter,ifs,0⟩] scope pos) scope X.env _ (newList []) false (eval iter X.env) (some (assign (.Name y py) X.env))) _ _ s;refine wpAny_bind (wpAny_mono (wpAny_comprehension_free (use:=some (assign (.Name y py) X.env)) (Q:=fun _ s'=>SP X pins D .next s') rfl hs (ZbI (c.cl I)) c.kind c.names
  (thn (hi pins s σ H _ I h) fun v s1 h1=>thn h1 fun itv s2 h2=>?_)) (fun _ s' hq=>wpAny_pure (wpAny_pure hq)) fun _ _ e=>e)
 obtain⟨it,fp,tn,J,H2,e,I2,T,st2,f2,hw⟩:=h2;subst e;refine ZhV (Q:=fun x H1=>ZcB i x σ H1 D.nx) (RR:=fun acc C=>compPost (model X.prog X.w) X.A X.xe (some (assign (.Name y py) X.env)) (fun _ s'=>SP X pins D .next s') acc C) c hc hgk hg ht he I2 T st2 f2 hw ?_;intro acc C H' s' m hCs hCn I' hn q;have hL:C≠X.env.locals:=YbU (Yau I2.lt hCs);have hcell:∀ x a,X.env.cells.lookup x=some a->a≠C:=by
  intro x a e z;obtain⟨v,q⟩:=I2.cell x a e;exact absurd (Yau q.lt (by rw[z];exact hCs)) (Ybp _)
 refine wpAny_assign_Name (ZcH I' hN hy (.inl hyl) (v:=.ref acc) rfl (fun s2 I'' hch=>?_) (.inr hyl));obtain⟨a,sb,ha⟩:=hch;have hCa:C≠a:=by
  rcases ha with rfl | ha
  ·exact hL
  ·exact YaX (hcell _ _ ha)
 refine⟨m,hn.sameBut sb hCa,fun h' hs'=>⟨_,H',I''.other hs' hCn hL (YbC I2.sz hCs) hcell ?_,q⟩⟩;intro p hp z;exact absurd (Yau (Yar (I2.pin p hp).1) (by rw[z];exact hCs)) (Ybp _)
end
section
variable {K:Yae}{own:List Str}{js:List Nat}{g:TG}{tt:TT}{te:TE}{σ:St}{H1:Hp}{Q:VK}
theorem ZhL {a:Addr}{xs:List V} (Pv:Addr->Nat->Hp->Prop) (h0:∀ acc,H1 acc=none->Pv acc 0 (upd H1 acc (.lst []))) (hl:∀ acc i H,H1 acc=none->i<=xs.length->Pv acc i H->SqL K H a xs)
  (hs:∀ acc i x H,H1 acc=none->xs[i]?=some x->Pv acc i H->g x (blkσ own js σ) H fun τ H4=>tt τ H4 fun c H5=>
   if c=true then te τ H5 fun y H6=>∃ ys,H6 acc=some (.lst ys)/\ys.length<sizeLine/\(i+1<=xs.length/\Pv acc (i+1) (upd H6 acc (.lst (ys++[y])))) else (i+1<=xs.length/\Pv acc (i+1) H5))
  (hd:∀ acc H,H1 acc=none->Pv acc xs.length H->Q (.ref acc) H):ZaY own js g tt te σ (Itl K a) H1 Q:=by
 intro acc hacc;refine⟨fun i H=>i<=xs.length/\Pv acc i H,xs.length,⟨YaO _,h0 acc hacc⟩,?_⟩;rintro i H ⟨hi,p⟩;have q:=hl acc i H hacc hi p;by_cases hlt:i<xs.length
 ·refine .inr ⟨hlt,⟨xs,xs[i],q,by simp[hlt]⟩,fun x H' y=>?_⟩;obtain⟨e,y⟩:=y;subst e;exact hs acc i x _ hacc (y xs q) p
 ·have e:i=xs.length:=by omega
  subst e;exact .inl ⟨⟨xs,q,Yas _⟩,hd acc H hacc p⟩
theorem ZbH {lo:Int}{n:Nat} (Pv:Addr->Nat->Hp->Prop) (h0:∀ acc,H1 acc=none->Pv acc 0 (upd H1 acc (.lst [])))
  (hs:∀ acc i H,H1 acc=none->i<n->Pv acc i H->g (.int (lo+i)) (blkσ own js σ) H fun τ H4=>tt τ H4 fun c H5=>
   if c=true then te τ H5 fun y H6=>∃ ys,H6 acc=some (.lst ys)/\ys.length<sizeLine/\(i+1<=n/\Pv acc (i+1) (upd H6 acc (.lst (ys++[y])))) else (i+1<=n/\Pv acc (i+1) H5))
  (hd:∀ acc H,H1 acc=none->Pv acc n H->Q (.ref acc) H):ZaY own js g tt te σ (Itr lo n) H1 Q:=by
 intro acc hacc;refine⟨fun i H=>i<=n/\Pv acc i H,n,⟨YaO _,h0 acc hacc⟩,?_⟩;rintro i H ⟨hi,p⟩;by_cases hlt:i<n
 ·refine .inr ⟨hlt,hlt,fun x H' y=>?_⟩;obtain⟨e,y⟩:=y;subst e y;exact hs acc i _ hacc hlt p
 ·have e:i=n:=by omega
  subst e;exact .inl ⟨Yas _,hd acc H hacc p⟩
end
def ZhM (scope sc:Scope) (js:List Nat) (N:List Str):Bool :=
 (scope.kind == .function) && (scope.names.all fun y=>(y.2 != .cell) && ((y.2 != .free) || (sc.names.lookup y.1 == some .cell) || (sc.names.lookup y.1 == some .free)) && ((y.2 != .local) || (scope.names.lookup y.1 == some .local))) &&
 (js.all fun j=>match N[j]? with | some x=>scope.names.lookup x == some .free | none=>false)
theorem CompOk.by {X:Cx}{scope sc:Scope}{own N:List Str}{js:List Nat} (hX:X.env.scope=sc) (hN:X.N=N) (h:ZhM scope sc js N=true):CompOk X scope own js:=by
 unfold ZhM at h;simp only[Yb8,beq_iff_eq,Ycv,Bool.or_eq_true,bne_iff_ne,ne_eq] at h;obtain⟨⟨h1,h2⟩,h3⟩:=h;refine⟨h1,fun y hy=>(h2 y hy).1.1,fun y hy hf=>?_,fun y hy hl=>?_,fun j hj=>?_⟩
 ·show X.env.scope.names.lookup y.1=_∨X.env.scope.names.lookup y.1=_;rw[hX];rcases (h2 y hy).1.2 with (z | z) | z
  ·exact absurd hf z
  ·exact .inl z
  ·exact .inr z
 ·rcases (h2 y hy).2 with z | z
  ·exact absurd hl z
  ·exact z
 ·have:=h3 j hj;rw[hN]
  cases e:N[j]? with
  | none=>rw[e] at this;cases this
  | some x=>rw[e] at this;exact⟨x,rfl,by simpa using this⟩
end L2
namespace L2
open PySem PySem.Spec PyProof.Rows PySem.SeqAt
section
variable {X:Cx}
theorem Vals.bl_get {bs:List Bool}{us:List Value} (r:Vals (bs.map V.bl) us) {i:Nat}{v:Value} (e:us[i]?=some v):∃ b,bs[i]?=some b/\v=.bool b:=by
 cases q:(bs.map V.bl)[i]? with
 | none=>
  have:=r.none_of q;rw[e] at this;cases this
 | some x=>
  obtain⟨u,h1,h2⟩:=r.get q;rw[e] at h1;cases h1;rw[Yaf] at q
  cases z:bs[i]? with
  | none=>rw[z] at q;cases q
  | some b=>rw[z] at q;cases q;exact⟨b,rfl,h2⟩
theorem ZgI {bs:List Bool}:(Yap bs.length).all (fun i=>bs.getD i true)=bs.all id:=by
 rw[Yb4,Ycv,Ycv];constructor
 ·intro h b hb;obtain⟨i,hi,e⟩:=YeP hb;have:=h i (Ybn.mpr hi);simpa[Yad,hi,e] using this
 ·intro h i hi;have hi':=Ybn.mp hi;have:=h bs[i] (YcV hi');simpa[Yad,hi'] using this
theorem ZiZ (hc:X.calm=true):Zbk X (.builtin "all") (fun xs H Q=>∃ (a:Addr) (bs:List Bool),xs=[.ref a]/\SqL X.K H a (bs.map V.bl)/\Q (.bl (bs.all id)) H):=by
 intro pins s σ H xs us Q I r h;obtain⟨a,bs,rfl,hq,q⟩:=h;obtain⟨u,rfl,r1⟩:=Zci r;cases r1;obtain⟨its,rv,p,hz⟩:=I.list hq;refine call_all_walk (wpAny_pyIter_list p.isList ?_);have hlt:=(let ⟨o,n,e,_⟩:=p;Yar e:a<s.heap.objs.size)
 have hne:a≠s.heap.objs.size:=YaS hlt;have hlen:its.toArray.size=bs.length:=by rw[Yat,<- rv.length,Yac]
 refine⟨s.heap.objs.size,_,_,_,_,_,fun i=>bs.getD i true,rfl,Walks.list (A:=X.A.in1) (I.ok.hd hc) _ a hne its.toArray,⟨⟨_,YaA _ rfl,rfl,rfl⟩,?_⟩,?_,?_⟩
 ·obtain⟨o,n,e,c,_,d⟩:=p;exact⟨o,Yag _ e,c,n,d⟩
 ·intro i v s' Q' E' hP hQ;have hP':its[i]?=some v:=by simpa using hP
  obtain⟨b,hb,rfl⟩:=rv.bl_get hP';refine wpAny_truthy_bool ?_;dsimp only at hQ;rw[Yad,hb] at hQ;exact hQ
 ·intro h' tk k;rw[hlen,ZgI];refine⟨.bl (bs.all id),H,I.kept (h':=h') (t':=tk) fun b o e=>k b o ?_ (Yag _ e),rfl,q⟩;intro hm;have:b=s.heap.objs.size:=by simpa using hm
  rw[this] at e;exact absurd (Yar e) (Ybp _)
theorem Vals.int_at {ns:List Int}{us:List Value} (r:Vals (ns.map V.int) us) {i:Nat} (h:i<ns.length):∃ t,us[i]?=some (.int ns[i] t):=by
 have q:(ns.map V.int)[i]?=some (V.int ns[i]):=by rw[Yaf,Yab h];rfl
 obtain⟨u,h1,t,rfl⟩:=r.get q;exact⟨t,h1⟩
theorem Zin:∀ {ns ms:List Int},ns.length=ms.length->((Yap ns.length).all fun i=>ns.getD i 0 == ms.getD i 0)=decide (ns=ms):=fun {ns ms} h=>by
 rw[Yb4,Ycv,decide_eq_true_iff];constructor
 ·intro q;refine Ycu h fun i h1 h2=>?_;have:=q i (Ybn.mpr h1);simpa[Yad,h1,h2] using this
 ·rintro rfl i hi;simp
theorem ZdT {ns:List Int}{its:List Value} (r:Vals (ns.map V.int) its) {j:Nat} (h:j<its.toArray.size):∃ t,its.toArray[j]=.int (ns.getD j 0) t:=by
 have hj:j<ns.length:=by rw[Yat,<- r.length,Yac] at h;exact h
 obtain⟨t,q⟩:=r.int_at hj;obtain⟨_,q'⟩:=Yaa.mp q;exact⟨t,by simpa[Yad,hj] using q'⟩
end
end L2
namespace L2
open PySem PySem.Spec PyProof.Rows PySem.SeqAt
section
variable {prog:Program}{w:World}{A:Around}{R:Result->Shared->Prop}{I:Addr}{fp wr:List Addr}{n:Nat}{P:Nat->Value->Prop}{St:Nat->Heap->Prop}
end
section
variable {X:Cx}
end
end L2
namespace L2
open PySem PySem.Spec PyProof.Rows PySem.SeqAt
def Ite (K:Yae) (a:Addr):It :=
 ⟨fun i H=>∃ xs x,SqL K H a xs/\xs[i]?=some x,fun i H y H'=>∃ p x,H p=none/\y=.ref p/\H'=upd H p (.tup [.int i,x])/\∀ xs,SqL K H a xs->xs[i]?=some x,fun i H=>∃ xs,SqL K H a xs/\xs.length<=i⟩
theorem Zgp {P:Program}{w:World}{K:Yae}{es:List Expr}{x1}{pos:Pos} (a it e:Addr) (hne:e≠it):Turn P w K (.Tuple es x1 pos) (Ite K a) [e,it] e (fun i h=>(∃ old,IsEnum h e it (i:Nat) old)/\h.IsListIter it a i) where
 mem:=by simp
 obj:=fun i h st b hb=>by
  obtain⟨⟨old,s1⟩,s2⟩:=st;rcases Yav.mp hb with z | z
  ·subst z;exact⟨_,s1,fun v z=>nomatch z⟩
  ·have z:b=it:=by simpa using z
   subst z;obtain⟨o,e,c,d⟩:=s2;exact⟨o,e,fun v z=>by rw[d] at z;cases z⟩
 keep:=fun i h h' st k=>by
  obtain⟨⟨old,s1⟩,s2⟩:=st;exact⟨⟨old,k e (by simp) _ s1⟩,s2.at fun o q=>k it (by simp) o q⟩
 item:=by
  intro X hP hw hK hc i pins s σ H E I hf st hg;subst hP hw hK;obtain⟨xs,x,hq,hx⟩:=hg;obtain⟨its,rv,p,hz⟩:=I.list hq;obtain⟨u,hu,ru⟩:=rv.get hx;obtain⟨⟨old,s1⟩,s2⟩:=st;refine wpAny_pyNext_enum_item s1 s2 p.isList (x:=u) (by simpa using hu) hne fun h' ho hit ht hsz hk=>?_;refine⟨_,rfl,?_⟩;refine wpAny_letOwnedTupleGo_enum ho fun h'' he hs=>?_;have fresh:H s.heap.objs.size=none:=I.hok.fresh (Yas _);have k:∀ b o,b ∉ [e,it]->s.heap.get? b=some o->h''.get? b=some o:=fun b o hb q=>by
   have hb':b≠e/\b≠it:=by simpa using hb
   exact (hs.2 b hb'.1).trans (hk b o hb'.1 hb'.2 q)
  have nE:∀ b∈[e,it],H b=none:=fun b hb=>(hf b hb).1
  have nit:∀ b u,H b=some u->b ∉ [e,it]:=fun b u q z=>by rw[nE b z] at q;cases q
  have hpe:s.heap.objs.size≠e:=YbU (Yar s1);have htup:h''.get? s.heap.objs.size=some { cls:=.type "tuple",data:=.seq #[.int i s.toks,u] }:=(hs.2 _ hpe).trans ht;have newOk:ObjOk X.prog X.w (upd H s.heap.objs.size (.tup [.int i,x])) h'' s.heap.objs.size (.tup [.int i,x]):=by
   refine⟨?_,[.int i s.toks,u],.cons ⟨_,rfl⟩ (.cons ru .nil),⟨_,htup,rfl,rfl,0,rfl⟩⟩;show 2<=sizeLine
   decide
  have I1:Inv X pins σ (upd H s.heap.objs.size (.tup [.int i,x])) { s with heap:=h'',toks:=s.toks+1 }:=by
   refine I.step (g':=s.gens) (d':=s.drawn) (ch:=[e,it]) (fun b hb=>?_) (fun b o _ _ hc q _=>k b o hc q) (fun b o _ _ hc q _=>⟨o.slots,k b o hc q⟩) (fun b o _ q n=>?_) (fun b o hc q=>⟨o,k b o hc q⟩)
    (fun b xs q=>by rw[upd_ne (Zae q fresh)];exact q) (fun b o xs q=>by rw[upd_ne (Zae q fresh)];exact q) (fun b ps q=>⟨#[],by rw[upd_ne (Zae q fresh),q];simp⟩) (fun m hm=>?_) (fun b ob q=>?_) I.bare
   ·obtain⟨f0,f1,f2,f3,f4,f5⟩:=hf b hb;exact⟨f3,f1,f4,f5⟩
   ·rw[upd_ne (YaS (Yar q))];exact n
   ·obtain⟨o,es,ep,ho,r⟩:=hm;refine⟨o,es,ep,k _ o (fun z=>?_) ho,r⟩;exact (hf _ z).2.1 rfl
   ·by_cases hb:b=s.heap.objs.size
    ·subst hb;rw[Zab] at q;cases q;exact newOk
    ·rw[upd_ne hb] at q;refine (I.hok b ob q).stay (fun c v hc r=>k c v ?_ r) (fun c r=>by rw[upd_ne (Zae r fresh)];exact r) fun c xs r=>by rw[upd_ne (Zae r fresh)];exact r
     rcases hc with z | z
     ·rw[z];exact nit b ob q
     ·exact nit c _ z
  refine⟨.ref s.heap.objs.size,_,I1,rfl,⟨s.heap.objs.size,x,fresh,rfl,rfl,fun ys hy=>by rw[I.list_inj hy hq];exact hx⟩,⟨⟨u,?_⟩,?_⟩,fun b hb=>?_⟩
  ·have he:IsEnum h'' e it ((i:Int)+1) u:=he;show IsEnum h'' e it ((i+1:Nat):Int) u;rw[show ((i+1:Nat):Int)=(i:Int)+1 by (clear hpe hsz hz hne;omega)];exact he
  ·exact hit.extBut hs.extBut (YaX hne)
  ·have lt:b<s.heap.objs.size:=by
    rcases Yav.mp hb with z | z
    ·rw[z];exact Yar s1
    ·have z:b=it:=by simpa using z
     rw[z];obtain⟨o,q,_⟩:=s2;exact Yar q
   rw[upd_ne (YaS lt)];exact nE b hb
 done:=by
  intro X hP hw hK hc i pins s σ H E I hf st hg;subst hP hw hK;obtain⟨xs,hq,hx⟩:=hg;obtain⟨its,rv,p,hz⟩:=I.list hq;obtain⟨⟨old,s1⟩,s2⟩:=st;obtain⟨f0,f1,f2,f3,f4,f5⟩:=hf it (by simp);have hl:=rv.length;exact wpAny_pyNext_enum_end (I.ok.hd hc) s1 s2 p.isList (by simp;(clear f3 f2 f1 hz hne;omega)) fun h' eb=>⟨rfl,I.turned (t':=s.toks) (fun b o hb q=>eb b o hb q) f0 f1 f3 f4 f5⟩
 self:=fun _ _ _ _ _ st h=>by
  obtain⟨⟨old,s1⟩,_⟩:=st;exact wpAny_pyIter_enum s1 h
section
variable {X:Cx}
theorem ZaW:Zbk X (.builtin "isinstance") (fun xs H Q=>∃ x T t b,xs=[x,.ty T]/\TyOf X.K H x t/\Yco X.K t (.type T)=some b/\Q (.bl b) H):=by
 intro pins s σ H xs us Q I r h;obtain⟨x,T,t,b,rfl,ty,e,q⟩:=h;obtain⟨u,u2,rfl,r1,r2⟩:=Zh9 r;cases r2;exact Zhn I r1 ty e fun tk=>⟨.bl b,H,I.tok _,rfl,q⟩
end
end L2
namespace L2
open PySem PySem.Spec PyProof.Rows
section
variable {κ:Type} [DecidableEq κ]
end
section
variable {P:Program}{w:World}{H:Hp}{h:Heap}{a:Addr}
end
section
variable {X:Cx}{pins:List (Addr × Obj)}{σ:St}{H:Hp}{s:Shared}{a:Addr}{y v:V}{u r:Value}{o:Option V}{A:Around}{E:Value->Shared->Prop}
end
section
variable {X:Cx}{pins:List (Addr × Obj)}{σ:St}{H:Hp}{s:Shared}{a:Addr}{kvs:List (Key × V)}{k:Key}{u:Value}{A:Around}{E:Value->Shared->Prop}
end
section
variable {X:Cx}{o i e value:Expr}{pos pos' tpos:Pos}{td ty tv:TE}
end
section
variable {X:Cx}{pos:Pos}
end
structure M1 (X:Cx) (o:Expr) (m:Str) (apos:Pos) (e:Expr) (cpos:Pos):Prop where
 base:attributeBase o m X.env (eval o X.env)=eval o X.env
 few:((backTo cpos (starEach [e] X.env)).all (fun x=>!x.1) && (backToKw cpos (keywordEach [] X.env)).all (fun x=>x.1.isSome)
  && decide (([e]:List Expr).length+([]:List Keyword).length+(if ([]:List Keyword).isEmpty then 0 else 1)<30))=true
 line:(apos.endLine == cpos.line)=true
 trees:backTo cpos (starEach [e] X.env)=[(false,eval e X.env)]
structure M2 (X:Cx) (o:Expr) (m:Str) (apos:Pos) (e f:Expr) (cpos:Pos):Prop where
 base:attributeBase o m X.env (eval o X.env)=eval o X.env
 few:((backTo cpos (starEach [e,f] X.env)).all (fun x=>!x.1) && (backToKw cpos (keywordEach [] X.env)).all (fun x=>x.1.isSome)
  && decide (([e,f]:List Expr).length+([]:List Keyword).length+(if ([]:List Keyword).isEmpty then 0 else 1)<30))=true
 line:(apos.endLine == cpos.line)=true
 trees:backTo cpos (starEach [e,f] X.env)=[(false,eval e X.env),(false,eval f X.env)]
section
variable {X:Cx}{pins:List (Addr × Obj)}{σ:St}{H:Hp}{s:Shared}{a:Addr}{y d:V}{u r:Value}{o:Option V}{A:Around}{E:Value->Shared->Prop}
end
section
variable {X:Cx}{o e f:Expr}{apos cpos:Pos}{td ty tx:TE}
end
section
variable {X:Cx}{pins:List (Addr × Obj)}{σ:St}{H:Hp}{s:Shared}{a:Addr}{kvs:List (Key × V)}{A:Around}{E:Value->Shared->Prop}
end
section
variable {X:Cx}{pins:List (Addr × Obj)}{σ:St}{H:Hp}{s:Shared}{a:Addr}{y:V}{u:Value}{A:Around}{E:Value->Shared->Prop}
end
end L2
namespace L2
open PySem PySem.Spec PyProof.Rows
section
variable {κ:Type} [DecidableEq κ]
end
end L2
namespace L2
open PySem PySem.Spec PyProof.Rows PySem.SeqAt
section
variable {prog:Program}{w:World}{A:Around}{E:Value->Shared->Prop}{s:Shared}
theorem Zdj {it t:Addr}{i:Nat}{items:Array Value}{x:Value}{Q:Value->Shared->Prop} (hit:s.heap.IsTupleIter it t i) (ht:s.heap.IsTuple t items) (hx:items[i]?=some x)
  (hQ:∀ h',h'.IsTupleIter it t (i+1)->Ydi it s.heap h'->Q x { s with heap:=h' }):wpAny (model prog w) A (Ya8 (.ref it)) Q E s:=by
 obtain⟨o,ho,hc,hd⟩:=id hit;obtain⟨ol,hol,_,nl,hdl⟩:=ht;unfold Ya8;refine wpAny_bind (wpAny_callSpecial?_slot (name:=YcD "__next__") hit.typeIs F.slot_tuple_iterator_next (wpAny_call_entry F.slot_tuple_iterator_next hit.typeIs F.entry_tuple_iterator_next ?_ (F.args_tuple_iterator_next_1 _)));show wpAny _ _ (field (.ref it) 0 >>= _) _ _ s;refine wpAny_bind (wpAny_field ho hd (x:=.ref t) rfl ?_);show wpAny _ _ (if (Yb7 t == Ycx)=true then _ else _) _ _ s;rw[if_neg (show ¬ ((Yb7 t == Ycx)=true) from YaF)];show wpAny _ _ (field (.ref it) 1 >>= _) _ _ s;refine wpAny_bind (wpAny_field ho hd (x:=.int i 0) rfl ?_);show wpAny _ _ (seqItems? (.ref t) >>= _) _ _ s;refine wpAny_bind (wpAny_seqItems hol hdl ?_);simp only[Ybh,hx];refine wpAny_bind (wpAny_setField ho hd (by simp) (wpAny_pure ⟨x,rfl,wpAny_pure (hQ _ ?_ (YdY ..))⟩));exact⟨_,YeD _ ho (Obj.isFreed_of_fields (Ye0 hd _)),(Obj.cls_mapFields ..).trans hc,by rw[Ye0 hd];simp[rawInt]⟩
theorem Zbh {it t:Addr}{i:Nat}{items:Array Value}{Q:Value->Shared->Prop} (hh:A.handled=none) (hit:s.heap.IsTupleIter it t i) (ht:s.heap.IsTuple t items) (hx:items[i]?=none)
  (hE:∀ h' e,Ydp it s.heap h'->(∃ o,h'.get? e=some o/\o.cls=.type "StopIteration")->E (.ref e) { s with heap:=h' }):wpAny (model prog w) A (Ya8 (.ref it)) Q E s:=by
 obtain⟨o,ho,hc,hd⟩:=id hit;obtain⟨ol,hol,_,nl,hdl⟩:=ht;unfold Ya8;refine wpAny_bind (wpAny_callSpecial?_slot (name:=YcD "__next__") hit.typeIs F.slot_tuple_iterator_next (wpAny_call_entry F.slot_tuple_iterator_next hit.typeIs F.entry_tuple_iterator_next ?_ (F.args_tuple_iterator_next_1 _)));show wpAny _ _ (field (.ref it) 0 >>= _) _ _ s;refine wpAny_bind (wpAny_field ho hd (x:=.ref t) rfl ?_);show wpAny _ _ (if (Yb7 t == Ycx)=true then _ else _) _ _ s;rw[if_neg (show ¬ ((Yb7 t == Ycx)=true) from YaF)];show wpAny _ _ (field (.ref it) 1 >>= _) _ _ s;refine wpAny_bind (wpAny_field ho hd (x:=.int i 0) rfl ?_);show wpAny _ _ (seqItems? (.ref t) >>= _) _ _ s;refine wpAny_bind (wpAny_seqItems hol hdl ?_);simp only[Ybh,hx];refine wpAny_bind (wpAny_rule (wpAny_bind (wpAny_setField ho hd (by simp) ?_)));show wpAny _ _ (newExc (.type "StopIteration") [] >>= _) _ _ _;refine wpAny_bind ?_;simp only[newExc,newTuple];refine wpAny_bind (wpAny_newObj_type ?_ (by size_fits));refine wpAny_bind (m:=firstArgMember _ _) (wpAny_of_eq (a:=Ycx) (by first | rfl | (simp only[firstArgMember];rfl)) ?_);refine wpAny_newObj_type ?_ (by size_fits);simp only[raiseNew];refine wpAny_bind (wpAny_handled ?_)
 first | rw[show A.in1.handled=none from hh] | rw[hh]
 refine wpAny_bind (wpAny_pure (wpAny_throw ?_));exact hE _ _ (((YdY ..).extBut.push _).push _) ⟨_,YaA _ rfl,rfl⟩
theorem ZhB (hh:A.handled=none) (it l:Addr) (hne:l≠it) (items:Array Value):Draws prog w A it [it,l] items.size (fun i v=>items[i]?=some v) (fun i h=>h.IsTupleIter it l i/\h.IsTuple l items) where
 live:=fun _ _ st=>let ⟨o,ho,_⟩:=st.1;⟨o,ho⟩
 frame:=fun _ _ _ st hk=>⟨st.1.at fun o e=>hk it (by simp) o e,let ⟨o,e,c⟩:=st.2;⟨o,hk l (by simp) o e,c⟩⟩
 item:=fun i s Q E hi st hQ=>by
  refine Zdj st.1 st.2 (x:=items[i]) (by simp[hi]) fun h' hit' hs'=>?_;exact hQ _ h' s.toks (by simp[hi]) ⟨hit',let ⟨o,e,c⟩:=st.2;⟨o,(hs'.2 l hne).trans e,c⟩⟩ hs'
 done:=fun s Q E st hE=>Zbh hh st.1 st.2 (by simp) hE
end
theorem Zew (l:Addr) (items:Array Value) (n:Nat) (dct:Option Addr) (sl:Array (Option Value)) :
  Meets (Builtin.«enumerate.__new__» ⟨[.type "enumerate",.ref l],[]⟩) (fun _ R s=>s.heap.get? l=some { cls:=.type "tuple",dict:=dct,data:=.seq items n,slots:=sl } /\
   R (.ok (.ret (.ref (s.heap.push { cls:=.type "tuple_iterator",data:=.fields #[.ref l,.int 0 0] }).objs.size)))
    { s with heap:=(s.heap.push { cls:=.type "tuple_iterator",data:=.fields #[.ref l,.int 0 0] }).push { cls:=.type "enumerate",data:=.fields #[.none,.bool false,.ref s.heap.objs.size,rawInt 0,.none,.none] } }) :=
 .of_wp fun prog w A R s h=>by
  obtain⟨hp,g,d,tk,os⟩:=s;obtain⟨hl,h⟩:=h;have hsub:=sub_enumerate;have hL:Ydj (Ycs ⟨hp,g,d,tk,os⟩) l items:=⟨_,hl,rfl,n,rfl⟩
  wp_walk using Ycq hl
  refine wpAny_stack_any fun st=>wpAny_pure ?_;split
  ·rename_i c _ _ _ _ _;cases (c == Value.type "enumerate")
   ·wp_walk using Ycq hl,wpAny_pyIter_tuple hL
    exact⟨_,rfl,h⟩
   ·wp_walk using Ycq hl,wpAny_pyIter_tuple hL
    exact⟨_,rfl,h⟩
  ·wp_walk using Ycq hl,wpAny_pyIter_tuple hL
   exact⟨_,rfl,h⟩
section
variable {prog:Program}{w:World}{A:Around}{E:Value->Shared->Prop}{s:Shared}
theorem Zev {e it l:Addr}{i:Nat}{items:Array Value}{old:Value}{Q:Option Value->Shared->Prop} (hh:A.handled=none) (he:IsEnum s.heap e it i old) (hit:s.heap.IsTupleIter it l i) (hl:s.heap.IsTuple l items) (hx:items[i]?=none)
  (hQ:∀ h',Ydp it s.heap h'->Q none { s with heap:=h' }):wpAny (model prog w) A (pyNext (.ref e)) Q E s:=by
 have hT:s.TypeIs (.ref e) "enumerate":=⟨_,he,rfl⟩
 unfold pyNext;refine wpAny_bind (wpAny_attempt (wpAny_callSpecial?_slot (name:=YcD "__next__") hT F.slot_enumerate_next (wpAny_call_entry F.slot_enumerate_next hT F.entry_enumerate_next ?_ (F.args_enumerate_next_1 _))));show wpAny _ _ (field (.ref e) 2 >>= _) _ _ _;refine wpAny_bind (wpAny_field he rfl (x:=.ref it) rfl ?_);refine wpAny_bind (Zbh hh hit hl hx fun h' x he' hx'=>?_);obtain⟨o,ho,hc⟩:=hx';refine wpAny_bind (wpAny_isInstance (T:="StopIteration") (b:=true) ⟨o,ho,hc⟩ isSubtype_stop ?_);exact wpAny_pure (hQ _ he')
theorem Zd0 {l:Addr}{items:Array Value}{Q:Value->Shared->Prop} (hL:s.heap.IsTuple l items)
  (h:∀ h',IsEnum h' (s.heap.objs.size+1) s.heap.objs.size 0 .none->h'.IsTupleIter s.heap.objs.size l 0->(∀ b o,s.heap.get? b=some o->h'.get? b=some o)->Q (.ref (s.heap.objs.size+1)) { s with heap:=h' }) :
  wpAny (model prog w) A (call (.type "enumerate") [.ref l]) Q E s:=by
 obtain⟨⟨c,dct,dt,sl⟩,hl,hc,n,hd⟩:=hL
 replace hc:c=.type "tuple":=hc
 replace hd:dt=.seq items n:=hd
 subst hc hd;refine callType_new F.called_enumerate (by decide) (F.typeCall_enumerate_1 _) (F.newCall_enumerate_1 _) (fun obj=>F.args_object_init_2 obj _) F.entry_enumerate_new (Zew l items n dct sl) ⟨hl,?_⟩;have hz:(s.heap.push { cls:=.type "tuple_iterator",data:=.fields #[.ref l,.int 0 0] }).objs.size=s.heap.objs.size+1:=YbF ..;show _/\_;rw[hz];have he:IsEnum ((s.heap.push { cls:=.type "tuple_iterator",data:=.fields #[.ref l,.int 0 0] }).push { cls:=.type "enumerate",data:=.fields #[.none,.bool false,.ref s.heap.objs.size,rawInt 0,.none,.none] }) (s.heap.objs.size+1) s.heap.objs.size 0 .none:=by
  have:=YaA (s.heap.push { cls:=.type "tuple_iterator",data:=.fields #[.ref l,.int 0 0] }) (o:={ cls:=.type "enumerate",data:=.fields #[.none,.bool false,.ref s.heap.objs.size,rawInt 0,.none,.none] }) rfl;rw[hz] at this;exact this
 exact⟨⟨_,he,rfl⟩,h _ he ⟨_,Yag _ (YaA _ rfl),rfl,rfl⟩ fun b o x=>Yag _ (Yag _ x)⟩
end
def IteT (K:Yae) (a:Addr):It :=
 ⟨fun i H=>∃ xs x,SqT K H a xs/\xs[i]?=some x,fun i H y H'=>∃ p x,H p=none/\y=.ref p/\H'=upd H p (.tup [.int i,x])/\∀ xs,SqT K H a xs->xs[i]?=some x,fun i H=>∃ xs,SqT K H a xs/\xs.length<=i⟩
theorem ZfY {P:Program}{w:World}{K:Yae}{es:List Expr}{x1}{pos:Pos} (a it e:Addr) (hne:e≠it):Turn P w K (.Tuple es x1 pos) (IteT K a) [e,it] e (fun i h=>(∃ old,IsEnum h e it (i:Nat) old)/\h.IsTupleIter it a i) where
 mem:=by simp
 obj:=fun i h st b hb=>by
  obtain⟨⟨old,s1⟩,s2⟩:=st;rcases Yav.mp hb with z | z
  ·subst z;exact⟨_,s1,fun v z=>nomatch z⟩
  ·have z:b=it:=by simpa using z
   subst z;obtain⟨o,e,c,d⟩:=s2;exact⟨o,e,fun v z=>by rw[d] at z;cases z⟩
 keep:=fun i h h' st k=>by
  obtain⟨⟨old,s1⟩,s2⟩:=st;exact⟨⟨old,k e (by simp) _ s1⟩,s2.at fun o q=>k it (by simp) o q⟩
 item:=by
  intro X hP hw hK hc i pins s σ H E I hf st hg;subst hP hw hK;obtain⟨xs,x,hq,hx⟩:=hg;obtain⟨its,rv,p,hz⟩:=I.tuple hq;obtain⟨u,hu,ru⟩:=rv.get hx;obtain⟨⟨old,s1⟩,s2⟩:=st;have hlt:(i:Nat)<its.toArray.size:=by
   have:=(Yaa.mp hu).1
   simpa using this
  have nea:a≠it:=by
   rintro rfl;obtain⟨o1,q1,c1,_⟩:=p;obtain⟨o2,q2,c2,_⟩:=id s2;rw[q1] at q2;cases q2;rw[c1] at c2;injection c2 with z;exact absurd z (by decide)
  have nee:a≠e:=by
   rintro rfl;obtain⟨o1,q1,c1,_⟩:=p;have s1':s.heap.get? a=some _:=s1;rw[q1] at s1';cases s1';injection c1 with z;exact absurd z (by decide)
  have it2:s.heap.IsTuple a its.toArray:=p;refine wpAny_pyNext_enum_itemD (ZhB (A:=X.A.in1) (I.ok.hd hc) it a nea its.toArray) s1 ⟨s2,it2⟩ hlt hne (by simp[hne,YaX nee]) fun u' h' tk' hu' ho hst ht hsz hk=>?_;have eu:u'=u:=by
   have:its.toArray[i]?=some u:=by simpa using hu
   rw[this] at hu';exact (Yay hu').symm
  subst eu;have hit:=hst.1;refine⟨_,rfl,?_⟩;refine wpAny_letOwnedTupleGo_enum ho fun h'' he hs=>?_;have fresh:H s.heap.objs.size=none:=I.hok.fresh (Yas _);have k:∀ b o,b ∉ [e,it]->s.heap.get? b=some o->h''.get? b=some o:=fun b o hb q=>by
   have hb':b≠e/\b≠it:=by simpa using hb
   exact (hs.2 b hb'.1).trans (hk b o hb'.1 hb'.2 q)
  have nE:∀ b∈[e,it],H b=none:=fun b hb=>(hf b hb).1
  have nit:∀ b u,H b=some u->b ∉ [e,it]:=fun b u q z=>by rw[nE b z] at q;cases q
  have hpe:s.heap.objs.size≠e:=YbU (Yar s1);have htup:h''.get? s.heap.objs.size=some { cls:=.type "tuple",data:=.seq #[.int i tk',u'] }:=(hs.2 _ hpe).trans ht;have newOk:ObjOk X.prog X.w (upd H s.heap.objs.size (.tup [.int i,x])) h'' s.heap.objs.size (.tup [.int i,x]):=by
   refine⟨?_,[.int i tk',u'],.cons ⟨_,rfl⟩ (.cons ru .nil),⟨_,htup,rfl,rfl,0,rfl⟩⟩;show 2<=sizeLine
   decide
  have I1:Inv X pins σ (upd H s.heap.objs.size (.tup [.int i,x])) { s with heap:=h'',toks:=tk'+1 }:=by
   refine I.step (g':=s.gens) (d':=s.drawn) (ch:=[e,it]) (fun b hb=>?_) (fun b o _ _ hc q _=>k b o hc q) (fun b o _ _ hc q _=>⟨o.slots,k b o hc q⟩) (fun b o _ q n=>?_) (fun b o hc q=>⟨o,k b o hc q⟩)
    (fun b xs q=>by rw[upd_ne (Zae q fresh)];exact q) (fun b o xs q=>by rw[upd_ne (Zae q fresh)];exact q) (fun b ps q=>⟨#[],by rw[upd_ne (Zae q fresh),q];simp⟩) (fun m hm=>?_) (fun b ob q=>?_) I.bare
   ·obtain⟨f0,f1,f2,f3,f4,f5⟩:=hf b hb;exact⟨f3,f1,f4,f5⟩
   ·rw[upd_ne (YaS (Yar q))];exact n
   ·obtain⟨o,es,ep,ho,r⟩:=hm;refine⟨o,es,ep,k _ o (fun z=>?_) ho,r⟩;exact (hf _ z).2.1 rfl
   ·by_cases hb:b=s.heap.objs.size
    ·subst hb;rw[Zab] at q;cases q;exact newOk
    ·rw[upd_ne hb] at q;refine (I.hok b ob q).stay (fun c v hc r=>k c v ?_ r) (fun c r=>by rw[upd_ne (Zae r fresh)];exact r) fun c xs r=>by rw[upd_ne (Zae r fresh)];exact r
     rcases hc with z | z
     ·rw[z];exact nit b ob q
     ·exact nit c _ z
  refine⟨.ref s.heap.objs.size,_,I1,rfl,⟨s.heap.objs.size,x,fresh,rfl,rfl,fun ys hy=>by rw[I.tuple_inj hy hq];exact hx⟩,⟨⟨u',?_⟩,?_⟩,fun b hb=>?_⟩
  ·have he:IsEnum h'' e it ((i:Int)+1) u':=he;show IsEnum h'' e it ((i+1:Nat):Int) u';rw[show ((i+1:Nat):Int)=(i:Int)+1 by (clear hpe hsz hst nee nea hlt hz hne;omega)];exact he
  ·exact hit.extBut hs.extBut (YaX hne)
  ·have lt:b<s.heap.objs.size:=by
    rcases Yav.mp hb with z | z
    ·rw[z];exact Yar s1
    ·have z:b=it:=by simpa using z
     rw[z];obtain⟨o,q,_⟩:=s2;exact Yar q
   rw[upd_ne (YaS lt)];exact nE b hb
 done:=by
  intro X hP hw hK hc i pins s σ H E I hf st hg;subst hP hw hK;obtain⟨xs,hq,hx⟩:=hg;obtain⟨its,rv,p,hz⟩:=I.tuple hq;obtain⟨⟨old,s1⟩,s2⟩:=st;obtain⟨f0,f1,f2,f3,f4,f5⟩:=hf it (by simp);have hl:=rv.length;exact Zev (I.ok.hd hc) s1 s2 (show s.heap.IsTuple a its.toArray from p) (by simp;(clear f3 f2 f1 hz hne;omega)) fun h' eb=>⟨rfl,I.turned (t':=s.toks) (fun b o hb q=>eb b o hb q) f0 f1 f3 f4 f5⟩
 self:=fun _ _ _ _ _ st h=>by
  obtain⟨⟨old,s1⟩,_⟩:=st;exact wpAny_pyIter_enum s1 h
def SqB (b:Bool) (K:Yae) (H:Hp) (a:Addr) (xs:List V):Prop:=match b with | true=>SqL K H a xs | false=>SqT K H a xs
def IteB (b:Bool) (K:Yae) (a:Addr):It:=match b with | true=>Ite K a | false=>IteT K a
def Zll (K:Yae) (ta:TA):TI:=fun σ H R=>ta σ H fun vs H1=>∃ a b,vs=[.ref a]/\(∃ xs,SqB b K H1 a xs)/\R (IteB b K a) H1
theorem Zis {X:Cx}{es:List Expr}{x1}{tpos:Pos}{e:Expr}{ta:TA}{p pos:Pos} (hg:Gl X "enumerate") (hm:X.mg "enumerate"=none) (ha:PA X [e] ta) (hs:starEach [e] X.env=[(false,eval e X.env)]:=by rfl) :
  PI X (.Tuple es x1 tpos) (.Call (.Name "enumerate" p) [e] [] pos) (Zll X.K ta):=by
 intro pins s σ H R I h;refine Call_ (Zdk I hg hm (show bootBuiltins "enumerate"=some (.type "enumerate") by decide +kernel) (Yb5 (thn (ha pos pins s σ H _ I h) fun us s1 ⟨vs,H1,I1,r1,q1⟩=>?_) hs rfl));obtain⟨a,b,e1,⟨xs,hq⟩,q⟩:=q1;subst e1;obtain⟨u,rfl,r⟩:=Zci r1;cases r;have fp:∀ b∈[s1.heap.objs.size+1,s1.heap.objs.size],FpOk X pins H1 b:=fun b hb=>by
  have ge:s1.heap.objs.size<=b:=by
   rcases Yav.mp hb with z | z
   ·rw[z];exact Ydb _
   ·have z:b=s1.heap.objs.size:=by simpa using z
    rw[z];exact Yas _
  exact I1.fpOk ge (I1.hok.fresh ge)
 cases b with
 | true=>
  obtain⟨its,rv,pl,hz⟩:=I1.list hq;refine call_enumerate_list pl.isList fun h' he hi hsz k=>wpAny_pyIter_enum he ?_;exact⟨s1.heap.objs.size+1,[s1.heap.objs.size+1,s1.heap.objs.size],_,_,H1,rfl,I1.kept (t':=s1.toks) k,Zgp a s1.heap.objs.size _ (YbU (Ycz _)),⟨⟨.none,he⟩,hi⟩,fp,q⟩
 | false=>
  obtain⟨its,rv,pl,hz⟩:=I1.tuple hq;refine Zd0 (show s1.heap.IsTuple a its.toArray from pl) fun h' he hi k=>wpAny_pyIter_enum he ?_;exact⟨s1.heap.objs.size+1,[s1.heap.objs.size+1,s1.heap.objs.size],_,_,H1,rfl,I1.kept (t':=s1.toks) k,ZfY a s1.heap.objs.size _ (YbU (Ycz _)),⟨⟨.none,he⟩,hi⟩,fp,q⟩
end L2
namespace L2
open PySem PySem.Spec PyProof.Rows PySem.SeqAt
section
variable {X:Cx}
theorem ZbO (ns:List Int):∀ k,k<=ns.length->preSum (fun i=>ns.getD i 0) k=(ns.take k).sum
 | 0,_=>by simp[preSum]
 | k+1,h=>by
  have hk:k<ns.length:=by omega
  rw[Ya4 hk,YcE,<- ZbO ns k (by (clear hk;omega))];simp[preSum,Yad,hk]
theorem ZeD (hc:X.calm=true):Zbk X (.builtin "sum") (fun xs H Q=>∃ (a:Addr) (ns:List Int),xs=[.ref a]/\SqL X.K H a (ns.map V.int)/\Q (.int ns.sum) H):=by
 intro pins s σ H xs us Q I r h;obtain⟨a,ns,rfl,hq,q⟩:=h;obtain⟨u,rfl,r1⟩:=Zci r;cases r1;obtain⟨its,rv,p,hz⟩:=I.list hq;refine call_sum_walkG (wpAny_pyIter_list p.isList ?_);have hlt:=(let ⟨o,n,e,_⟩:=p;Yar e:a<s.heap.objs.size)
 have hne:a≠s.heap.objs.size:=YaS hlt;have hlen:its.toArray.size=ns.length:=by rw[Yat,<- rv.length,Yac]
 refine⟨s.heap.objs.size,_,_,_,_,_,fun i=>ns.getD i 0,rfl,Walks.list (A:=X.A.in1) (I.ok.hd hc) _ a hne its.toArray,⟨⟨_,YaA _ rfl,rfl,rfl⟩,?_⟩,?_,?_,?_⟩
 ·obtain⟨o,n,e,c,_,d⟩:=p;exact⟨o,Yag _ e,c,n,d⟩
 ·intro b hb;rcases Yav.mp hb with z | z
  ·rw[z,YbF];exact Ycz _
  ·have z:b=a:=by simpa using z
   rw[z,YbF];exact YdG hlt
 ·intro i v e;have hi:i<its.toArray.size:=(Yd3.mp e).1
  obtain⟨t,q⟩:=ZdT rv hi;rw[Ycr hi] at e;have e':=Yay e;rw[q] at e';exact⟨t,e'.symm⟩
 ·intro h' tk t' k;refine⟨.int ns.sum,H,I.kept (h':=h') (t':=tk) fun b o e=>k b o ?_ (Yag _ e),⟨t',?_⟩,q⟩
  ·intro hm;have:b=s.heap.objs.size:=by simpa using hm
   rw[this] at e;exact absurd (Yar e) (Ybp _)
  ·rw[hlen,ZbO ns _ (Yas _),YaT]
end
end L2
namespace L2
open PySem PySem.Spec PyProof.Rows PySem.SeqAt
section
variable {X:Cx}
theorem Zd6 {ns:List Int}:∀ {us:List Value},IntsAre us ns->Vals (ns.map V.int) us:=by
 intro us h
 induction h with
 | nil=>exact .nil
 | cons=>rename_i ih;exact .cons ⟨_,rfl⟩ ih
theorem ZfS:Zbk X (.type "range") (fun xs H Q=>∃ j:Int,xs=[.int j]/\∀ p,H p=none->Q (.ref p) (upd H p (.rng 0 j))):=by
 intro pins s σ H xs us Q I r h;obtain⟨j,rfl,q⟩:=h;obtain⟨u,rfl,t,rfl⟩:=Zci r;refine call_range_1 ⟨.ref s.heap.objs.size,_,I.laid (a:=s.heap.objs.size) (o:=.rng 0 j) (fun b o q=>Yag _ q) (Yas _) ?_,rfl,q _ (I.hok.fresh (Yas _))⟩;exact⟨_,_,_,YaA _ rfl⟩
theorem ZbV {f:Nat->Int}:∀ (n:Nat) (us:List Value),us.length=n->(∀ (j:Nat) v,us[j]?=some v->∃ t,v=.int (f j) t)->Vals (((Yap n).map f).map V.int) us
 | 0,us,hl,_=>by
  have:us=[]:=Ybu.mp hl;subst this;exact .nil
 | n+1,us,hl,h=>by
  have hne:us≠[]:=by rintro rfl;cases hl
  have e:=YbD hne;rw[Ych,YaB,YaB,<- e];have hd:us.dropLast.length=n:=by rw[Ydm,hl];rfl
  refine Vals.append (ZbV n us.dropLast hd fun j v hj=>h j v ?_) (.cons ?_ .nil)
  ·rw[<- e,Yaj (Yaa.mp hj).1];exact hj
  ·have hn:n<us.length:=by (clear hd;omega)
   have hg:us[n]?=some (us.getLast hne):=by
    rw[Yab hn,Yc8];simp[hl]
   obtain⟨t,q⟩:=h n (us.getLast hne) hg;exact⟨t,q⟩
theorem Zce (hc:X.calm=true):Zbk X (.type "list") (fun xs H Q=>∃ (p:Addr) (j:Int),xs=[.ref p]/\H p=some (.rng 0 j)/\0<=j/\j<=1000/\∀ l,H l=none->Q (.ref l) (upd H l (.lst (((Yap j.toNat).map fun (i:Nat)=>(i:Int)).map V.int)))):=by
 intro pins s σ H xs us Q I r h;obtain⟨p,j,rfl,hp,j0,j1,q⟩:=h;obtain⟨u,rfl,r1⟩:=Zci r;cases r1;obtain⟨t,u,v,ho⟩:=I.hok p _ hp;have sz:Ydy 0 j 1=(j.toNat:Nat):=by rw[rangeSize_one];split <;> (clear j1 j0;omega)
 refine call_list_range (I.ok.hd hc) (show IsRange s.heap p 0 j 1 t u v from ho) (small_one (by (clear sz j1 j0;omega)) (by (clear sz j1 j0;omega)) (by (clear sz j1;omega)) (by (clear sz j0;omega))) sz (by (clear sz j0;omega)) fun h' tk acc' c' k hS hacc=>?_;have hlen:acc'.toList.length=j.toNat:=by simpa using hacc.1
 refine⟨.ref s.heap.objs.size,_,I.laid (a:=s.heap.objs.size) (o:=.lst (((Yap j.toNat).map fun (i:Nat)=>(i:Int)).map V.int)) (t':=tk) k (Yas _) ?_,rfl,q _ (I.hok.fresh (Yas _))⟩;refine⟨?_,acc'.toList,c',ZbV j.toNat acc'.toList hlen (fun i v hv=>?_),by simpa using hS⟩
 ·rw[Yac,Yac,Yb3];exact Ybi (Zas (by (clear hlen sz j0;omega)))
 ·obtain⟨t,q⟩:=hacc.2 i v (by simpa using hv);exact⟨t,by rw[q];congr 1;(clear hlen sz j1 j0;omega)⟩
end
end L2
namespace L2
open PySem PySem.Spec PyProof.Rows PySem.SeqAt
theorem Inv.pairOut {X:Cx}{pins:List (Addr × Obj)}{σ:St}{H:Hp}{s:Shared}{h':Heap}{fp:List Addr}{x y:V}{u v:Value}{tk:Nat} (I:Inv X pins σ H s) (hf:∀ b∈fp,FpOk X pins H b)
  (k:∀ b o,b ∉ fp->s.heap.get? b=some o->h'.get? b=some o) (ht:IsPair h' s.heap.objs.size u v) (hlf:∀ b∈fp,b<s.heap.objs.size) (hth:∀ b∈fp,∃ o,h'.get? b=some o) (rx:RelV x u) (ry:RelV y v) :
  Inv X pins σ (upd H s.heap.objs.size (.tup [x,y])) { s with heap:=h',toks:=tk }:=by
 have fresh:H s.heap.objs.size=none:=I.hok.fresh (Yas _);have nit:∀ b o,H b=some o->b ∉ fp:=fun b o q z=>by rw[(hf b z).1] at q;cases q
 have newOk:ObjOk X.prog X.w (upd H s.heap.objs.size (.tup [x,y])) h' s.heap.objs.size (.tup [x,y]):=by
  refine⟨?_,[u,v],.cons rx (.cons ry .nil),⟨_,ht,rfl,rfl,0,rfl⟩⟩;show 2<=sizeLine
  decide
 refine I.step (g':=s.gens) (d':=s.drawn) (ch:=fp) (fun b hb=>?_) (fun b o _ _ hc q _=>k b o hc q) (fun b o _ _ hc q _=>⟨o.slots,k b o hc q⟩) (fun b o _ q n=>?_) (fun b o hc q=>⟨o,k b o hc q⟩)
  (fun b xs q=>by rw[upd_ne (Zae q fresh)];exact q) (fun b o xs q=>by rw[upd_ne (Zae q fresh)];exact q) (fun b ps q=>⟨#[],by rw[upd_ne (Zae q fresh),q];simp⟩) (fun m hm=>?_) (fun b ob q=>?_) I.bare
 ·obtain⟨f0,f1,f2,f3,f4,f5⟩:=hf b hb;exact⟨f3,f1,f4,f5⟩
 ·rw[upd_ne (YaS (Yar q))];exact n
 ·obtain⟨o,es,ep,ho,r⟩:=hm;exact⟨o,es,ep,k _ o (fun z=>(hf _ z).2.1 rfl) ho,r⟩
 ·by_cases hb:b=s.heap.objs.size
  ·subst hb;rw[Zab] at q;cases q;exact newOk
  ·rw[upd_ne hb] at q;refine (I.hok b ob q).stay (fun c v hc r=>k c v ?_ r) (fun c r=>by rw[upd_ne (Zae r fresh)];exact r) fun c xs r=>by rw[upd_ne (Zae r fresh)];exact r
   rcases hc with z | z
   ·rw[z];exact nit b ob q
   ·exact nit c _ z
theorem Inv.turnedAll {X:Cx}{pins:List (Addr × Obj)}{σ:St}{H:Hp}{s:Shared}{h':Heap}{fp:List Addr}{tk:Nat} (I:Inv X pins σ H s) (hf:∀ b∈fp,FpOk X pins H b) (k:∀ b o,b ∉ fp->s.heap.get? b=some o->h'.get? b=some o) :
  Inv X pins σ H { s with heap:=h',toks:=tk }:=by
 have nit:∀ b o,H b=some o->b ∉ fp:=fun b o q z=>by rw[(hf b z).1] at q;cases q
 refine I.step (g':=s.gens) (d':=s.drawn) (ch:=fp) (fun b hb=>?_) (fun b o _ _ hc q _=>k b o hc q) (fun b o _ _ hc q _=>⟨o.slots,k b o hc q⟩) (fun b o _ q n=>n) (fun b o hc q=>⟨o,k b o hc q⟩) (fun _ _ q=>q) (fun _ _ _ q=>q) (fun b ps q=>⟨#[],by rw[q];simp⟩) (fun m hm=>?_) (fun b ob q=>?_) I.bare
 ·obtain⟨f0,f1,f2,f3,f4,f5⟩:=hf b hb;exact⟨f3,f1,f4,f5⟩
 ·obtain⟨o,es,ep,ho,r⟩:=hm;exact⟨o,es,ep,k _ o (fun z=>(hf _ z).2.1 rfl) ho,r⟩
 ·refine (I.hok b ob q).stay (fun c v hc r=>k c v ?_ r) (fun _ q=>q) fun _ _ q=>q;rcases hc with z | z
  ·rw[z];exact nit b ob q
  ·exact nit c _ z
end L2
namespace L2
open PySem PySem.Spec PyProof.Rows PySem.SeqAt
section
variable {X:Cx}
theorem Zg0:OpR X (binaryOp .Mult) (rI (fun i j=>∃ m n,YbH i<=m/\YbH j<=n/\m+n<=134217728) fun i j=>.int (i*j)) :=
 opI fun _ _ _ _ _ _ _ hc q=>mul_int q (by obtain⟨m,n,h1,h2,h3⟩:=hc;exact IntMulOk.of_le h1 h2 h3)
theorem Zix:OpR X (binaryOp .FloorDiv) (rI (fun _ j=>0<j/\YbH j<=8000) fun i j=>.int (i / j)):=opI fun i j _ _ _ _ _ hc q=>by
 have h1:(0:Int)<j:=hc.1;have h2:j.natAbs<2 ^ 8000:=intBits_le_iff.mp hc.2;refine floordiv_int (by (clear h2 h1;omega)) (by rw[Yeb i (by (clear h2 h1;omega))];exact q) (.inl (PyProof.noPylong_of_log2 ?_));have h3:j.natAbs.log2<8000:=(Nat.log2_lt (by (clear h2 h1;omega))).mpr h2
 (clear h2 h1 hc;omega)
theorem ZgH {ns ms:List Int}:(((Yap (min ns.length ms.length)).all fun i=>ns.getD i 0 == ms.getD i 0) && (ns.length == ms.length))=decide (ns=ms):=by
 by_cases h:ns.length=ms.length
 ·rw[<- h,Nat.min_self,Zin h];simp
 ·rw[decide_eq_false (fun z=>h (by rw[z]))];simp[h]
def rNeT (K:Yae):R2:=fun x y H Q=>∃ (a b:Addr) (ns ms:List Int),x=.ref a/\y=.ref b/\SqT K H a (ns.map V.int)/\SqT K H b (ms.map V.int)/\Q (.bl (!decide (ns=ms))) H
theorem Zk1 (hu:X.A.units<cLine):OpR X (compareOp .NotEq) (rNeT X.K):=by
 intro pins s σ H x y v u Q I rx ry h;obtain⟨a,b,ns,ms,rfl,rfl,ha,hb,q⟩:=h;cases rx;cases ry;obtain⟨its,r1,p1,_⟩:=I.tuple ha;obtain⟨its2,r2,p2,_⟩:=I.tuple hb;have l1:its.toArray.size=ns.length:=by rw[Yat,<- r1.length,Yac]
 have l2:its2.toArray.size=ms.length:=by rw[Yat,<- r2.length,Yac]
 refine RcNeAt.tuples (e:=fun i=>ns.getD i 0 == ms.getD i 0) (show s.heap.IsTuple a its.toArray from p1) (show s.heap.IsTuple b its2.toArray from p2) hu (fun j h1 h2=>?_) _ _ _ _ ?_
 ·obtain⟨t1,e1⟩:=ZdT r1 h1;obtain⟨t2,e2⟩:=ZdT r2 h2;rw[e1,e2];exact EqAt.int_int _ _ _ _
 ·rw[l1,l2,ZgH];exact⟨.bl _,H,I,rfl,q⟩
theorem ZeC (hc:X.calm=true):Zbk X (.builtin "sum") (fun xs H Q=>∃ (a:Addr) (ns:List Int),xs=[.ref a]/\SqT X.K H a (ns.map V.int)/\Q (.int ns.sum) H):=by
 intro pins s σ H xs us Q I r h;obtain⟨a,ns,rfl,hq,q⟩:=h;obtain⟨u,rfl,r1⟩:=Zci r;cases r1;obtain⟨its,rv,p0,hz⟩:=I.tuple hq;have p:s.heap.IsTuple a its.toArray:=p0;refine call_sum_walkG (wpAny_pyIter_tuple p ?_);have hlt:a<s.heap.objs.size:=by obtain⟨o,e,_⟩:=p;exact Yar e
 have hne:a≠s.heap.objs.size:=YaS hlt;have hlen:its.toArray.size=ns.length:=by rw[Yat,<- rv.length,Yac]
 refine⟨s.heap.objs.size,_,_,_,_,_,fun i=>ns.getD i 0,rfl,Walks.tuple (A:=X.A.in1) (I.ok.hd hc) _ a hne its.toArray,⟨⟨_,YaA _ rfl,rfl,rfl⟩,?_⟩,?_,?_,?_⟩
 ·obtain⟨o,e,c,d⟩:=p;exact⟨o,Yag _ e,c,d⟩
 ·intro b hb;rcases Yav.mp hb with z | z
  ·rw[z,YbF];exact Ycz _
  ·have z:b=a:=by simpa using z
   rw[z,YbF];exact YdG hlt
 ·intro i v e;have hi:i<its.toArray.size:=(Yd3.mp e).1
  obtain⟨t,q⟩:=ZdT rv hi;rw[Ycr hi] at e;have e':=Yay e;rw[q] at e';exact⟨t,e'.symm⟩
 ·intro h' tk t' k;refine⟨.int ns.sum,H,I.kept (h':=h') (t':=tk) fun b o e=>k b o ?_ (Yag _ e),⟨t',?_⟩,q⟩
  ·intro hm;have:b=s.heap.objs.size:=by simpa using hm
   rw[this] at e;exact absurd (Yar e) (Ybp _)
  ·rw[hlen,ZbO ns _ (Yas _),YaT]
end
section
variable {prog:Program}{w:World}{A:Around}{E:Value->Shared->Prop}{s:Shared}
end
section
variable {X:Cx}
end
theorem ZiX {K:Yae}{own:List Str}{js:List Nat}{g:TG}{tt:TT}{te:TE}{σ:St}{H1:Hp}{Q:VK}{a:Addr}{xs:List V} (Pv:Addr->Nat->Hp->Prop) (h0:∀ acc,H1 acc=none->Pv acc 0 (upd H1 acc (.lst []))) (hl:∀ acc i H,H1 acc=none->i<=xs.length->Pv acc i H->SqT K H a xs)
  (hs:∀ acc i x H,H1 acc=none->xs[i]?=some x->Pv acc i H->g x (blkσ own js σ) H fun τ H4=>tt τ H4 fun c H5=>
   if c=true then te τ H5 fun y H6=>∃ ys,H6 acc=some (.lst ys)/\ys.length<sizeLine/\(i+1<=xs.length/\Pv acc (i+1) (upd H6 acc (.lst (ys++[y])))) else (i+1<=xs.length/\Pv acc (i+1) H5))
  (hd:∀ acc H,H1 acc=none->Pv acc xs.length H->Q (.ref acc) H):ZaY own js g tt te σ (Itt K a) H1 Q:=by
 intro acc hacc;refine⟨fun i H=>i<=xs.length/\Pv acc i H,xs.length,⟨YaO _,h0 acc hacc⟩,?_⟩;rintro i H ⟨hi,p⟩;have q:=hl acc i H hacc hi p;by_cases hlt:i<xs.length
 ·refine .inr ⟨hlt,⟨xs,xs[i],q,by simp[hlt]⟩,fun x H' y=>?_⟩;obtain⟨e,y⟩:=y;subst e;exact hs acc i x _ hacc (y xs q) p
 ·have e:i=xs.length:=by omega
  subst e;exact .inl ⟨⟨xs,q,Yas _⟩,hd acc H hacc p⟩
end L2
namespace L2
open PySem PySem.Spec PyProof.Rows PySem.SeqAt
def HIt (b:Bool) (h:Heap) (it l:Addr) (i:Nat):Prop:=match b with | true=>h.IsListIter it l i | false=>h.IsTupleIter it l i
def HSq (b:Bool) (h:Heap) (l:Addr) (xs:Array Value):Prop:=match b with | true=>h.IsList l xs | false=>h.IsTuple l xs
theorem HIt.at {b:Bool}{h h':Heap}{it l:Addr}{i:Nat} (x:HIt b h it l i) (e:∀ o,h.get? it=some o->h'.get? it=some o):HIt b h' it l i:=by
 cases b
 ·exact Heap.IsTupleIter.at x e
 ·exact Heap.IsListIter.at x e
theorem HIt.ext {b:Bool}{h h':Heap}{it l c:Addr}{i:Nat} (x:HIt b h it l i) (hs:Ydp c h h') (n:it≠c):HIt b h' it l i:=x.at fun o e=>hs _ _ n e
theorem HIt.obj {b:Bool}{h:Heap}{it l:Addr}{i:Nat} (x:HIt b h it l i):∃ o,h.get? it=some o/\∀ v:Option Value,o.data≠.cell v:=by
 cases b
 ·obtain⟨o,e,_,d⟩:=x;exact⟨o,e,fun v q=>by rw[d] at q;cases q⟩
 ·obtain⟨o,e,_,d⟩:=x;exact⟨o,e,fun v q=>by rw[d] at q;cases q⟩
theorem HSq.ext {b:Bool}{h h':Heap}{l c:Addr}{xs:Array Value} (x:HSq b h l xs) (hs:Ydp c h h') (n:l≠c):HSq b h' l xs:=by
 cases b
 ·exact Heap.IsTuple.extBut x hs n
 ·exact Heap.IsList.extBut x hs n
section
variable {prog:Program}{w:World}{A:Around}{E:Value->Shared->Prop}{s:Shared}
theorem Zj2 {b:Bool}{it l:Addr}{i:Nat}{items:Array Value}{x:Value}{Q:Value->Shared->Prop} (hit:HIt b s.heap it l i) (hl:HSq b s.heap l items) (hx:items[i]?=some x) (hQ:∀ h',HIt b h' it l (i+1)->Ydi it s.heap h'->Q x { s with heap:=h' }) :
  wpAny (model prog w) A (Ya8 (.ref it)) Q E s:=by
 cases b
 ·exact Zdj hit hl hx hQ
 ·exact wpAny_nextOf_list_item hit hl hx hQ
theorem Zen {b:Bool}{it l:Addr}{i:Nat}{items:Array Value}{Q:Value->Shared->Prop} (hh:A.handled=none) (hit:HIt b s.heap it l i) (hl:HSq b s.heap l items) (hx:items[i]?=none)
  (hE:∀ h' e,Ydp it s.heap h'->(∃ o,h'.get? e=some o/\o.cls=.type "StopIteration")->E (.ref e) { s with heap:=h' }):wpAny (model prog w) A (Ya8 (.ref it)) Q E s:=by
 cases b
 ·exact Zbh hh hit hl hx hE
 ·exact wpAny_nextOf_list_end hh hit hl hx hE
theorem Zgk {b1 b2:Bool}{z TI TO i1 i2 l1 l2:Addr}{k1 k2:Nat}{xs ys:Array Value}{x y a b:Value}{Q:Value->Shared->Prop} (D:ZipApart z TI TO i1 i2 l1 l2) (hz:IsZip s.heap z TI TO .none) (hTI:IsPair s.heap TI (.ref i1) (.ref i2)) (hTO:IsPair s.heap TO a b)
  (h1:HIt b1 s.heap i1 l1 k1) (h2:HIt b2 s.heap i2 l2 k2) (hl1:HSq b1 s.heap l1 xs) (hl2:HSq b2 s.heap l2 ys) (hx:xs[k1]?=some x) (hy:ys[k2]?=some y)
  (hQ:∀ h',IsZip h' z TI TO (rawInt s.heap.objs.size)->IsPair h' TO x y->HIt b1 h' i1 l1 (k1+1)->HIt b2 h' i2 l2 (k2+1)->IsPair h' s.heap.objs.size x y->h'.objs.size=s.heap.objs.size+1 ->
   (∀ c o,c≠z->c≠TO->c≠i1->c≠i2->s.heap.get? c=some o->h'.get? c=some o)->Q (.ref s.heap.objs.size) { s with heap:=h' }) :
  wpAny (model prog w) A (Builtin.«zip.__next__» ⟨[.ref z],[]⟩) (fun fin s'=>∃ v,fin=.done (.ret v)/\Q v s') E s:=by
 refine wpAny_bind (m:=field (.ref z) 2) (wpAny_field hz rfl (x:=.bool false) rfl ?_);refine wpAny_bind (m:=field (.ref z) 3) (wpAny_field hz rfl (x:=.ref TI) rfl (wpAny_bind (wpAny_seqItems hTI rfl ?_)));refine wpAny_bind (m:=YbO (.ref z)) ?_;unfold YbO;refine wpAny_bind (wpAny_field hz rfl (x:=.none) rfl (wpAny_pure ?_));simp only[if_true];refine wpAny_bind (wpAny_rule (wpAny_bind (wpAny_field hz rfl (x:=.ref TO) rfl ?_)));refine wpAny_bind (wpAny_setField_rec hz (by simp) fun h₁ hz₁ hs₁=>?_)
 replace hz₁:IsZip h₁ z TI TO .ellipsis:=hz₁
 refine wpAny_bind ?_;simp only[YdK,List.zipIdx_nil,YdV,List.forIn_nil];refine wpAny_bind (wpAny_bind (wpAny_onRaise (wpAny_bind (m:=Ya8 (.ref i1)) ?_)));refine Zj2 (h1.ext hs₁.extBut D.i1z) (hl1.ext hs₁.extBut D.l1z) hx fun h₂ h1₂ hs₂=>wpAny_pure ?_;have t2:IsPair h₂ TO a b:=hs₂.extBut _ _ D.TOi1 (hs₁.extBut _ _ D.TOz hTO);refine wpAny_bind (wpAny_seqItems t2 rfl (wpAny_bind (wpAny_updateSeq_pair t2 fun h₃ hTO₃ hs₃=>?_)))
 replace hTO₃:IsPair h₃ TO x b:=hTO₃
 refine wpAny_bind (wpAny_letGo (wpAny_pure (wpAny_bind (wpAny_bind (wpAny_onRaise (wpAny_bind (m:=Ya8 (.ref i2)) ?_))))));refine Zj2 (((h2.ext hs₁.extBut D.i2z).ext hs₂.extBut D.i12.symm).ext hs₃.extBut D.TOi2.symm) (((hl2.ext hs₁.extBut D.l2z).ext hs₂.extBut D.l2i1).ext hs₃.extBut D.l2TO) hy fun h₄ h2₄ hs₄=>wpAny_pure ?_;have t4:IsPair h₄ TO x b:=hs₄.extBut _ _ D.TOi2 hTO₃;refine wpAny_bind (wpAny_seqItems t4 rfl (wpAny_bind (wpAny_updateSeq_pair t4 fun h₅ hTO₅ hs₅=>?_)))
 replace hTO₅:IsPair h₅ TO x y:=hTO₅
 refine wpAny_bind (wpAny_letGo (wpAny_pure (wpAny_pure (wpAny_bind (wpAny_seqItems hTO₅ rfl (wpAny_bind (wpAny_newTuple ?_)))))));have hsz:h₅.objs.size=s.heap.objs.size:=by rw[hs₅.1,hs₄.1,hs₃.1,hs₂.1,hs₁.1]
 have hz₅:IsZip h₅ z TI TO .ellipsis:=hs₅.extBut _ _ D.TOz.symm (hs₄.extBut _ _ D.i2z.symm (hs₃.extBut _ _ D.TOz.symm (hs₂.extBut _ _ D.i1z.symm hz₁)));have k5:∀ c o,c≠z->c≠TO->c≠i1->c≠i2->s.heap.get? c=some o->h₅.get? c=some o:=fun c o c1 c2 c3 c4 e=>hs₅.extBut _ _ c2 (hs₄.extBut _ _ c4 (hs₃.extBut _ _ c2 (hs₂.extBut _ _ c3 (hs₁.extBut _ _ c1 e))));have j1:HIt b1 h₅ i1 l1 (k1+1):=((h1₂.ext hs₃.extBut D.TOi1.symm).ext hs₄.extBut D.i12).ext hs₅.extBut D.TOi1.symm;have j2:HIt b2 h₅ i2 l2 (k2+1):=h2₄.ext hs₅.extBut D.TOi2.symm;have zlt:z<h₅.objs.size:=Yar hz₅;refine wpAny_bind (m:=Yc1 (.ref z) (.ref h₅.objs.size)) ?_;unfold Yc1;have hz₆:IsZip (h₅.push { cls:=.type "tuple",data:=.seq #[x,y] }) z TI TO .ellipsis:=Yag _ hz₅;refine wpAny_bind (wpAny_setField_rec hz₆ (by simp) fun h₇ hz₇ hs₇=>?_)
 replace hz₇:IsZip h₇ z TI TO (rawInt h₅.objs.size):=hz₇
 refine wpAny_setField_rec hz₇ (by simp) fun h₈ hz₈ hs₈=>?_
 replace hz₈:IsZip h₈ z TI TO (rawInt h₅.objs.size):=hz₈
 have up:∀ c o,c≠z->h₅.get? c=some o->h₈.get? c=some o:=fun c o c1 e=>hs₈.extBut _ _ c1 (hs₇.extBut _ _ c1 (Yag _ e));have t8:IsPair h₈ h₅.objs.size x y:=hs₈.extBut _ _ (YbU zlt) (hs₇.extBut _ _ (YbU zlt) (YaA _ rfl));have z8:h₈.objs.size=h₅.objs.size+1:=by rw[hs₈.1,hs₇.1,YbF]
 rw[hsz] at hz₈ t8 z8;refine wpAny_pure ⟨_,rfl,?_⟩;show Q (.ref h₅.objs.size) _;rw[hsz];exact hQ h₈ hz₈ (up _ _ D.TOz hTO₅) (j1.at fun o e=>up _ o D.i1z e) (j2.at fun o e=>up _ o D.i2z e) t8 z8 fun c o c1 c2 c3 c4 e=>up c o c1 (k5 c o c1 c2 c3 c4 e)
theorem Zh7 {b1 b2:Bool}{z TI TO i1 i2 l1 l2:Addr}{k1 k2:Nat}{xs ys:Array Value}{a b:Value}{Q:Fin->Shared->Prop} (hh:A.handled=none) (D:ZipApart z TI TO i1 i2 l1 l2) (hz:IsZip s.heap z TI TO .none) (hTI:IsPair s.heap TI (.ref i1) (.ref i2)) (hTO:IsPair s.heap TO a b)
  (h1:HIt b1 s.heap i1 l1 k1) (h2:HIt b2 s.heap i2 l2 k2) (hl1:HSq b1 s.heap l1 xs) (hl2:HSq b2 s.heap l2 ys) (hend:xs[k1]?=none∨ys[k2]?=none)
  (hE:∀ h' e,(∀ c o,c≠z->c≠TO->c≠i1->c≠i2->s.heap.get? c=some o->h'.get? c=some o)->(∃ o,h'.get? e=some o/\o.cls=.type "StopIteration")->E (.ref e) { s with heap:=h' }):wpAny (model prog w) A (Builtin.«zip.__next__» ⟨[.ref z],[]⟩) Q E s:=by
 refine wpAny_bind (m:=field (.ref z) 2) (wpAny_field hz rfl (x:=.bool false) rfl ?_);refine wpAny_bind (m:=field (.ref z) 3) (wpAny_field hz rfl (x:=.ref TI) rfl (wpAny_bind (wpAny_seqItems hTI rfl ?_)));refine wpAny_bind (m:=YbO (.ref z)) ?_;unfold YbO;refine wpAny_bind (wpAny_field hz rfl (x:=.none) rfl (wpAny_pure ?_));simp only[if_true];refine wpAny_bind (wpAny_rule (wpAny_bind (wpAny_field hz rfl (x:=.ref TO) rfl ?_)));refine wpAny_bind (wpAny_setField_rec hz (by simp) fun h₁ hz₁ hs₁=>?_)
 replace hz₁:IsZip h₁ z TI TO .ellipsis:=hz₁
 refine wpAny_bind ?_;simp only[YdK,List.zipIdx_nil,YdV,List.forIn_nil];refine wpAny_bind (wpAny_bind (wpAny_onRaise (wpAny_bind (m:=Ya8 (.ref i1)) ?_)))
 cases hx:xs[k1]? with
 | none=>
  refine Zen hh (h1.ext hs₁.extBut D.i1z) (hl1.ext hs₁.extBut D.l1z) hx fun h₂ e hs₂ ⟨oe,hoe,hce⟩=>?_;have hz₂:IsZip h₂ z TI TO .ellipsis:=hs₂ _ _ D.i1z.symm hz₁;have ez:e≠z:=fun x=>by subst x;rw[hz₂] at hoe;cases hoe;simp at hce
  exact wpAny_setField_rec hz₂ (by simp) fun h₃ _ hs₃=>hE h₃ e (fun c o c1 _ c3 _ x=>hs₃.extBut _ _ c1 (hs₂ _ _ c3 (hs₁.extBut _ _ c1 x))) ⟨oe,hs₃.extBut _ _ ez hoe,hce⟩
 | some x=>
  have hy:ys[k2]?=none:=hend.resolve_left (by rw[hx];simp);refine Zj2 (h1.ext hs₁.extBut D.i1z) (hl1.ext hs₁.extBut D.l1z) hx fun h₂ h1₂ hs₂=>wpAny_pure ?_;have t2:IsPair h₂ TO a b:=hs₂.extBut _ _ D.TOi1 (hs₁.extBut _ _ D.TOz hTO);refine wpAny_bind (wpAny_seqItems t2 rfl (wpAny_bind (wpAny_updateSeq_pair t2 fun h₃ hTO₃ hs₃=>?_)));refine wpAny_bind (wpAny_letGo (wpAny_pure (wpAny_bind (wpAny_bind (wpAny_onRaise (wpAny_bind (m:=Ya8 (.ref i2)) ?_))))));refine Zen hh (((h2.ext hs₁.extBut D.i2z).ext hs₂.extBut D.i12.symm).ext hs₃.extBut D.TOi2.symm) (((hl2.ext hs₁.extBut D.l2z).ext hs₂.extBut D.l2i1).ext hs₃.extBut D.l2TO) hy fun h₄ e hs₄ ⟨oe,hoe,hce⟩=>?_;have hz₄:IsZip h₄ z TI TO .ellipsis:=hs₄ _ _ D.i2z.symm (hs₃.extBut _ _ D.TOz.symm (hs₂.extBut _ _ D.i1z.symm hz₁));have ez:e≠z:=fun x=>by subst x;rw[hz₄] at hoe;cases hoe;simp at hce
  exact wpAny_setField_rec hz₄ (by simp) fun h₅ _ hs₅=>hE h₅ e (fun c o c1 c2 c3 c4 x=>hs₅.extBut _ _ c1 (hs₄ _ _ c4 (hs₃.extBut _ _ c2 (hs₂.extBut _ _ c3 (hs₁.extBut _ _ c1 x))))) ⟨oe,hs₅.extBut _ _ ez hoe,hce⟩
theorem Zeg {b1 b2:Bool}{z TI TO i1 i2 l1 l2:Addr}{k1 k2:Nat}{xs ys:Array Value}{x y a b:Value}{Q:Option Value->Shared->Prop} (D:ZipApart z TI TO i1 i2 l1 l2) (hz:IsZip s.heap z TI TO .none) (hTI:IsPair s.heap TI (.ref i1) (.ref i2)) (hTO:IsPair s.heap TO a b)
  (h1:HIt b1 s.heap i1 l1 k1) (h2:HIt b2 s.heap i2 l2 k2) (hl1:HSq b1 s.heap l1 xs) (hl2:HSq b2 s.heap l2 ys) (hx:xs[k1]?=some x) (hy:ys[k2]?=some y)
  (hQ:∀ h',IsZip h' z TI TO (rawInt s.heap.objs.size)->IsPair h' TO x y->HIt b1 h' i1 l1 (k1+1)->HIt b2 h' i2 l2 (k2+1)->IsPair h' s.heap.objs.size x y->h'.objs.size=s.heap.objs.size+1 ->
   (∀ c o,c≠z->c≠TO->c≠i1->c≠i2->s.heap.get? c=some o->h'.get? c=some o)->Q (some (.ref s.heap.objs.size)) { s with heap:=h' }):wpAny (model prog w) A (pyNext (.ref z)) Q E s:=by
 have hT:s.TypeIs (.ref z) "zip":=⟨_,hz,rfl⟩
 unfold pyNext;exact wpAny_bind (wpAny_attempt (wpAny_callSpecial?_slot (name:=YcD "__next__") hT F.slot_zip_next (wpAny_call_entry F.slot_zip_next hT F.entry_zip_next (Zgk D hz hTI hTO h1 h2 hl1 hl2 hx hy fun h' a1 a2 a3 a4 a5 a6 a7=>wpAny_pure (hQ h' a1 a2 a3 a4 a5 a6 a7)) (F.args_zip_next_1 _))))
theorem Ze2 {b1 b2:Bool}{z TI TO i1 i2 l1 l2:Addr}{k1 k2:Nat}{xs ys:Array Value}{a b:Value}{Q:Option Value->Shared->Prop} (hh:A.handled=none) (D:ZipApart z TI TO i1 i2 l1 l2) (hz:IsZip s.heap z TI TO .none) (hTI:IsPair s.heap TI (.ref i1) (.ref i2)) (hTO:IsPair s.heap TO a b)
  (h1:HIt b1 s.heap i1 l1 k1) (h2:HIt b2 s.heap i2 l2 k2) (hl1:HSq b1 s.heap l1 xs) (hl2:HSq b2 s.heap l2 ys) (hend:xs[k1]?=none∨ys[k2]?=none)
  (hQ:∀ h',(∀ c o,c≠z->c≠TO->c≠i1->c≠i2->s.heap.get? c=some o->h'.get? c=some o)->Q none { s with heap:=h' }):wpAny (model prog w) A (pyNext (.ref z)) Q E s:=by
 have hT:s.TypeIs (.ref z) "zip":=⟨_,hz,rfl⟩
 unfold pyNext;refine wpAny_bind (wpAny_attempt (wpAny_callSpecial?_slot (name:=YcD "__next__") hT F.slot_zip_next (wpAny_call_entry F.slot_zip_next hT F.entry_zip_next (Zh7 hh D hz hTI hTO h1 h2 hl1 hl2 hend fun h' e hk ⟨o,ho,hc⟩=>?_) (F.args_zip_next_1 _))));exact wpAny_bind (wpAny_isInstance (T:="StopIteration") (b:=true) ⟨o,ho,hc⟩ isSubtype_stop (wpAny_pure (hQ _ hk)))
def Zj7 (b:Bool):String:=match b with | true=>"list_iterator" | false=>"tuple_iterator"
def zB1 (b1:Bool) (h:Heap) (l1:Addr):Heap:=h.push { cls:=.type (Zj7 b1),data:=.fields #[.ref l1,.int 0 0] }
def zB2 (b1 b2:Bool) (h:Heap) (l1 l2:Addr):Heap:=(zB1 b1 h l1).push { cls:=.type (Zj7 b2),data:=.fields #[.ref l2,.int 0 0] }
def zB3 (b1 b2:Bool) (h:Heap) (l1 l2:Addr):Heap:=(zB2 b1 b2 h l1 l2).push { cls:=.type "tuple",data:=.seq #[.ref h.objs.size,.ref (zB1 b1 h l1).objs.size] }
def zB4 (b1 b2:Bool) (h:Heap) (l1 l2:Addr):Heap:=(zB3 b1 b2 h l1 l2).push { cls:=.type "tuple",data:=.seq #[.none,.none] }
def zB5 (b1 b2:Bool) (h:Heap) (l1 l2:Addr):Heap:=(zB4 b1 b2 h l1 l2).push { cls:=.type "zip",data:=.fields #[.none,.bool false,.bool false,.ref (zB2 b1 b2 h l1 l2).objs.size,.ref (zB3 b1 b2 h l1 l2).objs.size] }
theorem Zh6 (b1 b2:Bool) (l1 l2:Addr) (xs ys:Array Value) :
  Meets (Builtin.«zip.__new__» ⟨[.type "zip",.ref l1,.ref l2],[]⟩) (fun _ R s=>HSq b1 s.heap l1 xs/\HSq b2 s.heap l2 ys/\R (.ok (.ret (.ref (zB4 b1 b2 s.heap l1 l2).objs.size))) { s with heap:=zB5 b1 b2 s.heap l1 l2 }) :=
 .of_wp fun prog w A R s h=>by
  obtain⟨hp,g,d,tk,os⟩:=s;obtain⟨hl1,hl2,h⟩:=h;have hsub:=sub_zip;cases b1 <;> cases b2
  ·have p1:Ydj (Ycs ⟨hp,g,d,tk,os⟩) l1 xs:=hl1;have p2:Ydj (Ycs ⟨hp.push { cls:=.type "tuple_iterator",data:=.fields #[.ref l1,.int 0 0] },g,d,tk,os⟩) l2 ys:=Yec hl2 _
   wp_walk using wpAny_pyIter_tuple p1,wpAny_pyIter_tuple p2
   exact⟨_,rfl,h⟩
  ·have p1:Ydj (Ycs ⟨hp,g,d,tk,os⟩) l1 xs:=hl1;have p2:YdZ (Ycs ⟨hp.push { cls:=.type "tuple_iterator",data:=.fields #[.ref l1,.int 0 0] },g,d,tk,os⟩) l2 ys:=Yem hl2 _
   wp_walk using wpAny_pyIter_tuple p1,wpAny_pyIter_list p2
   exact⟨_,rfl,h⟩
  ·have p1:YdZ (Ycs ⟨hp,g,d,tk,os⟩) l1 xs:=hl1;have p2:Ydj (Ycs ⟨hp.push { cls:=.type "list_iterator",data:=.fields #[.ref l1,.int 0 0] },g,d,tk,os⟩) l2 ys:=Yec hl2 _
   wp_walk using wpAny_pyIter_list p1,wpAny_pyIter_tuple p2
   exact⟨_,rfl,h⟩
  ·have p1:YdZ (Ycs ⟨hp,g,d,tk,os⟩) l1 xs:=hl1;have p2:YdZ (Ycs ⟨hp.push { cls:=.type "list_iterator",data:=.fields #[.ref l1,.int 0 0] },g,d,tk,os⟩) l2 ys:=Yem hl2 _
   wp_walk using wpAny_pyIter_list p1,wpAny_pyIter_list p2
   exact⟨_,rfl,h⟩
theorem HIt.made {b:Bool}{h:Heap}{it l:Addr} (e:h.get? it=some { cls:=.type (Zj7 b),data:=.fields #[.ref l,.int 0 0] }):HIt b h it l 0:=by
 cases b
 ·exact⟨_,e,rfl,rfl⟩
 ·exact⟨_,e,rfl,rfl⟩
theorem ZhR {b1 b2:Bool}{l1 l2:Addr}{xs ys:Array Value}{Q:Value->Shared->Prop} (hl1:HSq b1 s.heap l1 xs) (hl2:HSq b2 s.heap l2 ys)
  (h:∀ h',IsZip h' (s.heap.objs.size+4) (s.heap.objs.size+2) (s.heap.objs.size+3) .none->IsPair h' (s.heap.objs.size+2) (.ref s.heap.objs.size) (.ref (s.heap.objs.size+1))->IsPair h' (s.heap.objs.size+3) .none .none ->
   HIt b1 h' s.heap.objs.size l1 0->HIt b2 h' (s.heap.objs.size+1) l2 0->(∀ c o,s.heap.get? c=some o->h'.get? c=some o)->Q (.ref (s.heap.objs.size+4)) { s with heap:=h' }):wpAny (model prog w) A (call (.type "zip") [.ref l1,.ref l2]) Q E s:=by
 refine callType_new F.called_zip (by decide) (F.typeCall_zip_2 _ _) (F.newCall_zip_2 _ _) (fun obj=>F.args_object_init_3 obj _ _) F.entry_zip_new (Zh6 b1 b2 l1 l2 xs ys) ⟨hl1,hl2,?_⟩;have z1:(zB1 b1 s.heap l1).objs.size=s.heap.objs.size+1:=YbF ..;have z2:(zB2 b1 b2 s.heap l1 l2).objs.size=s.heap.objs.size+2:=by unfold zB2;rw[YbF,z1]
 have z3:(zB3 b1 b2 s.heap l1 l2).objs.size=s.heap.objs.size+3:=by unfold zB3;rw[YbF,z2]
 have z4:(zB4 b1 b2 s.heap l1 l2).objs.size=s.heap.objs.size+4:=by unfold zB4;rw[YbF,z3]
 have g5:(zB5 b1 b2 s.heap l1 l2).get? (zB4 b1 b2 s.heap l1 l2).objs.size=some _:=YaA _ rfl;have g4:(zB5 b1 b2 s.heap l1 l2).get? (zB3 b1 b2 s.heap l1 l2).objs.size=some _:=Yag _ (YaA _ rfl);have g3:(zB5 b1 b2 s.heap l1 l2).get? (zB2 b1 b2 s.heap l1 l2).objs.size=some _:=Yag _ (Yag _ (YaA _ rfl));have g2:(zB5 b1 b2 s.heap l1 l2).get? (zB1 b1 s.heap l1).objs.size=some _:=Yag _ (Yag _ (Yag _ (YaA _ rfl)));have g1:(zB5 b1 b2 s.heap l1 l2).get? s.heap.objs.size=some _:=Yag _ (Yag _ (Yag _ (Yag _ (YaA _ rfl))));show _/\_;rw[z2,z3,z4] at g5;rw[z1,z2] at g3;rw[z3] at g4;rw[z1] at g2;rw[z4];exact⟨⟨_,g5,rfl⟩,h _ g5 g3 g4 (HIt.made g1) (HIt.made g2) fun c o x=>Yag _ (Yag _ (Yag _ (Yag _ (Yag _ x))))⟩
end
theorem SqB.heap {X:Cx}{b:Bool}{pins:List (Addr × Obj)}{σ:St}{H:Hp}{s:Shared}{a:Addr}{xs:List V} (I:Inv X pins σ H s) (h:SqB b X.K H a xs):∃ its:List Value,Vals xs its/\HSq b s.heap a its.toArray:=by
 cases b
 ·obtain⟨its,r,p,_⟩:=I.tuple h;exact⟨its,r,p⟩
 ·obtain⟨its,r,p,_⟩:=I.list h;exact⟨its,r,p.isList⟩
theorem HSq.lt {b:Bool}{h:Heap}{l:Addr}{xs:Array Value} (x:HSq b h l xs):l<h.objs.size:=by
 cases b
 ·obtain⟨o,e,_⟩:=x;exact Yar e
 ·obtain⟨o,e,_⟩:=x;exact Yar e
theorem SqB.inj {X:Cx}{b:Bool}{pins:List (Addr × Obj)}{σ:St}{H:Hp}{s:Shared}{a:Addr}{xs ys:List V} (I:Inv X pins σ H s) (h:SqB b X.K H a xs) (g:SqB b X.K H a ys):xs=ys:=by
 cases b
 ·exact I.tuple_inj h g
 ·exact I.list_inj h g
def ItzB (b1 b2:Bool) (K:Yae) (a b:Addr):It :=
  ⟨fun i H=>∃ xs ys x y,SqB b1 K H a xs/\SqB b2 K H b ys/\xs[i]?=some x/\ys[i]?=some y,
   fun i H z H'=>∃ p x y,H p=none/\z=.ref p/\H'=upd H p (.tup [x,y])/\(∀ xs,SqB b1 K H a xs->xs[i]?=some x)/\∀ ys,SqB b2 K H b ys->ys[i]?=some y,
   fun i H=>∃ xs ys,SqB b1 K H a xs/\SqB b2 K H b ys/\(xs.length<=i∨ys.length<=i)⟩
end L2
namespace L2
open PySem PySem.Spec PyProof.Rows PySem.SeqAt
def Zi4 (b1 b2:Bool) (z TI TO i1 i2 l1 l2:Addr) (i:Nat) (h:Heap):Prop:=IsZip h z TI TO .none/\IsPair h TI (.ref i1) (.ref i2)/\(∃ a b,IsPair h TO a b)/\HIt b1 h i1 l1 i/\HIt b2 h i2 l2 i
theorem Zgm {P:Program}{w:World}{K:Yae}{es:List Expr}{x1}{pos:Pos}{b1 b2:Bool}{z TI TO i1 i2 l1 l2:Addr} (D:ZipApart z TI TO i1 i2 l1 l2):Turn P w K (.Tuple es x1 pos) (ItzB b1 b2 K l1 l2) [z,TI,TO,i1,i2] z (Zi4 b1 b2 z TI TO i1 i2 l1 l2) where
 mem:=by simp
 obj:=fun i h st b hb=>by
  obtain⟨h1,h2,⟨a,c,h3⟩,h4,h5⟩:=st;simp only[Yav,YbW,or_false] at hb;rcases hb with rfl | rfl | rfl | rfl | rfl
  ·exact⟨_,h1,fun v q=>nomatch q⟩
  ·exact⟨_,h2,fun v q=>nomatch q⟩
  ·exact⟨_,h3,fun v q=>nomatch q⟩
  ·exact h4.obj
  ·exact h5.obj
 keep:=fun i h h' st k=>by
  obtain⟨h1,h2,⟨a,c,h3⟩,h4,h5⟩:=st;exact⟨k z (by simp) _ h1,k TI (by simp) _ h2,⟨a,c,k TO (by simp) _ h3⟩,h4.at fun o q=>k i1 (by simp) o q,h5.at fun o q=>k i2 (by simp) o q⟩
 item:=by
  intro X hP hw hK hc i pins s σ H E I hf st hg;subst hP hw hK;obtain⟨xs,ys,x,y,hq1,hq2,hx,hy⟩:=hg;obtain⟨its,rv,p⟩:=hq1.heap I;obtain⟨its2,rv2,p2⟩:=hq2.heap I;obtain⟨u,hu,ru⟩:=rv.get hx;obtain⟨u2,hu2,ru2⟩:=rv2.get hy;obtain⟨s1,s2,⟨a,c,s3⟩,s4,s5⟩:=id st;refine Zeg D s1 s2 s3 s4 s5 p p2 (x:=u) (y:=u2) (by simpa using hu) (by simpa using hu2) fun h' g1 g2 g3 g4 g5 g6 hk=>?_;refine⟨_,rfl,?_⟩;refine wpAny_letOwnedTupleGo_zip g1 fun h'' he hs=>?_;have live:∀ b∈[z,TI,TO,i1,i2],b<s.heap.objs.size:=fun b hb=>by
   obtain⟨h1,h2,⟨a,c,h3⟩,h4,h5⟩:=st;obtain⟨o4,e4,_⟩:=h4.obj;obtain⟨o5,e5,_⟩:=h5.obj;simp only[Yav,YbW,or_false] at hb;rcases hb with rfl | rfl | rfl | rfl | rfl
   ·exact Yar h1
   ·exact Yar h2
   ·exact Yar h3
   ·exact Yar e4
   ·exact Yar e5
  have hsz:s.heap.objs.size≠z:=YbU (live z (by simp));have k:∀ b o,b ∉ [z,TI,TO,i1,i2]->s.heap.get? b=some o->h''.get? b=some o:=fun b o hb q=>by
   simp only[Yav,YbW,or_false,not_or] at hb;exact (hs.2 b hb.1).trans (hk b o hb.1 hb.2.2.1 hb.2.2.2.1 hb.2.2.2.2 q)
  have st':Zi4 b1 b2 z TI TO i1 i2 l1 l2 (i+1) h'':=by
   refine⟨he,(hs.2 TI D.TIz).trans (hk TI _ D.TIz D.TITO D.TIi1 D.TIi2 s2),⟨u,u2,(hs.2 TO D.TOz).trans g2⟩,?_,?_⟩
   ·exact g3.ext hs.extBut D.i1z
   ·exact g4.ext hs.extBut D.i2z
  have th:∀ b∈[z,TI,TO,i1,i2],∃ o,h''.get? b=some o:=fun b hb=>by
   obtain⟨h1,h2,⟨a,c,h3⟩,h4,h5⟩:=st';obtain⟨o4,e4,_⟩:=h4.obj;obtain⟨o5,e5,_⟩:=h5.obj;simp only[Yav,YbW,or_false] at hb;rcases hb with rfl | rfl | rfl | rfl | rfl
   ·exact⟨_,h1⟩
   ·exact⟨_,h2⟩
   ·exact⟨_,h3⟩
   ·exact⟨_,e4⟩
   ·exact⟨_,e5⟩
  have fresh:H s.heap.objs.size=none:=I.hok.fresh (Yas _);refine⟨.ref s.heap.objs.size,_,I.pairOut (fp:=[z,TI,TO,i1,i2]) (tk:=s.toks) hf k ((hs.2 _ hsz).trans g5) live th ru ru2,rfl,⟨s.heap.objs.size,x,y,fresh,rfl,rfl,fun ys hy=>by rw[hy.inj I hq1];exact hx,fun zs hz=>by rw[hz.inj I hq2];exact hy⟩,st',fun b hb=>?_⟩;rw[upd_ne (YaS (live b hb))];exact (hf b hb).1
 done:=by
  intro X hP hw hK hc i pins s σ H E I hf st hg;subst hP hw hK;obtain⟨xs,ys,hq1,hq2,hx⟩:=hg;obtain⟨its,rv,p⟩:=hq1.heap I;obtain⟨its2,rv2,p2⟩:=hq2.heap I;obtain⟨s1,s2,⟨a,c,s3⟩,s4,s5⟩:=st;have e1:=rv.length;have e2:=rv2.length;refine Ze2 (I.ok.hd hc) D s1 s2 s3 s4 s5 p p2 (by rcases hx with q | q;exact .inl (by simp;(clear e2;omega));exact .inr (by simp;(clear e1;omega))) fun h' hk=>⟨rfl,I.turnedAll (fp:=[z,TI,TO,i1,i2]) (tk:=s.toks) hf fun b o hb q=>?_⟩
  simp only[Yav,YbW,or_false,not_or] at hb;exact hk b o hb.1 hb.2.2.1 hb.2.2.2.1 hb.2.2.2.2 q
 self:=fun _ _ _ _ _ st h=>wpAny_pyIter_zip st.1 h
def ZlS (K:Yae) (ta:TA):TI:=fun σ H R=>ta σ H fun vs H1=>∃ b1 b2 a b,vs=[.ref a,.ref b]/\(∃ xs,SqB b1 K H1 a xs)/\(∃ ys,SqB b2 K H1 b ys)/\R (ItzB b1 b2 K a b) H1
theorem ZjQ {X:Cx}{es:List Expr}{x1}{tpos:Pos}{e f:Expr}{ta:TA}{p pos:Pos} (hg:Gl X "zip") (hm:X.mg "zip"=none) (ha:PA X [e,f] ta) (hs:starEach [e,f] X.env=[(false,eval e X.env),(false,eval f X.env)]:=by rfl) (hs2:starEach [f] X.env=[(false,eval f X.env)]:=by rfl) :
  PI X (.Tuple es x1 tpos) (.Call (.Name "zip" p) [e,f] [] pos) (ZlS X.K ta):=by
 intro pins s σ H R I h;refine Call_ (Zdk I hg hm (show bootBuiltins "zip"=some (.type "zip") by decide +kernel) (Yb5 (thn (ha pos pins s σ H _ I h) fun us s1 ⟨vs,H1,I1,r1,q1⟩=>?_) (by rw[hs,hs2]) (by rw[hs2];rfl)));obtain⟨b1,b2,a,b,e1,⟨xs,hq⟩,⟨ys,hq2⟩,q⟩:=q1;subst e1;obtain⟨u,u2,rfl,r,r2⟩:=Zh9 r1;cases r;cases r2;obtain⟨its,rv,pl⟩:=hq.heap I1;obtain⟨its2,rv2,pl2⟩:=hq2.heap I1;have la:=pl.lt;have lb:=pl2.lt;have ne:∀ {i j:Nat},i≠j->s1.heap.objs.size+i≠s1.heap.objs.size+j:=fun h z=>h (Nat.add_left_cancel z);have nl:∀ {c:Addr} (i:Nat),c<s1.heap.objs.size->c≠s1.heap.objs.size+i:=fun i h=>YaS (Yau h (Nat.le_add_right _ _));refine ZhR pl pl2 fun h' g1 g2 g3 g4 g5 k=>wpAny_pyIter_zip g1 ?_;have D:ZipApart (s1.heap.objs.size+4) (s1.heap.objs.size+2) (s1.heap.objs.size+3) (s1.heap.objs.size+0) (s1.heap.objs.size+1) a b :=
  ⟨ne (by decide),ne (by decide),ne (by decide),ne (by decide),ne (by decide),ne (by decide),ne (by decide),ne (by decide),ne (by decide),ne (by decide),nl 4 la,nl 3 la,nl 0 la,nl 1 la,nl 4 lb,nl 3 lb,nl 0 lb,nl 1 lb⟩
 refine⟨s1.heap.objs.size+4,[s1.heap.objs.size+4,s1.heap.objs.size+2,s1.heap.objs.size+3,s1.heap.objs.size+0,s1.heap.objs.size+1],_,_,H1,rfl,I1.kept (t':=s1.toks) k,Zgm D,⟨g1,g2,⟨_,_,g3⟩,g4,g5⟩,fun c hc=>?_,q⟩;have ge:s1.heap.objs.size<=c:=by
  simp only[Yav,YbW,or_false] at hc;rcases hc with rfl | rfl | rfl | rfl | rfl <;> exact Nat.le_add_right _ _
 exact I1.fpOk ge (I1.hok.fresh ge)
end L2
namespace L2
open PySem PySem.Spec PyProof.Rows PySem.SeqAt
theorem Zd1 (K:Yae) {X:Cx} (hK:X.K=K:=by rfl):Zbk X (.type "list") (fun xs H Q=>∃ p ys,xs=[.ref p]/\(SqL K H p ys∨SqT K H p ys)/\∀ l,H l=none->Q (.ref l) (upd H l (.lst ys))):=by subst hK;exact Zcy
theorem Zcf (K:Yae) {X:Cx} (hK:X.K=K:=by rfl):Zbk X (.builtin "len") (fun xs H Q=>∃ p ys,xs=[.ref p]/\(SqL K H p ys∨SqT K H p ys)/\Q (.int ys.length) H):=by subst hK;exact ZaH
theorem CompOk.bare {X:Cx}{scope:Scope}{own:List Str} (h:((scope.kind == .function) && scope.names.all fun y=>(y.2 != .cell) && (y.2 != .free) && ((y.2 != .local) || (scope.names.lookup y.1 == some .local)))=true):CompOk X scope own []:=by
 simp only[Yb8,beq_iff_eq,Ycv,Bool.or_eq_true,bne_iff_ne,ne_eq] at h;obtain⟨h1,h2⟩:=h;refine⟨h1,fun y hy=>(h2 y hy).1.1,fun y hy hf=>absurd hf (h2 y hy).1.2,fun y hy hl=>?_,fun j hj=>by cases hj⟩;rcases (h2 y hy).2 with z | z
 ·exact absurd hl z
 ·exact z
section
variable {X:Cx}
def LLs (H:Hp) (rs:List Addr) (N:List (List Int)):Prop:=rs.length=N.length/\∀ (j:Nat) r xs,rs[j]?=some r->N[j]?=some xs->H r=some (.lst (xs.map V.int))
def TTs (H:Hp) (rs:List Addr) (N:List (List Int)):Prop:=rs.length=N.length/\∀ (j:Nat) r xs,rs[j]?=some r->N[j]?=some xs->H r=some (.tup (xs.map V.int))
theorem LLs.same {H H':Hp}{rs:List Addr}{N:List (List Int)} (h:LLs H rs N) (s:Same H H'):LLs H' rs N:=⟨h.1,fun j r xs a b=>s _ _ (h.2 j r xs a b)⟩
theorem LLs.lst {H:Hp}{rs:List Addr}{N:List (List Int)}{acc:Addr}{ys:List V} (h:LLs H rs N) (e:acc ∉ rs):LLs (upd H acc (.lst ys)) rs N:=⟨h.1,fun j r xs a b=>by
 rw[upd_ne (by intro z;subst z;exact e (Yah a))];exact h.2 j r xs a b⟩
theorem ZcC {α:Type}{xs:List α}{x y:α}{j:Nat} (h:(xs++[x])[j]?=some y):xs[j]?=some y∨(j=xs.length/\y=x):=by
 by_cases hj:j<xs.length
 ·rw[Yaj hj] at h;exact .inl h
 ·rw[Yak (by omega)] at h;have:j - xs.length=0:=by
   cases e:j - xs.length with
   | zero=>rfl
   | succ m=>rw[e] at h;simp at h
  rw[this] at h;exact .inr ⟨by omega,by simpa using h.symm⟩
theorem LLs.snoc {H:Hp}{rs:List Addr}{N:List (List Int)}{r:Addr}{x:List Int} (h:LLs H rs N) (e:H r=some (.lst (x.map V.int))):LLs H (rs++[r]) (N++[x]):=⟨by simp[h.1],fun j r' xs a b=>by
 rcases ZcC a with a | ⟨a,rfl⟩
 ·rcases ZcC b with b | ⟨b,_⟩
  ·exact h.2 j r' xs a b
  ·have:=(Yaa.mp a).1;have:=h.1;omega
 ·rcases ZcC b with b | ⟨_,rfl⟩
  ·have:=(Yaa.mp b).1;have:=h.1;omega
  ·exact e⟩
theorem ZeL (n:Nat):((Yap n).all fun _=>true)=true:=by simp
end
end L2
namespace L2
open PySem PySem.Spec PyProof.Rows
mutual
inductive RdN (H:Hp):V->PyData->Prop
 | non:RdN H .non .none
 | bl (b:Bool):RdN H (.bl b) (.bool b)
 | int (i:Int):RdN H (.int i) (.int i)
 | str (x:Str):RdN H (.str x) (.str x)
 | lst {a:Addr}{xs:List V}{ds:List PyData}:H a=some (.lst xs)->RdL H xs ds->RdN H (.ref a) (.list ds)
 | tup {a:Addr}{xs:List V}{ds:List PyData}:H a=some (.tup xs)->RdL H xs ds->RdN H (.ref a) (.tuple ds)
inductive RdL (H:Hp):List V->List PyData->Prop
 | nil:RdL H [] []
 | cons {x:V}{xs:List V}{d:PyData}{ds:List PyData}:RdN H x d->RdL H xs ds->RdL H (x::xs) (d::ds)
end
section
variable {P:Program}{w:World}{H:Hp}{h:Heap}
mutual
theorem RdN.reads (ok:HOk P w H h):∀ {v:V}{d:PyData},RdN H v d->∀ {u:Value},RelV v u->∃ as,Reads h u d as
 | _,_,.non,u,r=>by cases (show u=Ycx from r);exact⟨_,.none⟩
 | _,_,.bl b,u,r=>by cases (show u=Yd7 b from r);exact⟨_,.bool b⟩
 | _,_,.int i,u,r=>by obtain⟨t,z⟩:=(show ∃ t,u=Yeq i t from r);cases z;exact⟨_,.int i t⟩
 | _,_,.str x,u,r=>by obtain⟨t,z⟩:=(show ∃ t,u=Yep x t from r);cases z;exact⟨_,.str x t⟩
 | _,_,.lst (a:=a) (xs:=xs) e q,u,r=>by
  cases (show u=Yb7 a from r);obtain⟨_,its,n,rv,g⟩:=(show ObjOk P w H h a (.lst xs) from ok a _ e)
  obtain⟨as,z⟩:=RdL.reads ok q rv;exact⟨_,.list g rfl rfl (by simpa using z)⟩
 | _,_,.tup (a:=a) (xs:=xs) e q,u,r=>by
  cases (show u=Yb7 a from r);obtain⟨_,its,rv,o,g1,g2,_,n,g4⟩:=(show ObjOk P w H h a (.tup xs) from ok a _ e)
  obtain⟨as,z⟩:=RdL.reads ok q rv;exact⟨_,.tuple g1 g2 g4 (by simpa using z)⟩
theorem RdL.reads (ok:HOk P w H h):∀ {xs:List V}{ds:List PyData},RdL H xs ds->∀ {us:List Value},Vals xs us->∃ as,ReadsAll h us ds as
 | _,_,.nil,us,r=>by cases r;exact⟨_,.nil⟩
 | _,_,.cons p q,us,r=>by
  cases r with
  | cons r1 r2=>
   obtain⟨as,z1⟩:=RdN.reads ok p r1;obtain⟨bs,z2⟩:=RdL.reads ok q r2;exact⟨_,.cons z1 z2⟩
end
end
section
variable {X:Cx}
theorem ZeE (hg:X.A.guards=some []) (hu:X.A.units+20<cLine):Zbk X (.type "str") (fun xs H Q=>∃ (a:Addr) (d:PyData),xs=[.ref a]/\RdN H (.ref a) d/\d.showable=true/\d.hasDict=false/\d.depth<=10/\d.shown.length<=sizeLine/\Q (.str d.shown) H):=by
 intro pins s σ H xs us Q I r h;obtain⟨a,d,rfl,rd,h1,h2,h3,h4,q⟩:=h;obtain⟨u,rfl,r1⟩:=Zci r;cases r1;obtain⟨as,z⟩:=RdN.reads I.hok rd (u:=.ref a) rfl;exact str_of_reads z h1 (PyData.noDict_hsm h2) hg (by (clear h4;omega)) (fun _ _ e=>e) (fun h' u tk k=>⟨.str d.shown,H,I.kept (h':=h') (t':=tk) k,⟨_,rfl⟩,q⟩) h4
end
end L2
namespace L2
open PySem PySem.Spec PyProof.Rows PySem.SeqAt
inductive TyS (H:Hp):V->Value->Prop
 | int (i:Int):TyS H (.int i) (.type "int")
 | bl (b:Bool):TyS H (.bl b) (.type "bool")
 | lst {a:Addr}{xs:List V} (e:H a=some (.lst xs)):TyS H (.ref a) (.type "list")
 | tup {a:Addr}{xs:List V} (e:H a=some (.tup xs)):TyS H (.ref a) (.type "tuple")
section
variable {X:Cx}
end
end L2
namespace L2
open PySem PySem.Spec PyProof.Rows PySem.SeqAt
section
variable {X:Cx}
end
theorem ZhH {b1 b2:Bool}{K:Yae}{own:List Str}{js:List Nat}{g:TG}{tt:TT}{te:TE}{σ:St}{H1:Hp}{Q:VK}{a b:Addr}{xs ys:List V} (hlen:ys.length<=xs.length) (Pv:Addr->Nat->Hp->Prop) (h0:∀ acc,H1 acc=none->Pv acc 0 (upd H1 acc (.lst [])))
  (hl:∀ acc i H,H1 acc=none->i<=ys.length->Pv acc i H->SqB b1 K H a xs/\SqB b2 K H b ys)
  (hs:∀ acc i x y p H,H1 acc=none->xs[i]?=some x->ys[i]?=some y->Pv acc i H->H p=none->g (.ref p) (blkσ own js σ) (upd H p (.tup [x,y])) fun τ H4=>tt τ H4 fun c H5=>
   if c=true then te τ H5 fun y H6=>∃ zs,H6 acc=some (.lst zs)/\zs.length<sizeLine/\(i+1<=ys.length/\Pv acc (i+1) (upd H6 acc (.lst (zs++[y])))) else (i+1<=ys.length/\Pv acc (i+1) H5))
  (hd:∀ acc H,H1 acc=none->Pv acc ys.length H->Q (.ref acc) H):ZaY own js g tt te σ (ItzB b1 b2 K a b) H1 Q:=by
 intro acc hacc;refine⟨fun i H=>i<=ys.length/\Pv acc i H,ys.length,⟨YaO _,h0 acc hacc⟩,?_⟩;rintro i H ⟨hi,p⟩;obtain⟨q1,q2⟩:=hl acc i H hacc hi p;by_cases hlt:i<ys.length
 ·have hl2:i<xs.length:=by (clear hi;omega)
  refine .inr ⟨hlt,⟨xs,ys,xs[i],ys[i],q1,q2,by simp[hl2],by simp[hlt]⟩,fun x H' y=>?_⟩;obtain⟨pa,z1,z2,hp,e1,e2,y1,y2⟩:=y;subst e1 e2;exact hs acc i z1 z2 pa H hacc (y1 xs q1) (y2 ys q2) p hp
 ·have e:i=ys.length:=by (clear hlen;omega)
  subst e;exact .inl ⟨⟨xs,ys,q1,q2,.inr (Yas _)⟩,hd acc H hacc p⟩
end L2
namespace L2
open PySem PySem.Spec PyProof.Rows PySem.SeqAt
section
variable {prog:Program}{w:World}{A:Around}{E:Value->Shared->Prop}{s:Shared}
end
section
variable {X:Cx}
end
theorem Zgf {b:Bool}{K:Yae}{own:List Str}{js:List Nat}{g:TG}{tt:TT}{te:TE}{σ:St}{H1:Hp}{Q:VK}{a:Addr}{xs:List V} (Pv:Addr->Nat->Hp->Prop) (h0:∀ acc,H1 acc=none->Pv acc 0 (upd H1 acc (.lst []))) (hl:∀ acc i H,H1 acc=none->i<=xs.length->Pv acc i H->SqB b K H a xs)
  (hs:∀ acc i x p H,H1 acc=none->xs[i]?=some x->Pv acc i H->H p=none->g (.ref p) (blkσ own js σ) (upd H p (.tup [.int i,x])) fun τ H4=>tt τ H4 fun c H5=>
   if c=true then te τ H5 fun y H6=>∃ ys,H6 acc=some (.lst ys)/\ys.length<sizeLine/\(i+1<=xs.length/\Pv acc (i+1) (upd H6 acc (.lst (ys++[y])))) else (i+1<=xs.length/\Pv acc (i+1) H5))
  (hd:∀ acc H,H1 acc=none->Pv acc xs.length H->Q (.ref acc) H):ZaY own js g tt te σ (IteB b K a) H1 Q:=by
 intro acc hacc;refine⟨fun i H=>i<=xs.length/\Pv acc i H,xs.length,⟨YaO _,h0 acc hacc⟩,?_⟩;rintro i H ⟨hi,p⟩;have q:=hl acc i H hacc hi p;by_cases hlt:i<xs.length
 ·refine .inr ⟨hlt,by cases b <;> exact⟨xs,xs[i],q,by simp[hlt]⟩,fun x H' y=>?_⟩;have y:∃ pa z,H pa=none/\x=.ref pa/\H'=upd H pa (.tup [.int i,z])/\xs[i]?=some z:=by
   cases b with
   | true=>obtain⟨pa,z,hp,e1,e2,y⟩:=y;exact⟨pa,z,hp,e1,e2,y xs q⟩
   | false=>obtain⟨pa,z,hp,e1,e2,y⟩:=y;exact⟨pa,z,hp,e1,e2,y xs q⟩
  obtain⟨pa,z,hp,e1,e2,y'⟩:=y;subst e1 e2;exact hs acc i z pa H hacc y' p hp
 ·have e:i=xs.length:=by omega
  subst e;exact .inl ⟨by cases b <;> exact⟨xs,q,Yas _⟩,hd acc H hacc p⟩
end L2
namespace Lv
open PySem L2
theorem Ze5 {X:Cx}{x:Str}{T:String}{pos:Pos} (hg:Gl X x) (hm:X.mg x=none) (hv:bootBuiltins x=some (.type T)) (hn:x≠"__name__":=by decide) (hd:(x == ("__debug__":Str))=false:=by decide):PE X (.Name x pos) (tC (.ty T)) :=
 ZjT hg hm hv rfl hn hd
theorem ZgV {X:Cx}{x:Str}{i:Int}{t:Tok}{pos:Pos} (hg:Gl X x) (hm:X.mg x=some (.int i t)) (hd:(x == ("__debug__":Str))=false:=by decide):PE X (.Name x pos) (tC (.int i)) :=
 ZjR hg hm ⟨t,rfl⟩ hd
structure Txt (mg:Str->Option Value):Prop where
 isinstance:mg "isinstance"=none
 int:mg "int"=none
 bool:mg "bool"=none
 list:mg "list"=none
 tuple:mg "tuple"=none
 min:mg "min"=none
 max:mg "max"=none
 len:mg "len"=none
 range:mg "range"=none
 all:mg "all"=none
 sum:mg "sum"=none
 sorted:mg "sorted"=none
 zip:mg "zip"=none
theorem ZaO:bootBuiltins "isinstance"=some (.builtin "isinstance"):=by decide +kernel
theorem Zlv:bootBuiltins "int"=some (.type "int"):=by decide +kernel
theorem Zjo:bootBuiltins "bool"=some (.type "bool"):=by decide +kernel
theorem Zdr:bootBuiltins "list"=some (.type "list"):=by decide +kernel
theorem ZbT:bootBuiltins "tuple"=some (.type "tuple"):=by decide +kernel
theorem ZlX:bootBuiltins "min"=some (.builtin "min"):=by decide +kernel
theorem Zkp:bootBuiltins "max"=some (.builtin "max"):=by decide +kernel
theorem ZlY:bootBuiltins "all"=some (.builtin "all"):=by decide +kernel
theorem Zi2:bootBuiltins "sum"=some (.builtin "sum"):=by decide +kernel
theorem Zd2:bootBuiltins "sorted"=some (.builtin "sorted"):=by decide +kernel
theorem Ze8 {K:Yae}:Yco K (.type "int") (.type "int")=some true:=by rfl
theorem Zeq {K:Yae}:Yco K (.type "int") (.type "bool")=some false:=by with_unfolding_all rfl
theorem Zbz {K:Yae}:Yco K (.type "tuple") (.type "tuple")=some true:=by rfl
theorem Zb6 {K:Yae}:Yco K (.type "list") (.type "list")=some true:=by rfl
structure Cal (P:Program) (w:World) (K:Yae) (mg:Str->Option Value) (base:Heap) (k:Nat) (x:Str) (ps:List Str) (sp:Sp) (f:Addr) (fd:FuncData):Prop where
 ok:FnOk P w K mg base CX0 k f fd ps sp
 mg:mg x=some (.ref f)
 kp:YaE K (.ref f)=true
 bd:Binds K fd ps []
theorem Zat {X:Cx}{k:Nat}{x:Str}{ps:List Str}{sp:Sp}{f:Addr}{fd:FuncData}{e:Expr}{es:List Expr}{t:TA}{p pos:Pos} (C:Cal X.prog X.w X.K X.mg X.base k x ps sp f fd) (hr:Room k X.A) (hg:Gl X x) (ha:PA X (e::es) t)
  (hdb:(x == ("__debug__":Str))=false:=by decide) (he:starEach (e::es) X.env=(false,eval e X.env)::starEach es X.env:=by rfl) (hpl:(backTo pos (starEach es X.env)).any (·.1)=false:=by rfl) :
  PE X (.Call (.Name x p) (e::es) [] pos) (Zjy sp [] E0 t):=ZgW C.ok hr hg C.mg C.kp C.bd .nil ZkZ ha hdb he hpl
theorem ZfN (K:Yae) {X:Cx} (hK:X.K=K:=by rfl):IxR X (rIxL K):=by subst hK;exact Zar
theorem Zhm (K:Yae) {X:Cx} (hK:X.K=K:=by rfl):IxR X (rIxT K):=by subst hK;exact Za4
theorem Zbt {xs:List Int}{i:Nat}{x:V} (h:(xs.map V.int)[i]?=some x):∃ p,xs[i]?=some p/\x=.int p:=by
 rw[Yaf] at h
 cases e:xs[i]? with
 | none=>rw[e] at h;cases h
 | some p=>rw[e] at h;exact⟨p,rfl,(Yay h).symm⟩
theorem _root_.L2.Same.new {q:Addr}{H:Hp}{o:HO} (h:H q=none):Same H (upd H q o):=fun b u e=>by rw[upd_ne (Zae e h)];exact e
theorem _root_.L2.Same.put {q:Addr}{H H':Hp}{o:HO} (s:Same H H') (h:H q=none):Same H (upd H' q o):=fun b u e=>by rw[upd_ne (Zae e h)];exact s b u e
theorem _root_.L2.Same.tup {K:Yae}{H H':Hp}{a:Addr}{xs:List V} (e:Same H H') (h:SqT K H a xs):SqT K H' a xs:=by
 rcases h with (h | ⟨o,h⟩) | h
 ·exact .inl (.inl (e _ _ h))
 ·exact .inl (.inr ⟨o,e _ _ h⟩)
 ·exact .inr h
theorem ZfM {n:Nat}{x:Int} (h0:0<=x) (h1:x<n):ixN n x=some x.toNat:=by
 unfold ixN;rw[if_pos h0,if_pos h1]
theorem Zh0 {fs:List Int}{x:Int} (h0:0<=x) (h1:x<fs.length):atI (fs.map V.int) x=some (.int (fs.getD x.toNat 0)):=by
 unfold atI;have hx:x.toNat<fs.length:=by omega
 rw[Yac,ZfM h0 h1];show (fs.map V.int)[x.toNat]?=_;rw[Yaf,Yab hx,Yad,Yab hx];rfl
theorem Zd3 {c0:Int}{cr:List Int}:atI ((c0::cr).map V.int) 0=some (.int c0):=ZaP (j:=0) rfl
theorem cut2 {a b R:TS}{D:Ends}{σ:St}{H:Hp} (M:St->Hp->Prop) (h1:∀ R':TS,(∀ σ' H',M σ' H'->R' D σ' H')->tSeq a (tSeq b R') D σ H) (h2:∀ σ' H',M σ' H'->R D σ' H'):tSeq a (tSeq b R) D σ H:=h1 R h2
theorem cut1 {a R:TS}{D:Ends}{σ:St}{H:Hp} (M:St->Hp->Prop) (h1:∀ R':TS,(∀ σ' H',M σ' H'->R' D σ' H')->tSeq a R' D σ H) (h2:∀ σ' H',M σ' H'->R D σ' H'):tSeq a R D σ H:=h1 R h2
def Sm (p:Addr) (H H':Hp):Prop:=∀ b o,H b=some o->b≠p->H' b=some o
theorem Sm.trans {p:Addr}{H H1 H2:Hp} (a:Sm p H H1) (b:Sm p H1 H2):Sm p H H2:=fun c o h n=>b c o (a c o h n) n
theorem Sm.refl (p:Addr) (H:Hp):Sm p H H:=fun _ _ h _=>h
theorem Sm.of {p:Addr}{H H':Hp} (h:Same H H'):Sm p H H':=fun b o e _=>h b o e
theorem Sm.new {p q:Addr}{H:Hp}{o:HO} (h:H q=none):Sm p H (upd H q o):=fun b u e _=>by rw[upd_ne (Zae e h)];exact e
theorem Sm.put {p:Addr}{H:Hp}{o:HO}:Sm p H (upd H p o):=fun b u e n=>by rw[upd_ne n];exact e
theorem Sm.free {p q:Addr}{H H':Hp} (s:Sm p H H') (hn:q≠p) (h:H' q=none):H q=none:=by
 cases e:H q with
 | none=>rfl
 | some o=>rw[s q o e hn] at h;cases h
theorem Sm.after {p:Addr}{H H1 H2:Hp} (s:Same H H1) (m:Sm p H1 H2) (h:H p=none):Same H H2:=fun b o e=>m b o (s b o e) (Zae e h)
def Zdx:Sp:=fun vs H Q _=>∃ i,vs=[.int i]/\Q (.bl true) H
theorem Zgi {m:Int} (h0:0<=m) (h1:m<2 ^ 64):YbH m<=8000:=YbC (intBits_le_64 (by (clear h1;omega)) h1) (by decide)
def Zbu (c:List Int):List Int:=(c.tail.map (c.getD 0 0+·))++[c.getD 0 0]
def Zcx (p:Nat):List Int:=1::Yal (p - 1) 0
def cnt (p:Nat):Nat->List Int
 | 0=>Zcx p
 | n+1=>Zbu (cnt p n)
theorem Zg9 {c:List Int} (h:c≠[]):(Zbu c).length=c.length:=by
 cases c with
 | nil=>exact absurd rfl h
 | cons x r=>simp[Zbu]
theorem ZbB {p:Nat} (hp:1<=p):∀ n,(cnt p n).length=p
 | 0=>by simp[cnt,Zcx];omega
 | n+1=>by
  have:=ZbB hp n;show (Zbu (cnt p n)).length=p;rw[Zg9 (by intro z;rw[z] at this;simp at this;omega),this]
def Down (c:List Int):Prop:=c.Pairwise (· ≥ ·)/\∀ x∈c,0<=x
theorem ZhC {c:List Int} (h:Down c):Down (Zbu c):=by
 cases c with
 | nil=>exact⟨by simp[Zbu],by intro x hx;simp[Zbu] at hx;omega⟩
 | cons a r=>
  obtain⟨h1,h2⟩:=h;have h3:=Yca.mp h1;have h0:0<=a:=h2 a (by simp);refine⟨?_,?_⟩
  ·show ((r.map (a+·))++[a]).Pairwise (· ≥ ·);rw[YaZ];refine⟨?_,by simp,?_⟩
   ·rw[YcN];exact h3.2.imp fun h=>by (clear h0 h3;omega)
   ·intro x hx y hy;obtain⟨z,hz,rfl⟩:=YaY.mp hx;have:=h2 z (by simp[hz]);have:y=a:=by simpa using hy
    (clear h0 h3;omega)
  ·show ∀ x∈(r.map (a+·))++[a],0<=x;intro x hx;rcases Yao.mp hx with hx | hx
   ·obtain⟨z,hz,rfl⟩:=YaY.mp hx;have:=h2 z (by simp[hz])
    (clear h3;omega)
   ·have:x=a:=by simpa using hx
    (clear h3;omega)
theorem ZbG (p:Nat):∀ n,Down (cnt p n)
 | 0=>by
  refine⟨?_,?_⟩
  ·show (1::Yal (p - 1) (0:Int)).Pairwise (· ≥ ·);rw[Yca];refine⟨fun y hy=>?_,?_⟩
   ·have:=(YeW.mp hy).2
    omega
   ·rw[List.pairwise_replicate];exact .inr (Ycl _)
  ·intro x hx;rcases Yav.mp hx with rfl | hx
   ·decide
   ·have:=(YeW.mp hx).2
    omega
 | n+1=>ZhC (ZbG p n)
def Zfr:Sp:=fun vs H Q _=>∃ i,vs=[.int i]/\2<=i/\i<=7/\Q .non H
def ZdE:Sp:=fun vs H Q _=>∃ p:Nat,vs=[.int p]/\2<=p/\p<=7/\∀ l H',H l=none->H' l=some (.tup ((Zcx p).map V.int))->Same H H'->Q (.ref l) H'
def Zfs (K:Yae):Sp:=fun vs H Q _=>∃ (a:Addr) (c:List Int),vs=[.ref a]/\SqT K H a (c.map V.int)/\2<=c.length/\c.length<=7/\∀ l H',H l=none->H' l=some (.tup ((Zbu c).map V.int))->Same H H'->Q (.ref l) H'
def ZbZ:Sp:=fun vs H Q _=>∃ p n:Nat,vs=[.int p,.int n]/\2<=p/\p<=7/\n<=300/\∀ l H',H l=none->H' l=some (.lst ((cnt p n).map V.int))->Same H H'->Q (.ref l) H'
def Zid (K:Yae):Sp:=fun vs H Q _=>∃ (a:Addr) (ns:List Int),vs=[.ref a]/\SqL K H a (ns.map V.int)/\ns.length<=63/\∀ H',Q (.bl true) H'
end Lv
namespace Lv
open PySem L2 PySem.Spec PyProof.Rows
structure FunD (K:Yae) (x qual:Str) (st:Stmt) (f da:Addr) (fd:FuncData):Prop where
 ex:∃ (oc:Value) (od:Option Addr) (kV doc pm:Value) (an:Option Addr) (cdv ct:Value) (osl:Array (Option Value)),
  fd=YaN x qual (Zap st) (Zam st) (Zac st) (.ref da) kV doc pm an cdv ct/\K.lookup f=some ⟨oc,od,.func fd,osl⟩/\YaL K cdv qual=true
 kp:YaE K (.ref f)=true
section
variable {P:Program}{w:World}{K:Yae}{mg:Str->Option Value}{base:Heap}
theorem FunD.ok {x qual:Str}{st:Stmt}{f da:Addr}{fd:FuncData}{N ps:List Str}{k:Nat}{sp:Sp} (F:FunD K x qual st f da fd) (S:FnScope N ps (Zac st)) (len:∀ vs H Q E,sp vs H Q E->vs.length=ps.length)
  (hbody:∀ (cdv:Value) (A:Around) (outer:List Env) (s:Shared) (H:Hp) (vs:List V) (Q:VK) (E:XK),Room k (A.deeper (envOfC qual (Zac st) s.heap.objs.size f cdv))->sp vs H Q E ->
   ∃ t,PSs (cxOf CX0 P w K mg base N qual (Zac st) f cdv A outer s H E).nox (Zam st) t/\t { nx:=fun _ H'=>Q .non H',rt:=Q } (start N vs) H):FnOk P w K mg base CX0 (k+1) f fd ps sp:=by
 obtain⟨oc,od,kV,doc,pm,an,cdv,ct,osl,rfl,lk,hcd⟩:=F.ex;refine Zlo lk hcd S len fun A outer s H vs Q E hr hsp=>?_;obtain⟨t,h,q⟩:=hbody cdv A outer s H vs Q E hr hsp;exact⟨t,h.nox,q⟩
theorem FunD.binds {x qual:Str}{st:Stmt}{f da:Addr}{fd:FuncData}{ps:List Str}{o:Obj}{items:Array Value}{n:Nat} (F:FunD K x qual st f da fd) (ho:K.lookup da=some o) (hs:o.data=.seq items n) (ds:List Value) (qs:List Str) (hq:qs.length+ds.length=ps.length)
  (h:∀ (kV doc pm:Value) (an:Option Addr) (cdv ct:Value) (us:List Value),us.length=qs.length ->
   ∃ k:Option (Array Value)->Sem (List (Str × Value)),bindArgs (YaN x qual (Zap st) (Zam st) (Zac st) (.ref da) kV doc pm an cdv ct) ⟨us,[]⟩=seqItems? (.ref da) >>= k/\k (some items)=pure (ps.zip (us++ds))):Binds K fd ps ds:=by
 obtain⟨oc,od,kV,doc,pm,an,cdv,ct,osl,rfl,lk,hcd⟩:=F.ex;intro s us X hl;obtain⟨k,h1,h2⟩:=h kV doc pm an cdv ct us (by rw[Yai] at hl;omega);exact PySem.W.binds_K X rfl ho hs h1 h2
theorem Zkb {x qual:Str}{st:Stmt}{f da:Addr}{oc:Value}{od an:Option Addr}{osl:Array (Option Value)}{kV doc pm cdv ct:Value} (l:K.lookup f=some ⟨oc,od,.func (YaN x qual (Zap st) (Zam st) (Zac st) (.ref da) kV doc pm an cdv ct),osl⟩)
  (c:YaL K cdv qual=true) (k:YaE K (.ref f)=true):FunD K x qual st f da (YaN x qual (Zap st) (Zam st) (Zac st) (.ref da) kV doc pm an cdv ct):=⟨⟨oc,od,kV,doc,pm,an,cdv,ct,osl,rfl,l,c⟩,k⟩
end
structure CalD (P:Program) (w:World) (K:Yae) (mg:Str->Option Value) (base:Heap) (k:Nat) (x:Str) (ps:List Str) (dvs:List V) (sp:Sp) (f:Addr) (fd:FuncData):Prop where
 ok:FnOk P w K mg base CX0 k f fd ps sp
 mg:mg x=some (.ref f)
 kp:YaE K (.ref f)=true
 bd:∃ ds,Binds K fd ps ds/\Vals dvs ds
theorem ZjS {X:Cx}{k:Nat}{x:Str}{ps:List Str}{dvs:List V}{sp:Sp}{f:Addr}{fd:FuncData}{e:Expr}{es:List Expr}{t:TA}{p pos:Pos} (C:CalD X.prog X.w X.K X.mg X.base k x ps dvs sp f fd) (hr:Room k X.A) (hg:Gl X x) (ha:PA X (e::es) t)
  (hdb:(x == ("__debug__":Str))=false:=by decide) (he:starEach (e::es) X.env=(false,eval e X.env)::starEach es X.env:=by rfl) (hpl:(backTo pos (starEach es X.env)).any (·.1)=false:=by rfl) :
  PE X (.Call (.Name x p) (e::es) [] pos) (Zjy sp dvs E0 t):=by
 obtain⟨ds,h1,h2⟩:=C.bd;exact ZgW C.ok hr hg C.mg C.kp h1 h2 ZkZ ha hdb he hpl
def ZdC:Sp:=fun vs H Q _=>∃ i m,vs=[.int i,.int m]/\0<=i/\i<=m/\Q .non H
end Lv
namespace Lv
open PySem L2 PySem.Spec PyProof.Rows
end Lv
namespace Lv
open PySem L2
def hd (p n:Nat):Int:=(cnt p n).getD 0 0
def tot (p n:Nat):Int:=(cnt p n).sum
theorem ZdZ {p:Nat} (hp:2<=p) (n:Nat):∃ a b r,cnt p n=a::b::r/\r.length=p - 2:=by
 have h:=ZbB (p:=p) (by omega) n
 match hc:cnt p n with
 | []=>rw[hc] at h;simp at h;omega
 | [x]=>rw[hc] at h;simp at h;omega
 | a::b::r=>rw[hc] at h;exact⟨a,b,r,rfl,by simp at h;(clear hp;omega)⟩
theorem Zhu {p:Nat} (hp:2<=p):∀ n,1<=hd p n
 | 0=>by simp[hd,cnt,Zcx]
 | n+1=>by
  obtain⟨a,b,r,e,_⟩:=ZdZ hp n;have ih:=Zhu hp n;have nn:=(ZbG p n).2 b (by rw[e];simp);unfold hd at ih ⊢;show 1<=(Zbu (cnt p n)).getD 0 0;rw[e] at ih ⊢;simp[Zbu] at ih ⊢
  (clear hp;omega)
theorem Zgv (c:Int):∀ r:List Int,(r.map (c+·)).sum=r.length*c+r.sum
 | []=>by simp
 | x::r=>by
  rw[Yam,YaD,Zgv c r,YaD,YaR,Int.natCast_succ,YeZ];omega
theorem Zic (a:Int) (r:List Int):(Zbu (a::r)).sum=(a::r).sum+r.length*a:=by
 show ((r.map (a+·))++[a]).sum=_;rw[YcE,Zgv,YaD,YaD,Yey];omega
theorem Zdu {p:Nat} (hp:2<=p) (n:Nat):tot p (n+1)=tot p n+(p - 1:Nat)*hd p n:=by
 obtain⟨a,b,r,e,hr⟩:=ZdZ hp n;unfold tot hd;show (Zbu (cnt p n)).sum=_;rw[e,Zic];have:(b::r).length=p - 1:=by simp;omega
 rw[this];rfl
theorem Zi7 {p:Nat} (hp:2<=p) (n:Nat):tot p n+1<=tot p (n+1):=by
 rw[Zdu hp];have h1:=Zhu hp n;have h2:((1:Nat):Int)*1<=((p - 1:Nat):Int)*hd p n:=Int.mul_le_mul (by (clear h1;omega)) h1 (by decide) (by (clear h1 hp;omega))
 (clear h1 hp;omega)
theorem ZbW {p:Nat} (hp:2<=p) {m n:Nat} (h:m<=n):tot p m<=tot p n:=by
  induction n with
  | zero => have : m = 0 := by (clear hp; omega)
            subst this;exact Ycl _
  | succ n ih=>
    by_cases e:m=n+1
    · subst e;exact Ycl _
    · have:=ih (by (clear ih hp;omega));have:=Zi7 hp n
      (clear e h ih hp;omega)
theorem Zja {c:List Int} (h:∀ x∈c,0<=x):c.getD 0 0<=c.sum:=by
 cases c with
 | nil=>simp
 | cons a r=>
  have:∀ l:List Int,(∀ x∈l,0<=x)->0<=l.sum:=by
   intro l
   induction l with
   | nil=>intro _;simp
   | cons x y ih=>
    intro h;rw[YaD];have:=h x (by simp);have:=ih fun z hz=>h z (by simp[hz])
    (clear ih;omega)
  have:=this r fun x hx=>h x (by simp[hx]);rw[YaD];simp;omega
theorem Zi8 {p:Nat} (hp:2<=p) (h7:p<=7):∀ n:Nat,tot p n<=7 ^ n
 | 0=>by
  have h:∀ m:Nat,(Yal m (0:Int)).sum=0:=fun m=>by
   induction m with
   | zero=>rfl
   | succ m ih=>rw[YbL,YaD,ih];rfl
  simp[tot,cnt,Zcx,h]
 | n+1=>by
  have ih:=Zi8 hp h7 n;have h1:hd p n<=tot p n:=Zja (ZbG p n).2;have h0:=Zhu hp n;rw[Zdu hp,Int.pow_succ];have h2:((p - 1:Nat):Int)*hd p n<=6*tot p n:=Int.mul_le_mul (by (clear h0 h1 ih hp;omega)) h1 (by (clear h1 ih h7 hp;omega)) (by decide)
  (clear h0 h1 h7 hp;omega)
end Lv
namespace Lv
open PySem L2
theorem ZdN (K:Yae) {X:Cx}{es:List Expr}{k:Nat}{t:TGs}{n:Nat}{pos:Pos} (hc:X.calm=true) (h:PGs X es t) (hK:X.K=K:=by rfl) (hn:(assignEach es X.env).length=n:=by rfl) (hst:(assignEach es X.env).findIdx? (·.1)=none:=by rfl):PG X (.Tuple es k pos) (gTup K n t):=by
 subst hK;exact ZfA hc h hn hst
theorem Zij (m j:Nat):(Yal m (0:Int)).getD j 0=0:=by
 rw[Yad,Yek];split <;> rfl
end Lv
namespace HT
open PySem PySem.Spec PyProof.Rows
section
variable {prog:Program}{w:World}{A:Around}{E:Value->Shared->Prop}{s:Shared}
end
end HT
namespace L2
open PySem PySem.Spec PyProof.Rows PySem.SeqAt
inductive TyA (H:Hp):V->String->Prop
 | non:TyA H .non "NoneType"
 | int (i:Int):TyA H (.int i) "int"
 | bl (b:Bool):TyA H (.bl b) "bool"
 | str (x:Str):TyA H (.str x) "str"
 | lst {a:Addr}{xs:List V} (e:H a=some (.lst xs)):TyA H (.ref a) "list"
 | tup {a:Addr}{xs:List V} (e:H a=some (.tup xs)):TyA H (.ref a) "tuple"
 | dK {a:Addr}{kvs:List (Key × V)} (e:H a=some (.dK kvs)):TyA H (.ref a) "dict"
section
variable {X:Cx}
end
end L2
namespace Lv
open PySem L2
def Zbc:Int:=10000000000000000000000000000000000000000000000000000000000000
def upI:List Int->Bool
 | []=>true
 | [_]=>true
 | a::b::r=>decide (a<=b) && upI (b::r)
inductive El (H:Hp):V->Prop
 | int {z:Int} (h1:-Zbc - 2<z) (h2:z<Zbc+2):El H (.int z)
 | bl (b:Bool):El H (.bl b)
 | non:El H .non
 | str {x:Str} (h:x.length<=400) (hc:∀ c∈x.cps.toList,c<16 ^ 8):El H (.str x)
 | lst {a:Addr}{zs:List Int} (e:H a=some (.lst (zs.map V.int))) (hl:zs.length<=3) (hb:∀ z∈zs,-Zbc - 2<z/\z<Zbc+2):El H (.ref a)
 | tup {a:Addr}{zs:List Int} (e:H a=some (.tup (zs.map V.int))) (hl:zs.length<=3) (hb:∀ z∈zs,-Zbc - 2<z/\z<Zbc+2):El H (.ref a)
inductive Lf (H:Hp):V->Prop
 | non:Lf H .non
 | int (i:Int) (h:i=7):Lf H (.int i)
 | bl (b:Bool):Lf H (.bl b)
 | str (x:Str):Lf H (.str x)
 | d0 {a:Addr} (e:H a=some (.dK [])):Lf H (.ref a)
 | d1 {a:Addr} (e:H a=some (.dK [(.inl 1,.int 2)])):Lf H (.ref a)
theorem ZhX {z:Int} (h1:-Zbc - 2<z) (h2:z<Zbc+2):z.natAbs.log2<300:=by
 have hb:Zbc+2<2 ^ 299:=by decide +kernel
 by_cases h0:z.natAbs=0
 ·rw[h0];decide
 ·refine (Nat.log2_lt h0).mpr ?_;have e:(2:Int) ^ 299<=2 ^ 300:=by decide +kernel
  have h3:(z.natAbs:Int)<2 ^ 300:=by (clear e h0;omega)
  exact_mod_cast h3
theorem Zlj {z:Int} (h1:-Zbc - 2<z) (h2:z<Zbc+2):(Ybo z).showable=true/\(Ybo z).shown.length<=301:=by
 have hl:=ZhX h1 h2;refine⟨?_,?_⟩
 ·simp only[Ydd];exact decide_eq_true (by (clear h2 h1;omega))
 ·have:=int_text_length_le (a:=z) (k:=300) (by decide) hl;simp only[YcM];have e:(YcD (toString z)).length=(toString z).length:=by
   rw[Str.ofString_eq_toList];simp[Str.length,String.length_toList]
  show (YcD (toString z)).length<=301
  (clear hl h2 h1;omega)
structure Sh (d:PyData) (n:Nat):Prop where
 ok:d.showable=true
 nd:d.hasDict=false
 dp:d.depth<=1
 sz:d.shown.length<=n
end Lv
namespace L2
open PySem PySem.Spec PyProof.Rows PySem.SeqAt
section
variable {X:Cx}
end
end L2
namespace Lv
open PySem L2
def Free (N:List (List Int)) (m:List Nat) (o:Int):Prop:=0<=o/\o<N.length/\m.getD o.toNat 0≠(N.getD o.toNat []).length
instance (N:List (List Int)) (m:List Nat) (o:Int):Decidable (Free N m o):=by unfold Free;infer_instance
def ZlN (m:List Nat) (o:Int):List Nat:=m.set o.toNat (m.getD o.toNat 0+1)
def atO (N:List (List Int)) (m:List Nat) (o:Int):Int:=(N.getD o.toNat []).getD (m.getD o.toNat 0) 0
def hold (N:List (List Int)):List Nat->List Int->List Int->Option (List Nat × List Int)
 | m,t,[]=>some (m,t)
 | m,t,o::os=>if Free N m o then hold N (ZlN m o) (t++[atO N m o]) os else none
def InM (N:List (List Int)) (m:List Nat):Prop:=m.length=N.length/\∀ j,j<N.length->m.getD j 0<=(N.getD j []).length
end Lv
namespace Lv
open PySem L2
def lenN (N:List (List Int)):List Nat:=N.map Ybf
def opn (N:List (List Int)) (m:List Nat) (j:Nat):Bool:=decide (m.getD j 0<(N.getD j []).length)
def opnL (N:List (List Int)) (m:List Nat):List Nat:=(Yap N.length).filter (opn N m)
structure OrS (N:List (List Int)) (m:List Nat) (t os:List Int):Prop where
 hd:hold N (N.map fun _=>0) [] os=some (m,t)
 up:upI t=true
 lst:∀ l,t.getLast?=some l->∀ j∈opnL N m,l<=atO N m j
 inm:InM N m
 sm:m.sum=os.length
end Lv
namespace L2
open PySem PySem.Spec PyProof.Rows
abbrev two (elt t1 i1:Expr) (f1:List Expr) (t2 i2:Expr) (f2:List Expr) (scope:Scope) (pos:Pos):Expr:=.ListComp elt [⟨t1,i1,f1,0⟩,⟨t2,i2,f2,0⟩] scope pos
theorem Zgo (elt t1 i1:Expr) (f1:List Expr) (t2 i2:Expr) (f2:List Expr) (scope:Scope) (pos:Pos) (it acc:Value) (env:Env) :
  compTurn (two elt t1 i1 f1 t2 i2 f2 scope pos) 0 it acc env=(do
   standAt i1.pos
   match <- pyNext it with
   | none=>pure (.done .next)
   | some v=>
    letOwnedTupleGo t1 it v
    assign t1 env v
    let mut ok:=true
    for c in f1 do
     if ok then ok <- isTrue c env (eval c env)
    if ok then
     let x <- eval i2 env
     standAt i2.pos
     let x <- foldedSetIterable i2 env x
     let _ <- runOwn (.compStart (two elt t1 i1 f1 t2 i2 f2 scope pos) 1 (<- holding [x] (pyIter x)) acc env) env
    again (.compLoop (two elt t1 i1 f1 t2 i2 f2 scope pos) 0 it acc env)):=by rfl
theorem Zgn (elt t1 i1:Expr) (f1:List Expr) (t2 i2:Expr) (f2:List Expr) (scope:Scope) (pos:Pos) (it acc:Value) (env:Env) :
  compTurn (two elt t1 i1 f1 t2 i2 f2 scope pos) 1 it acc env=(do
   standAt i2.pos
   match <- pyNext it with
   | none=>pure (.done .next)
   | some v=>
    letOwnedTupleGo t2 it v
    assign t2 env v
    let mut ok:=true
    for c in f2 do
     if ok then ok <- isTrue c env (eval c env)
    if ok then
     (do let _ <- call (.builtin "list.append") [acc,<- eval elt env])
    again (.compLoop (two elt t1 i1 f1 t2 i2 f2 scope pos) 1 it acc env)):=by rfl
section
variable {prog:Program}{w:World}{A:Around}{R:Result->Shared->Prop}{s:Shared}{elt t1 i1:Expr}{f1:List Expr}{t2 i2:Expr}{f2:List Expr}{scope:Scope}{pos:Pos}{it acc:Value}{env:Env}
theorem Zhc (I:Nat->Shared->Prop)
  (turn:∀ n s,I n s->wpAny (model prog w) A (pyNext it) (fun r s₁=>match r with
   | none=>R (.ok .next) s₁
   | some v=>wpAny (model prog w) A (letOwnedTupleGo t2 it v) (fun _ s₁'=>wpAny (model prog w) A (assign t2 env v) (fun _ s₂=>
     wpAny (model prog w) A (forIn f2 true fun c r=>if r=true then do let ok <- isTrue c env (eval c env);pure (Ybg ok) else pure (Ybg r)) (fun ok s₃=>
      if ok=true then wpAny (model prog w) A (eval elt env) (fun x s₄=>
       wpAny (model prog w) A (call (.builtin "list.append") [acc,x]) (fun _ s₅=>∃ m,m<n/\I m s₅) (fun _ _=>False) s₄) (fun _ _=>False) s₃
      else ∃ m,m<n/\I m s₃) (fun _ _=>False) s₂) (fun _ _=>False) s₁') (fun _ _=>False) s₁) (fun _ _=>False) s)
  (n:Nat) (h:I n s):codeAny (model prog w) A (.compLoop (two elt t1 i1 f1 t2 i2 f2 scope pos) 1 it acc env) R s:=by
 refine codeAny_loop rfl I (fun n s hI=>?_) n h;show wpAny _ A ((compTurn (two elt t1 i1 f1 t2 i2 f2 scope pos) 1 it acc env).onRaise (fun x=>do noteFrame x env;theTreesLotGoes x)) _ _ s;refine wpAny_noted ?_;rw[Zgn];refine wpAny_bind (wpAny_standAt (wpAny_bind (wpAny_mono (turn n s hI) (fun r s₁ h₁=>?_) fun _ _ h'=>h'.elim)))
 cases r with
 | none=>exact wpAny_pure h₁
 | some v=>
  refine wpAny_bind (wpAny_mono h₁ (fun _ s₁' h₁=>?_) fun _ _ h'=>h'.elim);refine wpAny_bind (wpAny_mono h₁ (fun _ s₂ h₂=>wpAny_bind (wpAny_mono h₂ (fun ok s₃ h₃=>?_) fun _ _ h'=>h'.elim)) fun _ _ h'=>h'.elim)
  cases ok with
  | false=>exact wpAny_pure ⟨rfl,h₃⟩
  | true=>
   exact wpAny_bind (wpAny_bind (wpAny_mono h₃ (fun x s₄ h₄=>wpAny_bind (wpAny_mono h₄ (fun _ s₅ h₅=>wpAny_pure (wpAny_pure ⟨rfl,h₅⟩)) fun _ _ h'=>h'.elim)) fun _ _ h'=>h'.elim))
theorem ZfZ
  (h0:codeAny (model prog w) A (.compLoop (two elt t1 i1 f1 t2 i2 f2 scope pos) 1 it acc env) R s)
  (h:wpAny (model prog w) A (pyIter it) (fun it' s'=>codeAny (model prog w) A (.compLoop (two elt t1 i1 f1 t2 i2 f2 scope pos) 1 it' acc env) R s')
   (notedBy (model prog w) A env fun x s'=>R (.error x) s') s) :
  codeAny (model prog w) A (.compStart (two elt t1 i1 f1 t2 i2 f2 scope pos) 1 it acc env) R s:=by
 refine codeAny_of_tree ?_;show wpAny _ _ ((compStart (two elt t1 i1 f1 t2 i2 f2 scope pos) 1 it acc env).onRaise (fun x=>do noteFrame x env;standAt theWindowsPlace)) _ _ s;refine wpAny_notedAt ?_;unfold compStart;show wpAny _ _ (ask >>= _) _ _ s;refine wpAny_bind (wpAny_askSetting (wpAny_ite ?_));split
 ·first
   | exact wpAny_bind (wpAny_pure (wpAny_pure (And.intro rfl h0)))
   | exact wpAny_pure (And.intro rfl h0)
 ·refine wpAny_bind (wpAny_rule ?_);show wpAny _ _ (standAt i2.pos >>= _) _ _ s;exact wpAny_bind (wpAny_standAt (wpAny_bind (wpAny_mono h (fun it' s' h'=>wpAny_pure (And.intro rfl h')) fun _ _ x=>x)))
theorem Zhd (I:Nat->Shared->Prop) (hs:∀ x,foldedSetIterable i2 env x=pure x)
  (turn:∀ n s,I n s->wpAny (model prog w) A (pyNext it) (fun r s₁=>match r with
   | none=>R (.ok .next) s₁
   | some v=>wpAny (model prog w) A (letOwnedTupleGo t1 it v) (fun _ s₁'=>wpAny (model prog w) A (assign t1 env v) (fun _ s₂=>
     wpAny (model prog w) A (forIn f1 true fun c r=>if r=true then do let ok <- isTrue c env (eval c env);pure (Ybg ok) else pure (Ybg r)) (fun ok s₃=>
      if ok=true then wpAny (model prog w) A (eval i2 env) (fun x s₄=>wpAny (model prog w) A (pyIter x) (fun itv s₅=>
       codeAny (model prog w) A (.compStart (two elt t1 i1 f1 t2 i2 f2 scope pos) 1 itv acc env) (fun r s₆=>∃ fl,r=.ok fl/\∃ m,m<n/\I m s₆) s₅) (fun _ _=>False) s₄) (fun _ _=>False) s₃
      else ∃ m,m<n/\I m s₃) (fun _ _=>False) s₂) (fun _ _=>False) s₁') (fun _ _=>False) s₁) (fun _ _=>False) s)
  (n:Nat) (h:I n s):codeAny (model prog w) A (.compLoop (two elt t1 i1 f1 t2 i2 f2 scope pos) 0 it acc env) R s:=by
 refine codeAny_loop rfl I (fun n s hI=>?_) n h;show wpAny _ A ((compTurn (two elt t1 i1 f1 t2 i2 f2 scope pos) 0 it acc env).onRaise (fun x=>do noteFrame x env;theTreesLotGoes x)) _ _ s;refine wpAny_noted ?_;rw[Zgo];refine wpAny_bind (wpAny_standAt (wpAny_bind (wpAny_mono (turn n s hI) (fun r s₁ h₁=>?_) fun _ _ h'=>h'.elim)))
 cases r with
 | none=>exact wpAny_pure h₁
 | some v=>
  refine wpAny_bind (wpAny_mono h₁ (fun _ s₁' h₁=>?_) fun _ _ h'=>h'.elim);refine wpAny_bind (wpAny_mono h₁ (fun _ s₂ h₂=>wpAny_bind (wpAny_mono h₂ (fun ok s₃ h₃=>?_) fun _ _ h'=>h'.elim)) fun _ _ h'=>h'.elim)
  cases ok with
  | false=>exact wpAny_pure ⟨rfl,h₃⟩
  | true=>
   refine wpAny_bind (wpAny_mono h₃ (fun x s₄ h₄=>wpAny_bind (wpAny_standAt ?_)) fun _ _ h'=>h'.elim);rw[hs];refine wpAny_bind (wpAny_pure (wpAny_bind (wpAny_holding (wpAny_mono h₄ (fun itv s₅ h₅=>?_) fun _ _ h'=>h'.elim))));refine wpAny_bind (wpAny_runOwn (h:=none) (codeAny_mono h₅ fun r s₆ ⟨fl,er,h₆⟩=>?_));subst er;exact wpAny_pure ⟨rfl,h₆⟩
end
end L2
namespace L2
open PySem PySem.Spec PyProof.Rows
def tInW (g2:TG) (tt2:TT) (te:TE) (τ:St) (acc:Addr) (J2:It) (H6:Hp) (Z:Hp->Prop):Prop :=
 ∃ (W2:Nat->Hp->Prop) (n2:Nat),W2 0 H6/\∀ k H7,W2 k H7->(J2.stop k H7/\Z H7)∨(k<n2/\J2.go k H7/\∀ y H8,J2.yld k H7 y H8->g2 y τ H8 fun τ2 H9=>tt2 τ2 H9 fun c H10=>
  if c=true then te τ2 H10 fun z H11=>∃ ys,H11 acc=some (.lst ys)/\ys.length<sizeLine/\W2 (k+1) (upd H11 acc (.lst (ys++[z]))) else W2 (k+1) H10)
def ZeT (own:List Str) (js:List Nat) (g1:TG) (tt1:TT) (wi2:TI) (g2:TG) (tt2:TT) (te:TE) (σ:St) (J:It) (H1:Hp) (Q:VK):Prop :=
 ∀ acc,H1 acc=none->∃ (W:Nat->Hp->Prop) (n:Nat),W 0 (upd H1 acc (.lst []))/\∀ i H2,W i H2 ->
  (J.stop i H2/\Q (.ref acc) H2)∨(i<n/\J.go i H2/\∀ x H3,J.yld i H2 x H3->g1 x (blkσ own js σ) H3 fun τ H4=>tt1 τ H4 fun c H5=>
   if c=true then wi2 τ H5 fun J2 H6=>tInW g2 tt2 te τ acc J2 H6 (W (i+1)) else W (i+1) H5)
def Zi9 (own:List Str) (js:List Nat) (wi:TI) (g1:TG) (tt1:TT) (wi2:TI) (g2:TG) (tt2:TT) (te:TE):TE:=fun σ H Q=>wi σ H fun J H1=>ZeT own js g1 tt1 wi2 g2 tt2 te σ J H1 Q
def Zkr (fr:List Nat) (τ:St):Prop:=∀ i∈fr,∀ v,τ[i]?≠some (some v)
def ZfW (own:List Str) (fr:List Nat) (g:TG):Prop:=∀ (js:List Nat) (σ:St) (x:V) (H:Hp) (Q:St->Hp->Prop),g x (blkσ own js σ) H Q ->
 g x (blkσ own js σ) H fun τ H'=>((∀ (j:Nat) v,(blkσ own js σ)[j]?=some (some v)->τ[j]?=some (some v))/\Zkr fr τ)/\Q τ H'
def ZeM (fr:List Nat) (g:TG):Prop:=∀ (τ:St),Zkr fr τ->∀ (x:V) (H:Hp) (Q:St->Hp->Prop),g x τ H Q->g x τ H fun τ' H'=>(∀ (j:Nat) v,τ[j]?=some (some v)->τ'[j]?=some (some v))/\Q τ' H'
theorem Zc3 {own:List Str}{i:Nat}{fr:List Nat} (hi:i<own.length:=by decide) (hf:∀ j∈fr,j<own.length/\j≠i:=by decide):ZfW own fr (ZcB i):=fun js σ x H Q h=>⟨⟨fun j v e=>by
  have hj:j≠i:=by rintro rfl;exact ZbD hi e
  rw[Ya5 (YaX hj)];exact e,fun j hj z e=>by
  obtain⟨h1,h2⟩:=hf j hj;rw[Ya5 (YaX h2)] at e;exact ZbD h1 e⟩,h⟩
theorem Zc2 {i:Nat}:ZeM [i] (ZcB i):=fun τ u x H Q h=>⟨fun j v e=>by
 have hj:j≠i:=by rintro rfl;exact u j (by simp) _ e
 rw[Ya5 (YaX hj)];exact e,h⟩
section
variable {X:Cx}{scope:Scope}{own:List Str}{js fr:List Nat}{elt t1 i1:Expr}{f1:List Expr}{t2 i2:Expr}{f2:List Expr}{wi wi2:TI}{g1 g2:TG}{tt1 tt2:TT}{te:TE}{pos:Pos}
theorem Zhq {pins:List (Addr × Obj)}{s₂:Shared}{H2:Hp}{C:Addr}{fp:List Addr}{τ:St}{H6:Hp}{s6:Shared}{it2 acc:Addr}{fp2:List Addr}{tn2:Nat->Heap->Prop}{J2:It}{Z:Hp->Prop}{P:List (Addr × Obj)}
  (hc:X.calm=true) (hgk:ZeM fr g2) (hu:Zkr fr τ)
  (hg:PG (X.blk scope own js s₂ H2 C fp pins) t2 g2) (ht:PTs (X.blk scope own js s₂ H2 C fp pins) f2 tt2) (he:PE (X.blk scope own js s₂ H2 C fp pins) elt te)
  (I6:Inv (X.blk scope own js s₂ H2 C fp pins) P τ H6 s6) (T:Turn X.prog X.w X.K t2 J2 fp2 it2 tn2) (st:tn2 0 s6.heap) (hf:∀ b∈fp2,FpOk (X.blk scope own js s₂ H2 C fp pins) P H6 b) (h:tInW g2 tt2 te τ acc J2 H6 Z) :
  codeAny (model X.prog X.w) X.A (.compStart (two elt t1 i1 f1 t2 i2 f2 scope pos) 1 (.ref it2) (.ref acc) (compEnvC scope (clOf scope X.env) C X.env)) (fun r s'=>r=.ok .next/\∃ H',Inv (X.blk scope own js s₂ H2 C fp pins) P τ H' s'/\Z H') s6:=by
 obtain⟨W,nn,w0,turn⟩:=h;have fOk:∀ {H':Hp},(∀ b∈fp2,H' b=none)->∀ b∈fp2,FpOk (X.blk scope own js s₂ H2 C fp pins) P H' b:=fun hn b hb=>⟨hn b hb,(hf b hb).2⟩
 have loop:codeAny (model X.prog X.w) X.A (.compLoop (two elt t1 i1 f1 t2 i2 f2 scope pos) 1 (.ref it2) (.ref acc) (compEnvC scope (clOf scope X.env) C X.env)) (fun r s'=>r=.ok .next/\∃ H',Inv (X.blk scope own js s₂ H2 C fp pins) P τ H' s'/\Z H') s6:=by
  refine Zhc (fun n s'=>∃ i H',n=nn - i/\Inv (X.blk scope own js s₂ H2 C fp pins) P τ H' s'/\tn2 i s'.heap/\(∀ b∈fp2,H' b=none)/\W i H') ?_ nn ⟨0,_,rfl,I6,st,fun b hb=>(hf b hb).1,w0⟩;rintro n s3 ⟨i,H3,en,I3,st3,fr3,w3⟩;rcases turn i H3 w3 with ⟨stop,qn⟩ | ⟨hin,go,step⟩
  ·refine thn (T.done (X.blk scope own js s₂ H2 C fp pins) rfl rfl rfl hc i P s3 _ H3 (fun _ _=>False) I3 (fOk fr3) st3 stop) fun r s4 ⟨hr,I4⟩=>?_;subst hr;exact⟨rfl,H3,I4,qn⟩
  ·refine thn (T.item (X.blk scope own js s₂ H2 C fp pins) rfl rfl rfl hc i P s3 _ H3 (fun _ _=>False) I3 (fOk fr3) st3 go) fun r s4 ⟨u,hr,h4⟩=>?_;subst hr;refine thn h4 fun _ s5 ⟨x,H5,I5,r5,y5,st5,fr5⟩=>?_;have I5':=I5.pinned (fOk fr5) (T.obj _ _ st5);have again:∀ {σ7:St}{H7:Hp}{s7:Shared},Inv (X.blk scope own js s₂ H2 C fp pins) (P++ZcR fp2 s5.heap) σ7 H7 s7->(∀ (j:Nat) v,τ[j]?=some (some v)->σ7[j]?=some (some v))->W (i+1) H7 ->
     ∃ m,m<n/\∃ i H',m=nn - i/\Inv (X.blk scope own js s₂ H2 C fp pins) P τ H' s7/\tn2 i s7.heap/\(∀ b∈fp2,H' b=none)/\W i H':=fun {σ7 H7 s7} I7 hw w7=>by
    refine⟨nn - (i+1),by omega,i+1,H7,rfl,(I7.unpinned).weak (I3.len.trans I7.len.symm) hw,T.keep _ _ _ st5 fun b hb o e=>(I7.pin (b,o) (Yax _ (Yax _ (ZaX hb e)))).1,fun b hb=>?_,w7⟩;obtain⟨o,e,d⟩:=T.obj _ _ st5 b hb;exact (I7.pin (b,o) (Yax _ (Yax _ (ZaX hb e)))).2.1
   refine thn (hg _ s5 _ H5 x u _ I5' r5 (hgk τ hu _ _ _ (step x H5 y5))) fun _ s6 ⟨σ6,H6,I6,kp,q6⟩=>?_;refine thn (ht _ s6 σ6 H6 _ I6 q6) fun ok s7 ⟨H7,I7,q7⟩=>?_
   cases ok with
   | false=>exact again I7 kp q7
   | true=>
    refine thn (he _ s7 σ6 H7 _ I7 q7) fun y s8 ⟨v,H8,I8,r8,ys,hl,hz,w8⟩=>?_;refine thn (ZaC (X:=X.blk scope own js s₂ H2 C fp pins) _ s8 σ6 H8 (.ref acc) [v] (.ref acc) [y] (fun _ H9=>W (i+1) H9) I8 rfl (.cons r8 .nil) ⟨acc,ys,v,rfl,rfl,hl,hz,w8⟩) fun _ s9 ⟨_,H9,I9,_,w9⟩=>?_;exact again I9 kp w9
 exact ZfZ loop (T.self _ 0 _ _ _ st loop)
theorem ZfU {pins:List (Addr × Obj)}{σ:St}{H2:Hp}{s₂:Shared}{it:Addr}{fp:List Addr}{tn:Nat->Heap->Prop}{J:It}{Q:VK}{E:Value->Shared->Prop}{RR:Value->Addr->Result->Shared->Prop}
  (c:CompOk X scope own js) (hc:X.calm=true) (hgk:ZfW own fr g1) (hgt:ZeM fr g2)
  (hg:∀ s H C fp pins,PG (X.blk scope own js s H C fp pins) t1 g1) (ht:∀ s H C fp pins,PTs (X.blk scope own js s H C fp pins) f1 tt1) (hi2:∀ s H C fp pins,PI (X.blk scope own js s H C fp pins) t2 i2 wi2)
  (hg2:∀ s H C fp pins,PG (X.blk scope own js s H C fp pins) t2 g2) (ht2:∀ s H C fp pins,PTs (X.blk scope own js s H C fp pins) f2 tt2) (he:∀ s H C fp pins,PE (X.blk scope own js s H C fp pins) elt te)
  (hs2:∀ env x,foldedSetIterable i2 env x=pure x)
  (I:Inv X pins σ H2 s₂) (T:Turn X.prog X.w X.K t1 J fp it tn) (st:tn 0 s₂.heap) (hf:∀ b∈fp,FpOk X pins H2 b) (h:ZeT own js g1 tt1 wi2 g2 tt2 te σ J H2 Q)
  (hRR:∀ acc C H' s' m,s₂.heap.objs.size<=C->H' C=none->Inv X pins σ H' s'->s'.heap.Ns C m->Q (.ref acc) H'->RR (.ref acc) C (.ok .next) s') :
  wpAny (model X.prog X.w) X.A (newList []) (fun acc s₃=>wpAny (model X.prog X.w) X.A (newFunctionEnv scope X.env.globals (clOf scope X.env) [] X.env.qual none .none (some X.env)) (fun cenv s₄=>
   codeAny (model X.prog X.w) X.A (.compStart (two elt t1 i1 f1 t2 i2 f2 scope pos) 0 (.ref it) acc { cenv with scope:=relabel scope X.env }) (RR acc cenv.locals) s₄) E s₃) E s₂:=by
 refine wpAny_newObj_type (wpAny_newFunctionEnv c.cell (by intro y hy;simp at hy) (fun h₁ hns₁ hsb₁=>?_) c.kind);dsimp only at hns₁ hsb₁ ⊢;generalize hH2:s₂.heap.push { cls:=.type "list",dict:=none,data:=.seq ([]:List Value).toArray }=G2 at hns₁ hsb₁ ⊢;have hC:G2.objs.size=s₂.heap.objs.size+1:=by rw[<- hH2,YbF]
 have hDC:s₂.heap.objs.size≠G2.objs.size:=by rw[hC];exact YaS (Ycz _)
 have hCle:s₂.heap.objs.size<=G2.objs.size:=by rw[hC];exact Ydb _
 have old:∀ b o,s₂.heap.get? b=some o->h₁.get? b=some o:=fun b o e=>hsb₁.extBut b o (YaS (Yau (Yar e) hCle)) (Yag _ (hH2 ▸ Yag _ e));have hacc:h₁.get? s₂.heap.objs.size=some { cls:=.type "list",data:=.seq ([]:List Value).toArray 0 }:=hsb₁.extBut _ _ hDC (Yag _ (hH2 ▸ YaA _ rfl));have ho2:∀ b∈fp,∃ o,s₂.heap.get? b=some o:=fun b hb=>let ⟨o,e,_⟩:=T.obj 0 _ st b hb;⟨o,e⟩
 have I0:∀ tk,Inv (X.blk scope own js s₂ H2 G2.objs.size fp pins) [] (blkσ own js σ) (upd H2 s₂.heap.objs.size (.lst [])) { s₂ with heap:=h₁,toks:=tk }:=fun tk=>
  ZeG c I hCle hf ho2 hns₁ old (Yas _) hDC hacc
 obtain⟨W,nn,w0,turn⟩:=h s₂.heap.objs.size (I.hok.fresh (Yas _));generalize hacc':s₂.heap.objs.size=acc at *;generalize hGC:G2.objs.size=C at *;have st1:tn 0 h₁:=T.keep 0 _ _ st fun b _ o e=>old b o e;have fOk:∀ {H':Hp},(∀ b∈fp,H' b=none)->∀ b∈fp,FpOk (X.blk scope own js s₂ H2 C fp pins) [] H' b:=fun hn b hb=>by
  obtain⟨f0,f1,f2,f3,f4,f5⟩:=hf b hb;obtain⟨o,e⟩:=ho2 b hb;refine⟨hn b hb,YaS (Yau (Yar e) (by rw[<- hacc'] at hCle;exact hCle)),fun z=>?_,.inl hb,fun x a h=>f4 x a (c.look I h),fun p hp=>f5 p (by simpa[Cx.blk] using hp)⟩;rcases Yav.mp (I.stkSub b z) with q | q
  ·exact f1 q
  ·exact f2 q
 have loop:∀ s₃:Shared,s₃={ s₂ with heap:=h₁,toks:=s₂.toks+([]:List (Str × Value)).length } ->
   codeAny (model X.prog X.w) X.A (.compLoop (two elt t1 i1 f1 t2 i2 f2 scope pos) 0 (.ref it) (.ref acc) (compEnvC scope (clOf scope X.env) C X.env)) (RR (.ref acc) C) s₃:=by
  rintro s₃ rfl;refine Zhd (fun n s'=>∃ i H',n=nn - i/\Inv (X.blk scope own js s₂ H2 C fp pins) [] (blkσ own js σ) H' s'/\tn i s'.heap/\(∀ b∈fp,H' b=none)/\W i H') (hs2 _) ?_ nn ⟨0,_,rfl,I0 _,st1,fun b hb=>?_,w0⟩
  ·rintro n s3 ⟨i,H3,en,I3,st3,fr3,w3⟩;rcases turn i H3 w3 with ⟨stop,qn⟩ | ⟨hin,go,step⟩
   ·refine thn (T.done (X.blk scope own js s₂ H2 C fp pins) rfl rfl rfl hc i [] s3 _ H3 (fun _ _=>False) I3 (fOk fr3) st3 stop) fun r s4 ⟨hr,I4⟩=>?_;subst hr;obtain⟨m,hn,_⟩:=I4.loc;exact hRR acc C H3 s4 m hCle I4.free (ZhW I hf I4) hn qn
   ·refine thn (T.item (X.blk scope own js s₂ H2 C fp pins) rfl rfl rfl hc i [] s3 _ H3 (fun _ _=>False) I3 (fOk fr3) st3 go) fun r s4 ⟨u,hr,h4⟩=>?_;subst hr;refine thn h4 fun _ s5 ⟨x,H5,I5,r5,y5,st5,fr5⟩=>?_;have I5':=I5.pinned (fOk fr5) (T.obj _ _ st5);have again:∀ {σ7:St}{H7:Hp}{s7:Shared},Inv (X.blk scope own js s₂ H2 C fp pins) ([]++ZcR fp s5.heap) σ7 H7 s7->(∀ (j:Nat) v,(blkσ own js σ)[j]?=some (some v)->σ7[j]?=some (some v))->W (i+1) H7 ->
      ∃ m,m<n/\∃ i H',m=nn - i/\Inv (X.blk scope own js s₂ H2 C fp pins) [] (blkσ own js σ) H' s7/\tn i s7.heap/\(∀ b∈fp,H' b=none)/\W i H':=fun {σ7 H7 s7} I7 hw w7=>by
     refine⟨nn - (i+1),by (clear hCle hDC hC hGC hacc';omega),i+1,H7,rfl,(I7.unpinned).weak ((Zfj own js σ X).trans I7.len.symm) hw,T.keep _ _ _ st5 fun b hb o e=>(I7.pin (b,o) (Yax _ (Yax _ (ZaX hb e)))).1,fun b hb=>?_,w7⟩;obtain⟨o,e,d⟩:=T.obj _ _ st5 b hb;exact (I7.pin (b,o) (Yax _ (Yax _ (ZaX hb e)))).2.1
    refine thn (hg s₂ H2 C fp pins _ s5 _ H5 x u _ I5' r5 (hgk _ _ _ _ _ (step x H5 y5))) fun _ s6 ⟨σ6,H6,I6,⟨kp,un⟩,q6⟩=>?_;refine thn (ht s₂ H2 C fp pins _ s6 σ6 H6 _ I6 q6) fun ok s7 ⟨H7,I7,q7⟩=>?_
    cases ok with
    | false=>exact again I7 kp q7
    | true=>
     refine thn (hi2 s₂ H2 C fp pins _ s7 σ6 H7 _ I7 q7) fun v s8 h8=>thn h8 fun itv s9 h9=>?_;obtain⟨it2,fp2,tn2,J2,H9,e9,I9,T2,st9,f9,hw9⟩:=h9;subst e9;refine codeAny_mono (Zhq (t1:=t1) (i1:=i1) (f1:=f1) (i2:=i2) (pos:=pos) hc hgt un (hg2 s₂ H2 C fp pins) (ht2 s₂ H2 C fp pins) (he s₂ H2 C fp pins) I9 T2 st9 f9 hw9) fun r s10 ⟨er,H10,I10,w10⟩=>?_;exact⟨_,er,again I10 kp w10⟩
  ·rw[upd_ne ?_]
   ·exact (hf b hb).1
   ·obtain⟨o,e⟩:=ho2 b hb;rw[<- hacc'];exact YaS (Yar e)
 exact codeAny_compStart_list (loop _ rfl) (T.self _ 0 _ _ _ st1 (loop _ rfl))
theorem Ziu (c:CompOk X scope own js) (hc:X.calm=true) (hi:PI X t1 i1 wi) (hgk:ZfW own fr g1) (hgt:ZeM fr g2)
  (hg:∀ s H C fp pins,PG (X.blk scope own js s H C fp pins) t1 g1) (ht:∀ s H C fp pins,PTs (X.blk scope own js s H C fp pins) f1 tt1) (hi2:∀ s H C fp pins,PI (X.blk scope own js s H C fp pins) t2 i2 wi2)
  (hg2:∀ s H C fp pins,PG (X.blk scope own js s H C fp pins) t2 g2) (ht2:∀ s H C fp pins,PTs (X.blk scope own js s H C fp pins) f2 tt2) (he:∀ s H C fp pins,PE (X.blk scope own js s H C fp pins) elt te)
  (hs:∀ x,foldedSetIterable i1 X.env x=pure x:=by intro _;rfl) (hs2:∀ env x,foldedSetIterable i2 env x=pure x:=by intro _ _;rfl):PE X (two elt t1 i1 f1 t2 i2 f2 scope pos) (Zi9 own js wi g1 tt1 wi2 g2 tt2 te):=by
 intro pins s σ H Q I h;rw[eval_ListComp];refine wpAny_comprehension_free (use:=none) rfl hs (ZbI (c.cl I)) c.kind c.names (thn (hi pins s σ H _ I h) fun v s1 h1=>thn h1 fun itv s2 h2=>?_);obtain⟨it,fp,tn,J,H2,e,I2,T,st2,f2,hw⟩:=h2;subst e;refine ZfU (RR:=fun acc C=>compPost (model X.prog X.w) X.A X.xe none (EP X pins σ Q) acc C) c hc hgk hgt hg ht hi2 hg2 ht2 he hs2 I2 T st2 f2 hw ?_;intro acc C H' s' m hCs hCn I' hn q;refine⟨m,hn,fun h' hs'=>⟨.ref acc,H',I'.other hs' hCn ?_ ?_ ?_ ?_,rfl,q⟩⟩
 ·exact YbU (Yau I2.lt hCs)
 ·exact YbC I2.sz hCs
 ·intro x a e z;obtain⟨v,q⟩:=I2.cell x a e;exact absurd (Yau q.lt (by rw[z];exact hCs)) (Ybp _)
 ·intro p hp z;exact absurd (Yau (Yar (I2.pin p hp).1) (by rw[z];exact hCs)) (Ybp _)
end
end L2
namespace L2
open PySem PySem.Spec PyProof.Rows PySem.SeqAt
def ItlB (b:Bool) (K:Yae) (a:Addr):It:=match b with | true=>Itl K a | false=>Itt K a
def Zlk (K:Yae) (tl:TE):TI:=fun σ H R=>tl σ H fun x H1=>∃ a b,x=.ref a/\(∃ xs,SqB b K H1 a xs)/\R (ItlB b K a) H1
theorem ZcE (K:Yae) {X:Cx}{tg l:Expr}{tl:TE} (hl:PE X l tl) (hK:X.K=K:=by rfl):PI X tg l (Zlk K tl):=by
 subst hK;intro pins s σ H R I h;refine thn (hl pins s σ H _ I h) fun v s1 ⟨x,H1,I1,r1,q1⟩=>?_;obtain⟨a,b,e,⟨xs,hq⟩,q⟩:=q1;subst e;cases r1;have fp:∀ b∈[s1.heap.objs.size],FpOk X pins H1 b:=fun b hb=>by
  have e:b=s1.heap.objs.size:=by simpa using hb
  subst e;exact I1.fpOk (Yas _) (I1.hok.fresh (Yas _))
 cases b with
 | true=>
  obtain⟨its,rv,p,hz⟩:=I1.list hq;exact wpAny_pyIter_list p.isList ⟨s1.heap.objs.size,[s1.heap.objs.size],_,_,H1,rfl,I1.kept (t':=s1.toks) fun b o e=>Yag _ e,Zd8 a _,⟨_,YaA _ rfl,rfl,rfl⟩,fp,q⟩
 | false=>
  obtain⟨its,rv,p,hz⟩:=I1.tuple hq;exact wpAny_pyIter_tuple (show s1.heap.IsTuple a its.toArray from p) ⟨s1.heap.objs.size,[s1.heap.objs.size],_,_,H1,rfl,I1.kept (t':=s1.toks) fun b o e=>Yag _ e,Zdc a _,⟨_,YaA _ rfl,rfl,rfl⟩,fp,q⟩
theorem ZaQ {X:Cx}{tg l:Expr}{tl:TE} (hl:PE X l tl):PI X tg l (Zlk X.K tl):=ZcE X.K hl
theorem Ze9 {b:Bool}{K:Yae}{H:Hp}{a:Addr}{xs:List V}{i:Nat} (q:SqB b K H a xs) (hi:i<xs.length):(ItlB b K a).go i H:=by
 cases b <;> exact⟨xs,xs[i],q,Yab hi⟩
theorem ZdS {b:Bool}{K:Yae}{H H':Hp}{a:Addr}{xs:List V}{i:Nat}{x:V} (q:SqB b K H a xs) (y:(ItlB b K a).yld i H x H'):H'=H/\xs[i]?=some x:=by
 cases b <;> exact⟨y.1,y.2 xs q⟩
theorem ZcZ {b:Bool}{K:Yae}{H:Hp}{a:Addr}{xs:List V}{i:Nat} (q:SqB b K H a xs) (hi:xs.length<=i):(ItlB b K a).stop i H:=by
 cases b <;> exact⟨xs,q,hi⟩
theorem ZeF (K:Yae) {X:Cx} (hK:X.K=K:=by rfl):Zbk X (.type "tuple") (fun xs H Q=>∃ p ys,xs=[.ref p]/\((SqL K H p ys/\∀ l,H l=none->Q (.ref l) (upd H l (.tup ys)))∨(SqT K H p ys/\Q (.ref p) H))):=by subst hK;exact Za0
section
variable {b:Bool}{K:Yae}{own:List Str}{js:List Nat}{g1 g2 g:TG}{tt1 tt2 tt:TT}{wi2:TI}{te:TE}{σ τ:St}{H1 H6:Hp}{Q:VK}{a acc:Addr}{xs:List V}
theorem Zcb (Pv:Addr->Nat->Hp->Prop) (h0:∀ acc,H1 acc=none->Pv acc 0 (upd H1 acc (.lst []))) (hl:∀ acc i H,H1 acc=none->i<=xs.length->Pv acc i H->SqB b K H a xs)
  (hs:∀ acc i x H,H1 acc=none->xs[i]?=some x->Pv acc i H->g x (blkσ own js σ) H fun τ H4=>tt τ H4 fun c H5=>
   if c=true then te τ H5 fun y H6=>∃ ys,H6 acc=some (.lst ys)/\ys.length<sizeLine/\(i+1<=xs.length/\Pv acc (i+1) (upd H6 acc (.lst (ys++[y])))) else (i+1<=xs.length/\Pv acc (i+1) H5))
  (hd:∀ acc H,H1 acc=none->Pv acc xs.length H->Q (.ref acc) H):ZaY own js g tt te σ (ItlB b K a) H1 Q:=by
 intro acc hacc;refine⟨fun i H=>i<=xs.length/\Pv acc i H,xs.length,⟨YaO _,h0 acc hacc⟩,?_⟩;rintro i H ⟨hi,p⟩;have q:=hl acc i H hacc hi p;rcases Ybt i xs.length with hlt | hge
 ·refine .inr ⟨hlt,Ze9 q hlt,fun x H' y=>?_⟩;obtain⟨rfl,hx⟩:=ZdS q y;exact hs acc i x _ hacc hx p
 ·obtain rfl:i=xs.length:=by omega
  exact .inl ⟨ZcZ q (Yas _),hd acc H hacc p⟩
theorem Zdq (Pv:Addr->Nat->Hp->Prop) (h0:∀ acc,H1 acc=none->Pv acc 0 (upd H1 acc (.lst []))) (hl:∀ acc i H,H1 acc=none->i<=xs.length->Pv acc i H->SqB b K H a xs)
  (hs:∀ acc i x H,H1 acc=none->xs[i]?=some x->Pv acc i H->g1 x (blkσ own js σ) H fun τ H4=>tt1 τ H4 fun c H5=>
   if c=true then wi2 τ H5 fun J2 H6=>tInW g2 tt2 te τ acc J2 H6 (fun H7=>i+1<=xs.length/\Pv acc (i+1) H7) else (i+1<=xs.length/\Pv acc (i+1) H5))
  (hd:∀ acc H,H1 acc=none->Pv acc xs.length H->Q (.ref acc) H):ZeT own js g1 tt1 wi2 g2 tt2 te σ (ItlB b K a) H1 Q:=by
 intro acc hacc;refine⟨fun i H=>i<=xs.length/\Pv acc i H,xs.length,⟨YaO _,h0 acc hacc⟩,?_⟩;rintro i H ⟨hi,p⟩;have q:=hl acc i H hacc hi p;rcases Ybt i xs.length with hlt | hge
 ·refine .inr ⟨hlt,Ze9 q hlt,fun x H' y=>?_⟩;obtain⟨rfl,hx⟩:=ZdS q y;exact hs acc i x _ hacc hx p
 ·obtain rfl:i=xs.length:=by omega
  exact .inl ⟨ZcZ q (Yas _),hd acc H hacc p⟩
theorem Zhr {Z:Hp->Prop} (W2:Nat->Hp->Prop) (h0:W2 0 H6) (hl:∀ i H,i<=xs.length->W2 i H->SqB b K H a xs)
  (hs:∀ i x H,xs[i]?=some x->W2 i H->g2 x τ H fun τ2 H9=>tt2 τ2 H9 fun c H10=>
   if c=true then te τ2 H10 fun z H11=>∃ zs,H11 acc=some (.lst zs)/\zs.length<sizeLine/\(i+1<=xs.length/\W2 (i+1) (upd H11 acc (.lst (zs++[z])))) else (i+1<=xs.length/\W2 (i+1) H10))
  (hd:∀ H,W2 xs.length H->Z H):tInW g2 tt2 te τ acc (ItlB b K a) H6 Z:=by
 refine⟨fun i H=>i<=xs.length/\W2 i H,xs.length,⟨YaO _,h0⟩,?_⟩;rintro i H ⟨hi,p⟩;have q:=hl i H hi p;rcases Ybt i xs.length with hlt | hge
 ·refine .inr ⟨hlt,Ze9 q hlt,fun x H' y=>?_⟩;obtain⟨rfl,hx⟩:=ZdS q y;exact hs i x _ hx p
 ·obtain rfl:i=xs.length:=by omega
  exact .inl ⟨ZcZ q (Yas _),hd H p⟩
end
end L2
namespace L2
open PySem PyProof.Rows
structure KO extends KeyOrd where
 ky:Keyed->α
namespace KO
variable {O:KO}{x y z:Keyed}
def le (O:KO) (x y:Keyed):Prop:=O.blt (O.ky y) (O.ky x)=false
theorem le_refl:O.le x x:=O.irrefl _
theorem le_trans (h1:O.le x y) (h2:O.le y z):O.le x z:=YcQ (O:=O.toKeyOrd) h1 h2
theorem le_of_lt (h:O.blt (O.ky x) (O.ky y)=true):O.le x y:=KeyOrd.klt_asymm (O:=O.toKeyOrd) h
abbrev Srt (O:KO) (l:List Keyed):Prop:=l.Pairwise O.le
end KO
def Zfa:Bool->Keyed->Array Keyed->Nat->Nat->Nat->StateT SortSt Sem (Option Nat):=sortPriv% PySem.Builtin.gallop
def ZiK:Array Keyed->Array Keyed->StateT SortSt Sem (Array Keyed):=sortPriv% PySem.Builtin.mergeLo
def ZiL:Array Keyed->Array Keyed->StateT SortSt Sem (Array Keyed):=sortPriv% PySem.Builtin.mergeHi
def Zf2:Nat->StateT SortSt Sem Unit:=sortPriv% PySem.Builtin.setMinGallop
section
variable {prog:Program}{w:World}{A:Around}{E:Value->Shared->Prop}{s:Shared}{O:KO}{knd:SortKind}{ok:Keyed->Prop}{st:SortSt}
def Asks (prog:Program) (w:World) (A:Around) (s:Shared) (O:KO) (knd:SortKind) (ok:Keyed->Prop):Prop :=
 ∀ x y,ok x->ok y->∀ (E:Value->Shared->Prop) (Q:Bool->Shared->Prop),Q (O.blt (O.ky x) (O.ky y)) s->wpAny (model prog w) A (keyLt' knd x.1 y.1) Q E s
theorem Zd4 {x y:Keyed}{Q:Option Bool->SortSt->Prop} (hA:Asks prog w A s O knd ok) (hk:kindOf st=knd) (hx:ok x) (hy:ok y) (h:Q (some (O.blt (O.ky x) (O.ky y))) st):wpS (model prog w) A E s (lt' x y) Q st:=by
 rw[lt'_eq];refine wpS_bind (wpS_get ?_);rw[hk];refine wpS_bind (wpS_lift (wpAny_attempt (hA x y hx hy _ _ ⟨rfl,?_⟩)));exact wpS_pure h
theorem Zak {arr:Array Keyed}{i:Nat}{x:Keyed}{Q:Keyed->SortSt->Prop} (e:arr[i]?=some x) (h:Q x st):wpS (model prog w) A E s (elem' arr i) Q st:=by
 rw[elem'_eq,e];exact wpS_pure h
def ZhY (left:Bool) (key:Keyed) (arr:Array Keyed) (base i:Nat):StateT SortSt Sem (Option Bool) :=
 elem' arr (base+i) >>= fun x=>if left=true then lt' x key else lt' key x >>= fun r=>pure (r.map (! ·))
theorem Zda {left:Bool}{key:Keyed}{arr:Array Keyed}{base n hint:Nat}{Q:Option Nat->SortSt->Prop} (hA:Asks prog w A s O knd ok) (hk:kindOf st=knd) (hkey:ok key) (B:Nat->Bool)
    (hB:∀ i,i<n->∃ x,arr[base+i]?=some x/\ok x/\B i=if left=true then O.blt (O.ky x) (O.ky key) else !(O.blt (O.ky key) (O.ky x)))
    (mono:∀ i j,i<=j->j<n->B j=true->B i=true) (hh:hint<n)
    (h:∀ k,k<=n->(∀ i,i<k->B i=true)->(∀ i,k<=i->i<n->B i=false)->Q (some k) st):wpS (model prog w) A E s (Zfa left key arr base n hint) Q st:=by
  have bey:∀ i,i<n->∀ {Q':Option Bool->SortSt->Prop},Q' (some (B i)) st->wpS (model prog w) A E s (ZhY left key arr base i) Q' st:=by
    intro i hi Q' hq;obtain⟨x,e,hx,eb⟩:=hB i hi;refine wpS_bind (Zak e ?_);rw[eb] at hq
    cases left with
    | true=>simp only[if_true] at hq ⊢;exact Zd4 hA hk hx hkey hq
    | false=>
      simp only[YaU,if_false] at hq ⊢;exact wpS_bind (Zd4 hA hk hkey hx (wpS_pure hq))
  have monoF:∀ i j,i<=j->j<n->B i=false->B j=false:=by
    intro i j hij hj hf
    cases e:B j with
    | false=>rfl
    | true=>rw[mono i j hij hj e] at hf;cases hf
  have jp:∀ lo hi,lo<=hi->hi<=n->(∀ i,i<lo->B i=true)->(∀ i,hi<=i->i<n->B i=false) ->
      wpS (model prog w) A E s (forIn [:n] ((none : Option (Option Nat)), lo, hi) fun _ c => if c.2.1 ≥ c.2.2 then pure (Ycm (none, c.2.1, c.2.2)) else ZhY left key arr base (c.2.1 + (c.2.2 - c.2.1) / 2) >>= fun x => match x with
          | some more=>if more=true then pure (Ybg (none,c.2.1+(c.2.2 - c.2.1) / 2+1,c.2.2)) else pure (Ybg (none,c.2.1,c.2.1+(c.2.2 - c.2.1) / 2))
          | _=>pure (Ycm (some none,c.2.1,c.2.2)))
        (fun c st'=>st'=st/\∃ l k,c=(none,l,k)/\Q (some k) st) st:=by
    intro lo hi hle hin hlo hhi;refine wpS_forRange (I:=fun x c st'=>st'=st/\∃ l k,c=(none,l,k)/\l<=k/\k<=n/\k - l<=n - x/\(∀ i,i<l->B i=true)/\(∀ i,k<=i->i<n->B i=false)) ?step ?fin ⟨rfl,lo,hi,rfl,hle,hin,by (clear hle hh;omega),hlo,hhi⟩
    case fin=>
      rintro c st' ⟨rfl,l,k,rfl,h1,h2,h3,h4,h5⟩;have e:l=k:=by (clear h2 hin hle hh;omega)
      subst e;exact⟨rfl,l,l,rfl,h l h2 h4 h5⟩
    case step=>
      rintro x c st' _ hx ⟨rfl,l,k,rfl,h1,h2,h3,h4,h5⟩;dsimp only;by_cases hge:l ≥ k
      · rw[if_pos hge];have e:l=k:=by (clear h3 h2 hx hin hle hh;omega)
        subst e;exact wpS_pure ⟨rfl,l,l,rfl,h l h2 h4 h5⟩
      · rw[if_neg hge];have hm:l+(k - l) / 2<k:=by (clear h3 h2 h1 hx hin hle hh;omega)
        refine wpS_bind (bey _ (by (clear hm h3 h1 hx hin hle hh;omega)) ?_)
        cases e:B (l+(k - l) / 2) with
        | true=>
          simp only[if_true];exact wpS_pure ⟨rfl,_,_,rfl,by (clear hm h3 h2 h1 hx hin hle hh;omega),h2,by (clear hm hge h2 h1 hx hin hle hh;omega),fun i hi=>mono i _ (by (clear hm hge h3 h2 h1 hx hin hle hh;omega)) (by (clear hi hm h3 h1 hx hin hle hh;omega)) e,h5⟩
        | false=>
          simp only[YaU,if_false];exact wpS_pure ⟨rfl,_,_,rfl,by (clear hm hge h3 h2 h1 hx hin hle hh;omega),by (clear hm hge h3 hx hin hle hh;omega),by (clear hm hge h2 h1 hx hin hle hh;omega),h4,fun i h6 h7=>monoF _ i h6 h7 e⟩
  refine wpS_bind (bey hint hh ?_);dsimp only
  cases e0:B hint with
  | true=>
    simp only[if_true];refine wpS_bind (wpS_mono (wpS_forRange (I:=fun x c st'=>st'=st/\∃ l k,c=((none:Option (Option Nat)),l,k)/\l<k/\x+1<=k/\hint+l<n/\B (hint+l)=true)
      (Q:=fun c st'=>st'=st/\∃ l k,c=((none:Option (Option Nat)),l,k)/\l<k/\hint+l<n/\B (hint+l)=true/\(n - hint<=k∨(hint+k<n/\B (hint+k)=false))) ?step ?fin ⟨rfl,0,1,rfl,by (clear hh;omega),by (clear hh;omega),hh,e0⟩) ?post)
    case fin=>
      rintro c st' ⟨rfl,l,k,rfl,h1,h2,h3,h4⟩;exact⟨rfl,l,k,rfl,h1,h3,h4,.inl (by (clear h3 h1 hh;omega))⟩
    case step=>
      rintro x c st' _ hx ⟨rfl,l,k,rfl,h1,h2,h3,h4⟩;dsimp only;by_cases hge:k ≥ n - hint
      · rw[if_pos hge];exact wpS_pure ⟨rfl,l,k,rfl,h1,h3,h4,.inl hge⟩
      · rw[if_neg hge];refine wpS_bind (bey (hint+k) (by (clear h3 h2 h1 hx hh;omega)) ?_)
        cases e:B (hint+k) with
        | true=>
          simp only[Yda,YaU,if_false];exact wpS_pure ⟨rfl,_,_,rfl,by (clear hge h3 h2 h1 hx hh;omega),by (clear hge h3 h1 hx hh;omega),by (clear h3 h2 h1 hx hh;omega),e⟩
        | false=>
          simp only[Bool.not_false,if_true];exact wpS_pure ⟨rfl,l,k,rfl,h1,h3,h4,.inr ⟨by (clear h3 h2 h1 hx hh;omega),e⟩⟩
    case post=>
      rintro c st' ⟨rfl,l,k,rfl,h1,h3,h4,h5⟩;dsimp only;refine wpS_bind (wpS_mono (jp (hint+l+1) (hint+min k (n - hint)) (by (clear h5 hh;omega)) (by (clear h5 h3 h1;omega)) (fun i hi=>mono i (hint+l) (by (clear h5 h3 h1 hh;omega)) h3 h4) (fun i h6 h7=>?_)) ?_)
      · rcases h5 with h5 | ⟨h5,h8⟩
        · (clear h3 h1 hh;omega)
        · exact monoF (hint+k) i (by (clear h5 h3 h1 hh;omega)) h7 h8
      · rintro c st' ⟨rfl,l,k,rfl,q⟩;exact wpS_pure q
  | false=>
    simp only[YaU,if_false];refine wpS_bind (wpS_mono (wpS_forRange (I:=fun x c st'=>st'=st/\∃ l k,c=((none:Option (Option Nat)),l,k)/\l<k/\x+1<=k/\l<=hint/\B (hint - l)=false)
      (Q:=fun c st'=>st'=st/\∃ l k,c=((none:Option (Option Nat)),l,k)/\l<k/\l<=hint/\B (hint - l)=false/\(hint+1<=k∨(k<=hint/\B (hint - k)=true))) ?step ?fin ⟨rfl,0,1,rfl,by (clear hh;omega),by (clear hh;omega),by (clear hh;omega),e0⟩) ?post)
    case fin=>
      rintro c st' ⟨rfl,l,k,rfl,h1,h2,h3,h4⟩;exact⟨rfl,l,k,rfl,h1,h3,h4,.inl (by (clear h3 h1;omega))⟩
    case step=>
      rintro x c st' _ hx ⟨rfl,l,k,rfl,h1,h2,h3,h4⟩;dsimp only;by_cases hge:k ≥ hint+1
      · rw[if_pos hge];exact wpS_pure ⟨rfl,l,k,rfl,h1,h3,h4,.inl hge⟩
      · rw[if_neg hge];refine wpS_bind (bey (hint - k) (by (clear hge h3 h2 h1 hx;omega)) ?_)
        cases e:B (hint - k) with
        | true=>
          simp only[if_true];exact wpS_pure ⟨rfl,l,k,rfl,h1,h3,h4,.inr ⟨by (clear h3 h2 h1 hx hh;omega),e⟩⟩
        | false=>
          simp only[YaU,if_false];exact wpS_pure ⟨rfl,_,_,rfl,by (clear hge h3 h2 h1 hx hh;omega),by (clear hge h3 h1 hx hh;omega),by (clear h3 h2 h1 hx hh;omega),e⟩
    case post=>
      rintro c st' ⟨rfl,l,k,rfl,h1,h3,h4,h5⟩;dsimp only;refine wpS_bind (wpS_mono (jp (hint+1 - min k (hint+1)) (hint - l) (by (clear h5 h3 hh;omega)) (by (clear h5 h3 h1;omega)) (fun i hi=>?_) (fun i h6 h7=>monoF _ i h6 h7 h4)) ?_)
      · rcases h5 with h5 | ⟨h5,h8⟩
        · (clear h3 h1 hh;omega)
        · exact mono i (hint - k) (by (clear h5 h3 h1 hh;omega)) (by (clear h5 hi h3 h1;omega)) h8
      · rintro c st' ⟨rfl,l,k,rfl,q⟩;exact wpS_pure q
end
section
variable {O:KO}{a b out:List Keyed}{ia ib:Nat}{x:Keyed}
theorem Zff {l:List Keyed}{i:Nat}{x:Keyed} (e:l[i]?=some x):l.drop i=x::l.drop (i+1):=by
 obtain⟨h,rfl⟩:=Yaa.mp e;exact Yct h
theorem ZfP (a:Array Keyed) (i:Nat):(a.extract i a.size).toList=a.toList.drop i:=by
 rw[YcW];simp only[YeB];exact YaW (by simp)
theorem Zfc (a:Array Keyed) (i k:Nat):(a.extract i (i+k)).toList=(a.toList.drop i).take k:=by
 rw[YcW];simp[YeB]
structure MI (O:KO) (a b out:List Keyed) (ia ib:Nat):Prop where
 perm:(out++(a.drop ia++b.drop ib)).Perm (a++b)
 srt:O.Srt out
 le:∀ x∈out,∀ y∈a.drop ia++b.drop ib,O.le x y
theorem Zfp (h:O.Srt out) (hx:∀ y∈out,O.le y x):O.Srt (out++[x]) :=
 YaZ.mpr ⟨h,Yej _ _,fun y hy z hz=>by rw[YaH.mp hz];exact hx y hy⟩
theorem MI.takeA (h:MI O a b out ia ib) (sa:O.Srt a) (e:a[ia]?=some x) (hb:∀ y∈b.drop ib,O.le x y):MI O a b (out++[x]) (ia+1) ib:=by
 have ed:=Zff e;have sd:O.Srt (x::a.drop (ia+1)):=ed ▸ sa.drop;refine⟨?_,Zfp h.srt fun y hy=>h.le y hy x (by rw[ed];simp),fun y hy z hz=>?_⟩
 ·have p:=h.perm;rw[ed] at p;simpa using p
 ·rcases Yao.mp hy with hy | hy
  ·refine h.le y hy z ?_;rw[ed];rcases Yao.mp hz with hz | hz
   ·exact Ya0 _ (Yan _ hz)
   ·exact Yax _ hz
  ·rw[YaH.mp hy];rcases Yao.mp hz with hz | hz
   ·exact (Yca.mp sd).1 z hz
   ·exact hb z hz
theorem MI.takeB (h:MI O a b out ia ib) (sb:O.Srt b) (e:b[ib]?=some x) (ha:∀ y∈a.drop ia,O.le x y):MI O a b (out++[x]) ia (ib+1):=by
 have ed:=Zff e;have sd:O.Srt (x::b.drop (ib+1)):=ed ▸ sb.drop;refine⟨?_,Zfp h.srt fun y hy=>h.le y hy x (by rw[ed];simp),fun y hy z hz=>?_⟩
 ·have p:=h.perm;rw[ed] at p;refine Yc6 ?_ p;rw[YaM];exact Yb9 _ (show List.Perm (x::(a.drop ia++b.drop (ib+1))) _ from Yfa.symm)
 ·rcases Yao.mp hy with hy | hy
  ·refine h.le y hy z ?_;rw[ed];rcases Yao.mp hz with hz | hz
   ·exact Ya0 _ hz
   ·exact Yax _ (Yan _ hz)
  ·rw[YaH.mp hy];rcases Yao.mp hz with hz | hz
   ·exact ha z hz
   ·exact (Yca.mp sd).1 z hz
theorem Zeb {l:List Keyed}{i k:Nat}{x:Keyed} (e:l[i+k]?=some x):(l.drop i).take (k+1)=(l.drop i).take k++[x]:=by
 rw[List.take_succ,Ybx,e];rfl
theorem MI.takeAs (h:MI O a b out ia ib) (sa:O.Srt a):∀ k,ia+k<=a.length->(∀ i z,i<k->a[ia+i]?=some z->∀ y∈b.drop ib,O.le z y)->MI O a b (out++(a.drop ia).take k) (ia+k) ib
 | 0,_,_=>by simpa using h
 | k+1,hl,hz=>by
  have q:=MI.takeAs h sa k (by omega) fun i z hi e=>hz i z (by (clear hl;omega)) e;have e:a[ia+k]?=some a[ia+k]:=Yab (by omega);have r:=q.takeA sa e (hz k _ (by omega) e);rw[YaM,<- Zeb e] at r;exact r
theorem MI.takeBs (h:MI O a b out ia ib) (sb:O.Srt b):∀ k,ib+k<=b.length->(∀ i z,i<k->b[ib+i]?=some z->∀ y∈a.drop ia,O.le z y)->MI O a b (out++(b.drop ib).take k) ia (ib+k)
 | 0,_,_=>by simpa using h
 | k+1,hl,hz=>by
  have q:=MI.takeBs h sb k (by omega) fun i z hi e=>hz i z (by (clear hl;omega)) e;have e:b[ib+k]?=some b[ib+k]:=Yab (by omega);have r:=q.takeB sb e (hz k _ (by omega) e);rw[YaM,<- Zeb e] at r;exact r
def Mg (O:KO) (a b r:List Keyed):Prop:=r.Perm (a++b)/\O.Srt r
theorem MI.doneA (h:MI O a b out ia ib) (sa:O.Srt a) (e:b.length<=ib):Mg O a b (out++a.drop ia++b.drop ib):=by
 have eb:b.drop ib=[]:=List.drop_eq_nil_of_le e;refine⟨by rw[YaM];exact h.perm,?_⟩;rw[eb,Ybz];exact YaZ.mpr ⟨h.srt,sa.drop,fun x hx y hy=>h.le x hx y (Ya0 _ hy)⟩
theorem MI.doneB (h:MI O a b out ia ib) (sa:O.Srt a) (sb:O.Srt b) (hl:∀ x∈b.drop ib,∀ y∈a.drop ia,O.le x y):Mg O a b (out++b.drop ib++a.drop ia):=by
 refine⟨by rw[YaM];exact (Yb9 _ Ydh).trans h.perm,?_⟩;rw[YaM];refine YaZ.mpr ⟨h.srt,YaZ.mpr ⟨sb.drop,sa.drop,hl⟩,fun x hx y hy=>h.le x hx y ?_⟩;rcases Yao.mp hy with hy | hy
 ·exact Yax _ hy
 ·exact Ya0 _ hy
end
section
variable {prog:Program}{w:World}{A:Around}{E:Value->Shared->Prop}{s:Shared}{O:KO}{knd:SortKind}{ok:Keyed->Prop}{st:SortSt}
theorem ZaD {α:Type}{c:Prop} [Decidable c] {p q:StateT SortSt Sem α}{Q:α->SortSt->Prop} (h1:c->wpS (model prog w) A E s p Q st) (h2:¬ c->wpS (model prog w) A E s q Q st):wpS (model prog w) A E s (if c then p else q) Q st:=by
 by_cases h:c
 ·rw[if_pos h];exact h1 h
 ·rw[if_neg h];exact h2 h
def Gal (st st':SortSt):Prop:=kindOf st'=kindOf st/\arrOf st'=arrOf st/\pendingOf st'=pendingOf st/\failedOf st'=failedOf st
theorem Gal.refl:Gal st st:=⟨rfl,rfl,rfl,rfl⟩
theorem Za5 {g:Nat}{st1:SortSt}{Q:Unit->SortSt->Prop} (hG:Gal st st1) (h:∀ st',Gal st st'->Q () st'):wpS (model prog w) A E s (Zf2 g) Q st1 :=
 wpS_modify (h _ ⟨hG.1,hG.2.1,hG.2.2.1,hG.2.2.2⟩)
theorem Zb0 {l:List Keyed} (sl:O.Srt l) {i j:Nat}{x y:Keyed} (hij:i<=j) (hx:l[i]?=some x) (hy:l[j]?=some y):O.le x y:=by
 obtain⟨h1,rfl⟩:=Yaa.mp hx;obtain⟨h2,rfl⟩:=Yaa.mp hy;rcases Ye1 hij with h | h
 ·exact Yb0.mp sl i j h1 h2 h
 ·subst h;exact KO.le_refl
theorem ZaV {l:List Keyed}{i:Nat}{y:Keyed} (h:y∈l.drop i):∃ j,i<=j/\l[j]?=some y:=by
 obtain⟨j,hj,e⟩:=YeK.mp h;exact⟨i+j,by omega,by rw[<- Ybx,Yab hj,e]⟩
theorem Zcr {l:List Keyed} (sl:O.Srt l) {i:Nat}{x:Keyed} (hx:l[i]?=some x):∀ y∈l.drop i,O.le x y:=fun y hy=>
 let ⟨_,hj,e⟩:=ZaV hy
 Zb0 sl hj hx e
theorem ZaG {a:Array Keyed}{i:Nat} (h:i<a.size):∃ x,a[i]?=some x/\a.toList[i]?=some x/\x∈a.toList :=
 ⟨a[i],Ycr h,by rw[Yaq];exact Ycr h,by simp⟩
theorem Zds {a:Array Keyed}{i:Nat}{x:Keyed} (h:a[i]?=some x):a.toList[i]?=some x:=by rw[Yaq];exact h
theorem ZbN {key:Keyed}{a:Array Keyed}{i n hint:Nat}{Q:Option Nat->SortSt->Prop} (hA:Asks prog w A s O knd ok) (hk:kindOf st=knd) (hkey:ok key) (oka:∀ x∈a.toList,ok x) (hi:i+n<=a.size)
  (sa:∀ p q x y,i<=p->p<=q->q<i+n->a[p]?=some x->a[q]?=some y->O.le x y) (hh:hint<n)
  (h:∀ k,k<=n->(∀ j z,j<k->a[i+j]?=some z->O.le z key)->(∀ j z,k<=j->j<n->a[i+j]?=some z->O.blt (O.ky key) (O.ky z)=true)->Q (some k) st):wpS (model prog w) A E s (Zfa false key a i n hint) Q st:=by
 refine Zda hA hk hkey (fun j=>!(O.blt (O.ky key) (O.ky (a.getD (i+j) key)))) ?_ ?_ hh ?_
 ·intro j hj;obtain⟨x,e1,_,e3⟩:=ZaG (a:=a) (i:=i+j) (by (clear hh;omega));refine⟨x,e1,oka x e3,?_⟩;have e4:a.getD (i+j) key=x:=by rw[Ya6,e1];rfl
  simp[e4]
 ·intro p q hpq hq hb;obtain⟨x,e1,_,_⟩:=ZaG (a:=a) (i:=i+p) (by (clear hh;omega));obtain⟨y,f1,_,_⟩:=ZaG (a:=a) (i:=i+q) (by (clear hpq hh;omega));have e4:a.getD (i+p) key=x:=by rw[Ya6,e1];rfl
  have f4:a.getD (i+q) key=y:=by rw[Ya6,f1];rfl
  rw[f4] at hb;rw[e4];have z:O.le x key:=KO.le_trans (sa _ _ x y (by (clear hq hpq hh hi;omega)) (by (clear hq hh hi;omega)) (by (clear hpq hh hi;omega)) e1 f1) (show O.blt _ _=false by simpa using hb);have z:O.blt (O.ky key) (O.ky x)=false:=z;simpa using z
 ·intro k hk1 h1 h2;refine h k hk1 (fun j z hj e=>?_) (fun j z hj hj2 e=>?_)
  ·have e4:a.getD (i+j) key=z:=by rw[Ya6,e];rfl
   have:=h1 j hj;rw[e4] at this;exact (show O.blt _ _=false by simpa using this)
  ·have e4:a.getD (i+j) key=z:=by rw[Ya6,e];rfl
   have:=h2 j hj hj2;rw[e4] at this;simpa using this
theorem Za9 {key:Keyed}{a:Array Keyed}{i n hint:Nat}{Q:Option Nat->SortSt->Prop} (hA:Asks prog w A s O knd ok) (hk:kindOf st=knd) (hkey:ok key) (oka:∀ x∈a.toList,ok x) (hi:i+n<=a.size)
  (sa:∀ p q x y,i<=p->p<=q->q<i+n->a[p]?=some x->a[q]?=some y->O.le x y) (hh:hint<n)
  (h:∀ k,k<=n->(∀ j z,j<k->a[i+j]?=some z->O.blt (O.ky z) (O.ky key)=true)->(∀ j z,k<=j->j<n->a[i+j]?=some z->O.le key z)->Q (some k) st):wpS (model prog w) A E s (Zfa true key a i n hint) Q st:=by
 refine Zda hA hk hkey (fun j=>O.blt (O.ky (a.getD (i+j) key)) (O.ky key)) ?_ ?_ hh ?_
 ·intro j hj;obtain⟨x,e1,_,e3⟩:=ZaG (a:=a) (i:=i+j) (by (clear hh;omega));refine⟨x,e1,oka x e3,?_⟩;have e4:a.getD (i+j) key=x:=by rw[Ya6,e1];rfl
  simp[e4]
 ·intro p q hpq hq hb;obtain⟨x,e1,_,_⟩:=ZaG (a:=a) (i:=i+p) (by (clear hh;omega));obtain⟨y,f1,_,_⟩:=ZaG (a:=a) (i:=i+q) (by (clear hpq hh;omega));have e4:a.getD (i+p) key=x:=by rw[Ya6,e1];rfl
  have f4:a.getD (i+q) key=y:=by rw[Ya6,f1];rfl
  rw[f4] at hb;rw[e4];exact KeyOrd.klt_of_kle_of_klt (O:=O.toKeyOrd) (sa _ _ x y (by (clear hq hpq hh hi;omega)) (by (clear hq hh hi;omega)) (by (clear hpq hh hi;omega)) e1 f1) hb
 ·intro k hk1 h1 h2;refine h k hk1 (fun j z hj e=>?_) (fun j z hj hj2 e=>?_)
  ·have e4:a.getD (i+j) key=z:=by rw[Ya6,e];rfl
   have:=h1 j hj;rw[e4] at this;exact this
  ·have e4:a.getD (i+j) key=z:=by rw[Ya6,e];rfl
   have:=h2 j hj hj2;rw[e4] at this;exact this
theorem srtA {a:Array Keyed} (sa:O.Srt a.toList) (i n:Nat):∀ p q x y,i<=p->p<=q->q<i+n->a[p]?=some x->a[q]?=some y->O.le x y:=fun p q x y _ h _ e1 e2=>Zb0 sa h (Zds e1) (Zds e2)
theorem ZeO {a b:Array Keyed}{Q:Array Keyed->SortSt->Prop} (hA:Asks prog w A s O knd ok) (hk:kindOf st=knd) (oka:∀ x∈a.toList,ok x) (okb:∀ x∈b.toList,ok x) (sa:O.Srt a.toList) (sb:O.Srt b.toList) (ha:1<=a.size) (hb:1<=b.size)
  (hfirst:∀ y,b[0]?=some y->∀ x∈a.toList,O.le y x) (hlast:∀ z,a[a.size - 1]?=some z->∀ y∈b.toList,O.blt (O.ky y) (O.ky z)=true)
  (h:∀ r st',Gal st st'->Mg O a.toList b.toList r.toList->Q r st'):wpS (model prog w) A E s (ZiK a b) Q st:=by
 obtain⟨b0,eb0,eb0',_⟩:=ZaG (a:=b) (i:=0) (by (clear ha;omega));have done:∀ {out:Array Keyed}{ia ib:Nat},MI O a.toList b.toList out.toList ia ib->b.size<=ib->Mg O a.toList b.toList (out++a.extract ia a.size++b.extract ib b.size).toList:=by
  intro out ia ib m hl;rw[Ybb,Ybb,ZfP,ZfP];exact m.doneA sa hl
 have last:∀ {out:Array Keyed}{ia ib:Nat},MI O a.toList b.toList out.toList ia ib->ia+1=a.size->Mg O a.toList b.toList (out++b.extract ib b.size++a.extract ia a.size).toList:=by
  intro out ia ib m hl;rw[Ybb,Ybb,ZfP,ZfP];refine m.doneB sa sb fun x hx y hy=>?_;obtain⟨j,hj,e⟩:=ZaV hy;have hj2:j<a.size:=(Yaa.mp e).1
  have e2:j=a.size - 1:=by (clear hb ha;omega)
  rw[e2] at e;rw[Yaq] at e;exact KO.le_of_lt (hlast y e x (Yb2 hx))
 have pB:∀ {out:Array Keyed}{ia ib:Nat}{y:Keyed},MI O a.toList b.toList out.toList ia ib->b[ib]?=some y->(∀ z∈a.toList.drop ia,O.le y z)->MI O a.toList b.toList (out.push y).toList ia (ib+1):=by
  intro out ia ib y m e hz;rw[YcK];exact m.takeB sb (Zds e) hz
 have pA:∀ {out:Array Keyed}{ia ib:Nat}{y:Keyed},MI O a.toList b.toList out.toList ia ib->a[ia]?=some y->(∀ z∈b.toList.drop ib,O.le y z)->MI O a.toList b.toList (out.push y).toList (ia+1) ib:=by
  intro out ia ib y m e hz;rw[YcK];exact m.takeA sa (Zds e) hz
 refine wpS_bind (wpS_lift (wpAny_rule ⟨rfl,?_⟩));refine wpS_bind (Zak eb0 ?_);have m0:MI O a.toList b.toList #[b0].toList 0 1 :=
  MI.takeB (out:=[]) (ib:=0) ⟨by simp,Ycw,fun x hx=>by cases hx⟩ sb eb0' (by simpa using hfirst b0 eb0)
 dsimp only;by_cases c1:1=b.size
 ·rw[if_pos (by simpa using c1)];exact wpS_pure (h _ _ Gal.refl (done m0 (by (clear hb ha;omega))))
 rw[if_neg (by simpa using c1)];by_cases c2:0+1=a.size
 ·rw[if_pos (by simpa using c2)];exact wpS_pure (h _ _ Gal.refl (last m0 (by (clear c1 hb ha;omega))))
 rw[if_neg (by simpa using c2)];refine wpS_bind (wpS_get ?_);refine wpS_bind (wpS_mono (wpS_forRange
  (I:=fun x c st'=>Gal st st'/\∃ (out:Array Keyed) (ia ib g:Nat),c=((none:Option (Array Keyed)),out,ia,ib,g)/\MI O a.toList b.toList out.toList ia ib/\ia+1<a.size/\ib<b.size/\x<=ia+ib)
  (Q:=fun c st'=>Gal st st'/\∃ (r out:Array Keyed) (ia ib g:Nat),c=(some r,out,ia,ib,g)/\Mg O a.toList b.toList r.toList) ?step ?fin ⟨Gal.refl,#[b0],0,1,gallopOf st,rfl,m0,by (clear c1 hb;omega),by (clear c2 ha;omega),by (clear c2 c1 hb ha;omega)⟩) ?post)
 case fin=>
  rintro c st' ⟨_,out,ia,ib,g,rfl,_,h1,h2,h3⟩
  (clear c2 c1 hb ha;omega)
 case post=>
  rintro c st' ⟨hG,r,out,ia,ib,g,rfl,hm⟩;exact wpS_pure (h r st' hG hm)
 case step=>
  rintro x c st1 _ hx ⟨hG1,out,ia,ib,g,rfl,hm,h1,h2,h3⟩;dsimp only;have hk1:kindOf st1=knd:=hG1.1.trans hk;refine wpS_bind (wpS_mono (wpS_forRange
   (I:=fun y c st'=>st'=st1/\∃ (out:Array Keyed) (ia ib p q:Nat),c=((none:Option (Array Keyed)),out,ia,ib,p,q)/\MI O a.toList b.toList out.toList ia ib/\ia+1<a.size/\ib<b.size/\x+y<=ia+ib)
   (Q:=fun c st'=>st'=st1/\((∃ (r out:Array Keyed) (ia ib p q:Nat),c=(some r,out,ia,ib,p,q)/\Mg O a.toList b.toList r.toList) ∨
    (∃ (out:Array Keyed) (ia ib p q:Nat),c=(none,out,ia,ib,p,q)/\MI O a.toList b.toList out.toList ia ib/\ia+1<a.size/\ib<b.size/\x+1<=ia+ib))) ?step1 ?fin1 ⟨rfl,out,ia,ib,0,0,rfl,hm,h1,h2,by (clear h2 h1 hx c2 c1 hb ha;omega)⟩) ?post1)
  case fin1=>
   rintro c st' ⟨rfl,out,ia,ib,p,q,rfl,hm,h1,h2,h3⟩;exact⟨rfl,.inr ⟨out,ia,ib,p,q,rfl,hm,h1,h2,by (clear h2 h1 hx c2 c1 hb ha;omega)⟩⟩
  case step1=>
   rintro y c st' _ hy ⟨rfl,out,ia,ib,p,q,rfl,hm,h1,h2,h3⟩;dsimp only;obtain⟨u,eu,eu',mu⟩:=ZaG (a:=b) h2;obtain⟨v,ev,ev',mv⟩:=ZaG (a:=a) (i:=ia) (by (clear h3 h2 hy hx c2 c1 hb ha;omega));refine wpS_bind (Zak eu (wpS_bind (Zak ev ?_)));refine wpS_bind (Zd4 hA hk1 (okb u mu) (oka v mv) ?_)
   cases e:O.blt (O.ky u) (O.ky v) with
   | true=>
    simp only[if_true];refine wpS_bind (Zak eu ?_);have m2:=pB hm eu fun z hz=>KO.le_trans (KO.le_of_lt e) (Zcr sa ev' z hz);by_cases c3:ib+1=b.size
    ·rw[if_pos (by simpa using c3)];exact wpS_pure ⟨rfl,.inl ⟨_,_,_,_,_,_,rfl,done m2 (by (clear h3 h2 h1 hy hx c2 c1 hb ha;omega))⟩⟩
    rw[if_neg (by simpa using c3)];refine ZaD (fun _=>?_) (fun _=>?_)
    ·exact wpS_pure ⟨rfl,.inr ⟨_,_,_,_,_,rfl,m2,by (clear c3 h3 h2 hy hx c2 c1 hb ha;omega),by (clear h3 h1 hy hx c2 c1 hb ha;omega),by (clear c3 h2 h1 hy hx c2 c1 hb ha;omega)⟩⟩
    ·exact wpS_pure ⟨rfl,_,_,_,_,_,rfl,m2,by (clear c3 h3 h2 hy hx c2 c1 hb ha;omega),by (clear h3 h1 hy hx c2 c1 hb ha;omega),by (clear c3 h2 h1 hy hx c2 c1 hb ha;omega)⟩
   | false=>
    simp only[YaU,if_false];refine wpS_bind (Zak ev ?_);have m2:=pA hm ev fun z hz=>KO.le_trans (show O.le v u from e) (Zcr sb eu' z hz);by_cases c3:ia+1+1=a.size
    ·rw[if_pos (by simpa using c3)];exact wpS_pure ⟨rfl,.inl ⟨_,_,_,_,_,_,rfl,last m2 c3⟩⟩
    rw[if_neg (by simpa using c3)];refine ZaD (fun _=>?_) (fun _=>?_)
    ·exact wpS_pure ⟨rfl,.inr ⟨_,_,_,_,_,rfl,m2,by (clear h3 h2 hy hx c2 c1 hb ha;omega),by (clear c3 h3 h1 hy hx c2 c1 hb ha;omega),by (clear c3 h2 h1 hy hx c2 c1 hb ha;omega)⟩⟩
    ·exact wpS_pure ⟨rfl,_,_,_,_,_,rfl,m2,by (clear h3 h2 hy hx c2 c1 hb ha;omega),by (clear c3 h3 h1 hy hx c2 c1 hb ha;omega),by (clear c3 h2 h1 hy hx c2 c1 hb ha;omega)⟩
  case post1=>
   rintro c st' ⟨rfl,⟨r,out,ia,ib,p,q,rfl,hr⟩ | ⟨out,ia,ib,p,q,rfl,hm,h1,h2,h3⟩⟩
   ·exact wpS_pure ⟨hG1,_,_,_,_,_,rfl,hr⟩
   dsimp only;refine wpS_bind (wpS_lift (wpAny_rule ⟨rfl,?_⟩));refine wpS_bind (wpS_mono (wpS_forRange
    (I:=fun y c st'=>Gal st st'/\∃ (out:Array Keyed) (ia ib g p q:Nat),c=((none:Option (Array Keyed)),out,ia,ib,g,p,q)/\MI O a.toList b.toList out.toList ia ib/\ia+1<a.size/\ib<b.size/\x+1<=ia+ib)
    (Q:=fun c st'=>Gal st st'/\((∃ (r out:Array Keyed) (ia ib g p q:Nat),c=(some r,out,ia,ib,g,p,q)/\Mg O a.toList b.toList r.toList) ∨
     (∃ (out:Array Keyed) (ia ib g p q:Nat),c=(none,out,ia,ib,g,p,q)/\MI O a.toList b.toList out.toList ia ib/\ia+1<a.size/\ib<b.size/\x+1<=ia+ib))) ?step2 ?fin2 ⟨hG1,out,ia,ib,g+1,p,q,rfl,hm,h1,h2,h3⟩) ?post2)
   case fin2=>
    rintro c st' ⟨hG,out,ia,ib,g,p,q,rfl,hm,h1,h2,h3⟩;exact⟨hG,.inr ⟨out,ia,ib,g,p,q,rfl,hm,h1,h2,h3⟩⟩
   case post2=>
    rintro c st' ⟨hG,⟨r,out,ia,ib,g,p,q,rfl,hr⟩ | ⟨out,ia,ib,g,p,q,rfl,hm,h1,h2,h3⟩⟩
    ·exact wpS_pure ⟨hG,_,_,_,_,_,rfl,hr⟩
    exact wpS_bind (Za5 hG fun st2 hG2=>wpS_pure ⟨hG2,_,_,_,_,rfl,hm,h1,h2,h3⟩)
   case step2=>
    rintro y c st' _ hy ⟨hG,out,ia,ib,g,p,q,rfl,hm,h1,h2,h3⟩;dsimp only;obtain⟨u,eu,eu',mu⟩:=ZaG (a:=b) h2;refine ZaD (fun cg=>?_) (fun cg=>?_)
    all_goals
     refine wpS_bind (Za5 hG fun st2 hG2=>wpS_bind (Zak eu ?_));refine wpS_bind (ZbN hA (hG2.1.trans hk) (okb u mu) oka (by (clear cg h3 h2 hy hx c2 c1 hb ha;omega)) (srtA sa _ _) (by (clear cg h3 h2 hy hx c2 c1 hb ha;omega)) fun k hk1 b1 b2=>?_);have m3:=hm.takeAs sa k (by simp;(clear cg h3 h2 hy hx c2 c1 hb ha;omega)) fun i z hi e y hy=>KO.le_trans (b1 i z hi (by rw[<- Yaq];exact e)) (Zcr sb eu' y hy);have hu:∀ z∈a.toList.drop (ia+k),O.le u z:=by
      intro z hz;obtain⟨j,hj,e⟩:=ZaV hz;have hj2:j<a.size:=(Yaa.mp e).1
      refine KO.le_of_lt (b2 (j - ia) z (by (clear hj2 hk1 cg h3 h2 h1 hy hx c2 c1 hb ha;omega)) (by (clear hj hk1 cg h3 h2 hy hx c2 c1 hb ha;omega)) ?_);rw[show ia+(j - ia)=j by (clear hj2 hk1 cg h3 h2 h1 hy hx c2 c1 hb ha;omega),<- Yaq];exact e
     have hka:ia+k<a.size:=by
      rcases Ye1 hk1 with z | z
      ·(clear hk1 cg h3 h2 h1 hy hx c2 c1 hb ha;omega)
      ·obtain⟨zl,el,_,_⟩:=ZaG (a:=a) (i:=a.size - 1) (by (clear z hk1 cg h3 h2 h1 hy hx c2 c1 hb ha;omega));have q1:=hlast zl el u mu;have q2:=b1 (a.size - 1 - ia) zl (by (clear hk1 cg h3 h2 hy hx c2 c1 hb ha;omega)) (by rw[show ia+(a.size - 1 - ia)=a.size - 1 by (clear z hk1 cg h3 h2 hy hx c2 c1 hb ha;omega)];exact el);rw[show O.blt (O.ky u) (O.ky zl)=false from q2] at q1;cases q1
     dsimp only;by_cases ck:k > 0
     ·rw[if_pos ck];rw[<- Zfc,<- Ybb] at m3;by_cases c3:ia+k+1=a.size
      ·rw[if_pos (by simpa using c3)];exact wpS_pure ⟨hG2,.inl ⟨_,_,_,_,_,_,_,rfl,last m3 c3⟩⟩
      rw[if_neg (by simpa using c3),if_neg (by simp;(clear c3 ck hk1 cg h3 h2 h1 hy hx c2 c1 hb ha;omega))];refine wpS_bind (Zak eu ?_);have m4:=pB m3 eu hu;by_cases c4:ib+1=b.size
      ·rw[if_pos (by simpa using c4)];exact wpS_pure ⟨hG2,.inl ⟨_,_,_,_,_,_,_,rfl,done m4 (by (clear c3 ck hka hk1 cg h3 h2 h1 hy hx c2 c1 hb ha;omega))⟩⟩
      rw[if_neg (by simpa using c4)];obtain⟨v,ev,ev',mv⟩:=ZaG (a:=a) (i:=ia+k) (by (clear c4 c3 ck hk1 cg h3 h2 h1 hy hx c2 c1 hb ha;omega));refine wpS_bind (Zak ev ?_);refine wpS_bind (Za9 hA (hG2.1.trans hk) (oka v mv) okb (by (clear c4 c3 ck hka hk1 cg h3 h1 hy hx c2 c1 hb ha;omega)) (srtA sb _ _) (by (clear c3 ck hka hk1 cg h3 h1 hy hx c2 c1 hb ha;omega)) fun k2 hk2 d1 d2=>?_);have m5:=m4.takeBs sb k2 (by simp;(clear c4 c3 ck hka hk1 cg h3 h1 hy hx c2 c1 hb ha;omega)) fun i z hi e y hy=>KO.le_trans (KO.le_of_lt (d1 i z hi (by rw[<- Yaq];exact e))) (Zcr sa ev' y hy);have hv:∀ z∈b.toList.drop (ib+1+k2),O.le v z:=by
       intro z hz;obtain⟨j,hj,e⟩:=ZaV hz;have hj2:j<b.size:=(Yaa.mp e).1
       refine d2 (j - (ib+1)) z (by (clear hj2 hk2 c4 c3 ck hka hk1 cg h3 h2 h1 hy hx c2 c1 hb ha;omega)) (by (clear hj hk2 c3 ck hka hk1 cg h3 h1 hy hx c2 c1 hb ha;omega)) ?_;rw[show ib+1+(j - (ib+1))=j by (clear hj2 hk2 c4 c3 ck hka hk1 cg h3 h2 h1 hy hx c2 c1 hb ha;omega),<- Yaq];exact e
      dsimp only;by_cases ck2:k2 > 0
      ·rw[if_pos ck2];rw[<- Zfc,<- Ybb] at m5;by_cases c6:ib+1+k2=b.size
       ·rw[if_pos (by simpa using c6)];exact wpS_pure ⟨hG2,.inl ⟨_,_,_,_,_,_,_,rfl,done m5 (by (clear ck2 hk2 c4 c3 ck hka hk1 cg h3 h2 h1 hy hx c2 c1 hb ha;omega))⟩⟩
       rw[if_neg (by simpa using c6)];refine wpS_bind (Zak ev ?_);have m7:=pA m5 ev hv;by_cases c7:ia+k+1+1=a.size
       ·rw[if_pos (by simpa using c7)];exact wpS_pure ⟨hG2,.inl ⟨_,_,_,_,_,_,_,rfl,last m7 c7⟩⟩
       rw[if_neg (by simpa using c7)];refine ZaD (fun _=>?_) (fun _=>?_)
       ·exact wpS_pure ⟨hG2,.inr ⟨_,_,_,_,_,_,rfl,m7,by (clear c6 ck2 hk2 c4 ck hk1 cg h3 h2 h1 hy hx c2 c1 hb ha;omega),by (clear c7 ck2 c4 c3 ck hka hk1 cg h3 h1 hy hx c2 c1 hb ha;omega),by (clear c7 c6 ck2 hk2 c4 c3 ck hka hk1 cg h2 h1 hy hx c2 c1 hb ha;omega)⟩⟩
       ·exact wpS_pure ⟨hG2,_,_,_,_,_,_,rfl,m7,by (clear c6 ck2 hk2 c4 ck hk1 cg h3 h2 h1 hy hx c2 c1 hb ha;omega),by (clear c7 ck2 c4 c3 ck hka hk1 cg h3 h1 hy hx c2 c1 hb ha;omega),by (clear c7 c6 ck2 hk2 c4 c3 ck hka hk1 cg h2 h1 hy hx c2 c1 hb ha;omega)⟩
      ·rw[if_neg ck2];have k0:k2=0:=by (clear hk2 c4 c3 ck hka hk1 cg h3 h2 h1 hy hx c2 c1 hb ha;omega)
       subst k0;rw[Ybj,Ybz] at m5;refine wpS_bind (Zak ev ?_);have m7:=pA m5 ev hv;by_cases c7:ia+k+1+1=a.size
       ·rw[if_pos (by simpa using c7)];exact wpS_pure ⟨hG2,.inl ⟨_,_,_,_,_,_,_,rfl,last m7 c7⟩⟩
       rw[if_neg (by simpa using c7)];refine ZaD (fun _=>?_) (fun _=>?_)
       ·exact wpS_pure ⟨hG2,.inr ⟨_,_,_,_,_,_,rfl,m7,by (clear ck2 hk2 c4 ck hk1 cg h3 h2 h1 hy hx c2 c1 hb ha;omega),by (clear c7 ck2 hk2 c3 ck hka hk1 cg h3 h1 hy hx c2 c1 hb ha;omega),by (clear c7 ck2 hk2 c4 c3 ck hka hk1 cg h2 h1 hy hx c2 c1 hb ha;omega)⟩⟩
       ·exact wpS_pure ⟨hG2,_,_,_,_,_,_,rfl,m7,by (clear ck2 hk2 c4 ck hk1 cg h3 h2 h1 hy hx c2 c1 hb ha;omega),by (clear c7 ck2 hk2 c3 ck hka hk1 cg h3 h1 hy hx c2 c1 hb ha;omega),by (clear c7 ck2 hk2 c4 c3 ck hka hk1 cg h2 h1 hy hx c2 c1 hb ha;omega)⟩
     ·rw[if_neg ck];have k0:k=0:=by (clear hka hk1 cg h3 h2 h1 hy hx c2 c1 hb ha;omega)
      subst k0;rw[Ybj,Ybz] at m3;refine wpS_bind (Zak eu ?_);have m4:=pB m3 eu hu;by_cases c4:ib+1=b.size
      ·rw[if_pos (by simpa using c4)];exact wpS_pure ⟨hG2,.inl ⟨_,_,_,_,_,_,_,rfl,done m4 (by (clear ck hka hk1 cg h3 h2 h1 hy hx c2 c1 hb ha;omega))⟩⟩
      rw[if_neg (by simpa using c4)];obtain⟨v,ev,ev',mv⟩:=ZaG (a:=a) (i:=ia+0) (by (clear c4 ck hka hk1 cg h3 h2 hy hx c2 c1 hb ha;omega));refine wpS_bind (Zak ev ?_);refine wpS_bind (Za9 hA (hG2.1.trans hk) (oka v mv) okb (by (clear c4 ck hka hk1 cg h3 h1 hy hx c2 c1 hb ha;omega)) (srtA sb _ _) (by (clear ck hka hk1 cg h3 h1 hy hx c2 c1 hb ha;omega)) fun k2 hk2 d1 d2=>?_);have m5:=m4.takeBs sb k2 (by simp;(clear c4 ck hka hk1 cg h3 h1 hy hx c2 c1 hb ha;omega)) fun i z hi e y hy=>KO.le_trans (KO.le_of_lt (d1 i z hi (by rw[<- Yaq];exact e))) (Zcr sa ev' y hy);have hv:∀ z∈b.toList.drop (ib+1+k2),O.le v z:=by
       intro z hz;obtain⟨j,hj,e⟩:=ZaV hz;have hj2:j<b.size:=(Yaa.mp e).1
       refine d2 (j - (ib+1)) z (by (clear hj2 hk2 c4 ck hka hk1 cg h3 h2 h1 hy hx c2 c1 hb ha;omega)) (by (clear hj hk2 ck hka hk1 cg h3 h1 hy hx c2 c1 hb ha;omega)) ?_;rw[show ib+1+(j - (ib+1))=j by (clear hj2 hk2 c4 ck hka hk1 cg h3 h2 h1 hy hx c2 c1 hb ha;omega),<- Yaq];exact e
      dsimp only;by_cases ck2:k2 > 0
      ·rw[if_pos ck2];rw[<- Zfc,<- Ybb] at m5;by_cases c6:ib+1+k2=b.size
       ·rw[if_pos (by simpa using c6)];exact wpS_pure ⟨hG2,.inl ⟨_,_,_,_,_,_,_,rfl,done m5 (by (clear ck2 hk2 c4 ck hka hk1 cg h3 h2 h1 hy hx c2 c1 hb ha;omega))⟩⟩
       rw[if_neg (by simpa using c6)];refine wpS_bind (Zak ev ?_);have m7:=pA m5 ev hv;by_cases c7:ia+0+1+1=a.size
       ·rw[if_pos (by simpa using c7)];exact wpS_pure ⟨hG2,.inl ⟨_,_,_,_,_,_,_,rfl,last m7 c7⟩⟩
       rw[if_neg (by simpa using c7)];refine ZaD (fun _=>?_) (fun _=>?_)
       ·exact wpS_pure ⟨hG2,.inr ⟨_,_,_,_,_,_,rfl,m7,by (clear c6 ck2 hk2 c4 ck hka hk1 cg h3 h2 hy hx c2 c1 hb ha;omega),by (clear c7 ck2 c4 ck hka hk1 cg h3 h1 hy hx c2 c1 hb ha;omega),by (clear c7 c6 ck2 hk2 c4 ck hka hk1 cg h2 h1 hy hx c2 c1 hb ha;omega)⟩⟩
       ·exact wpS_pure ⟨hG2,_,_,_,_,_,_,rfl,m7,by (clear c6 ck2 hk2 c4 ck hka hk1 cg h3 h2 hy hx c2 c1 hb ha;omega),by (clear c7 ck2 c4 ck hka hk1 cg h3 h1 hy hx c2 c1 hb ha;omega),by (clear c7 c6 ck2 hk2 c4 ck hka hk1 cg h2 h1 hy hx c2 c1 hb ha;omega)⟩
      ·rw[if_neg ck2];have k0:k2=0:=by (clear hk2 c4 ck hka hk1 cg h3 h2 h1 hy hx c2 c1 hb ha;omega)
       subst k0;rw[Ybj,Ybz] at m5;refine wpS_bind (Zak ev ?_);have m7:=pA m5 ev hv;by_cases c7:ia+0+1+1=a.size
       ·rw[if_pos (by simpa using c7)];exact wpS_pure ⟨hG2,.inl ⟨_,_,_,_,_,_,_,rfl,last m7 c7⟩⟩
       rw[if_neg (by simpa using c7)];refine ZaD (fun _=>?_) (fun _=>?_)
       ·exact wpS_pure ⟨hG2,.inr ⟨_,_,_,_,_,_,rfl,m7,by (clear ck2 hk2 c4 ck hka hk1 cg h3 h2 hy hx c2 c1 hb ha;omega),by (clear c7 ck2 hk2 ck hka hk1 cg h3 h1 hy hx c2 c1 hb ha;omega),by (clear c7 ck2 hk2 c4 ck hka hk1 cg h2 h1 hy hx c2 c1 hb ha;omega)⟩⟩
       ·exact wpS_pure ⟨hG2,_,_,_,_,_,_,rfl,m7,by (clear ck2 hk2 c4 ck hka hk1 cg h3 h2 hy hx c2 c1 hb ha;omega),by (clear c7 ck2 hk2 ck hka hk1 cg h3 h1 hy hx c2 c1 hb ha;omega),by (clear c7 ck2 hk2 c4 ck hka hk1 cg h2 h1 hy hx c2 c1 hb ha;omega)⟩
end
section
variable {O:KO}{a b out:List Keyed}{na nb:Nat}{x:Keyed}
structure MH (O:KO) (a b out:List Keyed) (na nb:Nat):Prop where
 perm:(a.take na++b.take nb++out.reverse).Perm (a++b)
 srt:O.Srt out.reverse
 le:∀ x∈a.take na++b.take nb,∀ y∈out,O.le x y
theorem Zgt {l:List Keyed}{i:Nat}{x:Keyed} (e:l[i]?=some x):l.take (i+1)=l.take i++[x]:=by
 rw[List.take_succ,e];rfl
theorem MH.takeA (h:MH O a b out (na+1) nb) (sa:O.Srt a) (e:a[na]?=some x) (hb:∀ y∈b.take nb,O.le y x):MH O a b (out++[x]) na nb:=by
 have ed:=Zgt e;have sd:O.Srt (a.take na++[x]):=ed ▸ sa.take;have hx:x∈a.take (na+1)++b.take nb:=by rw[ed];simp
 refine⟨?_,?_,fun y hy z hz=>?_⟩
 ·have p:=h.perm;rw[ed] at p;refine Yc6 ?_ p;rw[YcA];simp only[YbK,YcS,YdT,YaM,Ydf];refine Yb9 _ ?_;exact (Yfa (a:=x) (l₁:=b.take nb) (l₂:=out.reverse))
 ·rw[YcA];exact Yca.mpr ⟨fun y hy=>h.le x hx y (YbX.mp hy),h.srt⟩
 ·rcases Yao.mp hz with hz | hz
  ·refine h.le y ?_ z hz;rw[ed];rcases Yao.mp hy with hy | hy
   ·exact Ya0 _ (Ya0 _ hy)
   ·exact Yax _ hy
  ·rw[YaH.mp hz];rcases Yao.mp hy with hy | hy
   ·exact (YaZ.mp sd).2.2 y hy x (by simp)
   ·exact hb y hy
theorem MH.takeB (h:MH O a b out na (nb+1)) (sb:O.Srt b) (e:b[nb]?=some x) (ha:∀ y∈a.take na,O.le y x):MH O a b (out++[x]) na nb:=by
 have ed:=Zgt e;have sd:O.Srt (b.take nb++[x]):=ed ▸ sb.take;have hx:x∈a.take na++b.take (nb+1):=by rw[ed];simp
 refine⟨?_,?_,fun y hy z hz=>?_⟩
 ·have p:=h.perm;rw[ed] at p;rw[YcA];simpa using p
 ·rw[YcA];exact Yca.mpr ⟨fun y hy=>h.le x hx y (YbX.mp hy),h.srt⟩
 ·rcases Yao.mp hz with hz | hz
  ·refine h.le y ?_ z hz;rw[ed];rcases Yao.mp hy with hy | hy
   ·exact Ya0 _ hy
   ·exact Yax _ (Ya0 _ hy)
  ·rw[YaH.mp hz];rcases Yao.mp hy with hy | hy
   ·exact ha y hy
   ·exact (YaZ.mp sd).2.2 y hy x (by simp)
theorem Zfu {l:List Keyed}{i d:Nat}{x:Keyed} (e:l[i]?=some x):(l.drop i).take (d+1)=x::(l.drop (i+1)).take d:=by
 rw[Zff e];rfl
theorem MH.takeAs (h:MH O a b out na nb) (sa:O.Srt a) (hn:na<=a.length):∀ d,d<=na->(∀ i z,na - d<=i->i<na->a[i]?=some z->∀ y∈b.take nb,O.le y z)->MH O a b (out++((a.drop (na - d)).take d).reverse) (na - d) nb
 | 0,_,_=>by simpa using h
 | d+1,hl,hz=>by
  have q:=MH.takeAs h sa hn d (by (clear hn;omega)) fun i z h1 h2 e=>hz i z (by (clear h2 hl hn;omega)) h2 e;have e:a[na - (d+1)]?=some a[na - (d+1)]:=Yab (by omega);rw[show na - d=na - (d+1)+1 by omega] at q;have r:=q.takeA sa e (hz _ _ (by omega) (by omega) e);rw[YaM,<- YbK,<- Zfu e] at r;exact r
theorem MH.takeBs (h:MH O a b out na nb) (sb:O.Srt b) (hn:nb<=b.length):∀ d,d<=nb->(∀ i z,nb - d<=i->i<nb->b[i]?=some z->∀ y∈a.take na,O.le y z)->MH O a b (out++((b.drop (nb - d)).take d).reverse) na (nb - d)
 | 0,_,_=>by simpa using h
 | d+1,hl,hz=>by
  have q:=MH.takeBs h sb hn d (by (clear hn;omega)) fun i z h1 h2 e=>hz i z (by (clear h2 hl hn;omega)) h2 e;have e:b[nb - (d+1)]?=some b[nb - (d+1)]:=Yab (by omega);rw[show nb - d=nb - (d+1)+1 by omega] at q;have r:=q.takeB sb e (hz _ _ (by omega) (by omega) e);rw[YaM,<- YbK,<- Zfu e] at r;exact r
theorem MH.doneA (h:MH O a b out 0 nb) (sb:O.Srt b):Mg O a b (a.take 0++b.take nb++out.reverse):=by
 refine⟨h.perm,?_⟩;rw[Ybj,YdT];exact YaZ.mpr ⟨sb.take,h.srt,fun x hx y hy=>h.le x (Yax _ hx) y (YbX.mp hy)⟩
theorem MH.doneB (h:MH O a b out na nb) (sa:O.Srt a) (sb:O.Srt b) (hl:∀ x∈b.take nb,∀ y∈a.take na,O.le x y):Mg O a b (b.take nb++a.take na++out.reverse):=by
 refine⟨(Yc5 _ Ydh).trans h.perm,?_⟩;refine YaZ.mpr ⟨YaZ.mpr ⟨sb.take,sa.take,hl⟩,h.srt,fun x hx y hy=>h.le x ?_ y (YbX.mp hy)⟩;rcases Yao.mp hx with hx | hx
 ·exact Yax _ hx
 ·exact Ya0 _ hx
theorem ZaU {l:List Keyed}{i:Nat}{y:Keyed} (h:y∈l.take i):∃ j,j<i/\l[j]?=some y:=by
 obtain⟨j,hj,e⟩:=YeK.mp h;rw[Yaz] at hj;refine⟨j,by omega,?_⟩;rw[YdB] at e;rw[Yab (by omega),e]
theorem Zhg {l:List Keyed} (sl:O.Srt l) {i:Nat}{x:Keyed} (hx:l[i]?=some x):∀ y∈l.take (i+1),O.le y x:=fun y hy=>
 let ⟨_,hj,e⟩:=ZaU hy
 Zb0 sl (by omega) e hx
theorem ZdX (a:Array Keyed) (i:Nat):(a.extract 0 i).toList=a.toList.take i:=by
 rw[YcW];simp[YeB]
theorem ZdW (a:Array Keyed) (i n:Nat):(a.extract i n).toList=(a.toList.drop i).take (n - i):=by
 rw[YcW]
end
section
variable {prog:Program}{w:World}{A:Around}{E:Value->Shared->Prop}{s:Shared}{O:KO}{knd:SortKind}{ok:Keyed->Prop}{st:SortSt}
theorem ZeP {a b:Array Keyed}{Q:Array Keyed->SortSt->Prop} (hA:Asks prog w A s O knd ok) (hk:kindOf st=knd) (oka:∀ x∈a.toList,ok x) (okb:∀ x∈b.toList,ok x) (sa:O.Srt a.toList) (sb:O.Srt b.toList) (ha:1<=a.size) (hb:1<=b.size)
  (hfirst:∀ y,b[0]?=some y->∀ x∈a.toList,O.blt (O.ky y) (O.ky x)=true) (hlast:∀ z,a[a.size - 1]?=some z->∀ y∈b.toList,O.le y z)
  (h:∀ r st',Gal st st'->Mg O a.toList b.toList r.toList->Q r st'):wpS (model prog w) A E s (ZiL a b) Q st:=by
 obtain⟨a0,ea0,ea0',_⟩:=ZaG (a:=a) (i:=a.size - 1) (by (clear hb;omega));have done:∀ {out:Array Keyed}{nb:Nat},MH O a.toList b.toList out.toList 0 nb->Mg O a.toList b.toList (a.extract 0 0++b.extract 0 nb++out.reverse).toList:=by
  intro out nb m;rw[Ybb,Ybb,ZdX,ZdX,Ycp];exact m.doneA sb
 have first:∀ {out:Array Keyed}{na:Nat},MH O a.toList b.toList out.toList na 1->Mg O a.toList b.toList (b.extract 0 1++a.extract 0 na++out.reverse).toList:=by
  intro out na m;rw[Ybb,Ybb,ZdX,ZdX,Ycp];refine m.doneB sa sb fun x hx y hy=>?_;obtain⟨j,hj,e⟩:=ZaU hx;have e2:j=0:=by (clear hb ha;omega)
  rw[e2,Yaq] at e;exact KO.le_of_lt (hfirst x e y (Ybv hy))
 have pB:∀ {out:Array Keyed}{na nb:Nat}{y:Keyed},1<=nb->MH O a.toList b.toList out.toList na nb->b[nb - 1]?=some y->(∀ z∈a.toList.take na,O.le z y)->MH O a.toList b.toList (out.push y).toList na (nb - 1):=by
  intro out na nb y hn m e hz;rw[YcK];exact MH.takeB (by rw[show nb - 1+1=nb by (clear hb ha;omega)];exact m) sb (Zds e) hz
 have pA:∀ {out:Array Keyed}{na nb:Nat}{y:Keyed},1<=na->MH O a.toList b.toList out.toList na nb->a[na - 1]?=some y->(∀ z∈b.toList.take nb,O.le z y)->MH O a.toList b.toList (out.push y).toList (na - 1) nb:=by
  intro out na nb y hn m e hz;rw[YcK];exact MH.takeA (by rw[show na - 1+1=na by (clear hb ha;omega)];exact m) sa (Zds e) hz
 have leT:∀ {l:List Keyed}{i:Nat}{x:Keyed},O.Srt l->1<=i->l[i - 1]?=some x->∀ y∈l.take i,O.le y x:=by
  intro l i x sl hi e y hy;exact Zhg sl e y (by rw[show i - 1+1=i by (clear hb ha;omega)];exact hy)
 refine wpS_bind (wpS_lift (wpAny_rule ⟨rfl,?_⟩));refine wpS_bind (Zak ea0 ?_);have m0:MH O a.toList b.toList #[a0].toList (a.size - 1) b.size:=by
  refine MH.takeA (out:=[]) (na:=a.size - 1) (nb:=b.size) ⟨?_,Ycw,fun x hx y hy=>by cases hy⟩ sa ea0' fun y hy=>hlast a0 ea0 y (Ybv hy);rw[show a.size - 1+1=a.size by (clear hb;omega),YaW (by simp),YaW (by simp)];simp
 dsimp only;by_cases c1:a.size - 1=0
 ·rw[if_pos (by simpa using c1)];rw[c1] at m0 ⊢;exact wpS_pure (h _ _ Gal.refl (done m0))
 rw[if_neg (by simpa using c1)];by_cases c2:b.size=1
 ·rw[if_pos (by simpa using c2)];rw[c2] at m0;rw[c2];exact wpS_pure (h _ _ Gal.refl (first m0))
 rw[if_neg (by simpa using c2)];refine wpS_bind (wpS_get ?_);refine wpS_bind (wpS_mono (wpS_forRange
  (I:=fun x c st'=>Gal st st'/\∃ (out:Array Keyed) (na nb g:Nat),c=((none:Option (Array Keyed)),na,nb,out,g)/\MH O a.toList b.toList out.toList na nb/\1<=na/\na<=a.size/\2<=nb/\nb<=b.size/\x+na+nb<=a.size+b.size)
  (Q:=fun c st'=>Gal st st'/\∃ (r out:Array Keyed) (na nb g:Nat),c=(some r,na,nb,out,g)/\Mg O a.toList b.toList r.toList) ?step ?fin ⟨Gal.refl,#[a0],a.size - 1,b.size,gallopOf st,rfl,m0,by (clear c2 hb ha;omega),by (clear c2 c1 hb ha;omega),by (clear c1 ha;omega),by (clear c2 c1 hb ha;omega),show 0+(a.size - 1)+b.size<=_ by (clear c2 c1 hb ha;omega)⟩) ?post)
 case fin=>
  rintro c st' ⟨_,out,na,nb,g,rfl,_,h1,h1',h2,h2',h3⟩
  (clear h2' h2 h1' c2 c1 hb ha;omega)
 case post=>
  rintro c st' ⟨hG,r,out,na,nb,g,rfl,hm⟩;exact wpS_pure (h r st' hG hm)
 case step=>
  rintro x c st1 _ hx ⟨hG1,out,na,nb,g,rfl,hm,h1,h1',h2,h2',h3⟩;dsimp only;have hk1:kindOf st1=knd:=hG1.1.trans hk;refine wpS_bind (wpS_mono (wpS_forRange
   (I:=fun y c st'=>st'=st1/\∃ (out:Array Keyed) (na nb p q:Nat),c=((none:Option (Array Keyed)),na,nb,out,p,q)/\MH O a.toList b.toList out.toList na nb/\1<=na/\na<=a.size/\2<=nb/\nb<=b.size/\x+y+na+nb<=a.size+b.size)
   (Q:=fun c st'=>st'=st1/\((∃ (r out:Array Keyed) (na nb p q:Nat),c=(some r,na,nb,out,p,q)/\Mg O a.toList b.toList r.toList) ∨
    (∃ (out:Array Keyed) (na nb p q:Nat),c=(none,na,nb,out,p,q)/\MH O a.toList b.toList out.toList na nb/\1<=na/\na<=a.size/\2<=nb/\nb<=b.size/\x+1+na+nb<=a.size+b.size))) ?step1 ?fin1 ⟨rfl,out,na,nb,0,0,rfl,hm,h1,h1',h2,h2',by (clear h2' h2 h1' h1 hx c2 c1 hb ha;omega)⟩) ?post1)
  case fin1=>
   rintro c st' ⟨rfl,out,na,nb,p,q,rfl,hm,h1,h1',h2,h2',h3⟩;exact⟨rfl,.inr ⟨out,na,nb,p,q,rfl,hm,h1,h1',h2,h2',by (clear h2' h2 h1' h1 hx c2 c1 hb ha;omega)⟩⟩
  case step1=>
   rintro y c st' _ hy ⟨rfl,out,na,nb,p,q,rfl,hm,h1,h1',h2,h2',h3⟩;dsimp only;obtain⟨u,eu,eu',mu⟩:=ZaG (a:=b) (i:=nb - 1) (by (clear h3 h2 h1' h1 hy hx c2 c1 hb ha;omega));obtain⟨v,ev,ev',mv⟩:=ZaG (a:=a) (i:=na - 1) (by (clear h3 h2' h2 h1 hy hx c2 c1 hb ha;omega));refine wpS_bind (Zak eu (wpS_bind (Zak ev ?_)));refine wpS_bind (Zd4 hA hk1 (okb u mu) (oka v mv) ?_)
   cases e:O.blt (O.ky u) (O.ky v) with
   | true=>
    simp only[if_true];refine wpS_bind (Zak ev ?_);have m2:=pA h1 hm ev fun z hz=>KO.le_trans (leT sb (by (clear h3 h2' h1' h1 hy hx c2 c1 hb ha;omega)) eu' z hz) (KO.le_of_lt e);by_cases c3:na - 1=0
    ·rw[if_pos (by simpa using c3)];rw[c3] at m2 ⊢;exact wpS_pure ⟨rfl,.inl ⟨_,_,_,_,_,_,rfl,done m2⟩⟩
    rw[if_neg (by simpa using c3)];refine ZaD (fun _=>?_) (fun _=>?_)
    ·exact wpS_pure ⟨rfl,.inr ⟨_,_,_,_,_,rfl,m2,by (clear h3 h2' h2 h1' h1 hy hx c2 c1 hb ha;omega),by (clear c3 h3 h2' h2 h1 hy hx c2 c1 hb ha;omega),by (clear c3 h3 h2' h1' h1 hy hx c2 c1 hb ha;omega),by (clear c3 h3 h2 h1' h1 hy hx c2 c1 hb ha;omega),by (clear c3 h2' h2 h1' hy hx c2 c1 hb ha;omega)⟩⟩
    ·exact wpS_pure ⟨rfl,_,_,_,_,_,rfl,m2,by (clear h3 h2' h2 h1' h1 hy hx c2 c1 hb ha;omega),by (clear c3 h3 h2' h2 h1 hy hx c2 c1 hb ha;omega),by (clear c3 h3 h2' h1' h1 hy hx c2 c1 hb ha;omega),by (clear c3 h3 h2 h1' h1 hy hx c2 c1 hb ha;omega),by (clear c3 h2' h2 h1' hy hx c2 c1 hb ha;omega)⟩
   | false=>
    simp only[YaU,if_false];refine wpS_bind (Zak eu ?_);have m2:=pB (by (clear h3 h2' h1' h1 hy hx c2 c1 hb ha;omega)) hm eu fun z hz=>KO.le_trans (leT sa (by (clear h3 h2' h2 h1' hy hx c2 c1 hb ha;omega)) ev' z hz) (show O.le v u from e);by_cases c3:nb - 1=1
    ·rw[if_pos (by simpa using c3)];rw[c3] at m2 ⊢;exact wpS_pure ⟨rfl,.inl ⟨_,_,_,_,_,_,rfl,first m2⟩⟩
    rw[if_neg (by simpa using c3)];refine ZaD (fun _=>?_) (fun _=>?_)
    ·exact wpS_pure ⟨rfl,.inr ⟨_,_,_,_,_,rfl,m2,by (clear c3 h3 h2' h2 h1' hy hx c2 c1 hb ha;omega),by (clear c3 h3 h2' h2 h1 hy hx c2 c1 hb ha;omega),by (clear h3 h2' h1' h1 hy hx c2 c1 hb ha;omega),by (clear c3 h3 h2 h1' h1 hy hx c2 c1 hb ha;omega),by (clear c3 h2' h1' h1 hy hx c2 c1 hb ha;omega)⟩⟩
    ·exact wpS_pure ⟨rfl,_,_,_,_,_,rfl,m2,by (clear c3 h3 h2' h2 h1' hy hx c2 c1 hb ha;omega),by (clear c3 h3 h2' h2 h1 hy hx c2 c1 hb ha;omega),by (clear h3 h2' h1' h1 hy hx c2 c1 hb ha;omega),by (clear c3 h3 h2 h1' h1 hy hx c2 c1 hb ha;omega),by (clear c3 h2' h1' h1 hy hx c2 c1 hb ha;omega)⟩
  case post1=>
   rintro c st' ⟨rfl,⟨r,out,na,nb,p,q,rfl,hr⟩ | ⟨out,na,nb,p,q,rfl,hm,h1,h1',h2,h2',h3⟩⟩
   ·exact wpS_pure ⟨hG1,_,_,_,_,_,rfl,hr⟩
   dsimp only;refine wpS_bind (wpS_lift (wpAny_rule ⟨rfl,?_⟩));refine wpS_bind (wpS_mono (wpS_forRange
    (I:=fun y c st'=>Gal st st'/\∃ (out:Array Keyed) (na nb g p q:Nat),c=((none:Option (Array Keyed)),na,nb,out,g,p,q)/\MH O a.toList b.toList out.toList na nb/\1<=na/\na<=a.size/\2<=nb/\nb<=b.size/\x+1+na+nb<=a.size+b.size)
    (Q:=fun c st'=>Gal st st'/\((∃ (r out:Array Keyed) (na nb g p q:Nat),c=(some r,na,nb,out,g,p,q)/\Mg O a.toList b.toList r.toList) ∨
     (∃ (out:Array Keyed) (na nb g p q:Nat),c=(none,na,nb,out,g,p,q)/\MH O a.toList b.toList out.toList na nb/\1<=na/\na<=a.size/\2<=nb/\nb<=b.size/\x+1+na+nb<=a.size+b.size))) ?step2 ?fin2 ⟨hG1,out,na,nb,g+1,p,q,rfl,hm,h1,h1',h2,h2',h3⟩) ?post2)
   case fin2=>
    rintro c st' ⟨hG,out,na,nb,g,p,q,rfl,hm,h1,h1',h2,h2',h3⟩;exact⟨hG,.inr ⟨out,na,nb,g,p,q,rfl,hm,h1,h1',h2,h2',h3⟩⟩
   case post2=>
    rintro c st' ⟨hG,⟨r,out,na,nb,g,p,q,rfl,hr⟩ | ⟨out,na,nb,g,p,q,rfl,hm,h1,h1',h2,h2',h3⟩⟩
    ·exact wpS_pure ⟨hG,_,_,_,_,_,rfl,hr⟩
    exact wpS_bind (Za5 hG fun st2 hG2=>wpS_pure ⟨hG2,_,_,_,_,rfl,hm,h1,h1',h2,h2',h3⟩)
   case step2=>
    rintro y c st' _ hy ⟨hG,out,na,nb,g,p,q,rfl,hm,h1,h1',h2,h2',h3⟩;dsimp only;obtain⟨u,eu,eu',mu⟩:=ZaG (a:=b) (i:=nb - 1) (by (clear h3 h2 h1' h1 hy hx c2 c1 hb ha;omega));refine ZaD (fun cg=>?_) (fun cg=>?_)
    all_goals
     refine wpS_bind (Za5 hG fun st2 hG2=>wpS_bind (Zak eu ?_));refine wpS_bind (ZbN hA (hG2.1.trans hk) (okb u mu) oka (by (clear cg h3 h2' h2 h1 hy hx c2 c1 hb ha;omega)) (srtA sa _ _) (by (clear cg h3 h2' h2 h1' hy hx c2 c1 hb ha;omega)) fun k hk1 b1 b2=>?_);have m3:=hm.takeAs sa (by simp;(clear hk1 cg h3 h2' h2 h1 hy hx c2 c1 hb ha;omega)) (na - k) (by (clear hk1 cg h3 h2' h2 h1' h1 hy hx c2 c1 hb ha;omega)) fun i z h6 h7 e y hy=>KO.le_trans (leT sb (by (clear h7 h6 hk1 cg h3 h2' h1' h1 hx c2 c1 hb ha;omega)) eu' y hy) (KO.le_of_lt (b2 i z (by (clear h7 cg h3 h2' h2 h1' h1 hx c2 c1 hb ha;omega)) (by (clear h6 hk1 cg h3 h2' h2 h1' h1 hx c2 c1 hb ha;omega)) (by rw[YbT,<- Yaq];exact e)));rw[show na - (na - k)=k by (clear cg h3 h2' h2 h1' h1 hy hx c2 c1 hb ha;omega)] at m3;have hu:∀ z∈a.toList.take k,O.le z u:=by
      intro z hz;obtain⟨j,hj,e⟩:=ZaU hz;refine b1 j z hj ?_;rw[YbT,<- Yaq];exact e
     dsimp only;by_cases ck:na - k > 0
     ·rw[if_pos ck];rw[<- ZdW,<- Ycp,<- Ybb] at m3;by_cases c3:k=0
      ·rw[if_pos (by simpa using c3)];rw[c3] at m3 ⊢;exact wpS_pure ⟨hG2,.inl ⟨_,_,_,_,_,_,_,rfl,done m3⟩⟩
      rw[if_neg (by simpa using c3)];refine wpS_bind (Zak eu ?_);have m4:=pB (by (clear c3 ck hk1 cg h3 h2' h1' h1 hy hx c2 c1 hb ha;omega)) m3 eu hu;by_cases c4:nb - 1=1
      ·rw[if_pos (by simpa using c4)];rw[c4] at m4 ⊢;exact wpS_pure ⟨hG2,.inl ⟨_,_,_,_,_,_,_,rfl,first m4⟩⟩
      rw[if_neg (by simpa using c4)];obtain⟨v,ev,ev',mv⟩:=ZaG (a:=a) (i:=k - 1) (by (clear c4 c3 ck cg h3 h2' h2 h1 hy hx c2 c1 hb ha;omega));refine wpS_bind (Zak ev ?_);refine wpS_bind (Za9 hA (hG2.1.trans hk) (oka v mv) okb (by (clear c4 c3 ck hk1 cg h3 h2 h1' h1 hy hx c2 c1 hb ha;omega)) (srtA sb _ _) (by (clear c4 c3 ck hk1 cg h3 h2' h1' h1 hy hx c2 c1 hb ha;omega)) fun k2 hk2 d1 d2=>?_);have hk20:1<=k2:=by
       rcases Ydw k2 with z | z
       ·obtain⟨zl,el,_,_⟩:=ZaG (a:=b) (i:=0) (by (clear z hk2 c4 c3 ck hk1 cg h3 h2' h2 h1' h1 hy hx c2 c1 hb ha;omega));have q1:=hfirst zl el v mv;have q2:=d2 0 zl (by (clear hk2 c4 c3 ck hk1 cg h3 h2' h2 h1' h1 hy hx c2 c1 hb ha;omega)) (by (clear z hk2 c4 c3 ck hk1 cg h3 h2' h1' h1 hy hx c2 c1 hb ha;omega)) (by rw[YbT];exact el);rw[show O.blt (O.ky zl) (O.ky v)=false from q2] at q1;cases q1
       ·exact z
      have m5:=m4.takeBs sb (by simp;(clear hk20 hk2 c4 c3 ck hk1 cg h3 h2 h1' h1 hy hx c2 c1 hb ha;omega)) (nb - 1 - k2) (by (clear hk20 hk2 c4 c3 ck hk1 cg h3 h2' h2 h1' h1 hy hx c2 c1 hb ha;omega)) fun i z h6 h7 e y hy=>KO.le_trans (leT sa (by (clear h7 h6 hk20 hk2 c4 ck hk1 cg h3 h2' h2 h1' h1 hx c2 c1 hb ha;omega)) ev' y hy) (d2 i z (by (clear h7 hk20 c4 c3 ck hk1 cg h3 h2' h2 h1' h1 hx c2 c1 hb ha;omega)) (by (clear h6 hk20 hk2 c4 c3 ck hk1 cg h3 h2' h2 h1' h1 hx c2 c1 hb ha;omega)) (by rw[YbT,<- Yaq];exact e));rw[show nb - 1 - (nb - 1 - k2)=k2 by (clear hk20 c4 c3 ck hk1 cg h3 h2' h2 h1' h1 hy hx c2 c1 hb ha;omega)] at m5;have hv:∀ z∈b.toList.take k2,O.le z v:=by
       intro z hz;obtain⟨j,hj,e⟩:=ZaU hz;refine KO.le_of_lt (d1 j z hj ?_);rw[YbT,<- Yaq];exact e
      dsimp only;by_cases ck2:nb - 1 - k2 > 0
      ·rw[if_pos ck2];rw[<- ZdW,<- Ycp,<- Ybb] at m5;by_cases c6:k2=1
       ·rw[if_pos (by simpa using c6)];rw[c6] at m5 ⊢;exact wpS_pure ⟨hG2,.inl ⟨_,_,_,_,_,_,_,rfl,first m5⟩⟩
       rw[if_neg (by simpa using c6),if_neg (by simp;(clear c6 ck2 hk2 c4 c3 ck hk1 cg h3 h2' h2 h1' h1 hy hx c2 c1 hb ha;omega))];obtain⟨v2,ev2,ev2',mv2⟩:=ZaG (a:=a) (i:=k - 1) (by (clear c6 ck2 hk20 hk2 c4 c3 ck cg h3 h2' h2 h1 hy hx c2 c1 hb ha;omega));refine wpS_bind (Zak ev2 ?_);have ee:v2=v:=Yay (ev2.symm.trans ev);subst ee;have m7:=pA (by (clear c6 ck2 hk20 hk2 c4 ck hk1 cg h3 h2' h2 h1' h1 hy hx c2 c1 hb ha;omega)) m5 ev2 hv;by_cases c7:k - 1=0
       ·rw[if_pos (by simpa using c7)];rw[c7] at m7 ⊢;exact wpS_pure ⟨hG2,.inl ⟨_,_,_,_,_,_,_,rfl,done m7⟩⟩
       rw[if_neg (by simpa using c7)];refine ZaD (fun _=>?_) (fun _=>?_)
       ·exact wpS_pure ⟨hG2,.inr ⟨_,_,_,_,_,_,rfl,m7,by (clear c6 ck2 hk20 hk2 c4 c3 ck hk1 cg h3 h2' h2 h1' h1 hy hx c2 c1 hb ha;omega),by (clear c7 c6 ck2 hk20 hk2 c4 c3 ck cg h3 h2' h2 h1 hy hx c2 c1 hb ha;omega),by (clear c7 ck2 hk2 c4 c3 ck hk1 cg h3 h2' h2 h1' h1 hy hx c2 c1 hb ha;omega),by (clear c7 c6 ck2 hk20 c4 c3 ck hk1 cg h3 h2 h1' h1 hy hx c2 c1 hb ha;omega),by (clear c7 c6 ck2 hk20 c4 c3 ck cg h2' h2 h1' h1 hy hx c2 c1 hb ha;omega)⟩⟩
       ·exact wpS_pure ⟨hG2,_,_,_,_,_,_,rfl,m7,by (clear c6 ck2 hk20 hk2 c4 c3 ck hk1 cg h3 h2' h2 h1' h1 hy hx c2 c1 hb ha;omega),by (clear c7 c6 ck2 hk20 hk2 c4 c3 ck cg h3 h2' h2 h1 hy hx c2 c1 hb ha;omega),by (clear c7 ck2 hk2 c4 c3 ck hk1 cg h3 h2' h2 h1' h1 hy hx c2 c1 hb ha;omega),by (clear c7 c6 ck2 hk20 c4 c3 ck hk1 cg h3 h2 h1' h1 hy hx c2 c1 hb ha;omega),by (clear c7 c6 ck2 hk20 c4 c3 ck cg h2' h2 h1' h1 hy hx c2 c1 hb ha;omega)⟩
      ·rw[if_neg ck2];have k0:nb - 1=k2:=by (clear hk20 c4 c3 ck hk1 cg h3 h2' h2 h1' h1 hy hx c2 c1 hb ha;omega)
       rw[show nb - 1 - k2=0 by (clear k0 hk20 hk2 c4 c3 ck hk1 cg h3 h2' h2 h1' h1 hy hx c2 c1 hb ha;omega),Ybj,YcS,Ybz] at m5;rw[k0];obtain⟨v2,ev2,ev2',mv2⟩:=ZaG (a:=a) (i:=k - 1) (by (clear k0 ck2 hk20 hk2 c4 c3 ck cg h3 h2' h2 h1 hy hx c2 c1 hb ha;omega));refine wpS_bind (Zak ev2 ?_);have ee:v2=v:=Yay (ev2.symm.trans ev);subst ee;have m7:=pA (by (clear k0 ck2 hk20 hk2 c4 ck hk1 cg h3 h2' h2 h1' h1 hy hx c2 c1 hb ha;omega)) m5 ev2 hv;by_cases c7:k - 1=0
       ·rw[if_pos (by simpa using c7)];rw[c7] at m7 ⊢;exact wpS_pure ⟨hG2,.inl ⟨_,_,_,_,_,_,_,rfl,done m7⟩⟩
       rw[if_neg (by simpa using c7)];refine ZaD (fun _=>?_) (fun _=>?_)
       ·exact wpS_pure ⟨hG2,.inr ⟨_,_,_,_,_,_,rfl,m7,by (clear k0 ck2 hk20 hk2 c4 c3 ck hk1 cg h3 h2' h2 h1' h1 hy hx c2 c1 hb ha;omega),by (clear c7 k0 ck2 hk20 hk2 c4 c3 ck cg h3 h2' h2 h1 hy hx c2 c1 hb ha;omega),by (clear c7 k0 hk20 hk2 c3 ck hk1 cg h3 h2' h1' h1 hy hx c2 c1 hb ha;omega),by (clear c7 k0 ck2 hk20 c4 c3 ck hk1 cg h3 h2 h1' h1 hy hx c2 c1 hb ha;omega),by (clear c7 k0 ck2 hk20 c4 c3 ck cg h2' h2 h1' h1 hy hx c2 c1 hb ha;omega)⟩⟩
       ·exact wpS_pure ⟨hG2,_,_,_,_,_,_,rfl,m7,by (clear k0 ck2 hk20 hk2 c4 c3 ck hk1 cg h3 h2' h2 h1' h1 hy hx c2 c1 hb ha;omega),by (clear c7 k0 ck2 hk20 hk2 c4 c3 ck cg h3 h2' h2 h1 hy hx c2 c1 hb ha;omega),by (clear c7 k0 hk20 hk2 c3 ck hk1 cg h3 h2' h1' h1 hy hx c2 c1 hb ha;omega),by (clear c7 k0 ck2 hk20 c4 c3 ck hk1 cg h3 h2 h1' h1 hy hx c2 c1 hb ha;omega),by (clear c7 k0 ck2 hk20 c4 c3 ck cg h2' h2 h1' h1 hy hx c2 c1 hb ha;omega)⟩
     ·rw[if_neg ck];have k0:na=k:=by (clear cg h3 h2' h2 h1' h1 hy hx c2 c1 hb ha;omega)
      rw[show na - k=0 by (clear k0 hk1 cg h3 h2' h2 h1' h1 hy hx c2 c1 hb ha;omega),Ybj,YcS,Ybz] at m3;rw[k0];refine wpS_bind (Zak eu ?_);have m4:=pB (by (clear k0 ck hk1 cg h3 h2' h1' h1 hy hx c2 c1 hb ha;omega)) m3 eu hu;by_cases c4:nb - 1=1
      ·rw[if_pos (by simpa using c4)];rw[c4] at m4 ⊢;exact wpS_pure ⟨hG2,.inl ⟨_,_,_,_,_,_,_,rfl,first m4⟩⟩
      rw[if_neg (by simpa using c4)];obtain⟨v,ev,ev',mv⟩:=ZaG (a:=a) (i:=k - 1) (by (clear c4 k0 ck cg h3 h2' h2 h1 hy hx c2 c1 hb ha;omega));refine wpS_bind (Zak ev ?_);refine wpS_bind (Za9 hA (hG2.1.trans hk) (oka v mv) okb (by (clear c4 k0 ck hk1 cg h3 h2 h1' h1 hy hx c2 c1 hb ha;omega)) (srtA sb _ _) (by (clear c4 k0 ck hk1 cg h3 h2' h1' h1 hy hx c2 c1 hb ha;omega)) fun k2 hk2 d1 d2=>?_);have hk20:1<=k2:=by
       rcases Ydw k2 with z | z
       ·obtain⟨zl,el,_,_⟩:=ZaG (a:=b) (i:=0) (by (clear z hk2 c4 k0 ck hk1 cg h3 h2' h2 h1' h1 hy hx c2 c1 hb ha;omega));have q1:=hfirst zl el v mv;have q2:=d2 0 zl (by (clear hk2 c4 k0 ck hk1 cg h3 h2' h2 h1' h1 hy hx c2 c1 hb ha;omega)) (by (clear z hk2 c4 k0 ck hk1 cg h3 h2' h1' h1 hy hx c2 c1 hb ha;omega)) (by rw[YbT];exact el);rw[show O.blt (O.ky zl) (O.ky v)=false from q2] at q1;cases q1
       ·exact z
      have m5:=m4.takeBs sb (by simp;(clear hk20 hk2 c4 k0 ck hk1 cg h3 h2 h1' h1 hy hx c2 c1 hb ha;omega)) (nb - 1 - k2) (by (clear hk20 hk2 c4 k0 ck hk1 cg h3 h2' h2 h1' h1 hy hx c2 c1 hb ha;omega)) fun i z h6 h7 e y hy=>KO.le_trans (leT sa (by (clear h7 h6 hk20 hk2 c4 k0 hk1 cg h3 h2' h2 h1' hx c2 c1 hb ha;omega)) ev' y hy) (d2 i z (by (clear h7 hk20 c4 k0 ck hk1 cg h3 h2' h2 h1' h1 hx c2 c1 hb ha;omega)) (by (clear h6 hk20 hk2 c4 k0 ck hk1 cg h3 h2' h2 h1' h1 hx c2 c1 hb ha;omega)) (by rw[YbT,<- Yaq];exact e));rw[show nb - 1 - (nb - 1 - k2)=k2 by (clear hk20 c4 k0 ck hk1 cg h3 h2' h2 h1' h1 hy hx c2 c1 hb ha;omega)] at m5;have hv:∀ z∈b.toList.take k2,O.le z v:=by
       intro z hz;obtain⟨j,hj,e⟩:=ZaU hz;refine KO.le_of_lt (d1 j z hj ?_);rw[YbT,<- Yaq];exact e
      dsimp only;by_cases ck2:nb - 1 - k2 > 0
      ·rw[if_pos ck2];rw[<- ZdW,<- Ycp,<- Ybb] at m5;by_cases c6:k2=1
       ·rw[if_pos (by simpa using c6)];rw[c6] at m5 ⊢;exact wpS_pure ⟨hG2,.inl ⟨_,_,_,_,_,_,_,rfl,first m5⟩⟩
       rw[if_neg (by simpa using c6),if_neg (by simp;(clear c6 ck2 hk2 c4 k0 ck hk1 cg h3 h2' h2 h1' h1 hy hx c2 c1 hb ha;omega))];obtain⟨v2,ev2,ev2',mv2⟩:=ZaG (a:=a) (i:=k - 1) (by (clear c6 ck2 hk20 hk2 c4 k0 ck cg h3 h2' h2 h1 hy hx c2 c1 hb ha;omega));refine wpS_bind (Zak ev2 ?_);have ee:v2=v:=Yay (ev2.symm.trans ev);subst ee;have m7:=pA (by (clear c6 ck2 hk20 hk2 c4 k0 hk1 cg h3 h2' h2 h1' hy hx c2 c1 hb ha;omega)) m5 ev2 hv;by_cases c7:k - 1=0
       ·rw[if_pos (by simpa using c7)];rw[c7] at m7 ⊢;exact wpS_pure ⟨hG2,.inl ⟨_,_,_,_,_,_,_,rfl,done m7⟩⟩
       rw[if_neg (by simpa using c7)];refine ZaD (fun _=>?_) (fun _=>?_)
       ·exact wpS_pure ⟨hG2,.inr ⟨_,_,_,_,_,_,rfl,m7,by (clear c6 ck2 hk20 hk2 c4 k0 ck hk1 cg h3 h2' h2 h1' h1 hy hx c2 c1 hb ha;omega),by (clear c7 c6 ck2 hk20 hk2 c4 k0 ck cg h3 h2' h2 h1 hy hx c2 c1 hb ha;omega),by (clear c7 ck2 hk2 c4 k0 ck hk1 cg h3 h2' h2 h1' h1 hy hx c2 c1 hb ha;omega),by (clear c7 c6 ck2 hk20 c4 k0 ck hk1 cg h3 h2 h1' h1 hy hx c2 c1 hb ha;omega),by (clear c7 c6 ck2 hk20 c4 k0 ck cg h2' h2 h1' h1 hy hx c2 c1 hb ha;omega)⟩⟩
       ·exact wpS_pure ⟨hG2,_,_,_,_,_,_,rfl,m7,by (clear c6 ck2 hk20 hk2 c4 k0 ck hk1 cg h3 h2' h2 h1' h1 hy hx c2 c1 hb ha;omega),by (clear c7 c6 ck2 hk20 hk2 c4 k0 ck cg h3 h2' h2 h1 hy hx c2 c1 hb ha;omega),by (clear c7 ck2 hk2 c4 k0 ck hk1 cg h3 h2' h2 h1' h1 hy hx c2 c1 hb ha;omega),by (clear c7 c6 ck2 hk20 c4 k0 ck hk1 cg h3 h2 h1' h1 hy hx c2 c1 hb ha;omega),by (clear c7 c6 ck2 hk20 c4 k0 ck cg h2' h2 h1' h1 hy hx c2 c1 hb ha;omega)⟩
      ·rw[if_neg ck2];have k0:nb - 1=k2:=by (clear hk20 c4 k0 ck hk1 cg h3 h2' h2 h1' h1 hy hx c2 c1 hb ha;omega)
       rw[show nb - 1 - k2=0 by (clear k0 hk20 hk2 c4 ck hk1 cg h3 h2' h2 h1' h1 hy hx c2 c1 hb ha;omega),Ybj,YcS,Ybz] at m5;rw[k0];obtain⟨v2,ev2,ev2',mv2⟩:=ZaG (a:=a) (i:=k - 1) (by (clear k0 ck2 hk20 hk2 c4 ck hk1 cg h3 h2' h2 h1 hy hx c2 c1 hb ha;omega));refine wpS_bind (Zak ev2 ?_);have ee:v2=v:=Yay (ev2.symm.trans ev);subst ee;have m7:=pA (by (clear k0 ck2 hk20 hk2 c4 ck hk1 cg h3 h2' h2 h1' hy hx c2 c1 hb ha;omega)) m5 ev2 hv;by_cases c7:k - 1=0
       ·rw[if_pos (by simpa using c7)];rw[c7] at m7 ⊢;exact wpS_pure ⟨hG2,.inl ⟨_,_,_,_,_,_,_,rfl,done m7⟩⟩
       rw[if_neg (by simpa using c7)];refine ZaD (fun _=>?_) (fun _=>?_)
       ·exact wpS_pure ⟨hG2,.inr ⟨_,_,_,_,_,_,rfl,m7,by (clear k0 ck2 hk20 hk2 c4 ck hk1 cg h3 h2' h2 h1' h1 hy hx c2 c1 hb ha;omega),by (clear c7 k0 ck2 hk20 hk2 c4 ck hk1 cg h3 h2' h2 h1 hy hx c2 c1 hb ha;omega),by (clear c7 k0 hk20 hk2 ck hk1 cg h3 h2' h1' h1 hy hx c2 c1 hb ha;omega),by (clear c7 k0 ck2 hk20 c4 ck hk1 cg h3 h2 h1' h1 hy hx c2 c1 hb ha;omega),by (clear c7 k0 ck2 hk20 c4 ck hk1 cg h2' h2 h1' h1 hy hx c2 c1 hb ha;omega)⟩⟩
       ·exact wpS_pure ⟨hG2,_,_,_,_,_,_,rfl,m7,by (clear k0 ck2 hk20 hk2 c4 ck hk1 cg h3 h2' h2 h1' h1 hy hx c2 c1 hb ha;omega),by (clear c7 k0 ck2 hk20 hk2 c4 ck hk1 cg h3 h2' h2 h1 hy hx c2 c1 hb ha;omega),by (clear c7 k0 hk20 hk2 ck hk1 cg h3 h2' h1' h1 hy hx c2 c1 hb ha;omega),by (clear c7 k0 ck2 hk20 c4 ck hk1 cg h3 h2 h1' h1 hy hx c2 c1 hb ha;omega),by (clear c7 k0 ck2 hk20 c4 ck hk1 cg h2' h2 h1' h1 hy hx c2 c1 hb ha;omega)⟩
def ka (O:KO) (xs:Array Keyed) (i:Nat):O.α:=O.ky ((xs[i]?).getD (.none,.none))
def Up (O:KO) (lo n:Nat) (xs:Array Keyed):Prop:=∀ i j,i<=j->j<n->O.kle (ka O xs (lo+i)) (ka O xs (lo+j))
def Dn (O:KO) (lo n:Nat) (xs:Array Keyed):Prop:=∀ i j,i<=j->j<n->O.kle (ka O xs (lo+j)) (ka O xs (lo+i))
structure FB (knd:SortKind) (b₀:Array Keyed) (p₀:Array (Nat × Nat × Nat)) (lo:Nat) (st:SortSt):Prop where
 perm:(arrOf st).Perm b₀
 keep:∀ i,i<lo->(arrOf st)[i]?=b₀[i]?
 kind:kindOf st=knd
 failed:failedOf st=none
 pend:pendingOf st=p₀
section
variable {b₀:Array Keyed}{p₀:Array (Nat × Nat × Nat)}{lo:Nat}
theorem FB.size (h:FB knd b₀ p₀ lo st):(arrOf st).size=b₀.size:=h.perm.size_eq
theorem FB.put {xs:Array Keyed} (h:FB knd b₀ p₀ lo st) (hp:xs.Perm (arrOf st)) (hx:∀ i,i<lo->xs[i]?=(arrOf st)[i]?):FB knd b₀ p₀ lo (setArr st xs) :=
 ⟨hp.trans h.perm,fun i hi=>(hx i hi).trans (h.keep i hi),h.kind,h.failed,h.pend⟩
theorem FB.mir (h:FB knd b₀ p₀ lo st) {i j:Nat} (hi:lo<=i) (hj:j<=b₀.size):FB knd b₀ p₀ lo (setArr st (mirror (arrOf st) i j ((j - i) / 2))) :=
 h.put (mirror_perm _ _ _ _) fun k hk=>by rw[getElem?_mirror_all (by rw[h.size];exact hj),if_neg (by (clear hj;omega))]
theorem Zb7 {xs ys:Array Keyed}{i j:Nat} (h:xs[i]?=ys[j]?):ka O xs i=ka O ys j:=by unfold ka;rw[h]
theorem Zhk {xs:Array Keyed}{i j:Nat} (hj:j<=xs.size) (k:Nat):ka O (mirror xs i j ((j - i) / 2)) k=if i<=k/\k<j then ka O xs (i+j - 1 - k) else ka O xs k:=by
 have e:=getElem?_mirror_all (i:=i) hj k;split
 ·rename_i c;rw[if_pos c] at e;exact Zb7 e
 ·rename_i c;rw[if_neg c] at e;exact Zb7 e
theorem ZbR {xs:Array Keyed}{i j:Nat} (hj:j<=xs.size) (he:∀ k,i<=k->k<j->ka O xs k=ka O xs (j - 1)) (k:Nat):ka O (mirror xs i j ((j - i) / 2)) k=ka O xs k:=by
 rw[Zhk hj];split
 ·rw[he _ (by (clear hj;omega)) (by (clear hj;omega)),he k (by (clear hj;omega)) (by (clear hj;omega))]
 ·rfl
theorem Zjj {xs:Array Keyed}{src d:Nat} (hs:src<xs.size) (hd:d<=src) (k:Nat):ka O (bubble xs src d) k=if k=src - d then ka O xs src else if src - d<k/\k<=src then ka O xs (k - 1) else ka O xs k:=by
 have e:=getElem?_bubble hs d hd k;split
 ·rename_i c;rw[if_pos c] at e;exact Zb7 e
 ·rename_i c;rw[if_neg c] at e;split
  ·rename_i c2;rw[if_pos c2] at e;exact Zb7 e
  ·rename_i c2;rw[if_neg c2] at e;exact Zb7 e
theorem ZcF {i j:Nat}{Q:Option Bool->SortSt->Prop} (hA:Asks prog w A s O knd ok) (h0:∀ x∈b₀.toList,ok x) (hF:FB knd b₀ p₀ lo st) (hi:i<b₀.size) (hj:j<b₀.size) (h:Q (some (O.blt (ka O (arrOf st) i) (ka O (arrOf st) j))) st):wpS (model prog w) A E s (ltAt' i j) Q st:=by
 obtain⟨x,ex,_,mx⟩:=ZaG (a:=arrOf st) (i:=i) (by rw[hF.size];exact hi);obtain⟨y,ey,_,my⟩:=ZaG (a:=arrOf st) (i:=j) (by rw[hF.size];exact hj);have pm:=Yd2.mp hF.perm;rw[ltAt'_eq];refine wpS_bind (wpS_get ?_);refine wpS_bind (Zak ex (wpS_bind (Zak ey ?_)));refine Zd4 hA hF.kind (h0 x (pm.mem_iff.mp mx)) (h0 y (pm.mem_iff.mp my)) ?_;unfold ka at h;rw[ex,ey] at h;exact h
theorem Zbv {i j:Nat}{Q:Unit->SortSt->Prop} (h:Q () (setArr st (mirror (arrOf st) i j ((j - i) / 2)))):wpS (model prog w) A E s (reverseSlice' i j) Q st:=by
 rw[reverseSlice'_eq];exact wpS_modify h
def ascL (lo a nrem:Nat):StateT SortSt Sem (Option (Option Nat) × Nat) :=
 forIn [a:nrem] ((none,a):Option (Option Nat) × Nat) fun _ c=>ltAt' (lo+c.2) (lo+c.2 - 1) >>= fun x=>match x with
  | some sm=>if sm=true then pure (Ycm (none,c.2)) else pure (Ybg (none,c.2+1))
  | _=>pure (Ycm (some none,c.2))
theorem ZbU {a nrem:Nat}{Q:Option (Option Nat) × Nat->SortSt->Prop} (hA:Asks prog w A s O knd ok) (h0:∀ x∈b₀.toList,ok x) (hF:FB knd b₀ p₀ lo st) (hn:lo+nrem<=b₀.size) (ha:1<=a) (hl:a<=nrem) (hu:Up O lo a (arrOf st))
  (h:∀ n,a<=n->n<=nrem->Up O lo n (arrOf st)->(n=nrem∨O.klt (ka O (arrOf st) (lo+n)) (ka O (arrOf st) (lo+n - 1)))->Q (none,n) st):wpS (model prog w) A E s (ascL lo a nrem) Q st:=by
 unfold ascL;refine wpS_forRange (I:=fun n c τ=>τ=st/\c=((none:Option (Option Nat)),n)/\Up O lo n (arrOf st)) ?go ?out ⟨rfl,rfl,hu⟩
 case out=>
  rintro c τ ⟨rfl,rfl,u⟩;rw[YdO hl] at u ⊢;exact h nrem hl (Yas _) u (.inl rfl)
 case go=>
  rintro n c τ h1 h2 ⟨rfl,rfl,u⟩;refine wpS_bind (ZcF hA h0 hF (by dsimp only;(clear h1 hl ha;omega)) (by dsimp only;(clear h1 hl ha;omega)) ?_);dsimp only
  cases e:O.blt (ka O (arrOf τ) (lo+n)) (ka O (arrOf τ) (lo+n - 1)) with
  | true=>
   simp only[if_true];exact wpS_pure (h n h1 (by (clear h1 hl ha hn;omega)) u (.inr e))
  | false=>
   simp only[YaU,if_false];refine wpS_pure ⟨rfl,rfl,fun i j hij hj=>?_⟩;rcases Ybt j n with z | z
   ·exact u i j hij z
   ·obtain rfl:j=n:=by (clear hij h2 h1 hl ha hn;omega)
    rcases Ybt i j with y | y
    ·exact YcQ (u i (j - 1) (by (clear z hj h2 h1 hij hl ha hn;omega)) (by (clear y z hj h2 hij hl hn;omega))) (by rw[show lo+(j - 1)=lo+j - 1 by (clear y z hj h2 hij hl hn;omega)];exact e)
    ·obtain rfl:i=j:=by (clear z hj h2 h1 hl ha hn;omega)
     exact Ycf _
theorem Zfm {n:Nat}{xs:Array Keyed} (hd:Dn O lo n xs) (hsz:lo+n<=xs.size):Up O lo n (mirror xs lo (lo+n) ((lo+n - lo) / 2)):=by
 intro i j hij hj;rw[Zhk hsz,Zhk hsz,if_pos (by (clear hsz;omega)),if_pos (by (clear hij hsz;omega))];have q:=hd (n - 1 - j) (n - 1 - i) (by (clear hj hsz;omega)) (by (clear hij hsz;omega));rw[show lo+(n - 1 - j)=lo+(lo+n) - 1 - (lo+j) by (clear hij hsz;omega),show lo+(n - 1 - i)=lo+(lo+n) - 1 - (lo+i) by (clear hsz;omega)] at q;exact q
def dscL (lo n nrem:Nat):StateT SortSt Sem (Option (Option Nat) × Nat × Nat) :=
 forIn [n:nrem] ((none,n,0):Option (Option Nat) × Nat × Nat) fun _ c=>ltAt' (lo+c.2.1) (lo+c.2.1 - 1) >>= fun x=>match x with
  | some sm=>if sm=true then (if c.2.2 > 0 then reverseSlice' (lo+c.2.1 - (c.2.2+1)) (lo+c.2.1) >>= fun _=>pure (Ybg (none,c.2.1+1,0)) else pure (Ybg (none,c.2.1+1,0)))
   else ltAt' (lo+c.2.1 - 1) (lo+c.2.1) >>= fun y=>match y with
    | some lg=>if lg=true then pure (Ycm (none,c.2.1,c.2.2)) else pure (Ybg (none,c.2.1+1,c.2.2+1))
    | _=>pure (Ycm (some none,c.2.1,c.2.2))
  | _=>pure (Ycm (some none,c.2.1,c.2.2))
theorem Zfl {n nrem:Nat}{Q:Option (Option Nat) × Nat × Nat->SortSt->Prop} (hA:Asks prog w A s O knd ok) (h0:∀ x∈b₀.toList,ok x) (hF:FB knd b₀ p₀ lo st) (hn:lo+nrem<=b₀.size) (h1:1<=n) (hl:n<=nrem) (hd:Dn O lo n (arrOf st))
  (h:∀ m e τ,FB knd b₀ p₀ lo τ->n<=m->m<=nrem->Dn O lo m (arrOf τ)->e+1<=m->(∀ i,m - (e+1)<=i->i<m->ka O (arrOf τ) (lo+i)=ka O (arrOf τ) (lo+m - 1))->Q (none,m,e) τ):wpS (model prog w) A E s (dscL lo n nrem) Q st:=by
 unfold dscL;refine wpS_forRange (I:=fun m c τ=>∃ e,c=((none:Option (Option Nat)),m,e)/\FB knd b₀ p₀ lo τ/\Dn O lo m (arrOf τ)/\e+1<=m/\∀ i,m - (e+1)<=i->i<m->ka O (arrOf τ) (lo+i)=ka O (arrOf τ) (lo+m - 1)) ?go ?out
  ⟨0,rfl,hF,hd,by (clear hl hn;omega),fun i h2 h3=>by congr 1;(clear hl h1 hn;omega)⟩
 case out=>
  rintro c τ ⟨e,rfl,hT,d,q,he⟩;rw[YdO hl] at d q he ⊢;exact h nrem e τ hT hl (Yas _) d q he
 case go=>
  rintro m c τ h2 h3 ⟨e,rfl,hT,d,q,he⟩;have hsz:lo+m<=(arrOf τ).size:=by rw[hT.size];(clear q h2 hl h1;omega)
  have more:∀ xs:Array Keyed,(∀ k,ka O xs k=ka O (arrOf τ) k)->O.kle (ka O (arrOf τ) (lo+m)) (ka O (arrOf τ) (lo+m - 1))->Dn O lo (m+1) xs:=by
   intro xs hk hle i j hij hj;rw[hk,hk];rcases Ybt j m with z | z
   ·exact d i j hij z
   ·obtain rfl:j=m:=by (clear hij hsz q h3 h2 hl h1 hn;omega)
    rcases Ybt i j with y | y
    ·exact YcQ hle (by rw[show lo+j - 1=lo+(j - 1) by (clear y z hj hsz q h3 hij hl hn;omega)];exact d i (j - 1) (by (clear z hj hsz q h3 h2 hij hl h1 hn;omega)) (by (clear y z hj hsz q h3 hij hl hn;omega)))
    ·obtain rfl:i=j:=by (clear z hj hsz q h3 h2 hl h1 hn;omega)
     exact Ycf _
  have eq1:∀ k,lo+m - (e+1)<=k->k<lo+m->ka O (arrOf τ) k=ka O (arrOf τ) (lo+m - 1):=fun k k1 k2=>by
   have:=he (k - lo) (by (clear k2 hsz q h3 h2 hl h1 hn;omega)) (by (clear k1 hsz q h3 hl hn;omega))
   rwa [show lo+(k - lo)=k by (clear k2 hsz h3 h2 hl h1 hn;omega)] at this
  refine wpS_bind (ZcF hA h0 hT (by dsimp only;(clear hsz q h2 hl h1;omega)) (by dsimp only;(clear hsz q h2 hl h1;omega)) ?_);dsimp only
  cases ew:O.blt (ka O (arrOf τ) (lo+m)) (ka O (arrOf τ) (lo+m - 1)) with
  | true=>
   simp only[if_true];refine ZaD (fun _=>?_) (fun _=>?_)
   ·exact wpS_bind (Zbv (wpS_pure ⟨0,rfl,hT.mir (by (clear hsz h3 h2 hl h1 hn;omega)) (by (clear hsz q h2 hl h1;omega)),more _ (ZbR hsz eq1) (Ycj ew),by (clear hsz q h3 h2 hl h1 hn;omega),fun i h2 h3=>by congr 1;(clear hsz q hl h1 hn;omega)⟩))
   ·exact wpS_pure ⟨0,rfl,hT,more _ (fun _=>rfl) (Ycj ew),by (clear hsz q h3 h2 hl h1 hn;omega),fun i h2 h3=>by congr 1;(clear hsz q hl h1 hn;omega)⟩
  | false=>
   simp only[YaU,if_false];refine wpS_bind (ZcF hA h0 hT (by (clear hsz q h2 hl h1;omega)) (by (clear hsz q h2 hl h1;omega)) ?_);dsimp only
   cases eg:O.blt (ka O (arrOf τ) (lo+m - 1)) (ka O (arrOf τ) (lo+m)) with
   | true=>
    simp only[if_true];exact wpS_pure (h m e τ hT h2 (by (clear hsz q h2 hl h1 hn;omega)) d q he)
   | false=>
    simp only[YaU,if_false];have hx:ka O (arrOf τ) (lo+m)=ka O (arrOf τ) (lo+m - 1):=YeC (O:=O.toKeyOrd) eg ew;refine wpS_pure ⟨e+1,rfl,hT,more _ (fun _=>rfl) eg,by (clear hsz h3 h2 hl h1 hn;omega),fun i i1 i2=>?_⟩;rw[show lo+(m+1) - 1=lo+m by (clear i2 i1 hsz q h3 h2 hl h1 hn;omega)];rcases Ybt i m with z | z
    ·rw[hx];exact he i (by (clear z i2 hsz q h3 h2 hl h1 hn;omega)) z
    ·obtain rfl:i=m:=by (clear i1 hsz q h3 h2 hl h1 hn;omega)
     rfl
theorem Zjr {nrem:Nat}{Q:Option Nat->SortSt->Prop} (hA:Asks prog w A s O knd ok) (h0:∀ x∈b₀.toList,ok x) (hF:FB knd b₀ p₀ lo st) (hn:lo+nrem<=b₀.size) (h1:1<=nrem)
  (h:∀ m τ,FB knd b₀ p₀ lo τ->1<=m->m<=nrem->Up O lo m (arrOf τ)->Q (some m) τ):wpS (model prog w) A E s (countRun' lo nrem) Q st:=by
 refine wpS_bind (ZbU (a:=1) hA h0 hF hn (Yas 1) h1 (fun i j hij hj=>?_) fun n n1 n2 u hor=>?_)
 ·obtain rfl:i=j:=by (clear h1 hn;omega)
  exact Ycf _
 dsimp only;by_cases c:n=nrem
 ·rw[if_pos (by simpa using c)];exact wpS_pure (h n st hF n1 n2 u)
 rw[if_neg (by simpa using c)];have hlt:=hor.resolve_left c;have hsz:lo+n<=(arrOf st).size:=by rw[hF.size];(clear c hor n1 h1;omega)
 by_cases cg:n > 1
 ·rw[if_pos cg];refine wpS_bind (ZcF hA h0 hF (by (clear cg hsz c hor n2 n1;omega)) (by (clear cg hsz c hor n1;omega)) ?_)
  cases e:O.blt (ka O (arrOf st) lo) (ka O (arrOf st) (lo+n - 1)) with
  | true=>
   simp only[if_true];exact wpS_pure (h n st hF n1 n2 u)
  | false=>
   simp only[YaU,if_false];have all:∀ k,lo<=k->k<lo+n->ka O (arrOf st) k=ka O (arrOf st) (lo+n - 1):=by
    intro k k1 k2;have a1:=u 0 (k - lo) (by (clear k2 k1 cg hsz c hor n2 n1 h1 hn;omega)) (by (clear k1 cg hsz c hor n2 h1 hn;omega));have a2:=u (k - lo) (n - 1) (by (clear k1 cg hsz c hor n2 n1 h1 hn;omega)) (by (clear k2 k1 cg hsz c hor n2 h1 hn;omega));rw[show lo+(k - lo)=k by (clear k2 cg hsz c hor n2 n1 h1 hn;omega)] at a1 a2;rw[show lo+(n - 1)=lo+n - 1 by (clear k2 k1 cg hsz c hor n2 h1 hn;omega)] at a2;exact YeC a2 (YcQ (O:=O.toKeyOrd) e a1)
   refine wpS_bind (Zbv ?_);have hF7:=FB.mir hF (i:=lo) (j:=lo+n) (Yas _) (by (clear cg hsz c hor n1 h1;omega));have d7:Dn O lo (n+1) (arrOf (setArr st (mirror (arrOf st) lo (lo+n) ((lo+n - lo) / 2)))):=by
    intro i j hij hj;show O.kle (ka O (mirror (arrOf st) _ _ _) _) (ka O (mirror (arrOf st) _ _ _) _);rw[ZbR hsz all,ZbR hsz all];rcases Ybt j n with z | z
    ·rw[all _ (by (clear z hj hij cg hsz c hor n2 n1 h1 hn;omega)) (show lo+j<lo+n by (clear hj hij cg hsz c hor n2 n1 h1 hn;omega)),all _ (by (clear z hj hij cg hsz c hor n2 n1 h1 hn;omega)) (show lo+i<lo+n by (clear hj cg hsz c hor n2 n1 h1 hn;omega))];exact Ycf _
    ·obtain rfl:j=n:=by (clear hij cg hsz c hor n2 n1 h1 hn;omega)
     rcases Ybt i j with y | y
     ·rw[all _ (by (clear y z hj cg hsz c hor n2 n1 hij h1 hn;omega)) (show lo+i<lo+j by (clear z hj cg hsz c hor n2 n1 hij h1 hn;omega))];exact Ycj hlt
     ·obtain rfl:i=j:=by (clear z hj cg hsz c hor n2 n1 h1 hn;omega)
      exact Ycf _
   refine wpS_bind (wpS_lift (wpAny_rule ⟨rfl,?_⟩));refine wpS_bind (Zfl hA h0 hF7 hn (by (clear cg hsz c hor n2 n1 h1 hn;omega)) (by (clear cg hsz hor n1 h1 hn;omega)) d7 fun m e τ hT m1 m2 d q he=>?_);dsimp only;have hsz:lo+m<=(arrOf τ).size:=by rw[hT.size];(clear q m1 cg hsz c hor n2 n1 h1;omega)
   have eq1:∀ k,lo+m - (e+1)<=k->k<lo+m->ka O (arrOf τ) k=ka O (arrOf τ) (lo+m - 1):=fun k k1 k2=>by
    have:=he (k - lo) (by (clear k2 hsz q m2 m1 cg c hor n2 n1 h1 hn;omega)) (by (clear k1 hsz q m2 cg c hor n2 n1 h1 hn;omega))
    rwa [show lo+(k - lo)=k by (clear k2 hsz m2 m1 cg c hor n2 n1 h1 hn;omega)] at this
   refine ZaD (fun _=>?_) (fun _=>?_)
   ·refine wpS_bind (Zbv ?_);have hF8:=FB.mir hT (i:=lo+m - (e+1)) (j:=lo+m) (by (clear hsz m2 m1 cg c hor n2 n1 h1 hn;omega)) (by (clear hsz q m1 cg c hor n2 n1 h1;omega));have d8:Dn O lo m (arrOf (setArr τ (mirror (arrOf τ) (lo+m - (e+1)) (lo+m) ((lo+m - (lo+m - (e+1))) / 2)))):=by
     intro i j hij hj;show O.kle (ka O (mirror (arrOf τ) _ _ _) _) (ka O (mirror (arrOf τ) _ _ _) _);rw[ZbR hsz eq1,ZbR hsz eq1];exact d i j hij hj
    refine wpS_bind (Zbv ?_);have hF9:=FB.mir hF8 (i:=lo) (j:=lo+m) (Yas _) (by (clear hsz q m1 cg c hor n2 n1 h1;omega));refine wpS_bind (ZbU hA h0 hF9 hn (by (clear hsz q m2 cg c hor n2 n1 h1 hn;omega)) m2 (Zfm d8 (by rw[FB.size hF8];(clear hsz q m1 cg c hor n2 n1 h1;omega))) fun m' m1' m2' u' _=>wpS_pure (h m' _ hF9 (by (clear m2' hsz q m2 cg c hor n2 n1 h1 hn;omega)) m2' u'))
   ·
    refine wpS_bind (Zbv ?_);have hF9:=FB.mir hT (i:=lo) (j:=lo+m) (Yas _) (by (clear hsz q m1 cg c hor n2 n1 h1;omega));refine wpS_bind (ZbU hA h0 hF9 hn (by (clear hsz q m2 cg c hor n2 n1 h1 hn;omega)) m2 (Zfm d (by rw[FB.size hT];(clear hsz q m1 cg c hor n2 n1 h1;omega))) fun m' m1' m2' u' _=>wpS_pure (h m' _ hF9 (by (clear m2' hsz q m2 cg c hor n2 n1 h1 hn;omega)) m2' u'))
 ·rw[if_neg cg];obtain rfl:n=1:=by (clear hsz c hor n2 h1 hn;omega)
  have d7:Dn O lo (1+1) (arrOf st):=by
   intro i j hij hj;rcases Ybt i j with y | y
   ·obtain rfl:i=0:=by (clear hij cg hsz c hor n2 n1 h1 hn;omega)
    obtain rfl:j=1:=by (clear hij cg hsz c hor n2 n1 h1 hn;omega)
    exact Ycj hlt
   ·obtain rfl:i=j:=by (clear hj cg hsz c hor n2 n1 h1 hn;omega)
    exact Ycf _
  refine wpS_bind (wpS_lift (wpAny_rule ⟨rfl,?_⟩));refine wpS_bind (Zfl hA h0 hF hn (by (clear cg hsz c hor n2 n1 h1 hn;omega)) (by (clear cg hsz hor n2 n1 hn;omega)) d7 fun m e τ hT m1 m2 d q he=>?_);dsimp only;have hsz:lo+m<=(arrOf τ).size:=by rw[hT.size];(clear q m1 cg hsz c hor n2 n1 h1;omega)
  have eq1:∀ k,lo+m - (e+1)<=k->k<lo+m->ka O (arrOf τ) k=ka O (arrOf τ) (lo+m - 1):=fun k k1 k2=>by
   have:=he (k - lo) (by (clear k2 hsz q m2 m1 cg c hor n2 n1 h1 hn;omega)) (by (clear k1 hsz q m2 cg c hor n2 n1 h1 hn;omega))
   rwa [show lo+(k - lo)=k by (clear k2 hsz m2 m1 cg c hor n2 n1 h1 hn;omega)] at this
  refine ZaD (fun _=>?_) (fun _=>?_)
  ·refine wpS_bind (Zbv ?_);have hF8:=FB.mir hT (i:=lo+m - (e+1)) (j:=lo+m) (by (clear hsz m2 m1 cg c hor n2 n1 h1 hn;omega)) (by (clear hsz q m1 cg c hor n2 n1 h1;omega));have d8:Dn O lo m (arrOf (setArr τ (mirror (arrOf τ) (lo+m - (e+1)) (lo+m) ((lo+m - (lo+m - (e+1))) / 2)))):=by
    intro i j hij hj;show O.kle (ka O (mirror (arrOf τ) _ _ _) _) (ka O (mirror (arrOf τ) _ _ _) _);rw[ZbR hsz eq1,ZbR hsz eq1];exact d i j hij hj
   refine wpS_bind (Zbv ?_);have hF9:=FB.mir hF8 (i:=lo) (j:=lo+m) (Yas _) (by (clear hsz q m1 cg c hor n2 n1 h1;omega));refine wpS_bind (ZbU hA h0 hF9 hn (by (clear hsz q m2 cg c hor n2 n1 h1 hn;omega)) m2 (Zfm d8 (by rw[FB.size hF8];(clear hsz q m1 cg c hor n2 n1 h1;omega))) fun m' m1' m2' u' _=>wpS_pure (h m' _ hF9 (by (clear m2' hsz q m2 cg c hor n2 n1 h1 hn;omega)) m2' u'))
  ·
   refine wpS_bind (Zbv ?_);have hF9:=FB.mir hT (i:=lo) (j:=lo+m) (Yas _) (by (clear hsz q m1 cg c hor n2 n1 h1;omega));refine wpS_bind (ZbU hA h0 hF9 hn (by (clear hsz q m2 cg c hor n2 n1 h1 hn;omega)) m2 (Zfm d (by rw[FB.size hT];(clear hsz q m1 cg c hor n2 n1 h1;omega))) fun m' m1' m2' u' _=>wpS_pure (h m' _ hF9 (by (clear m2' hsz q m2 cg c hor n2 n1 h1 hn;omega)) m2' u'))
end
end
end L2
namespace L2
open PySem PyProof.Rows
section
variable {prog:Program}{w:World}{A:Around}{E:Value->Shared->Prop}{s:Shared}{O:KO}{knd:SortKind}{ok:Keyed->Prop}{st:SortSt}{b₀:Array Keyed}{p₀:Array (Nat × Nat × Nat)}{lo:Nat}
theorem Zk9 {l r:Nat} (h:l<r):l<=(l+r) / 2/\(l+r) / 2<r:=by omega
theorem ZlP {l r k x N:Nat} (m1:l<=(l+r) / 2) (m2:(l+r) / 2<r) (hx:x<N) (e2:r<=k) (e3:r - l<=k - x):(l+r) / 2 - l<=k - (x+1):=by (clear e2 hx m2 m1;omega)
theorem ZlO {l r k x N:Nat} (m1:l<=(l+r) / 2) (m2:(l+r) / 2<r) (hx:x<N) (e2:r<=k) (e3:r - l<=k - x):r - ((l+r) / 2+1)<=k - (x+1):=by (clear e2 hx m2 m1;omega)
theorem Zjs {n m:Nat}{Q:Bool->SortSt->Prop} (hA:Asks prog w A s O knd ok) (h0:∀ x∈b₀.toList,ok x) (hF:FB knd b₀ p₀ lo st) (hn:lo+n<=b₀.size) (h1:1<=m) (hm:m<=n) (hu:Up O lo m (arrOf st))
  (h:∀ τ,FB knd b₀ p₀ lo τ->Up O lo n (arrOf τ)->Q true τ):wpS (model prog w) A E s (binarySort' lo n m) Q st:=by
 rw[binarySort'_eq,Nat.max_eq_left h1];refine wpS_bind (wpS_mono (wpS_forRange (I:=fun k c τ=>c=(none,())/\FB knd b₀ p₀ lo τ/\Up O lo k (arrOf τ))
  (Q:=fun c τ=>c=(none,())/\FB knd b₀ p₀ lo τ/\Up O lo n (arrOf τ)) ?go ?out ⟨rfl,hF,hu⟩) ?fin)
 case fin=>
  rintro c τ ⟨rfl,hT,u⟩;exact wpS_pure (h τ hT u)
 case out=>
  rintro c τ ⟨hc,hT,u⟩;rw[YdO hm] at u;exact⟨hc,hT,u⟩
 case go=>
  rintro k c τ k1 k2 ⟨rfl,hT,u⟩;refine wpS_bind (wpS_mono (wpS_forRange (I:=fun x c τ'=>τ'=τ/\∃ l r,c=(none,l,r)/\l<=r/\r<=k/\r - l<=k - x /\
    (∀ i,i<l->O.kle (ka O (arrOf τ) (lo+i)) (ka O (arrOf τ) (lo+k)))/\∀ i,r<=i->i<k->O.klt (ka O (arrOf τ) (lo+k)) (ka O (arrOf τ) (lo+i)))
   (Q:=fun c τ'=>τ'=τ/\∃ l,c=(none,l,l)/\l<=k/\(∀ i,i<l->O.kle (ka O (arrOf τ) (lo+i)) (ka O (arrOf τ) (lo+k)))/\∀ i,l<=i->i<k->O.klt (ka O (arrOf τ) (lo+k)) (ka O (arrOf τ) (lo+i))) ?go2 ?out2
   ⟨rfl,0,k,rfl,YaO _,Yas _,Yas _,fun i hi=>absurd hi (Nat.not_lt_zero _),fun i i1 i2=>absurd i2 (Nat.not_lt.mpr i1)⟩) ?fin2)
  case out2=>
   rintro c τ' ⟨rfl,l,r,rfl,e1,e2,e3,e4,e5⟩;obtain rfl:l=r:=by (clear e2 k2 k1 hm h1 hn;omega)
   exact⟨rfl,l,rfl,e2,e4,e5⟩
  case go2=>
   rintro x c τ' _ hx ⟨rfl,l,r,rfl,e1,e2,e3,e4,e5⟩;dsimp only;by_cases hge:l ≥ r
   ·rw[if_pos hge];obtain rfl:l=r:=by (clear e3 e2 hx k2 k1 hm h1 hn;omega)
    exact wpS_pure ⟨rfl,l,rfl,e2,e4,e5⟩
   rw[if_neg hge];obtain⟨m1,m2⟩:=Zk9 (Nat.lt_of_not_le hge);have mk:(l+r) / 2<k:=Yau m2 e2;have kn:lo+k<b₀.size:=Yau (YeV k2 lo) hn;refine wpS_bind (ZcF hA h0 hT kn (Nat.lt_trans (YeV mk lo) kn) ?_)
   cases e:O.blt (ka O (arrOf τ') (lo+k)) (ka O (arrOf τ') (lo+(l+r) / 2)) with
   | true=>
    simp only[if_true];exact wpS_pure ⟨rfl,l,(l+r) / 2,rfl,m1,Ybi mk,ZlP m1 m2 hx e2 e3,e4,fun i i1 i2=>KeyOrd.klt_of_klt_of_kle e (u _ _ i1 i2)⟩
   | false=>
    simp only[YaU,if_false];exact wpS_pure ⟨rfl,(l+r) / 2+1,r,rfl,m2,e2,ZlO m1 m2 hx e2 e3,fun i i1=>YcQ (u i ((l+r) / 2) (Nat.le_of_lt_succ i1) mk) e,e5⟩
  case fin2=>
   rintro c τ' ⟨rfl,l,rfl,e2,e4,e5⟩;dsimp only;rw[moveDown'_eq];have hks:lo+k<(arrOf τ').size:=by rw[hT.size];(clear e2 k1 hm h1;omega)
   refine wpS_bind (wpS_modify (wpS_pure ⟨rfl,hT.put (bubble_perm _ _ _) (fun i hi=>?_),?_⟩))
   ·rw[getElem?_bubble hks _ (by (clear hi hks e2 k2 k1 hm h1 hn;omega)),if_neg (by (clear hks e2 k2 k1 hm h1 hn;omega)),if_neg (by (clear hks e2 k2 k1 hm h1 hn;omega))]
   ·intro i j hij hj;show O.kle (ka O (bubble (arrOf τ') (lo+k) (lo+k - (lo+l))) _) (ka O (bubble (arrOf τ') (lo+k) (lo+k - (lo+l))) _);rw[Zjj hks (by (clear hj hij hks e2 k2 k1 hm h1 hn;omega)),Zjj hks (by (clear hj hij hks e2 k2 k1 hm h1 hn;omega)),show lo+k - (lo+k - (lo+l))=lo+l by (clear hj hij hks k2 k1 hm h1 hn;omega)]
    repeat' split
    all_goals first
     | (exfalso;omega)
     | exact Ycf _
     | exact e4 _ (by omega)
     | (rw[show lo+j - 1=lo+(j - 1) by (clear hj hij hks e2 k2 k1 hm h1 hn;omega)];exact Ycj (e5 _ (by (clear hj hij hks e2 k2 k1 hm h1 hn;omega)) (by (clear hj hij hks e2 k2 k1 hm h1 hn;omega))))
     | exact Ycj (e5 _ (by omega) (by omega))
     | (rw[show lo+i - 1=lo+(i - 1) by (clear hj hij hks e2 k2 k1 hm h1 hn;omega),show lo+j - 1=lo+(j - 1) by (clear hj hij hks e2 k2 k1 hm h1 hn;omega)];exact u _ _ (by (clear hj hks e2 k2 k1 hm h1 hn;omega)) (by (clear hj hij hks e2 k2 k1 hm h1 hn;omega)))
     | (rw[show lo+j - 1=lo+(j - 1) by (clear hj hij hks e2 k2 k1 hm h1 hn;omega)];exact u _ _ (by (clear hj hks e2 k2 k1 hm h1 hn;omega)) (by (clear hj hij hks e2 k2 k1 hm h1 hn;omega)))
     | exact u _ _ (by (clear hj hks e2 k2 k1 hm h1 hn;omega)) (by (clear hij hks k2 k1 hm h1 hn;omega))
def pos:Nat->List (List Keyed)->List (Nat × Nat)
 | _,[]=>[]
 | o,r::rs=>(o,r.length)::pos (o+r.length) rs
theorem ZbE:∀ (o:Nat) (xs ys:List (List Keyed)),pos o (xs++ys)=pos o xs++pos (o+xs.flatten.length) ys
 | o,[],ys=>by simp[pos]
 | o,r::rs,ys=>by
  simp only[YbR,pos,ZbE,YaI,Yai];rw[Yer]
theorem Zcn:∀ (o:Nat) (xs:List (List Keyed)),(pos o xs).length=xs.length
 | _,[]=>rfl
 | o,r::rs=>by simp only[pos,YaR,Zcn]
def pr (p:Nat × Nat × Nat):Nat × Nat:=(p.1,p.2.1)
structure RI (O:KO) (knd:SortKind) (a₀:List Keyed) (runs:List (List Keyed)) (rest:List Keyed) (st:SortSt):Prop where
 arr:(arrOf st).toList=runs.flatten++rest
 perm:(arrOf st).toList.Perm a₀
 srt:∀ r∈runs,O.Srt r
 ne:∀ r∈runs,1<=r.length
 kind:kindOf st=knd
 failed:failedOf st=none
 pend:(pendingOf st).toList.map pr=pos 0 runs
theorem Zc9:∀ (l:List Keyed) (n sa:Nat) (xs:Array Keyed) (P M S:List Keyed),xs.toList=P++M++S->M.length=l.length->P.length=sa+n ->
  ((l.zipIdx n).foldl (fun a (q:Keyed × Nat)=>a.setIfInBounds (sa+q.2) q.1) xs).toList=P++l++S
 | [],n,sa,xs,P,M,S,e,h1,h2=>by
  have:M=[]:=Ybu.mp h1;subst this;simpa using e
 | x::l,n,sa,xs,P,[],S,e,h1,h2=>by cases h1
 | x::l,n,sa,xs,P,y::M,S,e,h1,h2=>by
  rw[YdK,YdW];have q:=Zc9 l (n+1) sa (xs.setIfInBounds (sa+n) x) (P++[x]) M S ?_ (by simpa using h1) (by simp;(clear h1;omega))
  ·rw[q];simp
  ·rw[Yd1,e,<- h2];simp
theorem Zhb {α β:Type}{f:α->β}{l:List α}{X Z:List β}{x y:β} (h:l.map f=X++x::y::Z):∃ P p q S,l=P++p::q::S/\P.map f=X/\f p=x/\f q=y/\S.map f=Z:=by
 obtain⟨P,l2,e1,e2,e3⟩:=List.map_eq_append_iff.mp h;obtain⟨p,l3,e4,e5,e6⟩:=YeL.mp e3;obtain⟨q,S,e7,e8,e9⟩:=YeL.mp e6;exact⟨P,p,q,S,by rw[e1,e4,e7],e2,e5,e8,e9⟩
theorem Zcz {α:Type}{pre m post:List α}{l:List α}{i:Nat} (e:l=pre++m++post) (hi:i<m.length):l[pre.length+i]?=m[i]?:=by
 rw[e,YaM,Yak (by (clear hi;omega)),YbG,Yaj hi]
theorem Zjb {xs:Array Keyed}{pre m post:List Keyed} (e:xs.toList=pre++m++post) (sm:O.Srt m):∀ p q x y,pre.length<=p->p<=q->q<pre.length+m.length->xs[p]?=some x->xs[q]?=some y->O.le x y:=by
 intro p q x y h1 h2 h3 e1 e2;have f1:=Zcz (i:=p - pre.length) e (by omega);have f2:=Zcz (i:=q - pre.length) e (by omega);rw[show pre.length+(p - pre.length)=p by (clear h3 h2;omega),Yaq,e1] at f1;rw[show pre.length+(q - pre.length)=q by (clear h3;omega),Yaq,e2] at f2;exact Zb0 sm (by (clear h3 h1;omega)) f1.symm f2.symm
theorem Zhw {xs:Array Keyed}{P M S:List Keyed}{i j:Nat} (e:xs.toList=P++M++S) (hi:i=P.length) (hj:j=P.length+M.length):(xs.extract i j).toList=M:=by
 rw[ZdW,e,hi,hj,YaM,List.drop_left,YbG,Yc3]
theorem srt3 {x y z:List Keyed} (hx:O.Srt x) (hy:O.Srt y) (hz:O.Srt z) (xy:∀ p∈x,∀ q∈y,O.le p q) (yz:∀ p∈y,∀ q∈z,O.le p q) (xz:∀ p∈x,∀ q∈z,O.le p q):O.Srt (x++y++z):=by
 refine YaZ.mpr ⟨YaZ.mpr ⟨hx,hy,xy⟩,hz,fun p hp q hq=>?_⟩;rcases Yao.mp hp with hp | hp
 ·exact xz p hp q hq
 ·exact yz p hp q hq
theorem Zjq {M:Model}{σ:Type}{x y:σ}{Q:PUnit->σ->Prop} (h:Q ⟨⟩ x):wpS M A E s (set x:StateT σ Sem PUnit) Q y:=by
 unfold wpS;rw[StateT.run_set];exact wpAny_pure ⟨rfl,h⟩
theorem ZbM {a₀ rest:List Keyed}{R1 R2:List (List Keyed)}{a b:List Keyed}{i:Nat}{Q:Bool->SortSt->Prop} (hA:Asks prog w A s O knd ok) (h0:∀ x∈a₀,ok x) (hR:RI O knd a₀ (R1++a::b::R2) rest st) (hi:R1.length=i)
  (h:∀ m τ,m.Perm (a++b)->RI O knd a₀ (R1++m::R2) rest τ->Q true τ):wpS (model prog w) A E s (mergeAt' i) Q st:=by
 have hp:=hR.pend;rw[ZbE] at hp;obtain⟨P,p,q,S,ep,e1,e2,e3,e4⟩:=Zhb hp;obtain⟨p1,p2,w1⟩:=p;obtain⟨q1,q2,w2⟩:=q;simp only[pr,Prod.mk.injEq,YbT] at e2 e3;obtain⟨rfl,rfl⟩:=e2;obtain⟨rfl,rfl⟩:=e3;have hP:P.length=i:=by rw[<- hi,<- Zcn 0 R1,<- e1,Yac]
 have g1:(pendingOf st)[i]?=some (R1.flatten.length,a.length,w1):=by
  rw[<- Yaq,ep,Yak (by (clear hi;omega)),hP,Yb6];rfl
 have g2:(pendingOf st)[i+1]?=some (R1.flatten.length+a.length,b.length,w2):=by
  rw[<- Yaq,ep,Yak (by (clear hi;omega)),hP,YbG];rfl
 have ea:(arrOf st).toList=R1.flatten++a++(b++(R2.flatten++rest)):=by
  rw[hR.arr];simp
 have eb:(arrOf st).toList=(R1.flatten++a)++b++(R2.flatten++rest):=by
  rw[hR.arr];simp
 have sa:O.Srt a:=hR.srt a (by simp);have sb:O.Srt b:=hR.srt b (by simp);have la:1<=a.length:=hR.ne a (by simp);have lb:1<=b.length:=hR.ne b (by simp);have oks:∀ x∈(arrOf st).toList,ok x:=fun x hx=>h0 x (hR.perm.mem_iff.mp hx);have oka:∀ x∈a,ok x:=fun x hx=>oks x (by rw[ea];simp[hx]);have okb:∀ x∈b,ok x:=fun x hx=>oks x (by rw[eb];simp[hx]);have fin:∀ (τ:SortSt) (m:List Keyed),m.Perm (a++b)->O.Srt m->(arrOf τ).toList=R1.flatten++m++(R2.flatten++rest)->kindOf τ=knd->failedOf τ=none->(pendingOf τ).toList=P++(R1.flatten.length,a.length+b.length,w1)::S->Q true τ:=by
  intro τ m pm sm em k1 k2 k3;have lm:m.length=a.length+b.length:=by rw[pm.length_eq,Yai]
  refine h m τ pm ⟨by rw[em];simp,?_,?_,?_,k1,k2,?_⟩
  ·refine Yc6 ?_ hR.perm;rw[em,ea];have:=Yb9 R1.flatten (Yc5 (R2.flatten++rest) pm);simpa using this
  ·intro r hr;rcases Yao.mp hr with hr | hr
   ·exact hR.srt r (Ya0 _ hr)
   ·rcases Yav.mp hr with hr | hr
    ·rw[hr];exact sm
    ·exact hR.srt r (by simp[hr])
  ·intro r hr;rcases Yao.mp hr with hr | hr
   ·exact hR.ne r (Ya0 _ hr)
   ·rcases Yav.mp hr with hr | hr
    ·rw[hr];(clear lb hP hi;omega)
    ·exact hR.ne r (by simp[hr])
  ·rw[k3,ZbE,YaB,e1,Yam,e4,YbT];simp only[pos,pr,lm,Yer]
 have new:(((pendingOf st).setIfInBounds i (R1.flatten.length,a.length+b.length,w1)).eraseIdxIfInBounds (i+1)).toList=P++(R1.flatten.length,a.length+b.length,w1)::S:=by
  rw[Array.toList_eraseIdxIfInBounds,Yd1,ep,<- hP];simp[List.eraseIdx_append_of_length_le]
 refine wpS_bind (wpS_get ?_);rw[show (pendingOf st)[i]?=_ from g1,show (pendingOf st)[i+1]?=_ from g2];dsimp only;refine wpS_bind (Zjq ?_);have eb0:(arrOf st).toList[(R1.flatten++a).length+0]?=b[0]?:=Zcz eb (by (clear la hP hi;omega));have hb0:b[0]?=some b[0]:=Yab lb;have eb1:(arrOf st)[R1.flatten.length+a.length]?=some b[0]:=by
  rw[<- Yaq,<- hb0,<- eb0,Yai,Nat.add_zero]
 have mb0:b[0]∈b:=YcV _;refine wpS_bind (Zak eb1 ?_);have hlen:(arrOf st).size=R1.flatten.length+a.length+b.length+(R2.flatten++rest).length:=by
  rw[<- Ybd,eb];simp only[Yai]
 refine wpS_bind (ZbN hA hR.kind (okb _ mb0) oks (show R1.flatten.length+a.length<=(arrOf st).size by (clear la hP hi;omega)) (Zjb ea sa) (by (clear hlen hP hi;omega)) fun k hk1 u1 u2=>?_);have ka1:∀ z∈a.take k,O.le z b[0]:=by
  intro z hz;obtain⟨j,hj,e⟩:=ZaU hz;refine u1 j z hj ?_;rw[<- Yaq,Zcz ea (by (clear hlen la hP hi;omega))];exact e
 have ka2:∀ z∈a.drop k,O.blt (O.ky b[0]) (O.ky z)=true:=by
  intro z hz;obtain⟨j,hj,e⟩:=ZaV hz;have hj2:j<a.length:=(Yaa.mp e).1
  refine u2 j z hj hj2 ?_;rw[<- Yaq,Zcz ea hj2];exact e
 have bb:∀ z∈b,O.le b[0] z:=fun z hz=>Zcr sb hb0 z (by simpa using hz);dsimp only;by_cases ck:a.length - k=0
 ·rw[if_pos (by simpa using ck)];have ek:a.take k=a:=YaW (by (clear hk1 hlen la hP hi;omega));rw[ek] at ka1;refine wpS_pure (fin _ (a++b) (YdH _) (YaZ.mpr ⟨sa,sb,fun x hx y hy=>KO.le_trans (ka1 x hx) (bb y hy)⟩) ?_ hR.kind hR.failed new);show (arrOf st).toList=_;rw[ea];simp
 rw[if_neg (by simpa using ck)];have hla:a[a.length - 1]?=some a[a.length - 1]:=Yab (by (clear ck hk1 hlen hP hi;omega));have mla:a[a.length - 1]∈a:=YcV _;have mla2:a[a.length - 1]∈a.drop k:=by
  refine Yez.mpr ⟨a.length - 1 - k,?_⟩;rw[Ybx,show k+(a.length - 1 - k)=a.length - 1 by (clear hk1 hP hi;omega)];exact hla
 have ela:(arrOf st)[R1.flatten.length+k+(a.length - k) - 1]?=some a[a.length - 1]:=by
  rw[<- Yaq,show R1.flatten.length+k+(a.length - k) - 1=R1.flatten.length+(a.length - 1) by (clear ck hP hi;omega),Zcz ea (by (clear ck hk1 hP hi;omega))];exact hla
 refine wpS_bind (Zak ela ?_);refine wpS_bind (Za9 hA hR.kind (oka _ mla) oks (show R1.flatten.length+a.length+b.length<=(arrOf st).size by (clear ck hk1 hP hi;omega)) (by rw[<- Yai];exact Zjb eb sb) (by (clear ck hk1 hP hi;omega)) fun n hn1 v1 v2=>?_);have kb1:∀ z∈b.take n,O.blt (O.ky z) (O.ky a[a.length - 1])=true:=by
  intro z hz;obtain⟨j,hj,e⟩:=ZaU hz;refine v1 j z hj ?_;rw[<- Yaq,<- Yai,Zcz eb (by (clear ck hk1 hP hi;omega))];exact e
 have kb2:∀ z∈b.drop n,O.le a[a.length - 1] z:=by
  intro z hz;obtain⟨j,hj,e⟩:=ZaV hz;have hj2:j<b.length:=(Yaa.mp e).1
  refine v2 j z hj hj2 ?_;rw[<- Yaq,<- Yai,Zcz eb hj2];exact e
 have hn0:1<=n:=by
  rcases Ydw n with z | z
  ·subst z;have q1:=ka2 _ mla2;rw[show O.blt (O.ky b[0]) (O.ky a[a.length - 1])=false from kb2 b[0] (by simpa using mb0)] at q1;cases q1
  ·exact z
 have aa:∀ z∈a,O.le z a[a.length - 1]:=fun z hz=>Zhg sa hla z (by rw[show a.length - 1+1=a.length by (clear hn0 hn1 ck hk1 hP hi;omega),YaT];exact hz);dsimp only;rw[if_neg (by simp;(clear hn1 ck hk1 hP hi;omega))];have exx:((arrOf st).extract (R1.flatten.length+k) (R1.flatten.length+a.length)).toList=a.drop k :=
  Zhw (P:=R1.flatten++a.take k) (S:=b++(R2.flatten++rest)) (by rw[ea];simp[<- YaM];simp[YaM,YaQ]) (by simp;(clear hn0 hn1 ck hP hi;omega)) (by simp;(clear hn0 hn1 ck hk1 hP hi;omega))
 have exy:((arrOf st).extract (R1.flatten.length+a.length) (R1.flatten.length+a.length+n)).toList=b.take n :=
  Zhw (P:=R1.flatten++a) (S:=b.drop n++(R2.flatten++rest)) (by rw[eb];simp only[YaM];rw[<- YaM (b.take n),YaQ]) (by simp) (by simp;(clear hn0 ck hk1 hP hi;omega))
 have sx:O.Srt (a.drop k):=sa.drop;have sy:O.Srt (b.take n):=sb.take;have after:∀ (r:Array Keyed) (τ:SortSt),Gal (Ydt (kindOf st) (arrOf st) (((pendingOf st).setIfInBounds i (R1.flatten.length,a.length+b.length,w1)).eraseIdxIfInBounds (i+1)) (gallopOf st) (failedOf st)) τ->Mg O (a.drop k) (b.take n) r.toList ->
   Q true (Ydt (kindOf τ) (r.toList.zipIdx.foldl (fun a (q:Keyed × Nat)=>a.setIfInBounds (R1.flatten.length+k+q.2) q.1) (arrOf τ)) (pendingOf τ) (gallopOf τ) (failedOf τ)):=by
  intro r τ hG hM;have mem:∀ z∈r.toList,z∈a.drop k∨z∈b.take n:=fun z hz=>Yao.mp (hM.1.mem_iff.mp hz);refine fin _ (a.take k++r.toList++b.drop n) ?_ (srt3 sa.take hM.2 sb.drop (fun p hp q hq=>?_) (fun p hp q hq=>?_) fun p hp q hq=>?_) ?_ (hG.1.trans hR.kind) (hG.2.2.2.trans hR.failed) (by rw[show pendingOf τ=_ from hG.2.2.1];exact new)
  ·have p1:(a.take k++r.toList++b.drop n).Perm (a.take k++(a.drop k++b.take n)++b.drop n):=Yc5 _ (Yb9 _ hM.1);refine p1.trans (List.Perm.of_eq ?_);rw[<- YaM,YaQ,YaM,YaQ]
  ·rcases mem q hq with m | m
   ·refine (YaZ.mp (show O.Srt (a.take k++a.drop k) from by rw[YaQ];exact sa)).2.2 p hp q m
   ·exact KO.le_trans (ka1 p hp) (bb q (Ybv m))
  ·rcases mem p hp with m | m
   ·exact KO.le_trans (aa p (Yb2 m)) (kb2 q hq)
   ·refine (YaZ.mp (show O.Srt (b.take n++b.drop n) from by rw[YaQ];exact sb)).2.2 p m q hq
  ·exact KO.le_trans (ka1 p hp) (bb q (Yb2 hq))
  ·show (Yeh _ (arrOf τ) _).toList=_;rw[show arrOf τ=arrOf st from hG.2.1];have:=Zc9 r.toList 0 (R1.flatten.length+k) (arrOf st) (R1.flatten++a.take k) (a.drop k++b.take n) (b.drop n++(R2.flatten++rest)) ?_ (by rw[hM.1.length_eq]) (by simp;(clear hn0 hn1 ck hP hi;omega))
   ·rw[this];simp
   ·rw[eb];simp only[YaM];rw[<- YaM (a.take k),YaQ,<- YaM (b.take n),YaQ]
 have xsz:((arrOf st).extract (R1.flatten.length+k) (R1.flatten.length+a.length)).size=a.length - k:=by
  rw[<- Ybd,exx,Ya3]
 have ysz:((arrOf st).extract (R1.flatten.length+a.length) (R1.flatten.length+a.length+n)).size=n:=by
  rw[<- Ybd,exy,Yaz];(clear xsz hn0 ck hk1 hP hi;omega)
 have y0:∀ y,((arrOf st).extract (R1.flatten.length+a.length) (R1.flatten.length+a.length+n))[0]?=some y->y=b[0]:=by
  intro y e;rw[<- Yaq,exy,Ybm (by (clear ysz xsz hn1 ck hk1 hP hi;omega)),hb0] at e;exact (Yay e).symm
 have xl:∀ z,((arrOf st).extract (R1.flatten.length+k) (R1.flatten.length+a.length))[((arrOf st).extract (R1.flatten.length+k) (R1.flatten.length+a.length)).size - 1]?=some z->z=a[a.length - 1]:=by
  intro z e;rw[xsz,<- Yaq,exx,Ybx,show k+(a.length - k - 1)=a.length - 1 by (clear ysz xsz hn0 hn1 hk1 hP hi;omega),hla] at e;exact (Yay e).symm
 have hx1:1<=((arrOf st).extract (R1.flatten.length+k) (R1.flatten.length+a.length)).size:=by rw[xsz];(clear ysz xsz hn0 hn1 hk1 hP hi;omega)
 have hy1:1<=((arrOf st).extract (R1.flatten.length+a.length) (R1.flatten.length+a.length+n)).size:=by rw[ysz];(clear hx1 ysz xsz hn1 ck hk1 hP hi;omega)
 refine ZaD (fun _=>?_) (fun _=>?_)
 ·refine wpS_bind (ZeO hA hR.kind (by rw[exx];exact fun x hx=>oka x (Yb2 hx)) (by rw[exy];exact fun x hx=>okb x (Ybv hx)) (by rw[exx];exact sx) (by rw[exy];exact sy) hx1 hy1 ?_ ?_ ?_)
  ·intro y e x hx;rw[y0 y e];rw[exx] at hx;exact KO.le_of_lt (ka2 x hx)
  ·intro z e y hy;rw[xl z e];rw[exy] at hy;exact kb1 y hy
  ·intro r τ hG hM;rw[exx,exy] at hM;refine wpS_bind (wpS_modify (wpS_bind (wpS_get ?_)));have e9:failedOf τ=none:=hG.2.2.2.trans hR.failed;refine wpS_pure ?_;show Q (failedOf τ).isNone _;rw[e9];exact after r τ hG hM
 ·refine wpS_bind (ZeP hA hR.kind (by rw[exx];exact fun x hx=>oka x (Yb2 hx)) (by rw[exy];exact fun x hx=>okb x (Ybv hx)) (by rw[exx];exact sx) (by rw[exy];exact sy) hx1 hy1 ?_ ?_ ?_)
  ·intro y e x hx;rw[y0 y e];rw[exx] at hx;exact ka2 x hx
  ·intro z e y hy;rw[xl z e];rw[exy] at hy;exact KO.le_of_lt (kb1 y hy)
  ·intro r τ hG hM;rw[exx,exy] at hM;refine wpS_bind (wpS_modify (wpS_bind (wpS_get ?_)));have e9:failedOf τ=none:=hG.2.2.2.trans hR.failed;refine wpS_pure ?_;show Q (failedOf τ).isNone _;rw[e9];exact after r τ hG hM
end
end L2
namespace L2
open PySem PyProof.Rows
section
variable {prog:Program}{w:World}{A:Around}{E:Value->Shared->Prop}{s:Shared}{O:KO}{knd:SortKind}{ok:Keyed->Prop}{st τ:SortSt}
theorem Zj6 {c:Prop} [Decidable c] {a b n:Nat} (h1:a<=n) (h2:b<=n):(if c then a else b)<=n:=by split <;> assumption
theorem ZbY {α:Type}:∀ {l:List α}{i:Nat},i+1<l.length->∃ R1 a b R2,l=R1++a::b::R2/\R1.length=i
 | [],_,h=>by simp at h
 | [_],_,h=>by simp at h
 | a::b::l,0,_=>⟨[],a,b,l,rfl,rfl⟩
 | a::b::l,i+1,h=>by
  obtain⟨R1,x,y,R2,e,q⟩:=ZbY (l:=b::l) (i:=i) (by simpa using h);exact⟨a::R1,x,y,R2,by rw[e];rfl,by simp[q]⟩
theorem RI.len {a₀ rest:List Keyed}{runs:List (List Keyed)} (h:RI O knd a₀ runs rest st):(pendingOf st).size=runs.length:=by
 rw[<- Ybd,<- Zcn 0 runs,<- h.pend,Yac]
theorem RI.size {a₀ rest:List Keyed}{runs:List (List Keyed)} (h:RI O knd a₀ runs rest st):(arrOf st).size=runs.flatten.length+rest.length:=by
 rw[<- Ybd,h.arr,Yai]
theorem RI.size0 {a₀ rest:List Keyed}{runs:List (List Keyed)} (h:RI O knd a₀ runs rest st):(arrOf st).size=a₀.length:=by
 rw[<- Ybd,h.perm.length_eq]
theorem ZgD:∀ {runs:List (List Keyed)},(∀ r∈runs,1<=r.length)->runs.length<=runs.flatten.length
 | [],_=>by simp
 | r::rs,h=>by
  have q:=ZgD (runs:=rs) fun x hx=>h x (by simp[hx]);have:=h r (by simp);simp only[YaR,YaI,Yai];omega
theorem Zlp {a₀ rest:List Keyed}{runs:List (List Keyed)}{n:Nat} (h:RI O knd a₀ runs rest st) (hF:FB knd (arrOf st) (pendingOf st) runs.flatten.length τ) (hu:Up O runs.flatten.length n (arrOf τ)) (hn:n<=rest.length) :
  ∃ r rest',r.length=n/\O.Srt r/\rest.length=n+rest'.length/\RI O knd a₀ runs (r++rest') τ:=by
 have hpm:=Yd2.mp hF.perm;have hsz:(arrOf τ).size=runs.flatten.length+rest.length:=by rw[hF.size,h.size]
 have e1:(arrOf τ).toList.take runs.flatten.length=runs.flatten:=by
  have:(arrOf τ).toList.take runs.flatten.length=(arrOf st).toList.take runs.flatten.length:=by
   apply YdC;intro i;rcases Ybt i runs.flatten.length with hi | hi
   ·rw[Ybm hi,Ybm hi,Yaq,Yaq];exact hF.keep i hi
   ·rw[Ybs (by rw[Yaz];(clear hsz hn;omega)),Ybs (by rw[Yaz];(clear hsz hn;omega))]
  rw[this,h.arr,Yc3]
 have e2:(arrOf τ).toList=runs.flatten++(arrOf τ).toList.drop runs.flatten.length:=by
  conv=>lhs;rw[<- YaQ runs.flatten.length (arrOf τ).toList,e1]
 have lr:((arrOf τ).toList.drop runs.flatten.length).length=rest.length:=by
  rw[Ya3,Ybd];(clear hn;omega)
 refine⟨((arrOf τ).toList.drop runs.flatten.length).take n,((arrOf τ).toList.drop runs.flatten.length).drop n,by rw[Yaz];(clear hsz;omega),?_,by rw[Ya3];(clear hsz;omega),⟨by rw[YaQ];exact e2,hpm.trans h.perm,h.srt,h.ne,hF.kind,hF.failed,by rw[hF.pend];exact h.pend⟩⟩;refine Yb0.mpr fun i j hi hj hij=>?_;rw[Yaz] at hi hj;have q:=hu i j (by (clear hj hi lr hsz hn;omega)) (by (clear hij hi lr hsz hn;omega));rw[YdB,YdB,Ye5,Ye5];have g:∀ k (hk:runs.flatten.length+k<(arrOf τ).toList.length),ka O (arrOf τ) (runs.flatten.length+k)=O.ky ((arrOf τ).toList[runs.flatten.length+k]):=by
  intro k hk;unfold ka;rw[<- Yaq,Yab hk];rfl
 have hlt:(arrOf τ).toList.length=runs.flatten.length+rest.length:=by rw[Ybd];exact hsz
 rw[g i (by (clear hij hj lr hsz;omega)),g j (by (clear hij lr hsz;omega))] at q;exact q
theorem RI.push {a₀ rest r:List Keyed}{runs:List (List Keyed)}{lo n:Nat} (h:RI O knd a₀ runs (r++rest) st) (hs:O.Srt r) (hr:r.length=n) (hn:1<=n) (hl:lo=runs.flatten.length):RI O knd a₀ (runs++[r]) rest (setPending st ((pendingOf st).push (lo,n,0))):=by
 refine⟨?_,h.perm,?_,?_,h.kind,h.failed,?_⟩
 ·show (arrOf st).toList=_;rw[h.arr];simp
 ·intro x hx;rcases Yao.mp hx with hx | hx
  ·exact h.srt x hx
  ·rw[YaH.mp hx];exact hs
 ·intro x hx;rcases Yao.mp hx with hx | hx
  ·exact h.ne x hx
  ·rw[YaH.mp hx];(clear hl;omega)
 ·show ((pendingOf st).push (lo,n,0)).toList.map pr=_;rw[YcK,YaB,h.pend,ZbE,hl,<- hr];simp[pos,pr]
theorem RI.pow {a₀ rest:List Keyed}{runs:List (List Keyed)}{pw:Nat} (h:RI O knd a₀ runs rest st):RI O knd a₀ runs rest (setPending st ((pendingOf st).modify ((pendingOf st).size - 1) fun x=>(x.1,x.2.1,pw))):=by
 refine⟨h.arr,h.perm,h.srt,h.ne,h.kind,h.failed,?_⟩;show ((pendingOf st).modify _ _).toList.map pr=_;rw[<- h.pend];apply YdC;intro i;rw[Yaf,Yaf,Yaq,Yaq,Array.getElem?_modify];split
 ·cases (pendingOf st)[i]? <;> rfl
 ·rfl
theorem ZeN {a₀:Array Keyed}{Q:Unit->SortSt->Prop} (hA:Asks prog w A s O knd ok) (h0:∀ x∈a₀.toList,ok x) (ha:arrOf st=a₀) (hk:kindOf st=knd) (hf:failedOf st=none) (hp:pendingOf st=#[])
  (h:∀ τ,(arrOf τ).toList.Perm a₀.toList->failedOf τ=none->O.Srt (arrOf τ).toList->Q () τ):wpS (model prog w) A E s sortRuns' Q st:=by
 refine wpS_bind (wpS_get ?_);dsimp only;have hN:(arrOf st).size=a₀.size:=by rw[ha]
 have hN2:a₀.toList.length=a₀.size:=Ybd;rw[hN];refine wpS_bind (wpS_mono (wpS_forRange
  (I:=fun x c τ=>∃ lo runs rest,c=((none:Option Unit),lo)/\RI O knd a₀.toList runs rest τ/\lo=runs.flatten.length/\(x<=lo))
  (Q:=fun c τ=>∃ lo runs,c=((none:Option Unit),lo)/\RI O knd a₀.toList runs [] τ) ?go ?out ⟨0,[],a₀.toList,rfl,⟨by rw[ha];simp,by rw[ha],(fun r hr=>nomatch hr),(fun r hr=>nomatch hr),hk,hf,by rw[hp];rfl⟩,rfl,Yas 0⟩) ?fin)
 case out=>
  rintro c τ ⟨lo,runs,rest,rfl,hR,e1,e2⟩;have q1:=hR.size;have q2:=hR.size0;have q3:=hN2;have:rest=[]:=Ybu.mp (by
   have q4:max 0 a₀.size<=lo:=e2
   (clear q4 q3 hN;omega))
  subst this;exact⟨lo,runs,rfl,hR⟩
 case fin=>
  rintro c τ ⟨lo,runs,rfl,hR⟩;dsimp only;have q1:=hR.size;have q2:=ZgD hR.ne;have q3:=hN2;have q4:=hR.size0;refine wpS_bind (wpS_mono (wpS_forRange (I:=fun x c τ'=>c=((none:Option Unit),())/\∃ runs',RI O knd a₀.toList runs' [] τ'/\runs'.length+x<=a₀.size)
   (Q:=fun c τ'=>c=((none:Option Unit),())/\∃ runs',RI O knd a₀.toList runs' [] τ'/\runs'.length<=1) ?g2 ?o2 ⟨rfl,runs,hR,by simp only[YdU] at q1;(clear q3 hN;omega)⟩) ?f2)
  case o2=>
   rintro c τ' ⟨hc,runs',hR',e⟩;have e:runs'.length+max 0 a₀.size<=a₀.size:=e;exact⟨hc,runs',hR',by (clear e q4 q3 q2 q1 hN2 hN;omega)⟩
  case f2=>
   rintro c τ' ⟨rfl,runs',hR',e⟩;refine wpS_pure (h τ' hR'.perm hR'.failed ?_);rw[hR'.arr,Ybz]
   match runs',e,hR' with
   | [],_,_=>exact Ycw
   | [r],_,hR'=>simpa using hR'.srt r (by simp)
  case g2=>
   rintro x c τ' _ _ ⟨rfl,runs',hR',e⟩;refine wpS_bind (wpS_get ?_);by_cases c1:(pendingOf τ').size<=1
   ·rw[if_pos c1];exact wpS_pure ⟨rfl,runs',hR',by rw[<- hR'.len];exact c1⟩
   rw[if_neg c1];have key:∀ j,j<=(pendingOf τ').size - 2->wpS (model prog w) A E s (mergeAt' j) (fun b τ3=>b=true/\∃ runs',RI O knd a₀.toList runs' [] τ3/\runs'.length+(x+1)<=a₀.size) τ':=by
    intro j hj;obtain⟨R1,a,b,R2,e3,e4⟩:=ZbY (l:=runs') (i:=j) (by rw[<- hR'.len];(clear e q4 q3 q2 q1 hN2 hN;omega));subst e3;refine ZbM hA h0 hR' e4 fun m τ3 pm hR3=>⟨rfl,_,hR3,?_⟩
    simp only[Yai,YaR] at e ⊢
    (clear e4 hj c1 q4 q3 q2 q1 hN2 hN;omega)
   refine wpS_bind (wpS_mono (key _ ?_) ?_)
   ·have:=hR'.len;rw[show (pendingOf τ').size=runs'.length from this];exact Zj6 (by (clear this c1 e q4 q3 q2 q1 hN2 hN;omega)) (by (clear this c1 e q4 q3 q2 q1 hN2 hN;omega))
   ·rintro b τ3 ⟨rfl,runs3,hR3,e3⟩;simp only[Yda,YaU,if_false];exact wpS_pure ⟨rfl,runs3,hR3,e3⟩
 case go=>
  rintro x c τ _ hx ⟨lo,runs,rest,rfl,hR,e1,e2⟩;have q1:=hR.size;have q2:=hR.size0;have q3:=hN2;dsimp only;by_cases c0:lo ≥ a₀.size
  ·rw[if_pos c0];have:rest=[]:=Ybu.mp (by (clear q3 e2 hx hN;omega));subst this;exact wpS_pure ⟨lo,runs,rfl,hR⟩
  rw[if_neg c0];have oks:∀ x∈(arrOf τ).toList,ok x:=fun x hx=>h0 x (hR.perm.mem_iff.mp hx);refine wpS_bind (Zjr (b₀:=arrOf τ) (p₀:=pendingOf τ) (lo:=lo) hA oks ⟨Array.Perm.refl _,fun _ _=>rfl,hR.kind,hR.failed,rfl⟩ (by (clear c0 q3 e2 hx hN;omega)) (by (clear q3 q2 q1 e2 e1 hx hN2 hN;omega)) fun m τ1 hF m1 m2 u=>?_);dsimp only;refine ZaD (fun cm=>?_) (fun cm=>?_)
  ·refine wpS_bind (wpS_lift (wpAny_rule ⟨rfl,?_⟩));refine wpS_bind (Zjs hA oks hF (by (clear cm m2 m1 c0 q3 e2 hx hN;omega)) m1 (by (clear m1 c0 q3 q2 q1 e2 e1 hx hN2 hN;omega)) u fun τ2 hF2 u2=>?_);simp only[Yda,YaU,if_false];rw[e1] at hF2 u2;obtain⟨r,rest',hr,hs,hl,hR2⟩:=Zlp hR hF2 u2 (by (clear cm m2 m1 c0 q3 e2 e1 hx hN;omega));rw[<- e1] at hr;have h1n:1<=r.length:=by (clear hl m2 m1 q3 q2 q1 e2 e1 hx hN2 hN;omega)
   rw[hr] at h1n;refine wpS_bind (wpS_get ?_)
   cases eb:(pendingOf τ2).back? with
   | none=>
    dsimp only;exact wpS_bind (wpS_modify (wpS_pure ⟨_,runs++[r],rest',rfl,hR2.push hs hr h1n e1,by simp[hr,e1],by (clear h1n hl hr m2 m1 c0 q3 q2 q1 e1 hN2 hN;omega)⟩))
   | some p=>
    obtain⟨s1,n1,w1⟩:=p;dsimp only;refine wpS_bind (wpS_mono (wpS_forRange (I:=fun _ c τ'=>c=((none:Option Unit),())/\∃ runs',RI O knd a₀.toList runs' (r++rest') τ'/\runs'.flatten.length=lo)
     (Q:=fun c τ'=>c=((none:Option Unit),())/\∃ runs',RI O knd a₀.toList runs' (r++rest') τ'/\runs'.flatten.length=lo) ?g2 (fun _ _ z=>z) ⟨rfl,runs,hR2,e1.symm⟩) ?f2)
    case f2=>
     rintro c τ' ⟨rfl,runs',hR',e⟩;exact wpS_bind (wpS_modify (wpS_bind (wpS_modify (wpS_pure ⟨_,runs'++[r],rest',rfl,hR'.pow.push hs hr h1n e.symm,by simp[hr,e],by (clear e h1n hl hr m2 m1 c0 q3 q2 q1 e1 hN2 hN;omega)⟩))))
    case g2=>
     rintro y c τ' _ _ ⟨rfl,runs',hR',e⟩;refine wpS_bind (wpS_get ?_);by_cases c1:(pendingOf τ').size > 1
     ·rw[if_pos c1]
      cases ep:(pendingOf τ')[(pendingOf τ').size - 2]? with
      | none=>exact wpS_pure ⟨rfl,runs',hR',e⟩
      | some p=>
       obtain⟨s3,n3,w3⟩:=p;dsimp only;refine ZaD (fun _=>wpS_pure ⟨rfl,runs',hR',e⟩) (fun _=>?_);obtain⟨R1,a,b,R2,e3,e4⟩:=ZbY (l:=runs') (i:=(pendingOf τ').size - 2) (by rw[<- hR'.len];(clear e h1n hl hr cm m2 m1 c0 q3 q2 q1 e2 e1 hx hN2 hN;omega));subst e3;refine wpS_bind (ZbM hA h0 hR' e4 fun m τ3 pm hR3=>?_);simp only[Yda,YaU,if_false];refine wpS_pure ⟨rfl,_,hR3,?_⟩;rw[<- e];have:=pm.length_eq;simp only[Ybc,YaI,Yai] at this ⊢
       (clear e e4 c1 h1n hl hr cm m2 m1 c0 q3 q2 q1 e2 e1 hx hN2 hN;omega)
     ·rw[if_neg c1];exact wpS_pure ⟨rfl,runs',hR',e⟩
  ·rw[e1] at hF u;obtain⟨r,rest',hr,hs,hl,hR2⟩:=Zlp hR hF u (by (clear cm m1 c0 q3 e2 hx hN;omega));have h1n:1<=m:=m1;refine wpS_bind (wpS_get ?_)
   cases eb:(pendingOf τ1).back? with
   | none=>
    dsimp only;exact wpS_bind (wpS_modify (wpS_pure ⟨_,runs++[r],rest',rfl,hR2.push hs hr h1n e1,by simp[hr,e1],by (clear h1n hl hr cm m2 c0 q3 q2 q1 e1 hx hN2 hN;omega)⟩))
   | some p=>
    obtain⟨s1,n1,w1⟩:=p;dsimp only;refine wpS_bind (wpS_mono (wpS_forRange (I:=fun _ c τ'=>c=((none:Option Unit),())/\∃ runs',RI O knd a₀.toList runs' (r++rest') τ'/\runs'.flatten.length=lo)
     (Q:=fun c τ'=>c=((none:Option Unit),())/\∃ runs',RI O knd a₀.toList runs' (r++rest') τ'/\runs'.flatten.length=lo) ?g2 (fun _ _ z=>z) ⟨rfl,runs,hR2,e1.symm⟩) ?f2)
    case f2=>
     rintro c τ' ⟨rfl,runs',hR',e⟩;exact wpS_bind (wpS_modify (wpS_bind (wpS_modify (wpS_pure ⟨_,runs'++[r],rest',rfl,hR'.pow.push hs hr h1n e.symm,by simp[hr,e],by (clear e h1n hl hr cm m2 c0 q3 q2 q1 e1 hx hN2 hN;omega)⟩))))
    case g2=>
     rintro y c τ' _ _ ⟨rfl,runs',hR',e⟩;refine wpS_bind (wpS_get ?_);by_cases c1:(pendingOf τ').size > 1
     ·rw[if_pos c1]
      cases ep:(pendingOf τ')[(pendingOf τ').size - 2]? with
      | none=>exact wpS_pure ⟨rfl,runs',hR',e⟩
      | some p=>
       obtain⟨s3,n3,w3⟩:=p;dsimp only;refine ZaD (fun _=>wpS_pure ⟨rfl,runs',hR',e⟩) (fun _=>?_);obtain⟨R1,a,b,R2,e3,e4⟩:=ZbY (l:=runs') (i:=(pendingOf τ').size - 2) (by rw[<- hR'.len];(clear e h1n hl hr cm m2 m1 c0 q3 q2 q1 e2 e1 hx hN2 hN;omega));subst e3;refine wpS_bind (ZbM hA h0 hR' e4 fun m τ3 pm hR3=>?_);simp only[Yda,YaU,if_false];refine wpS_pure ⟨rfl,_,hR3,?_⟩;rw[<- e];have:=pm.length_eq;simp only[Ybc,YaI,Yai] at this ⊢
       (clear e e4 c1 h1n hl hr cm m2 m1 c0 q3 q2 q1 e2 e1 hx hN2 hN;omega)
     ·rw[if_neg c1];exact wpS_pure ⟨rfl,runs',hR',e⟩
end
end L2
namespace L2
open PySem PyProof.Rows
section
variable {prog:Program}{w:World}{A:Around}{E:Value->Shared->Prop}{s:Shared}{O:KO}{knd:SortKind}{ok:Keyed->Prop}
def Ord2 (O:KO) (b:Bool) (us:List Value):Prop:=us.Pairwise fun u v=>if b=true then O.le (v,v) (u,u) else O.le (u,u) (v,v)
theorem Zk0 {vs:List Value}{out:List Keyed} (hp:out.Perm (vs.zip vs)) (hs:O.Srt out) (b:Bool):∃ us:List Value,(if b=true then (out.map (·.2)).reverse else out.map (·.2))=us/\us.Perm vs/\Ord2 O b us:=by
 have hm:∀ p∈out,p=(p.2,p.2):=fun p hp'=>by
  have:=(mem_zip_self (hp.mem_iff.mp hp')).1
  exact YeS this rfl
 have p1:(out.map (·.2)).Perm vs:=by
  have:=hp.map (·.2)
  rwa [List.map_snd_zip (Yas _)] at this
 have s1:(out.map (·.2)).Pairwise fun u v=>O.le (u,u) (v,v):=by
  rw[YcN];refine hs.imp_of_mem fun {x y} hx hy q=>?_;rw[hm x hx,hm y hy] at q;exact q
 cases b with
 | false=>exact⟨_,rfl,p1,by simpa[Ord2] using s1⟩
 | true=>exact⟨_,rfl,(YdA _).trans p1,by simp only[Ord2,if_true,List.pairwise_reverse];exact s1⟩
theorem ZgB {a:Addr}{vs:List Value}{n:Nat}{h:Heap} (ho:h.get? a=some (seqObj "list" vs.toArray n)) {b:Addr}{o:Obj} (hb:h.get? b=some o) (hne:b≠a):(((h.update a (YbY fun _=>#[])).push (seqObj "tuple" vs.toArray 0)).push (seqObj "list" #[] 0)).get? b=some o :=
 Yag _ (Yag _ (by rw[YeQ _ _ _ _ hne];exact hb))
theorem Zie {a:Addr}{vs:List Value}{n:Nat}{P:PySem.Fin->Shared->Prop} (ho:s.heap.get? a=some (seqObj "list" vs.toArray n)) (hz:vs.length<=sizeLine)
  (hkk:∀ h',(∀ b o,s.heap.get? b=some o->b≠a->h'.get? b=some o)->2<=vs.length->∀ Q:SortKind->Shared->Prop,Q knd { s with heap:=h' }->wpAny (model prog w) A (keyKind' vs.toArray) Q E { s with heap:=h' })
  (hA:∀ h',(∀ b o,s.heap.get? b=some o->b≠a->h'.get? b=some o)->Asks prog w A { s with heap:=h' } O knd ok) (hok:∀ v∈vs,ok (v,v))
  (h:∀ us:List Value,us.Perm vs->Ord2 O false us->P (.done (.ret .none)) { s with heap:=sortedHeap s.heap a vs us.toArray }):wpAny (model prog w) A (Builtin.«list.sort» ⟨[.ref a],[]⟩) P E s:=by
 have ha:a<s.heap.objs.size:=Yar ho;have keep:=fun (b:Addr) (o:Obj) (hb:s.heap.get? b=some o) (hne:b≠a)=>ZgB ho hb hne;obtain⟨e1,ho1⟩:∃ c,(s.heap.update a (YbY fun _=>#[])).get? a=some (seqObj "list" #[] c):=⟨_,get?_update_seq ho (fun _=>#[])⟩
 have ho6:=Yag (seqObj "list" #[] 0) (Yag (seqObj "tuple" vs.toArray 0) ho1);have hsv:vs.toArray.size=vs.length:=Yat;have hz1:vs.toArray.size<=sizeLine:=by rw[hsv];exact hz
 have fin:∀ (τ:SortSt),(arrOf τ).toList.Perm (vs.zip vs)->O.Srt (arrOf τ).toList->P (.done (.ret .none)) { s with heap:=sortedHeap s.heap a vs ((arrOf τ).map (·.2)) }:=by
  intro τ hp hs;obtain⟨us,e,p1,p2⟩:=Zk0 hp hs false;have e2:(arrOf τ).map (·.2)=us.toArray:=by rw[<- e];apply Array.toList_inj.mp;simp
  rw[e2];exact h us p1 p2
 have osz:∀ τ:SortSt,(arrOf τ).toList.Perm (vs.zip vs)->((arrOf τ).map (·.2)).size<=sizeLine+1:=by
  intro τ hp;rw[Array.size_map,<- Ybd,hp.length_eq,List.length_zip]
  (clear hz1 hsv ha;omega)
 rw[list_sort_plain];refine wpAny_bind (listItems_at ho rfl (wpAny_bind (listUpdate_at ho rfl ?_ hz1 (YaO _))));refine wpAny_bind (seqEpoch_at ho1 rfl (wpAny_bind (wpAny_newTuple ?_ hz)));refine wpAny_bind (wpAny_newList ?_ (YaO _));refine wpAny_holding ?_;show wpAny (model prog w) A _ P E ({ s with heap:=((s.heap.update a (YbY fun _=>#[])).push (seqObj "tuple" vs.toArray 0)).push (seqObj "list" #[] 0) }:Shared);dsimp only;by_cases h2:vs.toArray.size<2
 ·rw[if_pos h2,if_pos h2];refine wpAny_bind (wpAny_pure ?_);rw[StateT.run_pure];have hp0:(vs.toArray.zip vs.toArray).toList.Perm (vs.zip vs):=by simp
  refine wpAny_bind (wpAny_pure (wpAny_bind (seqEpoch_at ho6 rfl (wpAny_bind (listUpdate_at ho6 rfl ?_ (YaO _) (osz (Ydt general' (vs.toArray.zip vs.toArray) #[] 7 none) hp0))))));simp only[bne_self_eq_false,YaU,if_false];refine wpAny_pure (fin (Ydt general' (vs.toArray.zip vs.toArray) #[] 7 none) hp0 ?_);show O.Srt (vs.toArray.zip vs.toArray).toList;rw[show (vs.toArray.zip vs.toArray).toList=vs.zip vs by simp]
  match vs,h2 with
  | [],_=>exact Ycw
  | [v],_=>exact Yej _ _
 ·rw[if_neg h2,if_neg h2];refine wpAny_bind (hkk _ keep (by (clear hz1 ha hz;omega)) _ ?_);refine wpAny_bind (wpAny_mono (ZeN (a₀:=vs.toArray.zip vs.toArray) (st:=Ydt knd (vs.toArray.zip vs.toArray) #[] 7 none) (Q:=fun _ τ=>(arrOf τ).toList.Perm (vs.zip vs)/\failedOf τ=none/\O.Srt (arrOf τ).toList)
   (hA _ keep) (fun x hx=>?_) rfl rfl rfl rfl fun τ a1 a2 a3=>⟨by simpa using a1,a2,a3⟩) ?_ fun _ _ z=>z)
  ·have hx:x∈vs.zip vs:=by simpa using hx
   have q:=mem_zip_self hx;rw[show x=(x.1,x.1) from YeS rfl q.1.symm];exact hok _ q.2
  ·rintro⟨⟨⟩,τ⟩ s' ⟨rfl,hp,hf,hs⟩;refine wpAny_bind (seqEpoch_at ho6 rfl (wpAny_bind (listUpdate_at ho6 rfl ?_ (YaO _) (osz τ hp))));dsimp only;rw[hf];simp only[bne_self_eq_false,YaU,if_false];exact wpAny_pure (fin τ hp hs)
theorem Zf1 {l:Addr}{vs:List Value} (h:Heap):∀ b o,h.get? b=some o->(((h.push (seqObj "list" #[] 0)).update h.objs.size (YbY (·++vs.toArray))).push (seqObj "list" vs.toArray 0)).get? b=some o:=by
 intro b o q;have hlt:b<h.objs.size:=Yar q;refine Yag _ ?_;rw[YeQ _ _ _ _ (YaS hlt)];exact Yag _ q
structure Sortable (prog:Program) (w:World) (s:Shared) (O:KO) (vs:List Value):Prop where
 ex:∃ (knd:SortKind) (ok:Keyed->Prop),(∀ v∈vs,ok (v,v))/\(∀ A h',(∀ b o,s.heap.get? b=some o->h'.get? b=some o)->Asks prog w A { s with heap:=h' } O knd ok) /\
  ∀ (A:Around) (E:Value->Shared->Prop) h',(∀ b o,s.heap.get? b=some o->h'.get? b=some o)->2<=vs.length->∀ Q:SortKind->Shared->Prop,Q knd { s with heap:=h' }->wpAny (model prog w) A (keyKind' vs.toArray) Q E { s with heap:=h' }
theorem ZeW {l:Addr}{vs:List Value}{Q:Value->Shared->Prop} (hl:s.heap.IsList l vs.toArray) (hz:vs.length<=sizeLine) (hS:Sortable prog w s O vs)
  (h:∀ us:List Value,us.Perm vs->Ord2 O false us->Q (.ref (s.heap.objs.size+1)) { s with heap:=sortedAll s.heap vs us.toArray }):wpAny (model prog w) A (call (.builtin "sorted") [.ref l]) Q E s:=by
 obtain⟨knd,ok,h1,h2,h3⟩:=hS.ex;have zz:((s.heap.push (seqObj "list" #[] 0)).update s.heap.objs.size (YbY (·++vs.toArray))).objs.size=s.heap.objs.size+1:=by rw[Heap.size_update,size_push']
 have at1:(((s.heap.push (seqObj "list" #[] 0)).update s.heap.objs.size (YbY (·++vs.toArray))).push (seqObj "list" vs.toArray 0)).get? (s.heap.objs.size+1)=some (seqObj "list" vs.toArray 0):=by
  have:=YaA ((s.heap.push (seqObj "list" #[] 0)).update s.heap.objs.size (YbY (·++vs.toArray))) (o:=seqObj "list" vs.toArray 0) rfl
  rwa [zz] at this
 refine Calls.call_function_entry kind_sorted plain_sorted entry_sorted (args_sorted1 _) ?_;unfold Builtin.«sorted»;refine wpAny_bind (m:=checkCount "sorted" 1 1 _) (wpAny_pure (wpAny_bind (collect_list hl (wpAny_bind (wpAny_newList ?_ hz)) hz)));show wpAny _ _ _ _ _ { s with heap:=((s.heap.push (seqObj "list" #[] 0)).update s.heap.objs.size (YbY (·++vs.toArray))).push (seqObj "list" vs.toArray 0) };rw[zz];have up:∀ h':Heap,(∀ b o,(((s.heap.push (seqObj "list" #[] 0)).update s.heap.objs.size (YbY (·++vs.toArray))).push (seqObj "list" vs.toArray 0)).get? b=some o->b≠s.heap.objs.size+1->h'.get? b=some o)->∀ b o,s.heap.get? b=some o->h'.get? b=some o:=fun h' k b o q=>
  k b o (Zf1 (l:=l) s.heap b o q) (YaS (YdG (Yar q)))
 exact wpAny_bind (wpAny_holding (wpAny_call_entry slot_list_sort ⟨_,at1,rfl⟩ entry_list_sort (Zie at1 hz (fun h' k hl2 Q' q=>h3 _ _ h' (up h' k) hl2 Q' q) (fun h' k=>h2 _ h' (up h' k)) h1 fun us p1 p2=>⟨_,rfl,wpAny_pure ⟨_,rfl,h us p1 p2⟩⟩) (args_list_sort _)))
def KOi:KO where
 α:=Int
 blt a b:=decide (a<b)
 irrefl a:=by simp
 trans a b c h1 h2:=by simp only[decide_eq_true_eq] at *;omega
 negTrans a b c h:=by simp only[decide_eq_true_eq] at *;omega
 total a b h1 h2:=by simp only[decide_eq_false_iff_not] at *;omega
 ky p:=numOf p.1
theorem ZdF {vs:List Value}{ns:List Int} (hI:IntsAre vs ns):Sortable prog w s KOi vs:=by
 refine⟨oneType',(fun p=>∃ n t,p.1=.int n t),fun v hv=>?_,fun A h' _ x y hx hy E Q q=>?_,fun A E h' _ h2 Q q=>?_⟩
 ·obtain⟨n,t,e⟩:=hI.all v hv;exact⟨n,t,e⟩
 ·obtain⟨n,t,e1⟩:=hx;obtain⟨m,u,e2⟩:=hy;rw[keyLt'_oneType,e1,e2];refine oneLt_int ?_;have q:Q (decide (numOf x.1<numOf y.1)) { s with heap:=h' }:=q;rw[e1,e2] at q;exact q
 ·match vs,h2,hI with
  | v1::v2::r,_,hI=>
   rw[keyKind_ints hI];exact wpAny_pure q
theorem Ziv {us:List Value}{ms:List Int}{b:Bool} (hI:IntsAre us ms) (h:Ord2 KOi b us):if b=true then ms.Pairwise (· ≥ ·) else ms.Pairwise (·<=·):=by
 have e:=hI.nums;subst e
 cases b with
 | false=>
  simp only[YaU,if_false,Ord2] at h ⊢;rw[YcN];exact h.imp fun {x y} q=>by
   have q:decide (numOf y<numOf x)=false:=q;simpa using q
 | true=>
  simp only[if_true,Ord2] at h ⊢;rw[YcN];exact h.imp fun {x y} q=>by
   have q:decide (numOf x<numOf y)=false:=q;simpa using q
theorem Zhp {vs us:List Value}{ns:List Int} (hI:IntsAre vs ns) (hp:us.Perm vs):∃ ms,IntsAre us ms/\ms.Perm ns:=by
 refine⟨us.map numOf,intsAre_map us fun v hv=>hI.all v (hp.mem_iff.mp hv),?_⟩;rw[<- hI.nums];exact hp.map _
end
end L2
namespace L2
open PySem PySem.Spec PyProof.Rows PySem.SeqAt
section
variable {X:Cx}
theorem Zcs:Zbk X (.builtin "sorted") (fun xs H Q=>∃ (a:Addr) (ns:List Int),xs=[.ref a]/\SqL X.K H a (ns.map V.int)/\∀ (l:Addr) (ms:List Int),H l=none->ms.Perm ns->ms.Pairwise (·<=·)->Q (.ref l) (upd H l (.lst (ms.map V.int)))):=by
 intro pins s σ H xs us Q I r h;obtain⟨a,ns,rfl,hq,q⟩:=h;obtain⟨u,rfl,r1⟩:=Zci r;cases r1;obtain⟨its,rv,p,hz⟩:=I.list hq;have hl:its.length=ns.length:=by rw[<- rv.length,Yac]
 rw[Yac] at hz;refine ZeW p.isList (by rw[hl];exact hz) (ZdF (Zdn rv)) fun us p1 p2=>?_;obtain⟨ms,hI,pm⟩:=Zhp (Zdn rv) p1;obtain⟨e,he⟩:=sortedAll_at s.heap its us.toArray;have hle:s.heap.objs.size<=s.heap.objs.size+1:=Ydb _;refine⟨.ref (s.heap.objs.size+1),_,I.laid (a:=s.heap.objs.size+1) (o:=.lst (ms.map V.int)) (t':=s.toks) (fun b o q=>sortedAll_old q) hle ⟨?_,us,e,Zd6 hI,he⟩,rfl,q _ ms (I.hok.fresh hle) pm (Ziv hI p2)⟩;rw[Yac,pm.length_eq];exact hz
end
end L2
namespace Lv
open PySem L2
def prs:Nat->List (List Int)->List Nat->List (Int × Nat)
 | k,x::N,m::ms=>(x.drop m).map (fun z=>(z,k))++prs (k+1) N ms
 | _,_,_=>[]
def Zla (p q:Int × Nat):Prop:=p.1<q.1∨(p.1=q.1/\p.2<=q.2)
structure MgS (N:List (List Int)) (m:List Nat) (tk:List (Int × Nat)):Prop where
 inm:InM N m
 perm:(tk++prs 0 N m).Perm (prs 0 N (N.map fun _=>0))
 srt:tk.Pairwise Zla
 le:∀ p∈tk,∀ q∈prs 0 N m,Zla p q
 sm:m.sum=tk.length
theorem ZkL {a b:List Int} (h:a.Perm b) (h1:a.Pairwise (·<=·)) (h2:b.Pairwise (·<=·)):a=b :=
 List.Perm.eq_of_pairwise (fun a b _ _ h1 h2=>Int.le_antisymm h1 h2) h1 h2 h
def SeqI (H:Hp) (r:Addr) (xs:List V):Prop:=H r=some (.lst xs)∨H r=some (.tup xs)
theorem SeqI.both {H:Hp}{r:Addr}{xs:List V} (h:SeqI H r xs):∃ b,∀ (K:Yae) (H':Hp),Same H H'->SqB b K H' r xs:=by
 rcases h with h | h
 ·exact⟨true,fun K H' s=>SqL.of (s _ _ h)⟩
 ·exact⟨false,fun K H' s=>SqT.of (s _ _ h)⟩
structure RwS (H:Hp) (a:Addr) (rs:List Addr) (N:List (List Int)):Prop where
 top:SeqI H a (rs.map V.ref)
 len:rs.length=N.length
 row:∀ (j:Nat) r xs,rs[j]?=some r->N[j]?=some xs->SeqI H r (xs.map V.int)
theorem RwS.of {H:Hp}{a:Addr}{rs:List Addr}{N:List (List Int)} (h1:H a=some (.lst (rs.map V.ref))) (h2:LLs H rs N):RwS H a rs N:=⟨.inl h1,h2.1,fun j r xs e1 e2=>.inl (h2.2 j r xs e1 e2)⟩
theorem RwS.get {H:Hp}{a:Addr}{rs:List Addr}{N:List (List Int)} (h:RwS H a rs N) {i:Nat}{x:V} (hx:(rs.map V.ref)[i]?=some x):∃ r xs,x=.ref r/\rs[i]?=some r/\N[i]?=some xs/\SeqI H r (xs.map V.int):=by
 have hi:=(Yaa.mp hx).1
 rw[Yac] at hi;have e:rs[i]?=some rs[i]:=Yab hi;have hN:i<N.length:=by rw[<- h.len];exact hi
 have e2:N[i]?=some N[i]:=Yab hN;refine⟨rs[i],N[i],?_,e,e2,h.row i _ _ e e2⟩;rw[Yaf,e] at hx;exact (Yay hx).symm
theorem Zet {N:List (List Int)}{i:Nat}{xs:List Int} (h:N[i]?=some xs):(N.take (i+1)).flatten=(N.take i).flatten++xs:=by
 rw[Ya9,h,Ydo,Ybc];simp
theorem Zkc {N:List (List Int)} (i:Nat):(N.take i).flatten.length<=(lenN N).sum:=by
 have:(lenN N).sum=N.flatten.length:=by unfold lenN;rw[YcY]
 rw[this]
 conv=>rhs;rw[<- YaQ i N,Ybc,Yai]
 (clear this;omega)
theorem ZiQ {N:List (List Int)}{i j:Nat}{xs:List Int} (h:N[i]?=some xs) (hj:j<=xs.length):(N.take i).flatten.length+j<=(lenN N).sum:=by
 have:=Zkc (N:=N) (i+1);rw[Zet h,Yai] at this;omega
theorem Zdm:∀ {zs:List Int},(∀ z∈zs,-Zbc<z/\z<Zbc)->YbV (zs.map Ybo)=true/\Yb1 (zs.map Ybo)=false/\Ybl (zs.map Ybo)=0/\((YaV (zs.map Ybo)).map (·.length)).sum<=301*zs.length/\(YaV (zs.map Ybo)).length=zs.length
 | [],_=>⟨rfl,rfl,rfl,by simp[YaV],by simp[YaV]⟩
 | z::zs,h=>by
  obtain⟨h2,h3,h4,h5,h6⟩:=Zdm (zs:=zs) fun x hx=>h x (by simp[hx]);have hz:=h z (by simp);obtain⟨a1,a2⟩:=Zlj (z:=z) (by (clear h6 h5 h4;omega)) (by (clear h6 h5 h4;omega));refine⟨?_,?_,?_,?_,?_⟩
  ·simp only[Yam,YbV,a1,h2,Yeo]
  ·simp only[Yam,Yb1,Ydk,h3,YeE]
  ·simp only[Yam,Ybl,Yei,h4];rfl
  ·simp only[Yam,YaV,YaD,YaR]
   (clear hz h6 h4;omega)
  ·simp[YaV,h6]
structure GoodT (N:List (List Int)):Prop where
 many:N.length<=12
 tot:(lenN N).sum<=400
 bnd:∀ xs∈N,∀ z∈xs,-Zbc<z/\z<Zbc
 srt:∀ xs∈N,xs.Pairwise (·<=·)
structure GoodB (b:Nat) (N:List (List Int)):Prop where
 len:∀ xs∈N,xs.length<=b
 bnd:∀ xs∈N,∀ z∈xs,-Zbc<z/\z<Zbc
 srt:∀ xs∈N,xs.Pairwise (·<=·)
end Lv
namespace L2
open PySem PySem.Spec PyProof.Rows PySem.SeqAt
section
variable {P:Program}{w:World}{H:Hp}{s:Shared}
end
section
variable {X:Cx}
end
end L2
namespace L2
open PySem PySem.Spec PyProof.Rows PySem.SeqAt
def rNeE (K:Yae):R2:=fun x y H Q=>∃ (a b:Addr) (xs:List V),x=.ref a/\y=.ref b/\SqL K H a xs/\SqL K H b []/\Q (.bl (!xs.isEmpty)) H
section
variable {X:Cx}
theorem Zji (hu:X.A.units<cLine):OpR X (compareOp .NotEq) (rNeE X.K):=by
 intro pins s σ H x y v u Q I rx ry h;obtain⟨a,b,xs,rfl,rfl,ha,hb,q⟩:=h;cases rx;cases ry;obtain⟨its,r1,p1,_⟩:=I.list ha;obtain⟨its2,r2,p2,_⟩:=I.list hb;have l1:its.toArray.size=xs.length:=by rw[Yat,<- r1.length]
 have l2:its2.toArray.size=0:=by rw[Yat,<- r2.length];rfl
 cases xs with
 | nil=>
  have z1:its.toArray.size=0:=l1;refine RcNeAt.lists (e:=fun _=>true) p1.isList p2.isList (by rw[z1,l2]) hu (fun j h1 h2=>absurd h1 (by (clear h2 h1 l1 l2 hu;omega))) _ _ _ _ ?_;rw[ZeL];exact⟨.bl false,H,I,rfl,q⟩
 | cons x r=>
  refine RcNeAt.lists_lengths p1.isList p2.isList (by rw[l1,l2];simp) hu _ _ _ _ ?_;exact⟨.bl true,H,I,rfl,q⟩
end
end L2
namespace Lv
open PySem L2
def Fr (S:List Addr) (H H':Hp):Prop:=∀ b o,H b=some o->b ∉ S->H' b=some o
abbrev Rows:=List (Option (List Int))
def datO:Option (List Int)->PyData
 | none=>.none
 | some xs=>.list (xs.map Ybo)
def ZlG (ds:Rows):PyData:=.list (ds.map datO)
def shp (D:List Rows):List (List Bool):=D.map fun ds=>ds.map Option.isSome
abbrev Cell:=Option (Addr × List Int)
abbrev Reel:=Addr × List Cell
def cA:Cell->List Addr
 | none=>[]
 | some (r,_)=>[r]
def tA (t:Reel):List Addr:=t.1::t.2.flatMap cA
def TB (H:Hp) (tr:List Addr) (B:List (List Bool)):Prop:=tr.length=B.length/\∀ (j:Nat) r bs,tr[j]?=some r->B[j]?=some bs->H r=some (.tup (bs.map V.bl))
end Lv
namespace Lv
open PySem L2
def St (S:List Addr) (H:Hp) (Φ:Hp->Prop):Prop:=∀ H',Fr S H H'->Φ H'
structure Bld (S:List Addr) (H:Hp) (us:List V) (rs tr:List Addr) (D:List Rows) (R:List (List Int)):Prop where
 due:St S H fun H'=>RdL H' us (D.map ZlG)
 rows:St S H fun H'=>LLs H' rs R
 lay:St S H fun H'=>TB H' tr (shp D)
end Lv
namespace Lv
open PySem L2
end Lv
namespace Lv
open PySem L2
def les (m x:Int):Int:=if x - m > 0 then x - m else 0
def Zko (c:List Int) (out:Nat) (m:Int):List Int:=(c.map (les m)).set out m
def Zl2 (a b:List Int):Prop:=a.length=b.length/\∀ j:Nat,a.getD j 0<=b.getD j 0
def Cov (c L:List Int):Prop:=∃ l:List Int,l.Perm (c)/\Zl2 l (L++[0])
end Lv
namespace L2
open PySem PySem.Spec PyProof.Rows PySem.SeqAt
section
variable {X:Cx}
end
end L2
namespace L2
open PySem PySem.Spec PyProof.Rows PySem.SeqAt
section
variable {X:Cx}
end
end L2
namespace L2
open PySem PySem.Spec PyProof.Rows PySem.SeqAt
section
variable {X:Cx}
end
end L2
namespace Lv
open PySem L2
def CovL (L r:List Int):Prop:=∀ j,j<L.length->r.getD j 0<=L.getD j 0
instance (L r:List Int):Decidable (CovL L r):=inferInstanceAs (Decidable (∀ j,j<L.length->r.getD j 0<=L.getD j 0))
def big:Int:=1000000000000000000000000000000000000000000000000000000000000
structure Stand (p:Nat) (st:List Int):Prop where
 p2:2<=p
 p7:p<=7
 len:st.length=p+1
 nn:∀ x∈st,0<=x
 le:∀ x∈st,x<=big
 zero:(0:Int)∈st
 pos:∃ x∈st,1<=x
def mxl:List Int->Int
 | []=>0
 | x::r=>if mxl r > x then mxl r else x
def mn (a b:Int):Int:=if b<a then b else a
def ph (p:Nat) (c:List Int) (n:Nat):Int:=mn (hd p n) (mxl c)
structure On (p:Nat) (c:List Int) (n:Nat):Prop where
 len:c.length=p+1
 cov:Cov c (cnt p n)
 nn:∀ x∈c,0<=x
 pos:∃ x∈c,1<=x
end Lv
namespace Lv
open PySem L2
end Lv
namespace Lv
open PySem L2
theorem Zjt {p:Nat} (hp:2<=p) {m n:Nat} (h:m<n):tot p m+1<=tot p n:=by
 have h1:=Zi7 hp m;have h2:=ZbW hp (show m+1<=n from h)
 (clear h hp;omega)
end Lv
namespace L2
open PySem PySem.Spec PyProof.Rows
section
variable {X:Cx}
end
end L2
namespace Lv
open PySem L2
end Lv
namespace L2
open PySem PySem.Spec PyProof.Rows
end L2
namespace L2
open PySem PySem.Spec PyProof.Rows
def Fly (H:Hp) (h0 h:Heap) (ea:Addr) (cls:Value) (od:Option Addr) (fl:Value):Prop :=
 ∃ (a0:Value) (T:Addr) (oe oT:Obj) (vs ts:Array Value),(H ea=none/\H T=none/\h0.get? ea=none/\h0.get? T=none) /\
  h.get? ea=some oe/\((oe.cls=cls/\vs[0]?=some a0)/\oe.dict=od)/\oe.data=.fields vs/\vs[1]?=some (.ref T)/\T≠ea/\h.get? T=some oT/\oT.data=.fields ts/\ts[3]?=some fl
def CX1 (P:Program) (w:World):CXT:=fun outer H s E e s'=>∃ (ea:Addr) (cls:Value) (od:Option Addr) (H':Hp),e=.ref ea/\s'.os=s.os/\AllBare s'.gens/\Un (frs outer) [] H H' s.heap s'.heap/\HOk P w H' s'.heap/\Fly H' s.heap s'.heap ea cls od .none/\E cls od H'
section
variable {P:Program}{w:World}{K:Yae}{mg:Str->Option Value}{base:Heap}{N:List Str}{qual:Str}{scope:Scope}{f:Addr}{cd:Value}{A:Around}{outer:List Env}{s:Shared}{H:Hp}{E:XK}
end
end L2
namespace L2
open PySem PySem.Spec PyProof.Rows PySem.W
section
variable {prog:Program}{w:World}{A:Around}{E:Value->Shared->Prop}{s:Shared}{K:Frag}{x C D:Addr}{ox:Obj}
def Zhx (K:Frag) (C:Addr):Bool:=findIn K (.ref C) "__getattribute__" == some (some (.builtin "BaseException.__getattribute__")) && (findIn K (.ref C) "__getattr__" == some none &&
 (findIn K (.ref C) "__class__" == some (some (.builtin "object.__class__")) && (mroIn K C (.type "object") == some true && (mroIn K C (.type "BaseException") == some true && ((clsIn K C).isSome &&
 (specialIn K (.builtin "object.__class__") "__get__" == some (some (.builtin "getset_descriptor.__get__")) && takesIn K (.builtin "object.__class__") == some true))))))
def Zlr (K:Frag) (C:Addr):Bool:=excIn K C [.type "ValueError",.type "Exception",.type "BaseException",.type "object"] "ValueError.__new__" && Zhx K C
end
section
variable {X:Cx}
end
end L2
namespace L2
open PySem PySem.Spec PyProof.Rows PySem.W
section
variable {P:Program}{w:World}{K:Yae}{mg:Str->Option Value}{base:Heap}
end
structure CalE (P:Program) (w:World) (K:Yae) (mg:Str->Option Value) (base:Heap) (k:Nat) (x:Str) (ps:List Str) (dvs:List V) (sp:Sp) (f:Addr) (fd:FuncData):Prop where
 ok:FnOk P w K mg base (CX1 P w) k f fd ps sp
 mg:mg x=some (.ref f)
 kp:YaE K (.ref f)=true
 bd:∃ ds,Binds K fd ps ds/\Vals dvs ds
section
variable {X:Cx}
inductive FParts (X:Cx):List Expr->List TE->Prop
 | nil:FParts X [] []
 | con {x:Str}{j pos}{es:List Expr}{ts:List TE} (h:x.length<=1000) (r:FParts X es ts):FParts X (.Constant (.str x) j pos::es) ts
 | val {v:Expr}{t:TE}{pos:Pos}{es:List Expr}{ts:List TE} (h:PE X v t) (r:FParts X es ts):FParts X (.FormattedValue v (-1) none pos::es) (t::ts)
end
section
variable {X:Cx}{pins:List (Addr × Obj)}{σ:St}{H:Hp}{s:Shared}
end
def Ends.without (D:Ends) (i:Nat):Ends:={ nx:=fun σ H=>D.nx (σ.set i none) H,rt:=D.rt,bk:=fun σ H=>D.bk (σ.set i none) H,ct:=fun σ H=>D.ct (σ.set i none) H }
section
variable {X:Cx}
end
end L2
namespace Lv
open PySem L2 PySem.W
structure ExcTab (K:Frag) (reel C:Addr) (all:List Addr):Prop where
 ok:Zlr K C=true
 exm:exmOne K (.ref C) (.ref reel)=some true
 isR:kitOne K (.ref C) (.ref reel)=some true
 isV:kitOne K (.ref C) (.type "ValueError")=some true
 one:∀ D∈all,kitOne K (.ref C) (.ref D)=some (D == C)
structure Excs (K:Frag) (mg:Str->Option Value) where
 reel:Addr
 nWays:Addr
 nRoom:Addr
 nLevel:Addr
 nStand:Addr
 tMany:Addr
 tFew:Addr
 nPlace:Addr
 nText:Addr
 nLine:Addr
 nBack:Addr
 nPhase:Addr
 clash:Addr
 mReel:mg "ReelError"=some (.ref reel)
 mWays:mg "NoWays"=some (.ref nWays)
 mRoom:mg "NoRoom"=some (.ref nRoom)
 mLevel:mg "NoLevel"=some (.ref nLevel)
 mStand:mg "NoStanding"=some (.ref nStand)
 mMany:mg "TooMany"=some (.ref tMany)
 mFew:mg "TooFew"=some (.ref tFew)
 mPlace:mg "NoPlace"=some (.ref nPlace)
 mText:mg "NoText"=some (.ref nText)
 mLine:mg "NoLine"=some (.ref nLine)
 mBack:mg "NoBack"=some (.ref nBack)
 mPhase:mg "NoPhase"=some (.ref nPhase)
 mClash:mg "Clash"=some (.ref clash)
 nd:([nWays,nRoom,nLevel,nStand,tMany,tFew,nPlace,nText,nLine,nBack,nPhase,clash]:List Addr).Nodup
def Excs.all {K:Frag}{mg:Str->Option Value} (X:Excs K mg):List Addr:=[X.nWays,X.nRoom,X.nLevel,X.nStand,X.tMany,X.tFew,X.nPlace,X.nText,X.nLine,X.nBack,X.nPhase,X.clash]
def anT:List String:=["NoneType","bool","int","str","list","tuple","dict"]
structure Thing (K:Frag) (H:Hp) (v:V) (T:String):Prop where
 ty:TyOf K H v (.type T)
 mem:T∈anT
def NotIn (lo hi:Int) (v:V) (T:String):Prop:=T≠"int"∨∃ i,v=.int i/\¬ (lo<=i/\i<=hi)
end Lv
namespace Lv
open PySem L2 PySem.W
end Lv
namespace Lv
open PySem L2 PySem.W
end Lv
namespace Lv
open PySem L2 PySem.W
end Lv
namespace L2
open PySem PySem.Spec PyProof.Rows PySem.W
end L2
namespace Lv
open PySem L2 PySem.W
end Lv
namespace L2
open PySem PySem.Spec PyProof.Rows PySem.W
abbrev VB:List Value:=[.type "ValueError",.type "Exception",.type "BaseException",.type "object"]
def Zlq (K:Frag) (C:Addr):Bool:=match K.lookup C with
 | some ⟨.type "type",_,.cls cd,sl⟩=>(match cd.mro,sl.toList with
  | .ref D::bm,[_,_,_,_,some (.builtin n),_]=>D == C && (n == "ValueError.__new__" && (!cd.hasDel && (tailIn K VB bm && (nsOkIn K cd.ns && cd.hasDict))))
  | _,_=>false)
 | _=>false
def Zkd (K:Frag) (C fI:Addr):Bool:=Zlq K C && (Zhx K C && (findIn K (.ref C) "__setattr__" == some (some (.builtin "object.__setattr__")) && (findIn K (.ref C) "at" == some none && (isFn K (.ref fI) && (keepIn K (.ref C) && findIn K (.ref C) "__init__" == some (some (.ref fI)))))))
section
variable {prog:Program}{w:World}{A:Around}{E:Value->Shared->Prop}{s:Shared}{K:Frag}{x C fI:Addr}{v:Value}
abbrev newExc (C t:Addr):Obj:={ cls:=.ref C,data:=.fields #[.ref t,.none,.none,.none,.bool false,.none] }
end
end L2
namespace L2
open PySem PySem.Spec PyProof.Rows PySem.W
section
variable {X:Cx}{o value:Expr}{pos pos':Pos}{ta tv:TE}{C fI:Addr}
end
end L2
namespace Lv
open PySem L2 PySem.W
structure ExcTabI (K:Frag) (reel C fI:Addr) (all:List Addr):Prop where
 ok:Zkd K C fI=true
 exm:exmOne K (.ref C) (.ref reel)=some true
 exmS:exmOne K (.ref C) (.ref C)=some true
 isR:kitOne K (.ref C) (.ref reel)=some true
 isV:kitOne K (.ref C) (.type "ValueError")=some true
 one:∀ D∈all,kitOne K (.ref C) (.ref D)=some (D == C)
end Lv
namespace Lv
open PySem L2
def PhOk (c:List Int) (out m:Int):Prop:=(0<=out/\out<(c.length:Int))/\(c.getD out.toNat 0<=0/\(1<=m/\m<=mxl c))
instance (c:List Int) (out m:Int):Decidable (PhOk c out m):=by unfold PhOk;infer_instance
end Lv
namespace Lv
open PySem L2
def prT (p:Int × Int):List Int:=[p.1,p.2]
def wk:List Int->List (Int × Int)->Nat->Except Nat (List Int)
 | c,[],_=>.ok c
 | c,(o,m)::r,i=>if PhOk c o m then wk (Zko c o.toNat m) r (i+1) else .error i
def fin (c:List Int) (ps:List (Int × Int)):Except Nat (List Int):=match wk c ps 0 with
 | .ok d=>if 1<d.sum then .error ps.length else .ok d
 | .error i=>.error i
structure Way (c0:List Int) (ps:List (Int × Int)) (i:Nat) (c:List Int):Prop where
 wk:wk c0 ps 0=wk c (ps.drop i) i
 len:c.length=c0.length
 nn:∀ x∈c,0<=x
structure Cts (p:Nat) (c:List Int):Prop where
 len:c.length=p+1
 nn:∀ x∈c,0<=x
 le:∀ x∈c,x<=big
 pos:∃ x∈c,1<=x
end Lv
namespace Lv
open PySem L2
end Lv
namespace Lv
open PySem L2
def srt (xs:List Int):List Int:=xs.mergeSort fun a b=>decide (a<=b)
theorem Zbe (xs:List Int):(srt xs).Perm xs:=List.mergeSort_perm _ _
theorem Zec (xs:List Int):(srt xs).Pairwise (·<=·):=by
 have h:=List.pairwise_mergeSort (le:=fun a b:Int=>decide (a<=b)) (fun a b c h1 h2=>by simp at *;omega) (fun a b=>by simp;omega) xs;exact h.imp fun h=>by simpa using h
theorem ZcI {ms xs:List Int} (h:ms.Perm xs) (hs:ms.Pairwise (·<=·)):ms=srt xs:=ZkL (h.trans (Zbe xs).symm) hs (Zec xs)
theorem Zbn {n:Nat} (h:n<=15001):n<sizeLine:=by rw[sizeLine_eq];omega
def ZdB:Sp:=fun vs H Q _=>∃ (a:Addr) (rs:List Addr) (N:List (List Int)),vs=[.ref a]/\RwS H a rs N/\(lenN N).sum<=15000/\∀ l (ms:List Int) H',H l=none->H' l=some (.lst (ms.map V.int))->ms.Perm N.flatten->ms.Pairwise (·<=·)->Same H H'->Q (.ref l) H'
end Lv
namespace Lv
open PySem L2
def fstN (N:List (List Int)):List Int:=(N.headD []).map (·+1)
def ZlM (N:List (List Int)):List (List Int):=(N.tail.map (fstN N++·))++[fstN N]
def num0 (p:Nat):List (List Int):=[0]::Yal (p - 1) []
def num (p:Nat):Nat->List (List Int)
 | 0=>num0 p
 | n+1=>ZlM (num p n)
def lens (N:List (List Int)):List Int:=N.map fun l=>(l.length:Int)
theorem Zlc {c:List Int} (h:∀ x∈c,0<=x) {x:Int} (hx:x∈c):x<=c.sum:=by
 induction c with
 | nil=>cases hx
 | cons a r ih=>
  have nn:∀ l:List Int,(∀ x∈l,0<=x)->0<=l.sum:=by
   intro l
   induction l with
   | nil=>intro _;simp
   | cons x y ih=>
    intro h;rw[YaD];have:=h x (by simp);have:=ih fun z hz=>h z (by simp[hz])
    (clear ih;omega)
  rw[YaD];have ha:=h a (by simp);have hr:∀ x∈r,0<=x:=fun x hx=>h x (by simp[hx]);rcases Yav.mp hx with rfl | hx
  ·have:=nn r hr
   (clear ha ih;omega)
  ·have:=ih hr hx
   (clear ih;omega)
theorem Zed {n:Nat} (h:n<=8000):n<sizeLine:=Ye2 h (by decide)
theorem Zau {rs:List Addr}{i:Nat}{x:V} (h:(rs.map V.ref)[i]?=some x):∃ r,rs[i]?=some r/\x=.ref r:=by
 rw[Yaf] at h
 cases e:rs[i]? with
 | none=>rw[e] at h;cases h
 | some p=>rw[e] at h;exact⟨p,rfl,(Yay h).symm⟩
end Lv
namespace L2
open PySem PySem.Spec PyProof.Rows
def ZfF:Expr->Bool
 | .Starred ..=>false
 | _=>true
theorem Zf0 {e:Expr}{es:List Expr}{env:Env} (h:ZfF e=true):starEach (e::es) env=(false,eval e env)::starEach es env:=by
 cases e <;> first | rfl | (cases h)
structure WA (X:Cx) (es:List Expr) (t:TA):Prop where
 out:PA X es t
structure WS (X:Cx) (st:Stmt) (t:TS):Prop where
 out:PS X st t
structure WSs (X:Cx) (sts:List Stmt) (t:TS):Prop where
 out:PSs X sts t
section
variable {X:Cx}{st:Stmt}{rest a b:List Stmt}{t u:TS}{c e:Expr}{tc:TT}{pos:Pos}{es:List Expr}{te:TE}{ta:TA}
theorem Zag (h1:WS X st t) (h2:WSs X rest u):WSs X (st::rest) (tSeq t u):=⟨Zai h1.out h2.out⟩
theorem Zan (h:WS X st t):WSs X [st] t:=⟨Zax h.out⟩
theorem Za8:WSs X [] ZkG:=⟨ZcP⟩
theorem wss {sts:List Stmt} (h:PSs X sts t):WSs X sts t:=⟨h⟩
theorem Zch (hc:PT X c tc) (ha:WSs X a t) (hb:WSs X b u):WS X (.If c a b pos) (tIfS tc t u):=⟨ZgL hc ha.out hb.out⟩
theorem ws (h:PS X st t):WS X st t:=⟨h⟩
theorem Zky:WA X [] tNil:=⟨Zad⟩
theorem Zdt (hn:ZfF e=true) (ha:PE X e te) (hr:WA X es ta):WA X (e::es) (ZkI te ta):=⟨Zaa ha hr.out (Zf0 hn)⟩
end
section
variable {P:Program}{w:World}{K:Yae}{mg:Str->Option Value}{base:Heap}
theorem okW {x qual:Str}{st:Stmt}{f:Addr}{fd:FuncData}{N ps:List Str}{k:Nat}{sp:Sp} (F:Fun K x qual st f fd) (S:FnScope N ps (Zac st)) (len:∀ vs H Q E,sp vs H Q E->vs.length=ps.length)
  (hbody:∀ (cdv:Value) (A:Around) (outer:List Env) (s:Shared) (H:Hp) (vs:List V) (Q:VK) (E:XK),Room k (A.deeper (envOfC qual (Zac st) s.heap.objs.size f cdv))->sp vs H Q E ->
   ∃ t,WSs (cxOf CX0 P w K mg base N qual (Zac st) f cdv A outer s H E).nox (Zam st) t/\t { nx:=fun _ H'=>Q .non H',rt:=Q } (start N vs) H):FnOk P w K mg base CX0 (k+1) f fd ps sp :=
 F.ok S len fun cdv A outer s H vs Q E hr hsp=>by
  obtain⟨t,h,q⟩:=hbody cdv A outer s H vs Q E hr hsp;exact⟨t,h.out,q⟩
end
end L2
namespace L2
open PySem PySem.Spec PyProof.Rows PySem.SeqAt
section
variable {X:Cx}{pins:List (Addr × Obj)}{σ:St}{H:Hp}{s:Shared}{a:Addr}{u v:HO}{kvs:List (Key × V)}
end
section
variable {X:Cx}
end
section
variable {X:Cx}
end
section
variable {prog:Program}{w:World}{A:Around}{R:Result->Shared->Prop}{s:Shared}
end
section
variable {X:Cx}{pins:List (Addr × Obj)}{σ:St}{H H':Hp}{s s':Shared}{scope:Scope}{own:List Str}{js:List Nat}{C:Addr}{fp:List Addr}
end
section
variable {X:Cx}{scope:Scope}{own:List Str}{js:List Nat}{kx vx iter target:Expr}{ifs:List Expr}{wi:TI}{g:TG}{tt:TT}{tk tv:TE}{pos:Pos}
end
end L2
namespace L2
open PySem PySem.Spec PyProof.Rows PySem.SeqAt
section
variable {prog:Program}{w:World}{A:Around}{E:Value->Shared->Prop}{s:Shared}{O:KO}
end
section
variable {X:Cx}{pins:List (Addr × Obj)}{σ:St}{H:Hp}{s:Shared}{h':Heap}
end
section
variable {X:Cx}
end
end L2
namespace L2
open PySem PySem.Spec PyProof.Rows
structure WE (X:Cx) (e:Expr) (t:TE):Prop where
 out:PE X e t
section
variable {X:Cx}{a b e k v:Expr}{ta tb te tk tv:TE}{pos:Pos}{es:List Expr}{t:TA}
theorem we (h:PE X e te):WE X e te:=⟨h⟩
theorem Zly {r:R2} (hr:IxR X r) (ha:WE X a ta) (hb:WE X b tb) (hs:Zh3 b):WE X (.Subscript a b pos) (tOp r ta tb):=⟨Zaw hr ha.out hb.out hs⟩
theorem Zkx (h:WA X es t):WE X (.List es pos) (tLst t):=⟨Zav h.out⟩
theorem Zkv {i:Nat}{x:Str}{pos':Pos} (hN:X.N.Nodup) (hi:X.N[i]?=some x) (hx:Loc X.env.scope x) (he:WE X e te) (hs:swapsWith e (some (.Name x pos')) pos.line X.env=pure false:=by rfl) (hf:X.fn x=true∨X.env.scope.names.lookup x=some .local:=by first | exact .inl rfl | exact .inr rfl | assumption) :
  WS X (.Assign [.Name x pos'] e pos) (tAsg te (ZcB i)):=⟨Zaj hN hi hx he.out hs hf⟩
end
end L2
namespace Lv
open PySem L2
end Lv
namespace L2
open PySem PySem.Spec PyProof.Rows
section
variable {X:Cx}
end
end L2
namespace Lv
open PySem L2
def rl (p n i:Nat):List Int:=(num p n).getD i []
end Lv
namespace Lv
open PySem L2
end Lv
namespace Lv
open PySem L2
section
variable {α:Type}
structure Adds (g:List α->Int):Prop where
 nil:g []=0
 app:∀ a b,g (a++b)=g a+g b
def dt (g:List α->Int):List (List α)->List Int->Int
 | r::rs,n::ns=>n*g r+dt g rs ns
 | _,_=>0
def sg (g:List α->Int) (rs:List (List α)):Int:=(rs.map g).sum
def es:List Int->(Nat->Int)->Int
 | [],_=>0
 | n::ns,h=>(n+1)*h 0+es ns fun j=>h (j+1)
end
def rot {β:Type} (a:Nat) (l:List β):List β:=l.drop a++l.take a
theorem Ze1 {β:Type} (a:Nat) (l:List β):(rot a l).length=l.length:=by
 simp[rot];omega
theorem ZjI {β γ:Type} (f:β->γ) (a:Nat) (l:List β):(rot a l).map f=rot a (l.map f):=by simp[rot,List.map_drop,List.map_take]
theorem ZgF {β:Type}{a:Nat}{l:List β}{x:β}:x∈rot a l↔x∈l:=by
 unfold rot;rw[Yao];constructor
 ·rintro (h | h)
  ·exact Yb2 h
  ·exact Ybv h
 ·intro h;rw[<- YaQ a l] at h;rcases Yao.mp h with h | h
  ·exact .inr h
  ·exact .inl h
theorem ZjH {β:Type}{p a:Nat}{l:List β}{v:β} (hl:l.length=p+1) (ha:a<=p):(rot a l).set (p - a) v=rot a (l.set p v):=by
 unfold rot;have h:(l.take a).set p v=l.take a:=List.set_eq_of_length_le (by rw[Yaz];(clear hl;omega));rw[YeI _ _ (by rw[Ya3];omega),List.drop_set,List.take_set,if_neg (by (clear hl;omega)),h]
theorem ZgG {β:Type}{a b:Nat}{l:List β} (h:a+b<=l.length):rot a (rot b l)=rot (a+b) l:=by
 unfold rot;rw[List.drop_append_of_le_length (by rw[Ya3];omega),List.take_append_of_le_length (by rw[Ya3];omega),List.drop_drop,YaM];congr 1
 ·congr 1
  (clear h;omega)
 ·rw[show l.take (a+b)=l.take b++(l.drop b).take a by rw[Nat.add_comm,List.take_add]]
theorem ZjK {β:Type}{l:List β}:rot l.length l=rot 0 l:=by simp[rot]
theorem ZjJ {β:Type}{p a:Nat}{l:List β} (hl:l.length=p+1) (ha:a<=p):(rot a l)[p - a]?=l[p]?:=by
 unfold rot;rw[Yaj (by rw[Ya3];omega),Ybx,show a+(p - a)=p by (clear hl;omega)]
theorem ZgE {β:Type}{p a i:Nat}{l:List β}{v:β} (ha:a<=p) (hl:l.length=p) {x:β} (h:(rot a (l++[v]))[i]?=some x) (hi:i≠p - a):x∈l:=by
 have hll:(l++[v]).length=p+1:=by simp[hl]
 unfold rot at h;by_cases z:i<((l++[v]).drop a).length
 ·rw[Yaj z,Ybx] at h;rw[Ya3,hll] at z;rw[Yaj (by (clear hll ha;omega))] at h;exact Yah h
 ·rw[Yak (by (clear hll hi hl ha;omega))] at h;have h2:=(Yaa.mp h).1
  rw[Yaz,Ya3,hll] at h2;rw[Ybm (by rw[Ya3,hll];(clear z hll hi hl ha;omega))] at h;rw[Yaj (by rw[Ya3,hll];(clear z hll hi;omega))] at h;exact Yah h
end Lv
namespace Lv
open PySem L2
section
variable {S:List Addr}{H H':Hp}{a w:Addr}
end
end Lv
namespace Lv
open PySem L2
section
variable {α:Type}
def ones (RR:List (List (List α))):List (List Int):=RR.map fun R=>R.map fun _=>1
def tl (g:List α->Int) (RR:List (List (List α))):Int:=(RR.map fun R=>sg g R).sum
end
end Lv
namespace L2
open PySem PySem.Spec PyProof.Rows PySem.SeqAt
theorem Zdi {α:Type}:∀ ys:List α,(Yap ys.length).filterMap (ys[·]?)=ys
 | []=>rfl
 | y::ys=>by
  rw[YaR,Yes,YaJ];show y::(List.map Nat.succ (Yap ys.length)).filterMap ((y::ys)[·]?)=_;rw[Ycc];exact congrArg (y::·) (Zdi ys)
theorem ZfO {α β:Type}{f g:α->Option β}:∀ {l:List α},(∀ x∈l,f x=g x)->l.filterMap f=l.filterMap g
 | [],_=>rfl
 | x::l,h=>by rw[YaJ,YaJ,h x (by simp),ZfO fun y hy=>h y (by simp[hy])]
theorem Zc7 (its:List Value):slicePick its.toArray none none (some (-1))=its.reverse.toArray:=by
 unfold slicePick;have e1:sliceBounds none none (some (-1)) its.toArray.size=((its.length:Int) - 1,-1,-1):=by
  simp[sliceBounds]
 rw[e1];have e2:sliceRange ((its.length:Int) - 1) (-1) (-1)=(Yap its.length).map fun k=>its.length - 1 - k:=by
  unfold sliceRange;have:(if (its.length:Int) - 1 > -1 then ((its.length:Int) - 1 - (-1) - (-1) - 1) / (-(-1)) else 0).toNat=its.length:=by
   by_cases h:(its.length:Int) - 1 > -1
   ·rw[if_pos h,show (-(-1):Int)=1 by decide,Int.ediv_one]
    (clear h;omega)
   ·rw[if_neg h];omega
  dsimp only;rw[if_neg (by decide),this];apply Ybe;intro k hk;have:=Ybn.mp hk
  (clear this;omega)
 show (List.filterMap _ (sliceRange ((its.length:Int) - 1) (-1) (-1))).toArray=_;rw[e2,Ycc];congr 1;have e3:=Zdi its.reverse;rw[Ybr] at e3;rw[<- e3];apply ZfO;intro k hk;have:=Ybn.mp hk;show its.toArray[its.length - 1 - k]?=_;rw[List.getElem?_toArray,Yci this]
def ZlI (K:Yae):V->Hp->VK->Prop:=fun x H Q=>∃ a xs,x=.ref a/\SqL K H a xs/\∀ p,H p=none->Q (.ref p) (upd H p (.lst xs.reverse))
def ZkF (K:Yae) (te:TE) (ts:TO):TE:=fun σ H Q=>te σ H fun x H1=>ts σ H1 fun k H2=>k=some (-1)/\ZlI K x H2 Q
section
variable {X:Cx}{e st:Expr}{te:TE}{ts:TO}{pos p2:Pos}
theorem ZfB (he:PE X e te) (hst:PO X (some st) ts):PE X (.Subscript e (.Slice none none (some st) p2) pos) (ZkF X.K te ts):=by
 intro pins s σ H Q I h;refine Subscript_ (thn (he pins s σ H _ I h) fun v s1 ⟨x,H1,I1,r1,q1⟩=>?_);refine wpAny_Slice ?_;rw[evalPart_none];refine wpAny_pure ?_;refine wpAny_pure ?_;refine thn (hst pins s1 σ H1 _ I1 q1) fun vu s3 ⟨u,H3,I3,pu,ek,q3⟩=>?_;subst ek;obtain⟨a,xs,rfl,hx,q⟩:=q3;cases r1;have I4:Inv X pins σ H3 { s3 with heap:=s3.heap.push { cls:=.type "slice",data:=.fields #[.none,.none,vu] } }:=I3.kept (t':=s3.toks) fun b ob q=>Yag _ q;obtain⟨its,r,ht,hz⟩:=I4.list hx;have hlen:=r.length;show wpAny (model X.prog X.w) X.A (subscriptTail e (.Slice none none (some st) p2) (.ref a) (.ref s3.heap.objs.size)) (EP X pins σ Q) X.xe { s3 with heap:=s3.heap.push { cls:=.type "slice",data:=.fields #[.none,.none,vu] } };refine tail_any (ops:=[.ref a,.ref s3.heap.objs.size]) ht.isList.typeIs slot_list_getitem.lookup ?_ (by with_unfolding_all rfl);refine wpAny_getItem_list_slice ht.isList (YdP ..) .none .none pu (by simp) ?_ (by rw[Yat] <;> omega);rw[Zc7];refine⟨.ref (s3.heap.push { cls:=.type "slice",data:=.fields #[.none,.none,vu] }).objs.size,_,I4.laid (t':=s3.toks) (o:=.lst xs.reverse) (fun b ob q=>Yag _ q) (Yas _) ?_,rfl,q _ (I4.hok.fresh (Yas _))⟩;exact⟨by rw[Ybr];(clear hlen;omega),_,0,Vals.reverse r,YaA _ rfl⟩
end
end L2
namespace Lv
open PySem L2
def pre:Int->List Int->List Int
 | _,[]=>[]
 | s,x::r=>(s+x)::pre (s+x) r
end Lv
namespace L2
open PySem PySem.Spec PyProof.Rows PySem.SeqAt
section
variable {X:Cx}
end
end L2
namespace Lv
open PySem L2
def ZbQ (N:List (List Int)):List Int:=N.map fun xs=>(xs.length:Int)
def Zba (r:List (List Int)) (t:Nat):List Int:=r.getD t []
def S (q:Int) (g:Nat->List Int) (a:List Int):Int:=((Yap a.length).map fun t=>((g t).count q:Int)*a.getD t 0).sum
def pot (q:Int):List (List (List Int))->List (List Int)->Int
 | r::R,a::N=>S q (Zba r) a+pot q R N
 | _,_=>0
theorem Zl1 (q:Int) (r:List (List Int)) (U b:List Int):S q (Zba r) (U++b)=S q (Zba r) U+S q (Zba (r.drop U.length)) b:=by
 unfold S;rw[Yai,List.range_add,YaB,YcE];congr 1
 ·congr 1;apply Ybe;intro t ht;have ht:=Ybn.mp ht;simp only[Yad];rw[Yaj ht]
 ·rw[Ybw];congr 1;apply Ybe;intro t _;show ((Zba r (U.length+t)).count q:Int)*(U++b).getD (U.length+t) 0=_;have e1:Zba r (U.length+t)=Zba (r.drop U.length) t:=by
   unfold Zba;simp only[Yad,Ybx]
  have e2:(U++b).getD (U.length+t) 0=b.getD t 0:=by
   simp only[Yad];rw[Yak (by omega),YbG]
  rw[e1,e2]
theorem Zkt {q:Int}{f g:Nat->List Int}{a:List Int} (h:∀ t,t<a.length->f t=g t):S q f a=S q g a:=by
 unfold S;congr 1;apply Ybe;intro t ht;rw[h t (Ybn.mp ht)]
theorem Zcm (q:Int):∀ (R1 R2:List (List (List Int))) (N1 N2:List (List Int)),R1.length=N1.length->pot q (R1++R2) (N1++N2)=pot q R1 N1+pot q R2 N2
 | [],R2,[],N2,_=>by simp[pot]
 | r::R1,R2,a::N1,N2,h=>by
  rw[YbR,YbR,pot,pot,Zcm q R1 R2 N1 N2 (by simpa using h)]
  (clear h;omega)
 | [],_,_::_,_,h=>by simp at h
 | _::_,_,[],_,h=>by simp at h
def bump (rd row:List Int):List Int:=row.foldl (fun rd q=>rd.set q.toNat (rd.getD q.toNat 0+1)) rd
theorem ZfT (rd row:List Int):(bump rd row).length=rd.length:=by
 unfold bump
 induction row generalizing rd with
 | nil=>rfl
 | cons x r ih=>rw[YdW,ih,Yby]
theorem ZhU (rd row:List Int) (x:Int):bump rd (row++[x])=(bump rd row).set x.toNat ((bump rd row).getD x.toNat 0+1):=by
 unfold bump;rw[List.foldl_append];rfl
theorem Zi0 {rd:List Int}{m:Nat} (hm:m<rd.length):∀ (row:List Int),(∀ x∈row,0<=x/\x<rd.length)->(bump rd row).getD m 0=rd.getD m 0+(row.count (m:Int):Int):=by
 intro row
 induction row generalizing rd with
 | nil=>intro _;simp[bump]
 | cons x r ih=>
  intro h;have hx:=h x (by simp);have e:bump rd (x::r)=bump (rd.set x.toNat (rd.getD x.toNat 0+1)) r:=rfl;rw[e,ih (by rw[Yby];exact hm) (fun y hy=>by rw[Yby];exact h y (by simp[hy])),List.count_cons];have es:(rd.set x.toNat (rd.getD x.toNat 0+1)).getD m 0=rd.getD m 0+(if x=(m:Int) then 1 else 0):=by
   simp only[Yad];by_cases hxm:x=(m:Int)
   ·subst hxm;rw[if_pos rfl,Ybh,Ybk (by (clear hx;omega))];rfl
   ·rw[if_neg hxm,Ya5 (by (clear hm;omega)),YeM]
  rw[es];by_cases hxm:x=(m:Int)
  ·subst hxm;simp
   (clear es hx hm;omega)
  ·have:(x == (m:Int))=false:=by simpa using hxm
   rw[if_neg hxm,this];simp
end Lv
namespace Lv
open PySem L2
end Lv
namespace Lv
open PySem L2
end Lv
namespace Lv
open PySem L2
theorem LLs.keep {H H':Hp}{as:List Addr}{Rw:List (List Int)}{av:List Addr} (h:LLs H as Rw) (hn:∀ x∈as,x ∉ av) (s:∀ b o,H b=some o->b ∉ av->H' b=some o):LLs H' as Rw :=
 ⟨h.1,fun j r xs a b=>s r _ (h.2 j r xs a b) (hn r (Yah a))⟩
theorem LLs.get {H:Hp}{as:List Addr}{Rw:List (List Int)}{x:Addr} (h:LLs H as Rw) (hx:x∈as):∃ xs:List Int,H x=some (.lst (xs.map V.int)):=by
 obtain⟨i,hi,rfl⟩:=YeP hx;have:=h.1;exact⟨Rw[i]'(by omega),h.2 i _ _ (Yab hi) (Yab (by omega))⟩
def szR (R:List (List (List Int))):Nat:=R.flatten.flatten.length
theorem ZcG (a b:List (List (List Int))):szR (a++b)=szR a+szR b:=by simp[szR]
theorem Zbm (r:List (List Int)) (b:List (List (List Int))):szR (r::b)=r.flatten.length+szR b:=by simp[szR]
def PlR (T:Nat) (R:List (List (List Int))):Prop:=∀ r∈R,∀ row∈r,∀ x∈row,0<=x/\x<(T:Int)
def lenR (R:List (List (List Int))):List Nat:=R.map Ybf
end Lv
namespace L2
open PySem PySem.Spec PyProof.Rows PySem.SeqAt
section
variable {X:Cx}{scope:Scope}{own:List Str}{js fr:List Nat}{elt i1 t1 i2 t2:Expr}{f1 f2:List Expr}{wi wi2:TI}{g1 g2:TG}{tt1 tt2:TT}{te:TE}{pos:Pos}
theorem Zip {i:Nat}{y:Str}{py spos:Pos} (hN:X.N.Nodup) (hy:X.N[i]?=some y) (hyl:X.env.scope.names.lookup y=some .local) (c:CompOk X scope own js) (hc:X.calm=true) (hi:PI X t1 i1 wi) (hgk:ZfW own fr g1) (hgt:ZeM fr g2)
  (hg:∀ s H C fp pins,PG (X.blk scope own js s H C fp pins) t1 g1) (ht:∀ s H C fp pins,PTs (X.blk scope own js s H C fp pins) f1 tt1) (hi2:∀ s H C fp pins,PI (X.blk scope own js s H C fp pins) t2 i2 wi2)
  (hg2:∀ s H C fp pins,PG (X.blk scope own js s H C fp pins) t2 g2) (ht2:∀ s H C fp pins,PTs (X.blk scope own js s H C fp pins) f2 tt2) (he:∀ s H C fp pins,PE (X.blk scope own js s H C fp pins) elt te)
  (hsw:swapsWith (two elt t1 i1 f1 t2 i2 f2 scope pos) (some (.Name y py)) spos.line X.env=pure true:=by rfl)
  (hs:∀ x,foldedSetIterable i1 X.env x=pure x:=by intro _;rfl) (hs2:∀ env x,foldedSetIterable i2 env x=pure x:=by intro _ _;rfl):PS X (.Assign [.Name y py] (two elt t1 i1 f1 t2 i2 f2 scope pos) spos) (tAsg (Zi9 own js wi g1 tt1 wi2 g2 tt2 te) (ZcB i)):=by
 intro pins s σ H D I h;rw[exec_Assign_Name_used _ _ _ _ hsw];refine wpAny_bind (wpAny_standAt (wpAny_bind ?_));show wpAny _ X.A (do let _ <- comprehension (two elt t1 i1 f1 t2 i2 f2 scope pos) scope X.env _ (newList []) false (eval i1 X.env) (some (assign (.Name y py) X.env))) _ _ s;refine wpAny_bind (wpAny_mono (wpAny_comprehension_free (use:=some (assign (.Name y py) X.env)) (Q:=fun _ s'=>SP X pins D .next s') rfl hs (ZbI (c.cl I)) c.kind c.names
  (thn (hi pins s σ H _ I h) fun v s1 h1=>thn h1 fun itv s2 h2=>?_)) (fun _ s' hq=>wpAny_pure (wpAny_pure hq)) fun _ _ e=>e)
 obtain⟨it,fp,tn,J,H2,e,I2,T,st2,f2',hw⟩:=h2;subst e;refine ZfU (Q:=fun x H1=>ZcB i x σ H1 D.nx) (RR:=fun acc C=>compPost (model X.prog X.w) X.A X.xe (some (assign (.Name y py) X.env)) (fun _ s'=>SP X pins D .next s') acc C) c hc hgk hgt hg ht hi2 hg2 ht2 he hs2 I2 T st2 f2' hw ?_;intro acc C H' s' m hCs hCn I' hn q;have hL:C≠X.env.locals:=YbU (Yau I2.lt hCs);have hcell:∀ x a,X.env.cells.lookup x=some a->a≠C:=by
  intro x a e z;obtain⟨v,q⟩:=I2.cell x a e;exact absurd (Yau q.lt (by rw[z];exact hCs)) (Ybp _)
 refine wpAny_assign_Name (ZcH I' hN hy (.inl hyl) (v:=.ref acc) rfl (fun s2 I'' hch=>?_) (.inr hyl));obtain⟨a,sb,ha⟩:=hch;have hCa:C≠a:=by
  rcases ha with rfl | ha
  ·exact hL
  ·exact YaX (hcell _ _ ha)
 refine⟨m,hn.sameBut sb hCa,fun h' hs'=>⟨_,H',I''.other hs' hCn hL (YbC I2.sz hCs) hcell ?_,q⟩⟩;intro p hp z;exact absurd (Yau (Yar (I2.pin p hp).1) (by rw[z];exact hCs)) (Ybp _)
end
end L2
namespace L2
open PySem PySem.Spec PyProof.Rows PySem.SeqAt
section
variable {b:Bool}{K:Yae}{g2:TG}{tt2:TT}{te:TE}{τ:St}{H6:Hp}{a acc:Addr}{xs:List V}
end
end L2
namespace Lv
open PySem L2
def intW:V->Int
 | .int i=>i
 | _=>0
def kf (H:Hp) (p:Addr):List Int:=match H p with
 | some (.tup vs)=>vs.map intW
 | _=>[]
theorem Zld {H:Hp}{p:Addr}{k:List Int} (h:H p=some (.tup (k.map V.int))):kf H p=k:=by
 unfold kf;rw[h];show (k.map V.int).map intW=k;rw[Ybw];exact (Ybe fun _ _=>rfl).trans (List.map_id k)
def TuM (H:Hp) (ps:List Addr) (ks:List (List Int)):Prop:=(∀ p∈ps,∃ k:List Int,k≠[]/\H p=some (.tup (k.map V.int)))/\ps.map (kf H)=ks
theorem TuM.nil {H:Hp}:TuM H [] []:=⟨fun p hp=>(nomatch hp),rfl⟩
theorem TuM.keep {H H':Hp}{ps:List Addr}{ks:List (List Int)} (h:TuM H ps ks) (k:∀ p∈ps,H' p=H p):TuM H' ps ks:=by
 refine⟨fun p hp=>by rw[k p hp];exact h.1 p hp,?_⟩;rw[<- h.2];refine Ybe fun p hp=>?_;unfold kf;rw[k p hp]
theorem TuM.same {H H':Hp}{ps:List Addr}{ks:List (List Int)} (h:TuM H ps ks) (s:Same H H'):TuM H' ps ks:=h.keep fun p hp=>by
 obtain⟨k,_,e⟩:=h.1 p hp;rw[e,s _ _ e]
theorem TuM.snoc {H:Hp}{ps:List Addr}{ks:List (List Int)}{p:Addr}{k:List Int} (h:TuM H ps ks) (e:H p=some (.tup (k.map V.int))) (hk:k≠[]):TuM H (ps++[p]) (ks++[k]):=by
 refine⟨fun q hq=>?_,by rw[YaB,h.2,Yam,YcC,Zld e]⟩;rcases Yao.mp hq with hq | hq
 ·exact h.1 q hq
 ·rw[YaH.mp hq];exact⟨k,hk,e⟩
theorem TuM.at {H:Hp}{ps:List Addr}{ks:List (List Int)} (h:TuM H ps ks) {j:Nat}{p:Addr} (e:ps[j]?=some p):∃ k,ks[j]?=some k/\H p=some (.tup (k.map V.int)):=by
 obtain⟨k,_,e2⟩:=h.1 p (Yah e);exact⟨k,by rw[<- h.2,Yaf,e,YdI,Zld e2],e2⟩
theorem TuM.len {H:Hp}{ps:List Addr}{ks:List (List Int)} (h:TuM H ps ks):ps.length=ks.length:=by rw[<- h.2,Yac]
end Lv
namespace L2
open PySem PySem.Spec PyProof.Rows PySem.SeqAt
end L2
namespace Lv
open PySem L2
end Lv
namespace Lv
open PySem L2
def phO (p t:Nat):Int:=((p:Int) - t) % ((p:Int)+1)
def phs (p n:Nat):Nat->List (List Int)
 | 0=>[]
 | t+1=>phs p n t++[[phO p t,hd p (n - 1 - t)]]
theorem ZgR (p n:Nat):∀ t,(phs p n t).length=t
 | 0=>rfl
 | t+1=>by rw[phs,Yai,ZgR p n t];rfl
end Lv
namespace Lv
open PySem L2
def mxAt:List Int->Nat
 | []=>0
 | x::r=>if r.all (·<=x) then 0 else mxAt r+1
structure IsTop (d:List Int) (r:Nat):Prop where
 lt:r<d.length
 ge:∀ j (h:j<d.length),d[j]<=d[r]
 fst:∀ j (h:j<r),d[j]<d[r]
def ZlQ (c v:List Int):List Int:=YcO (· - ·) c v
def came (p:Nat):Nat->Nat × List Int
 | 0=>(0,Yal p 0)
 | n+1=>
  let L:=if (came p n).2=cnt p (came p n).1 then (came p n).1+1 else (came p n).1
  let r:=mxAt (ZlQ (cnt p L) (came p n).2)
  (L,(came p n).2.set r ((came p n).2.getD r 0+1))
end Lv
namespace Lv
open PySem L2
theorem Zlu:bootBuiltins "str"=some (.type "str"):=by decide +kernel
end Lv
namespace Lv
open PySem L2
end Lv
namespace Lv
open PySem L2
def fill (x y:Int):List Bool:=Yal x.toNat false++Yal y.toNat true
def layB (c v:List Int):List (List Bool):=YcO (fun x y=>fill (x - y) y) c v
def lay (p n:Nat):List (List Bool):=layB (cnt p (came p n).1) (came p n).2
end Lv
namespace L2
open PySem PySem.Spec PyProof.Rows
end L2
namespace Lv
open PySem L2
end Lv
namespace Lv
open PySem L2
def gl (r:List Int):Int:=(r.length:Nat)
def phL (p:Nat):Nat->Nat->List (Int × Int)
 | _,0=>[]
 | t,m+1=>(phO p t,hd p m)::phL p (t+1) m
theorem Ze4 (p:Nat):∀ (m t:Nat),(phL p t m).length=m
 | 0,_=>rfl
 | m+1,t=>by rw[phL,YaR,Ze4 p m (t+1)]
theorem ZgQ (p n:Nat):∀ (m t:Nat),t+m=n->phs p n t++(phL p t m).map prT=phs p n n
 | 0,t,h=>by
  have:t=n:=by omega
  rw[phL,YcC,Ybz,this]
 | m+1,t,h=>by
  rw[<- ZgQ p n m (t+1) (by omega),phL,phs,Yam,YaM,Ydf,show n - 1 - t=m by omega];rfl
theorem ZgS (p n:Nat):phs p n n=(phL p 0 n).map prT:=by
 rw[<- ZgQ p n n 0 (by omega)];rfl
theorem ZgT (p t:Nat):phO p t=((p - t % (p+1):Nat):Int):=by
 unfold phO;have h1:=YdF t (show 0<p+1 by omega);have h2:=Nat.mod_add_div t (p+1);have e:(p:Int) - t=((p - t % (p+1):Nat):Int)+((p:Int)+1)*(-((t / (p+1):Nat):Int)):=by
  have:((p:Int)+1)*(-((t / (p+1):Nat):Int)) = -(((p+1)*(t / (p+1)):Nat):Int):=by
   rw[Int.mul_neg];congr 1
  rw[this]
  (clear this;omega)
 rw[e,Int.add_mul_emod_self_left];exact Int.emod_eq_of_lt (by (clear e h2 h1;omega)) (by (clear e h2 h1;omega))
theorem Zfo (p t:Nat):(t+1) % (p+1)=if t % (p+1)=p then 0 else t % (p+1)+1:=by
 have h1:=YdF t (show 0<p+1 by omega);rw[Nat.add_mod];split
 ·next h=>
  rw[h];by_cases z:p=0
  ·subst z;rfl
  ·rw[YdM (show 1<p+1 by (clear h h1;omega)),Nat.mod_self]
 ·next h=>
  rw[YdM (show 1<p+1 by omega),YdM (by omega)]
end Lv
namespace L2
open PySem PySem.Spec PyProof.Rows PySem.SeqAt
section
variable {prog:Program}{w:World}{A:Around}{E:Value->Shared->Prop}{s:Shared}
end
section
variable {X:Cx}{tg:Expr}
end
end L2
namespace L2
open PySem PySem.Spec PyProof.Rows
section
variable {X:Cx}{tg:Expr}
end
end L2
namespace Lv
open PySem L2
inductive Chain (p:Nat):Int->List Int->List (List Int)->Prop
 | one (m x:Int):Chain p m [x] []
 | step (m:Int) (th T rest:List Int) (L:List (List Int)) (h1:th.Perm (T++rest)) (h2:T≠[]) (h3:T.length<=p) (h:Chain p (m+1) (rest++[m]) L):Chain p m th (T::L)
def pw (p D:Nat) (f:Int->Nat) (xs:List Int):Nat:=(xs.map fun x=>p ^ (D - f x)).sum
inductive Built (p r:Nat):List (List Int)->List Int->Prop
 | nil:Built p r [] ((Yap r).map fun (i:Nat)=>(i:Int))
 | snoc (L:List (List Int)) (th T rest:List Int) (h:Built p r L th) (h1:th.Perm (T++rest)) (h2:T≠[]) (h3:T.length<=p):Built p r (L++[T]) (rest++[((r+L.length:Nat):Int)])
end Lv
namespace L2
open PySem PySem.Spec PyProof.Rows PySem.SeqAt
section
variable {X:Cx}
end
end L2
namespace L2
open PySem PySem.Spec PyProof.Rows PySem.SeqAt
end L2
namespace L2
open PySem PySem.Spec PyProof.Rows PySem.SeqAt
end L2
namespace Lv
open PySem L2
theorem Same.sqB {b:Bool}{K:Yae}{H H':Hp}{a:Addr}{xs:List V} (e:Same H H') (h:SqB b K H a xs):SqB b K H' a xs:=by
 cases b with
 | true=>exact e.seq h
 | false=>exact e.tup h
theorem ZbA {b:Bool}{K:Yae}{own:List Str}{js:List Nat}{g:TG}{te:TE}{σ:L2.St}{H1:Hp}{Q:VK}{a:Addr}{xs:List V} (ys:List V) (hq:SqB b K H1 a xs) (hl:xs.length=ys.length) (hlen:xs.length<=20000)
  (hs:∀ (i:Nat) x y,xs[i]?=some x->ys[i]?=some y->∀ H,Same H1 H->∀ R:VK,(∀ H',Same H H'->R y H')->g x (blkσ own js σ) H fun τ H4=>te τ H4 R)
  (hd:∀ acc H,H1 acc=none->Same H1 H->H acc=some (.lst ys)->Q (.ref acc) H):ZaY own js g Zbw te σ (ItlB b K a) H1 Q:=by
 refine Zcb (b:=b) (K:=K) (a:=a) (xs:=xs) (fun acc i H=>Same H1 H/\H acc=some (.lst (ys.take i))) (fun acc h0=>⟨Same.new h0,Zab⟩) (fun acc i H h0 _ z=>?_) ?_ ?_
 ·exact Same.sqB z.1 hq
 ·rintro acc i x H h0 hx ⟨s1,hacc⟩;have hi:=(Yaa.mp hx).1
  have hy:=Yab (l:=ys) (i:=i) (by (clear hlen;omega));refine (cast ?_ (hs i x _ hx hy H s1 (fun y H6=>∃ zs,H6 acc=some (.lst zs)/\zs.length<sizeLine/\(i+1<=xs.length/\(Same H1 (upd H6 acc (.lst (zs++[y])))/\upd H6 acc (.lst (zs++[y])) acc=some (.lst (ys.take (i+1)))))) fun H' s'=>?_))
  ·unfold Zbw;simp only[if_true]
  ·refine⟨_,s' _ _ hacc,?_,hi,(s1.trans s').put h0,?_⟩
   ·rw[sizeLine_eq,Yaz];omega
   ·rw[Zab,Ya9,hy];simp
 ·rintro acc H h0 ⟨s1,hacc⟩;rw[hl,YaT] at hacc;exact hd acc H h0 s1 hacc
end Lv
namespace L2
open PySem PySem.Spec PyProof.Rows PySem.SeqAt
section
variable {X:Cx}{tg:Expr}
end
end L2
namespace L2
open PySem PySem.Spec PyProof.Rows
section
variable {own:List Str}{js:List Nat}{g:TG}{tt:TT}{te:TE}{σ:L2.St}{H1:Hp}{Q:VK}
theorem ZhI {b1 b2:Bool}{K:Yae}{a b:Addr}{xs ys:List V} (zs:List V) (hq1:SqB b1 K H1 a xs) (hq2:SqB b2 K H1 b ys) (hl:ys.length<=xs.length) (hz:zs.length=ys.length) (hlen:ys.length<=20000)
  (hs:∀ (i:Nat) x y z,xs[i]?=some x->ys[i]?=some y->zs[i]?=some z->∀ p H,Same H1 H->H p=some (.tup [x,y])->∀ R:VK,(∀ H',Same H H'->R z H')->g (.ref p) (blkσ own js σ) H fun τ H4=>te τ H4 R)
  (hd:∀ acc H,H1 acc=none->Same H1 H->H acc=some (.lst zs)->Q (.ref acc) H):ZaY own js g Zbw te σ (ItzB b1 b2 K a b) H1 Q:=by
 refine ZhH (xs:=xs) (ys:=ys) hl (fun acc i H=>Same H1 H/\H acc=some (.lst (zs.take i))) (fun acc h0=>⟨Same.new h0,Zab⟩) (fun acc i H h0 _ z=>⟨Lv.Same.sqB z.1 hq1,Lv.Same.sqB z.1 hq2⟩) ?_ ?_
 ·rintro acc i x y p H h0 hx hy ⟨s1,hacc⟩ hp;have hi:=(Yaa.mp hy).1
  have hy':=Yab (l:=zs) (i:=i) (by (clear hlen hl;omega));have s2:Same H (upd H p (.tup [x,y])):=Same.new hp;refine (cast ?_ (hs i x y _ hx hy hy' p _ (s1.trans s2) Zab (fun y H6=>∃ zs',H6 acc=some (.lst zs')/\zs'.length<sizeLine/\(i+1<=ys.length/\(Same H1 (upd H6 acc (.lst (zs'++[y])))/\upd H6 acc (.lst (zs'++[y])) acc=some (.lst (zs.take (i+1)))))) fun H' s'=>?_))
  ·unfold Zbw;simp only[if_true]
  ·refine⟨_,s' _ _ (s2 _ _ hacc),?_,hi,((s1.trans s2).trans s').put h0,?_⟩
   ·rw[sizeLine_eq,Yaz]
    (clear hl;omega)
   ·rw[Zab,Ya9,hy'];simp
 ·rintro acc H h0 ⟨s1,hacc⟩;rw[<- hz,YaT] at hacc;exact hd acc H h0 s1 hacc
theorem Zc8 {f:Nat->Option V} (i:Nat):(Yap (i+1)).filterMap f=(Yap i).filterMap f++(f i).toList:=by
 rw[Ych,YcP];cases e:f i <;> simp[e]
theorem Zeu (f:Nat->Option V) (i:Nat):((Yap i).filterMap f).length<=i:=by
 have:=Ybq f (Yap i)
 rwa [Yb3] at this
theorem Zca {b:Bool}{K:Yae}{a:Addr}{xs:List V} (f:Nat->Option V) (hq:SqB b K H1 a xs) (hlen:xs.length<=20000)
  (hs:∀ i x,xs[i]?=some x->∀ H,Same H1 H->∀ (A:VK) (B:Hp->Prop),(match f i with | some y=>∀ H',Same H H'->A y H' | none=>∀ H',Same H H'->B H')->g x (blkσ own js σ) H fun τ H4=>tt τ H4 fun c H5=>if c=true then te τ H5 A else B H5)
  (hd:∀ acc H,H1 acc=none->Same H1 H->H acc=some (.lst ((Yap xs.length).filterMap f))->Q (.ref acc) H):ZaY own js g tt te σ (ItlB b K a) H1 Q:=by
 refine Zcb (b:=b) (K:=K) (a:=a) (xs:=xs) (fun acc i H=>Same H1 H/\H acc=some (.lst ((Yap i).filterMap f))) (fun acc h0=>⟨Same.new h0,Zab⟩) (fun acc i H h0 _ z=>Lv.Same.sqB z.1 hq) ?_ fun acc H h0 ⟨s1,hacc⟩=>hd acc H h0 s1 hacc;rintro acc i x H h0 hx ⟨s1,hacc⟩;have hi:=(Yaa.mp hx).1
 refine hs i x hx H s1 _ _ ?_;have e:=Zc8 (f:=f) i
 cases ef:f i with
 | none=>
  intro H' s';rw[ef] at e;exact⟨hi,s1.trans s',by rw[e,s' _ _ hacc];simp⟩
 | some y=>
  intro H' s';rw[ef] at e;have:=Zeu f i;exact⟨_,s' _ _ hacc,by rw[sizeLine_eq];omega,hi,(s1.trans s').put h0,by rw[Zab,e];rfl⟩
end
theorem Zft (K:Yae) {X:Cx} (hK:X.K=K:=by rfl):SlR X (rSlL K):=by subst hK;exact ZdH
end L2
namespace L2
open PySem PySem.Spec PyProof.Rows
section
variable {own:List Str}{js:List Nat}{g:TG}{te:TE}{σ:St}{H1:Hp}{Q:VK}
end
end L2
namespace L2
open PySem PySem.Spec PyProof.Rows PySem.SeqAt Lv
end L2
namespace L2
open PySem PySem.Spec PyProof.Rows PySem.SeqAt
end L2
namespace L2
open PySem PySem.Spec PyProof.Rows
end L2
namespace PySem.AutoSeq1
open PySem PySem.Spec PyProof.Rows
end PySem.AutoSeq1
namespace L2
open PySem PySem.Spec PyProof.Rows
section
variable {X:Cx}
end
end L2
namespace Lv
open PySem L2
def blk1 (f c:Nat):List (List Int):=(Yap c).map fun i=>[((f+i:Nat):Int)]
def plc:Nat->List (List Int)->List (List (List Int))
 | _,[]=>[]
 | f,A::N=>blk1 f A.length::plc (f+A.length) N
theorem ZcQ:∀ (f:Nat) (N:List (List Int)),(plc f N).length=N.length
 | _,[]=>rfl
 | f,A::N=>by rw[plc,YaR,YaR,ZcQ]
theorem Zfz:∀ (f:Nat) (N:List (List Int)),lenR (plc f N)=N.map Ybf
 | _,[]=>rfl
 | f,A::N=>by
  have:=Zfz (f+A.length) N;unfold lenR at this ⊢;rw[plc,Yam,Yam,this];simp[blk1]
theorem Zi1 (f c:Nat):(blk1 f c).flatten.length=c:=by
 unfold blk1;rw[YcY,Ybw];have:∀ l:List Nat,(l.map (Ybf ∘ fun i=>[((f+i:Nat):Int)])).sum=l.length:=fun l=>by
  induction l with
  | nil=>rfl
  | cons x l ih=>rw[Yam,YaD,ih,YaR];simp;(clear ih;omega)
 rw[this,Yb3]
theorem Zje:∀ (f:Nat) (N:List (List Int)),szR (plc f N)=N.flatten.length
 | _,[]=>rfl
 | f,A::N=>by
  rw[plc,Zbm,Zje,Zi1,YaI,Yai]
theorem Zjf:∀ (f T:Nat) (N:List (List Int)),f+N.flatten.length<=T->PlR T (plc f N)
 | _,_,[],_=>fun r hr=>by cases hr
 | f,T,A::N,h=>by
  rw[YaI,Yai] at h;intro r hr;rcases Yav.mp hr with rfl | hr
  ·intro row hrow x hx;obtain⟨i,hi,rfl⟩:=YaY.mp hrow;have:=Ybn.mp hi;have:x=((f+i:Nat):Int):=by simpa using hx
   omega
  ·exact Zjf (f+A.length) T N (by omega) r hr
theorem Zl0 (m f:Nat) (A:List Int):S m (Zba (blk1 f A.length)) A=if f<=m/\m<f+A.length then A.getD (m - f) 0 else 0:=by
 have h:∀ c:Nat,c<=A.length->((Yap c).map fun t=>((Zba (blk1 f A.length) t).count (m:Int):Int)*A.getD t 0).sum=if f<=m/\m<f+c then A.getD (m - f) 0 else 0:=by
  intro c
  induction c with
  | zero=>intro _;rw[if_neg (by omega)];rfl
  | succ c ih=>
   intro hc;rw[Ych,YaB,YcE,ih (by (clear ih;omega))];have e:Zba (blk1 f A.length) c=[((f+c:Nat):Int)]:=by
    unfold Zba blk1;simp[Yad,show c<A.length by (clear ih;omega)]
   have e2:(([c]:List Nat).map fun t=>((Zba (blk1 f A.length) t).count (m:Int):Int)*A.getD t 0).sum=if m=f+c then A.getD c 0 else 0:=by
    rw[List.map_singleton,YaD,Yey,e];by_cases hm:m=f+c
    ·subst hm;rw[if_pos rfl];simp
    ·rw[if_neg hm];have:(((f+c:Nat):Int) == (m:Int))=false:=by
      simp
      (clear hc ih;omega)
     have e3:([((f+c:Nat):Int)]:List Int).count (m:Int)=0:=by
      rw[List.count_cons,this];rfl
     rw[e3];simp
   rw[e2];by_cases h1:m=f+c
   ·subst h1;rw[if_neg (by (clear e2 ih hc;omega)),if_pos rfl,if_pos (by (clear e2 ih hc;omega)),YbG]
    (clear e2 ih hc;omega)
   ·rw[if_neg h1];by_cases h2:f<=m/\m<f+c
    ·rw[if_pos h2,if_pos (by (clear h1 e2 hc ih;omega))]
     (clear h2 h1 e2 hc ih;omega)
    ·rw[if_neg h2,if_neg (by (clear e2 hc ih;omega))];rfl
 exact h A.length (Yas _)
theorem ZgN (m:Nat):∀ (f:Nat) (N:List (List Int)),pot m (plc f N) N=if f<=m/\m<f+N.flatten.length then N.flatten.getD (m - f) 0 else 0
 | f,[]=>by rw[if_neg (by rw[List.flatten_nil,YdU];omega)];rfl
 | f,A::N=>by
  rw[plc,pot,Zl0,ZgN m (f+A.length) N,YaI,Yai];simp only[Yad];by_cases h1:f<=m/\m<f+A.length
  ·rw[if_pos h1,if_neg (by omega),if_pos (by omega),Yaj (by omega)]
   (clear h1;omega)
  ·rw[if_neg h1];by_cases h2:f+A.length<=m/\m<f+A.length+N.flatten.length
   ·rw[if_pos h2,if_pos (by (clear h1;omega)),Yak (by (clear h1;omega)),show m - f - A.length=m - (f+A.length) by (clear h2 h1;omega)]
    (clear h2 h1;omega)
   ·rw[if_neg h2,if_neg (by omega)];rfl
theorem Ziq (m:Int) (p:Nat) (R:List (List (List Int))):pot m R (num0 p)=0:=by
 have h0:∀ (k:Nat) (R:List (List (List Int))),pot m R (Yal k [])=0:=by
  intro k
  induction k with
  | zero=>intro R;cases R <;> rfl
  | succ k ih=>
   intro R
   cases R with
   | nil=>rfl
   | cons r R=>rw[YbL,pot,ih];rfl
 cases R with
 | nil=>rfl
 | cons r R=>
  show S m (Zba r) [0]+pot m R (Yal (p - 1) [])=0;rw[h0];simp[S]
theorem ZiP (N:List (List Int)):(N.flatten.length:Int)=(ZbQ N).sum:=by
 induction N with
 | nil=>rfl
 | cons A N ih=>
  rw[YaI,Yai];show ((A.length+N.flatten.length:Nat):Int)=((A.length:Int)::ZbQ N).sum;rw[YaD,<- ih]
  (clear ih;omega)
end Lv
namespace Lv
open PySem L2
def tfst (N:List (List Int)):List Int:=(N.headD []).reverse.map (·+1)
def Zem (N:List (List Int)):List (List Int):=(N.tail++[[]]).map (·++tfst N)
def tnum (p:Nat):Nat->List (List Int)
 | 0=>num0 p
 | n+1=>Zem (tnum p n)
theorem Zbl (N:List (List Int)):(tfst N).length=(N.headD []).length:=by simp[tfst]
theorem Zgc (N:List (List Int)):ZbQ (Zem N)=Zbu (ZbQ N):=by
 cases N with
 | nil=>simp[Zem,ZbQ,tfst,Zbu]
 | cons A r=>
  simp only[Zem,ZbQ,Zbu,tfst,YcZ,List.tail_cons,YaB,Yam,YcC,Ybw];congr 1
  ·apply Ybe;intro x _;simp;omega
  ·simp
theorem Za2 {p:Nat} (hp:1<=p):∀ n,ZbQ (tnum p n)=cnt p n
 | 0=>by simp[tnum,ZbQ,num0,cnt,Zcx]
 | n+1=>by rw[tnum,Zgc,Za2 hp n];rfl
theorem ZaT {p:Nat} (hp:1<=p) (n:Nat):(tnum p n).length=p:=by
 have:=congrArg Ybf (Za2 hp n);rw[ZbB hp] at this;simpa[ZbQ] using this
theorem Zd9 {p:Nat} (hp:1<=p) (n:Nat):((tnum p n).flatten.length:Int)=tot p n:=by
 rw[ZiP,Za2 hp];rfl
def PP (A:List Int) (rest:List (List Int)) (s:Nat):List (List Int):=(rest++[[]]).map (·++(tfst (A::rest)).take (A.length - s))++[A.take s]
theorem Zku (A:List Int) (rest:List (List Int)):PP A rest 0=Zem (A::rest)++[[]]:=by
 unfold PP Zem;have e:(tfst (A::rest)).take (A.length - 0)=tfst (A::rest):=YaW (by rw[Zbl];simp);rw[e];rfl
theorem Zlx (A:List Int) (rest:List (List Int)):PP A rest A.length=(rest++[[]])++[A]:=by
 unfold PP;rw[Yb6,Ybj,YaT];simp
def Za3 (r:List (List Int)):List Int:=r.getLastD []
def wr (L:List (List (List Int))):List Int:=(L.map Za3).flatten
theorem Zjp {q x:Int}{r:List (List Int)}{U:List Int} (h:r.length=U.length+1):S q (Zba r) (U++[x])=S q (Zba r.dropLast) U+((Za3 r).count q:Int)*x:=by
 rw[Zl1];congr 1
 ·refine Zkt fun t ht=>?_;unfold Zba;rw[Yad,Yad,Yet,if_pos (by omega)]
 ·unfold S;have hne:r≠[]:=by intro z;rw[z] at h;simp at h
  have e:Zba (r.drop U.length) 0=Za3 r:=by
   unfold Zba Za3;rw[Yad,Ybx,Nat.add_zero,Yea,List.getLast?_eq_getElem?,show r.length - 1=U.length by omega]
  simp[e]
theorem Zfx {q x:Int}{f:List Int}:∀ (L:List (List (List Int))) (M:List (List Int)),lenR L=M.map (fun a=>a.length+f.length+1)->pot q L (M.map (·++(f++[x])))=pot q (L.map YbA) (M.map (·++f))+((wr L).count q:Int)*x
 | [],[],_=>by simp[pot,wr]
 | r::L,a::M,h=>by
  have h':r.length=a.length+f.length+1/\lenR L=M.map (fun a=>a.length+f.length+1):=by
   unfold lenR at h ⊢;rw[Yam,Yam] at h;injection h with h1 h2;exact⟨h1,h2⟩
  have ih:=Zfx (q:=q) (x:=x) (f:=f) L M h'.2;have e1:a++(f++[x])=(a++f)++[x]:=by simp
  have e2:wr (r::L)=Za3 r++wr L:=by simp[wr]
  rw[Yam,Yam,Yam,pot,pot,ih,e1,Zjp (by rw[Yai];exact h'.1),e2,Ye6,Int.natCast_add,YeZ]
  (clear ih h';omega)
 | [],_::_,h=>by simp[lenR] at h
 | _::_,[],h=>by simp[lenR] at h
theorem Zjw {A:List Int}{rest:List (List Int)}{s:Nat} (h:s<A.length):(tfst (A::rest)).take (A.length - s)=(tfst (A::rest)).take (A.length - (s+1))++[A.getD s 0+1]:=by
 have hl:(tfst (A::rest)).length=A.length:=by rw[Zbl];rfl
 obtain⟨k,hk⟩:∃ k,A.length - s=k+1:=⟨A.length - s - 1,by (clear hl;omega)⟩
 rw[hk,show A.length - (s+1)=k by (clear hl h;omega),Ya4 (by (clear h;omega))];congr 1;have e:(tfst (A::rest))[k]'(by (clear h;omega))=A.getD s 0+1:=by
  simp only[tfst,YcZ,Ydc,List.getElem_reverse,Yad];rw[Yab h];simp only[YeT];congr 1;congr 1
  (clear hl h;omega)
 rw[e]
theorem ZgM {q:Int}{A:List Int}{rest:List (List Int)}{s:Nat}{L:List (List (List Int))}{o:List (List Int)} (hs:s<A.length) (hl:lenR (L++[o])=(PP A rest s).map Ybf) :
  pot q (L++[o]) (PP A rest s)=((wr L).count q:Int)+pot q (L.map YbA++[o++[wr L]]) (PP A rest (s+1)):=by
 have hL:L.length=(rest++[[]]).length:=by
  have:=congrArg Ybf hl;simp[lenR,PP] at this;simpa using this
 have hll:lenR L=(rest++[[]]).map (fun a:List Int=>a.length+(A.length - s))/\o.length=s:=by
  unfold lenR PP at hl;rw[YaB,YaB] at hl;have h1:=YdX hl (by simpa using hL);refine⟨?_,?_⟩
  ·have h2:=h1.1;unfold lenR;rw[h2,Ybw];apply Ybe;intro a _;have:((tfst (A::rest)).take (A.length - s)).length=A.length - s:=by
    rw[Yaz,Zbl];simp
   simp[this]
  ·have h2:=h1.2;simp at h2
   (clear h1 hL;omega)
 have hf:((tfst (A::rest)).take (A.length - (s+1))).length=A.length - (s+1):=by
  rw[Yaz,Zbl];simp
 have ea:A.take (s+1)=A.take s++[A.getD s 0]:=by
  rw[Ya4 hs,Yad,Yab hs];rfl
 have eo:S q (Zba (o++[wr L])) (A.take (s+1))=S q (Zba o) (A.take s)+((wr L).count q:Int)*A.getD s 0:=by
  rw[ea,Zjp (by simp[hll.2];(clear hf hll hL;omega))];congr 1
  ·rw[Ydn]
  ·simp[Za3]
 unfold PP;rw[Zcm q _ _ _ _ (by simpa using hL),Zcm q _ _ _ _ (by simpa using hL),Zjw hs,Zfx L (rest++[[]]) (by rw[hll.1,hf];apply Ybe;intro a _;(clear eo hf hll hL;omega))];have e1:pot q [o] [A.take s]=S q (Zba o) (A.take s):=by simp[pot]
 have e2:pot q [o++[wr L]] [A.take (s+1)]=S q (Zba (o++[wr L])) (A.take (s+1)):=by simp[pot]
 rw[e1,e2,eo,Int.mul_add,Int.mul_one]
 (clear e2 e1 eo hf hll hL hs;omega)
theorem Zhf {A:List Int}{rest:List (List Int)}{s:Nat}{L:List (List (List Int))}{o w:List (List Int)}{ww:List Int} (hs:s<A.length) (hl:lenR (L++[o])=(PP A rest s).map Ybf):lenR (L.map YbA++[o++[ww]])=(PP A rest (s+1)).map Ybf:=by
 have hL:L.length=(rest++[[]]).length:=by
  have:=congrArg Ybf hl;simp[lenR,PP] at this;simpa using this
 unfold lenR PP at hl ⊢;rw[YaB,YaB] at hl ⊢;have h1:=YdX hl (by simpa using hL);congr 1
 ·have h2:=h1.1;apply Ycu
  ·simpa using hL
  ·intro i g1 g2;simp only[Yac] at g1 g2;have h3:=congrArg (fun l=>l[i]?) h2;simp only[Yaf,Yab g1,Yab g2,YdI,Yef,Yai,Yaz,Zbl,YcZ] at h3;simp only[Ydc,Ydm,Yai,Yaz,Zbl,YcZ]
   (clear h1 hL;omega)
 ·have h2:=h1.2;simp at h2 ⊢
  (clear h1 hL;omega)
theorem ZdR {r:List (List Int)} (h:r≠[]):Za3 r=r.getLast h:=by
 unfold Za3;rw[Yea,List.getLast?_eq_some_getLast h];rfl
theorem Zj5:∀ r:List (List Int),r.dropLast.flatten.length+(Za3 r).length=r.flatten.length:=by
 intro r;by_cases h:r=[]
 ·subst h;simp[Za3]
 ·have e:=(YbD h).symm;have e2:Za3 r=r.getLast h:=ZdR h;rw[e2]
  conv=>rhs;rw[e,Ybc,Yai]
  simp
theorem Zh8:∀ L:List (List (List Int)),szR (L.map YbA)+(wr L).length=szR L
 | []=>by simp[szR,wr]
 | r::L=>by
  have ih:=Zh8 L;have h1:=Zj5 r;have e:wr (r::L)=Za3 r++wr L:=by simp[wr]
  rw[Yam,Zbm,Zbm,e,Yai];omega
theorem Zih (L:List (List (List Int))) (o:List (List Int)):szR (L.map YbA++[o++[wr L]])=szR (L++[o]):=by
 have h:=Zh8 L;rw[ZcG,ZcG,Zbm,Zbm];simp;omega
theorem Zhi {r:List (List Int)}{x:Int} (h:x∈Za3 r):∃ row∈r,x∈row:=by
 by_cases e:r=[]
 ·subst e;simp[Za3] at h
 ·have e2:Za3 r=r.getLast e:=ZdR e;rw[e2] at h;exact⟨_,List.getLast_mem e,h⟩
theorem Zkw {T:Nat}{L:List (List (List Int))} (h:PlR T L):∀ x∈wr L,0<=x/\x<(T:Int):=by
 intro x hx;unfold wr at hx;rw[YcT] at hx;obtain⟨l,hl,hx⟩:=hx;obtain⟨r,hr,rfl⟩:=YaY.mp hl;obtain⟨row,h1,h2⟩:=Zhi hx;exact h r hr row h1 x h2
theorem Zii {T:Nat}{L:List (List (List Int))}{o:List (List Int)} (h:PlR T (L++[o])):PlR T (L.map YbA++[o++[wr L]]):=by
 have hL:PlR T L:=fun r hr=>h r (Ya0 _ hr);intro r hr row hrow x hx;rcases Yao.mp hr with hr | hr
 ·obtain⟨r',hr',rfl⟩:=YaY.mp hr;exact hL r' hr' row (List.dropLast_subset _ hrow) x hx
 ·have:r=o++[wr L]:=by simpa using hr
  subst this;rcases Yao.mp hrow with hrow | hrow
  ·exact h o (by simp) row hrow x hx
  ·have:row=wr L:=by simpa using hrow
   subst this;exact Zkw hL x hx
theorem ZjO (q:Int) {R1:List (List (List Int))}{o:List (List Int)}{N1:List (List Int)}{A:List Int} (h:R1.length=N1.length):pot q (o::R1) (A::N1)=pot q (R1++[o]) (N1++[A]):=by
 rw[Zcm q _ _ _ _ h,pot];simp[pot]
 (clear h;omega)
def RS (H:Hp) (av arr:List Addr) (R:List (List (List Int))):Prop:=arr.length=R.length/\arr.Nodup/\(∀ a∈arr,a ∉ av)/\∀ (j:Nat) a Rw,arr[j]?=some a->R[j]?=some Rw->∃ as:List Addr,H a=some (.lst (as.map V.ref))/\LLs H as Rw/\∀ x∈as,x ∉ arr/\x ∉ av
theorem RS.keep {H H':Hp}{av arr:List Addr}{R:List (List (List Int))} (h:RS H av arr R) (s:∀ b o,H b=some o->b ∉ av->H' b=some o):RS H' av arr R :=
 ⟨h.1,h.2.1,h.2.2.1,fun j a Rw ha hb=>by
  obtain⟨as,h1,h2,h3⟩:=h.2.2.2 j a Rw ha hb;exact⟨as,s a _ h1 (h.2.2.1 a (Yah ha)),LLs.keep h2 (fun x hx=>(h3 x hx).2) s,h3⟩⟩
theorem RS.at {H:Hp}{av arr:List Addr}{R:List (List (List Int))} (h:RS H av arr R) {j:Nat}{a:Addr} (ha:arr[j]?=some a):∃ Rw,R[j]?=some Rw/\∃ as:List Addr,H a=some (.lst (as.map V.ref))/\LLs H as Rw/\∀ x∈as,x ∉ arr/\x ∉ av:=by
 have hj:j<R.length:=by rw[<- h.1];exact (Yaa.mp ha).1
 exact⟨_,Yab hj,h.2.2.2 j a _ ha (Yab hj)⟩
theorem RS.mem {H:Hp}{av arr:List Addr}{R:List (List (List Int))} (h:RS H av arr R) {a:Addr} (ha:a∈arr):∃ o,H a=some o:=by
 obtain⟨j,hj⟩:=Yez.mp ha;obtain⟨_,_,as,h1,_⟩:=h.at hj;exact⟨_,h1⟩
theorem RS.more {H:Hp}{av arr:List Addr}{R:List (List (List Int))}{q:Addr} (h:RS H av arr R) (hq:H q=none):RS H (q::av) arr R :=
 ⟨h.1,h.2.1,fun a ha z=>by
  rcases Yav.mp z with rfl | z
  ·obtain⟨o,e⟩:=h.mem ha;rw[e] at hq;cases hq
  ·exact h.2.2.1 a ha z,fun j a Rw ha hb=>by
  obtain⟨as,h1,h2,h3⟩:=h.2.2.2 j a Rw ha hb;refine⟨as,h1,h2,fun x hx=>⟨(h3 x hx).1,fun z=>?_⟩⟩;rcases Yav.mp z with rfl | z
  ·obtain⟨xs,e⟩:=LLs.get h2 hx;rw[e] at hq;cases hq
  ·exact (h3 x hx).2 z⟩
theorem RS.sub {H:Hp}{av av' arr:List Addr}{R:List (List (List Int))} (h:RS H av arr R) (hs:∀ x∈av',x∈av):RS H av' arr R :=
 ⟨h.1,h.2.1,fun a ha z=>h.2.2.1 a ha (hs a z),fun j a Rw ha hb=>by
  obtain⟨as,h1,h2,h3⟩:=h.2.2.2 j a Rw ha hb;exact⟨as,h1,h2,fun x hx=>⟨(h3 x hx).1,fun z=>(h3 x hx).2 (hs x z)⟩⟩⟩
theorem Zjl {arr:List Addr} (nd:arr.Nodup) {i j:Nat}{a:Addr} (hi:arr[i]?=some a) (hj:arr[j]?=some a):i=j:=by
 obtain⟨h1,e1⟩:=Yaa.mp hi;obtain⟨h2,e2⟩:=Yaa.mp hj;rcases Ye9 i j with z | z | z
 ·exact absurd (e1.trans e2.symm) ((Yb0.mp nd) i j h1 h2 z)
 ·exact z
 ·exact absurd (e2.trans e1.symm) ((Yb0.mp nd) j i h2 h1 z)
theorem _root_.L2.LLs.off {H:Hp}{as:List Addr}{Rw:List (List Int)}{a:Addr}{o:HO} (h:LLs H as Rw) (hn:a ∉ as):LLs (upd H a o) as Rw :=
 ⟨h.1,fun j r xs ha hb=>by
  rw[upd_ne (fun z=>hn (by subst z;exact Yah ha))];exact h.2 j r xs ha hb⟩
theorem RS.put {H:Hp}{av arr:List Addr}{R:List (List (List Int))}{j:Nat}{a:Addr}{as:List Addr}{Rw:List (List Int)} (h:RS H av arr R) (ha:arr[j]?=some a) (h2:LLs H as Rw) (h3:∀ x∈as,x ∉ arr/\x ∉ av):RS (upd H a (.lst (as.map V.ref))) av arr (R.set j Rw):=by
 have hj:j<R.length:=by rw[<- h.1];exact (Yaa.mp ha).1
 have hma:=Yah ha;refine⟨by simp[h.1],h.2.1,h.2.2.1,fun i b Rb hb hR=>?_⟩;by_cases e:i=j
 ·subst e;rw[ha] at hb;cases hb;rw[Ybk hj] at hR;cases hR;exact⟨as,Zab,h2.off (fun z=>(h3 a z).1 hma),h3⟩
 ·rw[Ya5 (by (clear hj;omega))] at hR;obtain⟨bs,g1,g2,g3⟩:=h.2.2.2 i b Rb hb hR;have hne:b≠a:=fun z=>e (Zjl h.2.1 (z ▸ hb) ha);exact⟨bs,by rw[upd_ne hne];exact g1,g2.off (fun z=>(g3 a z).1 hma),g3⟩
theorem RS.swap {H:Hp}{av a1 a2:List Addr}{R1 R2:List (List (List Int))} (hl:a1.length=R1.length) (h:RS H av (a1++a2) (R1++R2)):RS H av (a2++a1) (R2++R1):=by
 have hl2:a2.length=R2.length:=by have:=h.1;simp at this;omega
 have hm:∀ x,x∈a2++a1↔x∈a1++a2:=fun x=>by simp[or_comm]
 refine⟨by simp[hl,hl2],Ydh.nodup_iff.mp h.2.1,fun a ha=>h.2.2.1 a ((hm a).mp ha),fun j a Rw ha hb=>?_⟩;have fin:(∃ as:List Addr,H a=some (.lst (as.map V.ref))/\LLs H as Rw/\∀ x∈as,x ∉ a1++a2/\x ∉ av)->∃ as:List Addr,H a=some (.lst (as.map V.ref))/\LLs H as Rw/\∀ x∈as,x ∉ a2++a1/\x ∉ av :=
  fun ⟨as,g1,g2,g3⟩=>⟨as,g1,g2,fun x hx=>⟨fun z=>(g3 x hx).1 ((hm x).mp z),(g3 x hx).2⟩⟩
 by_cases hj:j<a2.length
 ·rw[Yaj hj] at ha;rw[Yaj (by (clear fin hl;omega))] at hb;refine fin (h.2.2.2 (a1.length+j) a Rw ?_ ?_)
  ·rw[Yak (by (clear hj fin hl2 hl;omega)),YbG];exact ha
  ·rw[Yak (by (clear hj fin hl2;omega)),hl,YbG];exact hb
 ·rw[Yak (by (clear fin hl2 hl;omega))] at ha;rw[Yak (by (clear fin hl;omega))] at hb;have hj1:=(Yaa.mp ha).1
  refine fin (h.2.2.2 (j - a2.length) a Rw ?_ ?_)
  ·rw[Yaj hj1];exact ha
  ·rw[Yaj (by (clear hj fin hl2;omega)),hl2];exact hb
theorem _root_.L2.LLs.pop {H:Hp}{as:List Addr}{Rw:List (List Int)} (h:LLs H as Rw) (hne:Rw≠[]):∃ bs r,as=bs++[r]/\LLs H bs Rw.dropLast/\H r=some (.lst ((Za3 Rw).map V.int)):=by
 have hl:=h.1;have h1:as≠[]:=by
  intro z;rw[z] at hl;exact hne (Ybu.mp hl.symm)
 refine⟨as.dropLast,as.getLast h1,(YbD h1).symm,⟨by simp[hl],fun j r xs ha hb=>?_⟩,?_⟩
 ·rw[Yet] at ha hb;split at ha
  ·split at hb
   ·exact h.2 j r xs ha hb
   ·cases hb
  ·cases ha
 ·refine h.2 (Rw.length - 1) _ _ ?_ ?_
  ·rw[<- hl,Yc8,Yab]
  ·rw[ZdR hne,Yc8,Yab]
theorem ZjP {α:Type} (f:α->α) (R:List α) (j:Nat) (hj:j<R.length):((R.take j).map f++R.drop j).set j (f R[j])=(R.take (j+1)).map f++R.drop (j+1):=by
 rw[Ydg _ _ (by simp;(clear hj;omega)),show j - ((R.take j).map f).length=0 by simp;omega,Yct hj,List.set_cons_zero,Ya4 hj,YaB];simp only[Yam,YcC,YaM,Ydf]
theorem ZkV {α:Type} (f:α->α) (R:List α) (j:Nat) (hj:j<R.length):((R.take j).map f++R.drop j)[j]?=some R[j]:=by
 rw[Yak (by simp;(clear hj;omega)),show j - ((R.take j).map f).length=0 by simp;omega,Yct hj];rfl
end Lv
namespace Lv
open PySem L2
def evB (x:Int):Bool:=decide (x % 2=0)
theorem ZeR {p n:Nat} (hp:1<=p) {xs:List Int} (h:xs∈tnum p n):(xs.length:Int)<=tot p n:=by
 have h1:(xs.length:Int)∈ZbQ (tnum p n):=YaY.mpr ⟨xs,h,rfl⟩;rw[Za2 hp] at h1;exact Zlc (ZbG p n).2 h1
theorem ZlW (r0:V) (rr:List V):cutV (r0::rr) (some 1) none=rr:=by
 unfold cutV;show ((r0::rr).drop (HT.sIx (r0::rr).length 0 (some ((1:Nat):Int)))).take (HT.sIx (r0::rr).length (r0::rr).length none - HT.sIx (r0::rr).length 0 (some ((1:Nat):Int)))=_;rw[HT.sIx_nat];rw[show min 1 (r0::rr).length=1 by simp];show rr.take ((r0::rr).length - 1)=_;rw[YaW (by simp)]
theorem Zcq {qs:List Addr}{q:Addr} (h:qs.Nodup) (hn:q ∉ qs):(qs++[q]).Nodup:=by
 rw[List.nodup_append];refine⟨h,by simp,fun a ha b hb z=>?_⟩;have:b=q:=by simpa using hb
 subst this;subst z;exact hn ha
theorem LLs.none {H:Hp}{qs:List Addr}{N:List (List Int)}{q:Addr} (h:LLs H qs N) (hq:H q=Yex):q ∉ qs:=fun z=>by
 obtain⟨xs,e⟩:=LLs.get h z;rw[e] at hq;cases hq
def PotT (H:Hp) (p:Addr):Prop:=∃ a b:Int,H p=some (.lst [.int a,.int b])/\0<=b/\b<2147483648
theorem PotT.put {H:Hp}{p q:Addr}{o:HO} (h:PotT H p) (hq:H q=none):PotT (upd H q o) p:=by
 obtain⟨a,b,e,z⟩:=h;exact⟨a,b,by rw[upd_ne (Zae e hq)];exact e,z⟩
theorem PotT.ne {H:Hp}{p q:Addr} (h:PotT H p) (hq:H q=none):q≠p:=by
 obtain⟨a,b,e,_⟩:=h;exact YaX (Zae e hq)
theorem PotT.same {H H':Hp}{p:Addr} (h:PotT H p) (s:Same H H'):PotT H' p:=by
 obtain⟨a,b,e,z⟩:=h;exact⟨a,b,s p _ e,z⟩
def Zgx (K:Yae):Sp:=fun vs H Q _=>∃ (a:Addr) (ns:List Int) (k:Int),vs=[.ref a,.int k]/\SqL K H a (ns.map V.int)/\0<=k/\k<=1000/\∀ p H',H p=none->PotT H' p->Same H H'->Q (.ref p) H'
def ZcJ:Sp:=fun vs H Q _=>∃ p m,vs=[.ref p,.int m]/\PotT H p/\0<m/\YbH m<=8000/\∀ d H',0<=d->d<m->PotT H' p->Sm p H H'->Q (.int d) H'
def Zgz:Sp:=fun vs H Q _=>∃ (pl:Addr) (p:Nat) (m:Int),vs=[.ref pl,.int p,.int m]/\PotT H pl/\2<=p/\p<=7/\1<=m/\m<=4000/\∀ (n:Nat) H',n<24->tot p n<=m->PotT H' pl->Sm pl H H'->Q (.int n) H'
theorem ZlJ:(0:Int)<10 ^ YcF 60*10 ^ YcF 60*10 ^ YcF 60/\YbH ((10:Int) ^ YcF 60)<=1000/\YbH ((10:Int) ^ YcF 60*10 ^ YcF 60)<=1000:=by decide +kernel
theorem RS.snoc {H:Hp}{av arr:List Addr}{R:List (List (List Int))}{a:Addr}{as:List Addr}{Rw:List (List Int)} (h:RS H (a::av) arr R) (ha:a ∉ av) (h1:H a=some (.lst (as.map V.ref))) (h2:LLs H as Rw) (h3:∀ x∈as,x ∉ arr/\x≠a/\x ∉ av):RS H av (arr++[a]) (R++[Rw]):=by
 have hna:a ∉ arr:=fun z=>h.2.2.1 a z (by simp);refine⟨by simp[h.1],Zcq h.2.1 hna,fun b hb=>?_,fun j b Rb hb hR=>?_⟩
 ·rcases Yao.mp hb with hb | hb
  ·exact fun z=>h.2.2.1 b hb (by simp[z])
  ·have:b=a:=by simpa using hb
   subst this;exact ha
 ·rcases ZcC hb with hb' | ⟨hj,rfl⟩
  ·have hjl:=(Yaa.mp hb').1
   rw[Yaj (by rw[<- h.1];exact hjl)] at hR;obtain⟨bs,g1,g2,g3⟩:=h.2.2.2 j b Rb hb' hR;refine⟨bs,g1,g2,fun x hx=>⟨fun z=>?_,fun z=>(g3 x hx).2 (by simp[z])⟩⟩;rcases Yao.mp z with z | z
   ·exact (g3 x hx).1 z
   ·have:x=a:=by simpa using z
    exact (g3 x hx).2 (by simp[this])
  ·rw[hj,h.1,Yak (Yas _)] at hR;simp at hR;subst hR;refine⟨as,h1,h2,fun x hx=>⟨fun z=>?_,(h3 x hx).2.2⟩⟩;rcases Yao.mp z with z | z
   ·exact (h3 x hx).1 z
   ·exact (h3 x hx).2.1 (by simpa using z)
def Cor (hs ids arr:List Addr):Prop:=ids.length=arr.length/\∀ (j:Nat) i a,ids[j]?=some i->arr[j]?=some a->hs[i]?=some a
theorem Cor.at {hs ids arr:List Addr} (h:Cor hs ids arr) {j:Nat}{a:Addr} (ha:arr[j]?=some a):∃ i,ids[j]?=some i/\hs[i]?=some a:=by
 have hj:j<ids.length:=by rw[h.1];exact (Yaa.mp ha).1
 exact⟨_,Yab hj,h.2 j _ a (Yab hj) ha⟩
theorem Cor.rot {hs iL aL:List Addr}{io ao:Addr} (hl:iL.length=aL.length) (h:Cor hs (iL++[io]) (aL++[ao])):Cor hs (io::iL) (ao::aL):=by
 refine⟨by simp[hl],fun j i a hi ha=>?_⟩
 cases j with
 | zero=>
  have:io=i:=by simpa using hi
  have:ao=a:=by simpa using ha
  subst i a;exact h.2 iL.length io ao (by simp) (by rw[hl];simp)
 | succ j=>
  have hi':iL[j]?=some i:=by simpa using hi
  have ha':aL[j]?=some a:=by simpa using ha
  have h1:=(Yaa.mp hi').1
  have h2:=(Yaa.mp ha').1
  exact h.2 j i a (by rw[Yaj h1];exact hi') (by rw[Yaj h2];exact ha')
theorem Cor.start (hs:List Addr):Cor hs (Yap hs.length) hs:=by
 refine⟨by simp,fun j i a hi ha=>?_⟩;have hj:=(Yaa.mp ha).1
 rw[YbB hj] at hi;have:=Yay hi;subst this;exact ha
theorem ZiU (xs:List V) (c:Nat):cutV xs none (some (c:Int))=xs.take c:=by
 unfold cutV;show (xs.drop 0).take (HT.sIx xs.length xs.length (some (c:Int)) - 0)=_;rw[HT.sIx_nat,Yc2,List.drop_zero];by_cases h:c<=xs.length
 ·rw[Yd6 h]
 ·rw[YdN (by omega),YaT,YaW (by omega)]
theorem ZiW (xs:List V) (c:Nat):cutV xs (some (c:Int)) none=xs.drop c:=by
 unfold cutV;rw[HT.sIx_nat];show (xs.drop (min c xs.length)).take (xs.length - min c xs.length)=_;by_cases h:c<=xs.length
 ·rw[Yd6 h,YaW (by simp)]
 ·rw[YdN (by omega),List.drop_length,Yeu (by omega)];simp
theorem Zhj {L:List (List (List Int))}{j:Nat}:(((L.take j).map Za3).flatten).length<=szR L:=by
 have h1:=Zh8 L;have e:wr L=((L.take j).map Za3).flatten++((L.drop j).map Za3).flatten:=by
  unfold wr;rw[<- Ybc,<- YaB,YaQ]
 rw[e,Yai] at h1;omega
end Lv
namespace L2
open PySem PySem.Spec PyProof.Rows PySem.SeqAt
end L2
namespace Fw
open PySem L2
def val (ns:List Int) (p:Int):Int:=ns.getD p.toNat 0
def upto (n:Nat):List Int:=(Yap n).map fun (i:Nat)=>(i:Int)
def there (n:Nat) (r:Int) (w:List Int):List Int:=(upto (min n (w.length+r.toNat))).filter fun p=>!w.contains p
def fits (ns w:List Int) (p:Int):Bool:=w.isEmpty || decide (val ns (w.getLast?.getD 0)<=val ns p)
def cand (ns hs w:List Int):List Int:=if (hs.filter (fits ns w)).isEmpty then hs else hs.filter (fits ns w)
def pick (ns:List Int):List Int->Int
 | []=>0
 | b::c=>(b::c).foldl (fun b p=>if val ns p<val ns b then p else b) b
def writ (ns:List Int) (r:Int):Nat->List Int
 | 0=>[]
 | t+1=>writ ns r t++[pick ns (cand ns (there ns.length r (writ ns r t)) (writ ns r t))]
structure Good (n:Nat) (r:Int) (w:List Int):Prop where
 nd:w.Nodup
 lt:∀ q∈w,0<=q/\q<n/\q+1<w.length+r
end Fw
namespace Fw
open PySem L2
end Fw
namespace Fw
open PySem L2
abbrev Key2:=Nat × Int
def kle (a b:Key2):Prop:=a.1<b.1∨(a.1=b.1/\a.2<=b.2)
def nxtK (k:Option Key2) (v:Int):Key2:=match k with | none=>(0,v) | some (r,l)=>(if v<l then r+1 else r,v)
def ZfL:Option Key2->List Int->List Key2
 | _,[]=>[]
 | k,v::vs=>nxtK k v::ZfL (some (nxtK k v)) vs
def wk (ns:List Int) (r:Int) (t:Nat):List Key2:=ZfL none ((writ ns r t).map (val ns))
def lk (ns:List Int) (r:Int) (t:Nat):Option Key2:=(wk ns r t).getLast?
structure Holds (n:Nat) (r:Int) (v:List Int):Prop where
 nd:v.Nodup
 lt:∀ (i:Nat) p,v[i]?=some p->0<=p/\p<n/\p<i+r
end Fw
namespace Lv
open PySem L2 Fw
end Lv
namespace L2
open PySem PySem.Spec PyProof.Rows PySem.SeqAt
def rEqE (K:Yae):R2:=fun x y H Q=>∃ (a b:Addr) (xs:List V),x=.ref a/\y=.ref b/\SqL K H a xs/\SqL K H b []/\Q (.bl xs.isEmpty) H
theorem Zk3 {X:Cx} (hu:X.A.units<cLine):OpR X (compareOp .Eq) (rEqE X.K):=by
 intro pins s σ H x y v u Q I rx ry h;obtain⟨a,b,xs,rfl,rfl,ha,hb,q⟩:=h;cases rx;cases ry;obtain⟨its,r1,p1,_⟩:=I.list ha;obtain⟨its2,r2,p2,_⟩:=I.list hb;have l1:its.toArray.size=xs.length:=by rw[Yat,<- r1.length]
 have l2:its2.toArray.size=0:=by rw[Yat,<- r2.length];rfl
 cases xs with
 | nil=>
  have z1:its.toArray.size=0:=l1;refine eq_listAt (e:=fun _=>true) p1.isList p2.isList (by rw[z1,l2]) hu (fun j h1 h2=>absurd h1 (by (clear h2 h1 l1 l2 hu;omega))) ?_;rw[ZeL];exact⟨.bl true,H,I,rfl,q⟩
 | cons x r=>
  refine eq_list_lengthsAt p1.isList p2.isList (by rw[l1,l2];simp) hu ?_;exact⟨.bl false,H,I,rfl,q⟩
end L2
namespace Lv
open PySem L2 Fw
structure Rws3 (H0 H:Hp) (l:Addr) (rf:List Addr) (R:List (List Int)):Prop where
 top:H l=some (.lst (rf.map V.ref))
 rows:LLs H rf R
 own:∀ q∈rf,H0 q=none/\q≠l
 nd:rf.Nodup
end Lv
namespace Fi56
open PySem L2 Lv
def top (i:Nat):Stmt:=PySem.Challenge.pw_fewreels_k56_turned_rows_played.main.body.getD i (.Pass ⟨0,0,0,0⟩)
abbrev Zde:Stmt:=top 6
abbrev Zf3:Stmt:=top 11
abbrev Zdg:Stmt:=top 12
abbrev Zdh:Stmt:=top 13
abbrev ZeZ:Stmt:=top 14
abbrev Zcj:Stmt:=top 16
abbrev ZeY:Stmt:=top 18
abbrev ZeX:Stmt:=top 19
abbrev sLPh:Stmt:=top 20
abbrev sLW:Stmt:=top 22
abbrev Zf5:Stmt:=top 23
abbrev ZdI:Stmt:=top 24
abbrev sThT:Stmt:=top 25
abbrev sPhT:Stmt:=top 26
abbrev ZbK:Stmt:=top 27
abbrev Za7:Stmt:=top 29
abbrev Zf4:Stmt:=top 30
abbrev Zdf:Stmt:=top 31
abbrev Zbq:Stmt:=top 32
abbrev Ze0:Stmt:=top 33
abbrev ZcL:Stmt:=top 34
abbrev Zbo:Stmt:=top 35
abbrev Zbp:Stmt:=top 36
abbrev Zck:Stmt:=top 37
abbrev sLaw:Stmt:=top 38
end Fi56
namespace Fi56
open PySem L2 Lv
section
variable {P:Program}{w:World}{K:Yae}{mg:Str->Option Value}{base:Heap}
theorem scLCounts:FnScope ["p","n","counts","turn"] ["p","n"] (Zac Zbq):=⟨rfl,rfl,rfl,by decide +kernel,rfl,by decide +kernel,by decide +kernel⟩
theorem Zga {f:Addr}{fd:FuncData} (F:Fun K "_law_counts" "_law_counts" Zbq f fd) (T:Txt mg):FnOk P w K mg base CX0 1 f fd ["p","n"] ZbZ:=by
 refine F.ok scLCounts (fun vs H Q E h=>?_) (fun cdv A outer s H vs Q E hr h=>?_)
 ·obtain⟨p,n,rfl,_⟩:=h;rfl
 ·obtain⟨p,n,rfl,h1,h2,h3,k⟩:=h;refine⟨_,Zai (Zaj (i:=2) scLCounts.nd rfl (Yds rfl) (Zaq Zcw (Zav (Zaa Zaf Zad)) (Zaq Zek (Zav (Zaa Zaf Zad)) (Zaq ZcV (pv 0) Zaf))))
   (Zai (Zbb Yba rfl (ZaR rfl T.range (Zaa (pv 1) Zad)) (Zah (i:=3) scLCounts.nd rfl (YaP rfl))
    (Zax (Zaj (i:=2) scLCounts.nd rfl (Yds rfl) (Zaq Zcw
     (ZaN (own:=["more"]) (js:=[2]) (CompOk.by (sc:=Zac Zbq) (N:=["p","n","counts","turn"]) rfl rfl (by decide +kernel)) rfl (Zbg (ZbF ZdH (pv 2) (Zbf Zaf) Zco)) Zao
      (fun _ _ _ _ _=>Zah (i:=0) (by show (["more","counts"]:List Str).Nodup;decide +kernel) rfl (YaP rfl) (.inr rfl)) (fun _ _ _ _ _=>ZaA) (fun _ _ _ _ _=>Zaq Za1 (Zaw (ZfN K) (pv 1) Zaf (fun _ _=>rfl)) (pv 0)))
     (Zav (Zaa (Zaw Zar (pv 2) Zaf (fun _ _=>rfl)) Zad))))))
   (Zax (Zay (pv 2)))),?_⟩
  refine⟨(by show 1<=sizeLine;decide),fun p1 e1=>⟨(by show 1<=sizeLine;decide),fun p2 e2=>⟨_,rfl,_,_,rfl,rfl,?_⟩⟩⟩;have z2:(upd (upd H p1 (.lst [.int 1])) p2 (.lst [.int 0])) p1=some (.lst [.int 1]):=by rw[upd_ne (Zae Zab e2)];exact Zab
  refine⟨p2,(p:Int) - 1,_,rfl,rfl,Zab,by (clear h3 h2 h1;omega),by (clear h3 h1;omega),?_,fun p3 e3=>?_⟩
  ·exact Ybi (Zas (by show 1*((p:Int) - 1).toNat<=1000;(clear h3 h1;omega)))
  have z3:=(Same.new (o:=.lst (Yal ((p:Int) - 1).toNat [V.int 0]).flatten) e3) p1 _ z2;have ez:(Yal ((p:Int) - 1).toNat [V.int 0]).flatten=Yal (p - 1) (V.int 0):=by
   rw[show ((p:Int) - 1).toNat=p - 1 by (clear h3 h2 h1;omega)];exact YbI
  rw[ez] at z3 ⊢;refine⟨p1,p3,_,_,rfl,rfl,z3,Zab,?_,fun p4 e4=>?_⟩
  ·exact Ybi (Zas (by rw[YbZ];show 1+(p - 1)<=1000;(clear h3 h1;omega)))
  have s4:=(((Same.new (o:=.lst [.int 1]) e1).trans (Same.new (o:=.lst [.int 0]) e2)).trans (Same.new (o:=.lst (Yal (p - 1) (V.int 0))) e3)).trans (Same.new (o:=.lst ([.int 1]++Yal (p - 1) (V.int 0))) e4);have n4:H p4=none:=(((Same.new (o:=.lst [.int 1]) e1).trans (Same.new (o:=.lst [.int 0]) e2)).trans (Same.new (o:=.lst (Yal (p - 1) (V.int 0))) e3)).free e4;refine⟨_,rfl,n,rfl,by (clear h3 h2 h1;omega),by (clear h2 h1;omega),Zbi (fun i σ H2=>∃ (l:Addr) (o:Option V),σ=[some (.int p),some (.int n),some (.ref l),o]/\H l=none/\H2 l=some (.lst ((cnt p i).map V.int))/\Same H H2)
   ⟨p4,none,rfl,n4,by rw[Zab];simp[cnt,Zcx],s4⟩ ?_ ?_⟩
  ·rintro i σ H2 hi ⟨l,o,rfl,hl0,hl2,s2⟩;have hlen:=ZbB (p:=p) (by (clear hi h3 h2;omega)) i;have ex:cnt p (i+1)=Zbu (cnt p i):=rfl;rw[ex];generalize cnt p i=c at *;obtain⟨c0,cr,rfl⟩:∃ c0 cr,c=c0::cr:=by
    cases c with
    | nil=>simp at hlen;(clear hi h3 h2;omega)
    | cons x y=>exact⟨x,y,rfl⟩
   have hcr:cr.length=p - 1:=by simp at hlen;(clear hi h3 h2 h1;omega)
   refine⟨_,rfl,1,rfl,l,_,rfl,SqL.of hl2,fun lq eq=>?_⟩;rw[Yam,ZlW];have hlq:(upd H2 lq (.lst (cr.map V.int))) lq=some (.lst (cr.map V.int)):=Zab;have sq:Same H2 (upd H2 lq (.lst (cr.map V.int))):=Same.new eq;generalize (upd H2 lq (.lst (cr.map V.int)))=H2' at hlq sq ⊢;refine⟨lq,rfl,⟨_,SqL.of hlq⟩,?_⟩;refine ZhL (xs:=cr.map V.int) (fun acc j H3=>Same H2' H3/\H3 acc=some (.lst (((cr.take j).map (c0+·)).map V.int))) (fun acc h0=>⟨Same.new h0,Zab⟩) (fun acc j H3 h0 _ p=>p.1.seq (SqL.of hlq)) ?_ ?_
   ·rintro acc j x H3 h0 hx ⟨s3,hacc⟩;obtain⟨z,hz,rfl⟩:=Zbt hx;have hj:=(Yaa.mp hz).1
    have hl3:=s3 l _ (sq l _ hl2);refine⟨_,rfl,l,_,0,.int c0,rfl,rfl,SqL.of hl3,Zd3,_,rfl,_,_,rfl,rfl,_,hacc,?_,by rw[Yac];exact hj,s3.put h0,?_⟩
    ·exact Zas (by simp;(clear hj hlen hi h3 h1;omega))
    ·rw[Zab,Ya9,hz,Ydo,YaB,YaB];rfl
   ·rintro acc H3 h0 ⟨s3,hacc⟩;rw[Yac,YaT] at hacc;have hl3:=s3 l _ (sq l _ hl2);refine⟨_,rfl,l,_,0,.int c0,rfl,rfl,SqL.of hl3,Zd3,(by show 1<=sizeLine;decide),fun q2 f2=>?_⟩;refine⟨acc,q2,_,_,rfl,rfl,(Same.new f2) acc _ hacc,Zab,?_,fun q3 f3=>?_⟩
    ·exact Ybi (Zas (by simp;(clear hlen hi h3 h1;omega)))
    have s5:=(s2.trans sq).trans (s3.trans (Same.new (o:=.lst [.int c0]) f2));refine⟨q3,_,rfl,s5.free f3,?_,s5.trans (Same.new f3)⟩;rw[Zab];simp[Zbu]
  ·rintro σ H2 ⟨l,o,rfl,hl0,hl2,s2⟩;refine⟨_,rfl,k l H2 hl0 ?_ s2⟩;simpa using hl2
theorem ZhZ:bootBuiltins "range"=some (.type "range"):=by decide +kernel
theorem Zfy:∀ (f:Nat) (N:List (List Int)) (A:List Int),plc f (N++[A])=plc f N++[blk1 (f+N.flatten.length) A.length]
 | f,[],A=>by simp[plc]
 | f,B::N,A=>by
  rw[YbR,plc,plc,Zfy,YbR,YaI,Yai,Yer]
theorem scReadB:FnScope ["p","n","here","number","count","read","order","out","turn","written","reel","place","found"] ["p","n"] (Zac ZcL):=⟨rfl,rfl,rfl,by decide +kernel,rfl,by decide +kernel,by decide +kernel⟩
def Zdz:Sp:=fun vs H Q _=>∃ p n:Nat,vs=[.int p,.int n]/\2<=p/\p<=7/\n<=300/\tot p n<=4000/\∀ l qs H',H l=none->H' l=some (.lst (qs.map V.ref))->LLs H' qs (tnum p n)->(∀ q∈qs,H q=none)->Same H H'->Q (.ref l) H'
theorem ZiC {f fA:Addr}{fd dA:FuncData} (F:Fun K "_law_read_back" "_law_read_back" ZcL f fd) (T:Txt mg) (CC:Cal P w K mg base 1 "_law_counts" ["p","n"] ZbZ fA dA):FnOk P w K mg base CX0 2 f fd ["p","n"] Zdz:=by
 refine F.ok scReadB (fun vs H Q E h=>?_) (fun cdv A outer s H vs Q E hr h=>?_)
 ·obtain⟨p,n,rfl,_⟩:=h;rfl
 ·obtain⟨p,n,rfl,p2,p7,hn,htot,k⟩:=h;have hu:_<cLine:=hr.units0;refine⟨_,Zai (Zaj (i:=2) scReadB.nd rfl (YaP rfl) (Zav Zad))
   (Zai (Zaj (i:=3) scReadB.nd rfl (Yds rfl) Zaf)
   (Zai (Zbb Yba rfl (Zbg (Zat CC hr rfl (Zaa (pv 0) (Zaa (pv 1) Zad)))) (Zah (i:=4) scReadB.nd rfl (YaP rfl))
    (Zai (ZaJ (Zb4 YaG Ya2 Ya1 ZaC (pv 2) (Zaa (ZaN (own:=["k"]) (js:=[3]) (CompOk.by (sc:=Zac ZcL) (N:=["p","n","here","number","count","read","order","out","turn","written","reel","place","found"]) rfl rfl (by decide +kernel)) rfl (ZaR rfl T.range (Zaa (pv 4) Zad)) Zao
     (fun _ _ _ _ _=>Zah (i:=0) (by show (["k","number"]:List Str).Nodup;decide +kernel) rfl (YaP rfl) (.inr rfl)) (fun _ _ _ _ _=>ZaA) (fun _ _ _ _ _=>Zav (Zaa (Zaq Za1 (pv 1) (pv 0)) Zad))) Zad)))
    (Zax (Zaj (i:=3) scReadB.nd rfl (Yds rfl) (Zaq Za1 (pv 3) (pv 4))))))
   (Zai (Zaj (i:=5) scReadB.nd rfl (YaP rfl) (Zaq Zek (Zav (Zaa Zaf Zad)) (pv 3)))
   (Zai (ZaJ (Zb4 YaG Ya2 Ya1 ZaC (pv 2) (Zaa (Zav Zad) Zad)))
   (Zai (Zaj (i:=6) scReadB.nd rfl (YaP rfl) (ZaB (Zce rfl) rfl T.list Zdr (Zaa (ZaB ZfS rfl T.range ZhZ (Zaa (pv 0) Zad)) Zad)))
   (Zai (Zaj (i:=7) scReadB.nd rfl (YaP rfl) (pv 0))
   (Zai (Zbb Yba rfl (ZaR rfl T.range (Zaa (pv 1) Zad)) (Zah (i:=8) scReadB.nd rfl (YaP rfl))
    (Zai (ZdK Yba (ZaM (Zji hu) (Zaw Zar (pv 2) (Zaw Zar (pv 6) (Zf8 Zdb Zaf) (fun _ _=>rfl)) (fun _ _=>rfl)) (Zav Zad) (ZaS _))
     (Zai (Zaj (i:=9) scReadB.nd rfl (YaP rfl) (Zav Zad))
     (Zai (Zbb Yba rfl (Zbg (pv 6)) (Zah (i:=10) scReadB.nd rfl (YaP rfl))
      (Zax (ZaJ (Zb4 YaG YdR YdQ Zeo (pv 9) (Zaa (Zej YaG YcI YcH ZfI (Zaw Zar (pv 2) (pv 10) (fun _ _=>rfl))) Zad)))))
     (Zai (Zbb Yba rfl (Zbg (pv 9)) (Zah (i:=11) scReadB.nd rfl (YaP rfl))
      (Zax (Zcv (Zaq Za1 (Zaw Zar (pv 5) (pv 11) (fun _ _=>rfl)) Zaf) (Zei (pv 5) (pv 11) Zb1))))
     (Zax (ZaJ (Zb4 YaG Ya2 Ya1 ZaC (Zaw Zar (pv 2) (pv 7) (fun _ _=>rfl)) (Zaa (pv 9) Zad))))))))
    (Zai (Zaj (i:=6) scReadB.nd rfl (YaP rfl) (Zaq Zcw (Zav (Zaa (pv 7) Zad)) (pv 6)))
    (Zax (Zaj (i:=7) scReadB.nd rfl (YaP rfl) (Zej YaG YcI YcH ZfI (pv 6)))))))
   (Zai (Zaj (i:=12) scReadB.nd rfl (YaP rfl) (Zav Zad))
   (Zai (Zbb Yba rfl (Zbg (Zat CC hr rfl (Zaa (pv 0) (Zaa (pv 1) Zad)))) (Zah (i:=4) scReadB.nd rfl (YaP rfl))
    (Zai (ZaJ (Zb4 YaG Ya2 Ya1 ZaC (pv 12) (Zaa (ZbF ZdH (pv 5) Zco (Zbf (pv 4))) Zad)))
    (Zax (Zaj (i:=5) scReadB.nd rfl (YaP rfl) (ZbF ZdH (pv 5) (Zbf (pv 4)) Zco)))))
   (Zax (Zay (pv 12)))))))))))),?_⟩
  have hL:=Za2 (p:=p) (by (clear hu htot hn p7;omega)) n;have hNl:=ZaT (p:=p) (by (clear hu htot hn p7;omega)) n;have hfl:=Zd9 (p:=p) (by (clear hNl hu htot hn p7;omega)) n;generalize hN:tnum p n=N at hL hNl hfl;have hT4:N.flatten.length<=4000:=by (clear hNl hu hn p7 p2;omega)
  have hpre:∀ i,(N.take i).flatten.length<=N.flatten.length:=fun i=>by
   conv=>rhs;rw[<- YaQ i N,Ybc,Yai]
   (clear hT4 hfl hNl hu htot hn p7 p2;omega)
  have hcl:(cnt p n).length=N.length:=by rw[<- hL];simp[ZbQ]
  have hcnt:∀ (i:Nat) (x:V),((cnt p n).map V.int)[i]?=some x->∃ hi:i<N.length,x=.int ((N[i].length:Nat):Int):=by
   intro i x hx;obtain⟨c,hc,rfl⟩:=Zbt hx;rw[<- hL] at hc;have hi:i<N.length:=by have:=(Yaa.mp hc).1;simpa[ZbQ] using this
   refine⟨hi,?_⟩;unfold ZbQ at hc;rw[Yaf,Yab hi] at hc;exact congrArg V.int (Yay hc).symm
  refine⟨YaO _,fun lh hlh0=>?_⟩;have n0:Same H (upd H lh (.lst [])):=Same.new hlh0;refine⟨_,rfl,_,rfl,p,n,rfl,p2,p7,hn,fun lc Hc elc hlc sc=>⟨lc,rfl,⟨_,SqL.of hlc⟩,?_⟩⟩;have hlhc:lh≠lc:=Zae Zab elc;refine Za6 (xs:=(cnt p n).map V.int) (fun i σ Hi=>∃ (rs:List Addr) (o4:Option V),σ=[some (.int p),some (.int n),some (.ref lh),some (.int ((N.take i).flatten.length:Nat)),o4,none,none,none,none,none,none,none,none]/\Hi lh=some (.lst (rs.map V.ref))/\Hi lc=some (.lst ((cnt p n).map V.int))/\RS Hi [lc,lh] rs (plc 0 (N.take i))/\(∀ a∈rs,H a=none)/\Same H Hi)
   ⟨[],none,rfl,sc lh _ Zab,hlc,⟨rfl,List.nodup_nil,by simp,fun j r Rw a=>by simp at a⟩,by simp,n0.trans sc⟩ (fun i σ Hi _ ⟨_,_,_,_,h,_⟩=>SqL.of h) ?_ ?_
  ·rintro i x σ Hi hx ⟨rs,o4,rfl,hlhi,hlci,hre,hrH,si⟩;obtain⟨hi,rfl⟩:=hcnt i x hx;have h1:=hpre (i+1);rw[Ya4 hi,Ybc,Yai] at h1;have h1':(N.take i).flatten.length+N[i].length<=N.flatten.length:=by simpa using h1
   refine⟨_,rfl,.inl ⟨rfl,_,SqL.of hlhi⟩,_,rfl,_,rfl,by (clear h1' h1 hlhc hcl hT4 hfl hNl hu htot hn p7 p2;omega),by (clear h1 hlhc hcl hT4 hNl hu hn p7 p2;omega),?_⟩;rw[show ((N[i].length:Nat):Int).toNat=N[i].length by (clear h1' h1 hlhc hcl hT4 hfl hNl hu htot hn p7 p2;omega)];refine ZbH (fun acc j Hj=>∃ as:List Addr,as.length=j/\Hj acc=some (.lst (as.map V.ref))/\LLs Hj as (blk1 (N.take i).flatten.length j)/\(∀ x∈as,x ∉ rs/\x≠acc/\x ∉ [lc,lh])/\Same Hi Hj) (fun acc h0=>⟨[],rfl,Zab,⟨rfl,fun j r xs a=>by simp at a⟩,by simp,Same.new h0⟩) ?_ ?_
   ·rintro acc j Hj h0 hj ⟨as,hl,hacc,hll,hav,sj⟩;refine⟨_,rfl,_,rfl,_,_,rfl,rfl,(by show 1<=sizeLine;decide),fun q hq=>?_⟩;have hqa:q≠acc:=YaX (Zae hacc hq);have hqh:q≠lh:=YaX (Zae (sj lh _ hlhi) hq);have hqc:q≠lc:=YaX (Zae (sj lc _ hlci) hq);have hqr:q ∉ rs:=fun z=>by
     obtain⟨o,e⟩:=hre.mem z;exact Zae (sj q _ e) hq rfl
    refine⟨_,by rw[upd_ne (YaX hqa)];exact hacc,by rw[sizeLine_eq,Yac];(clear hqr hqc hqh hqa h1 hlhc hcl hT4 hNl hu hn p7 p2;omega),hj,as++[q],by simp[hl],by rw[Zab];simp,?_,?_,(sj.trans (Same.new hq)).put h0⟩
    ·have e:blk1 (N.take i).flatten.length (j+1)=blk1 (N.take i).flatten.length j++[[(((N.take i).flatten.length+j:Nat):Int)]]:=by simp[blk1,Ych]
     rw[e];refine L2.LLs.snoc ((hll.same (Same.new hq)).off (fun z=>(hav acc z).2.1 rfl)) ?_;rw[upd_ne hqa,Zab];simp
    ·intro x hx;rcases Yao.mp hx with hx | hx
     ·exact hav x hx
     ·have:x=q:=by simpa using hx
      subst this;exact⟨hqr,hqa,by simp[hqc,hqh]⟩
   ·rintro acc Hj h0 ⟨as,hl,hacc,hll,hav,sj⟩;have hlhj:=sj lh _ hlhi;have hlcj:=sj lc _ hlci;have hap:acc≠lh:=YaX (Zae hlhi h0);have hac:acc≠lc:=YaX (Zae hlci h0);have hrsl:rs.length<=7:=by
     have:=hre.1;rw[ZcQ,Yaz] at this
     (clear hac hap hl h1' h1 hlhc hcl hT4 hfl hu htot hn p2;omega)
    refine⟨lh,_,_,rfl,rfl,hlhj,Zas (by rw[Yac];(clear hac hap hl h1' h1 hlhc hcl hT4 hfl hNl hu htot hn p7 p2;omega)),?_⟩;have hkeep:∀ b o,Hj b=some o->b ∉ [lc,lh]->(upd Hj lh (.lst (rs.map V.ref++[.ref acc]))) b=some o:=fun b o e hn=>by
     rw[upd_ne (fun z=>hn (by simp[z]))];exact e
    refine⟨_,rfl,_,rfl,_,_,rfl,rfl,rs++[acc],some (.int (N[i].length:Int)),?_,by rw[Zab];simp,?_,?_,?_,(si.trans sj).put hlh0⟩
    ·rw[Ya4 hi,Ybc,Yai];simp
    ·rw[upd_ne (YaX hlhc)];exact hlcj
    ·rw[Ya4 hi,Zfy,YbT];refine RS.snoc (((hre.more h0).keep fun b o e _=>sj b o e).keep fun b o e hn=>hkeep b o e (fun z=>hn (Yan _ z))) (by simp[hap,hac]) (hkeep acc _ hacc (by simp[hap,hac])) (LLs.keep hll (fun x hx=>(hav x hx).2.2) hkeep) hav
    ·intro b hb;rcases Yao.mp hb with hb | hb
     ·exact hrH b hb
     ·have:b=acc:=by simpa using hb
      subst this;exact si.free h0
  ·rintro σ Hi ⟨rs,o4,rfl,hlhi,hlci,hre,hrH,si⟩;rw[Yac,hcl,YaT] at hre ⊢;have hrsl:rs.length=N.length:=by rw[hre.1,ZcQ]
   generalize hTT:N.flatten.length=TT at hfl hT4 hpre ⊢;refine⟨(by show 1<=sizeLine;decide),fun p1 e1=>⟨_,rfl,p1,(TT:Int),_,rfl,rfl,Zab,by (clear hT4 hfl hTT hrsl hlhc hcl hNl hu htot hn p7 p2;omega),by (clear hT4 hTT hrsl hlhc hcl hNl hu hn p7 p2;omega),?_,fun rd hrd=>?_⟩⟩
   ·rw[sizeLine_eq];show 1*(TT:Int).toNat<=16777216
    (clear hT4 hTT hrsl hlhc hcl hNl hu hn p7 p2;omega)
   have ez:(Yal (TT:Int).toNat [V.int 0]).flatten=(Yal TT (0:Int)).map V.int:=by
    rw[show ((TT:Nat):Int).toNat=TT by (clear hT4 hfl hTT hrsl hlhc hcl hNl hu htot hn p7 p2;omega),Ydu];exact YbI
   rw[ez];have s2:Same Hi (upd Hi p1 (.lst [.int 0])):=Same.new e1;have s3:=s2.trans (Same.new (o:=.lst ((Yal TT (0:Int)).map V.int)) hrd);have hrdH:H rd=none:=(si.trans s2).free hrd;have hrdlh:lh≠rd:=Zae (s2 lh _ hlhi) hrd;have hre3:RS (upd (upd Hi p1 (.lst [.int 0])) rd (.lst ((Yal TT (0:Int)).map V.int))) [rd,lh] rs (plc 0 N) :=
    (((hre.sub (av':=[lh]) (by simp)).keep fun b o e _=>s2 b o e).more hrd).keep fun b o e _=>(Same.new hrd) b o e
   have hrd3:(upd (upd Hi p1 (.lst [.int 0])) rd (.lst ((Yal TT (0:Int)).map V.int))) rd=some (.lst ((Yal TT (0:Int)).map V.int)):=Zab;have hlh3:=s3 lh _ hlhi;generalize (upd (upd Hi p1 (.lst [.int 0])) rd (.lst ((Yal TT (0:Int)).map V.int)))=H3 at s3 hre3 hrd3 hlh3 ⊢;have s03:=si.trans s3;refine⟨_,rfl,.inl ⟨rfl,_,SqL.of hlh3⟩,YaO _,fun le e4=>?_⟩;have hlelh:le≠lh:=YaX (Zae hlh3 e4);have hlerd:le≠rd:=YaX (Zae hrd3 e4);have s4:Same H3 (upd H3 le (.lst [])):=Same.new e4;have hle4:(upd H3 le (.lst [])) le=some (.lst []):=Zab;have hre4:RS (upd H3 le (.lst [])) (le::[rd,lh]) rs (plc 0 N):=(hre3.more e4).keep fun b o e _=>s4 b o e;have hleH:H le=none:=s03.free e4;generalize (upd H3 le (.lst []))=H4 at s4 hle4 hre4 ⊢;have hlh4:=s4 lh _ hlh3;have hrd4:=s4 rd _ hrd3;refine⟨lh,_,_,rfl,rfl,hlh4,Zas (by rw[Yac];(clear hlerd hlelh hrdlh hT4 hfl hTT hlhc hcl hu htot hn p2;omega)),?_⟩;have hk5:∀ b o,H4 b=some o->b≠lh->(upd H4 lh (.lst (rs.map V.ref++[.ref le]))) b=some o:=fun b o e hn=>by
    rw[upd_ne hn];exact e
   have hre5:RS (upd H4 lh (.lst (rs.map V.ref++[.ref le]))) [rd,lh] (rs++[le]) (plc 0 N++[[]]) :=
    RS.snoc (as:=[]) (hre4.keep fun b o e hn=>hk5 b o e (fun z=>hn (by simp[z]))) (by simp[hlerd,hlelh]) (hk5 le _ hle4 hlelh) ⟨rfl,fun j r xs a=>by simp at a⟩ (by simp)
   have hlh5:(upd H4 lh (.lst (rs.map V.ref++[.ref le]))) lh=some (.lst ((rs++[le]).map V.ref)):=by rw[Zab];simp
   have hrd5:=hk5 rd _ hrd4 (YaX hrdlh);have s05:Same H (upd H4 lh (.lst (rs.map V.ref++[.ref le]))):=(s03.trans s4).put hlh0;generalize (upd H4 lh (.lst (rs.map V.ref++[.ref le])))=H5 at hre5 hlh5 hrd5 s05 ⊢;have hhH:∀ a∈rs++[le],H a=none:=fun b hb=>by
    rcases Yao.mp hb with hb | hb
    ·exact hrH b hb
    ·have:b=le:=by simpa using hb
     subst this;exact hleH
   have hhl:(rs++[le]).length=p+1:=by simp[hrsl,hNl]
   generalize hhs:rs++[le]=hs at hre5 hlh5 hhH hhl;refine⟨_,rfl,_,rfl,fun q6 e6=>⟨q6,(p:Int),rfl,Zab,by (clear hhl hlerd hlelh hrdlh hT4 hfl hTT hrsl hlhc hcl hNl hu htot hn p7 p2;omega),by (clear hhl hlerd hlelh hrdlh hT4 hfl hTT hrsl hlhc hcl hNl hu htot hn p2;omega),fun lo elo=>?_⟩⟩;rw[show ((p:Nat):Int).toNat=p by (clear hhl hlerd hlelh hrdlh hT4 hfl hTT hrsl hlhc hcl hNl hu htot hn p7 p2;omega)];have s67:=(Same.new (o:=.rng 0 (p:Int)) e6).trans (Same.new (o:=.lst (((Yap p).map fun (i:Nat)=>(i:Int)).map V.int)) elo);have hloH:H lo=none:=(s05.trans (Same.new (o:=.rng 0 (p:Int)) e6)).free elo;have hlolh:lo≠lh:=YaX (Zae ((Same.new (o:=.rng 0 (p:Int)) e6) lh _ hlh5) elo);have hlord:lo≠rd:=YaX (Zae ((Same.new (o:=.rng 0 (p:Int)) e6) rd _ hrd5) elo);have hre7:RS (upd (upd H5 q6 (.rng 0 (p:Int))) lo (.lst (((Yap p).map fun (i:Nat)=>(i:Int)).map V.int))) [lo,rd,lh] hs (plc 0 N++[[]]) :=
    ((hre5.keep fun b o e _=>(Same.new e6) b o e).more elo).keep fun b o e _=>(Same.new elo) b o e
   have hlo7:(upd (upd H5 q6 (.rng 0 (p:Int))) lo (.lst (((Yap p).map fun (i:Nat)=>(i:Int)).map V.int))) lo=some (.lst (((Yap p).map fun (i:Nat)=>(i:Int)).map V.int)):=Zab;generalize (upd (upd H5 q6 (.rng 0 (p:Int))) lo (.lst (((Yap p).map fun (i:Nat)=>(i:Int)).map V.int)))=H7 at s67 hre7 hlo7 ⊢;have s07:=s05.trans s67;have hlh7:=s67 lh _ hlh5;have hrd7:=s67 rd _ hrd5;refine⟨_,rfl,_,rfl,n,rfl,by (clear hlord hlolh hhl hlerd hlelh hrdlh hT4 hfl hTT hrsl hlhc hcl hNl hu htot hn p7 p2;omega),by (clear hlord hlolh hhl hlerd hlelh hrdlh hT4 hfl hTT hrsl hlhc hcl hNl hu htot p7 p2;omega),?_⟩;rw[show ((n:Nat):Int).toNat=n by (clear hlord hlolh hhl hlerd hlelh hrdlh hT4 hfl hTT hrsl hlhc hcl hNl hu htot hn p7 p2;omega)];refine Zbi (fun t σ Ht=>∃ (lo:Addr) (iL aL:List Addr) (io ao:Addr) (L:List (List (List Int))) (o:List (List Int)) (rdl:List Int) (o8 o9 o10 o11:Option V),σ=[some (.int p),some (.int n),some (.ref lh),some (.int (TT:Int)),o4,some (.ref rd),some (.ref lo),some (.int ((io:Nat):Int)),o8,o9,o10,o11,none]/\iL.length=p/\aL.length=p/\L.length=p/\Cor hs (iL++[io]) (aL++[ao])/\Ht lo=some (.lst ((iL.map fun (i:Nat)=>(i:Int)).map V.int))/\RS Ht [lo,rd,lh] (aL++[ao]) (L++[o])/\(∀ a∈aL++[ao],H a=none)/\lenR (L++[o])=(tnum p (n - t)++[[]]).map Ybf/\szR (L++[o])<=4000/\PlR TT (L++[o])/\Ht rd=some (.lst (rdl.map V.int))/\rdl.length=TT/\(∀ m:Nat,m<TT->rdl.getD m 0+pot m (L++[o]) (tnum p (n - t)++[[]])=N.flatten.getD m 0)/\Ht lh=some (.lst (hs.map V.ref))/\Same H Ht/\lo≠lh/\lo≠rd)
    ⟨lo,Yap p,rs,p,le,plc 0 N,[],Yal TT 0,none,none,none,none,rfl,by simp,by (clear hlord hlolh hhl hlerd hlelh hrdlh hT4 hfl hTT hlhc hcl hu htot hn p7 p2;omega),by rw[ZcQ];exact hNl,?_,hlo7,by rw[hhs];exact hre7,by rw[hhs];exact hhH,?_,?_,?_,hrd7,by simp,?_,hlh7,s07,hlolh,hlord⟩ ?_ ?_
   ·have:=Cor.start hs;rw[hhl,Ych] at this;rw[hhs];exact this
   ·rw[Yc2,hN];unfold lenR;rw[YaB,YaB];have:=Zfz 0 N;unfold lenR at this;rw[this];rfl
   ·rw[ZcG,Zje,hTT];simp[szR];exact hT4
   ·intro r hr';rcases Yao.mp hr' with h | h
    ·exact Zjf 0 TT N (by (clear hlord hlolh hhl hlerd hlelh hrdlh hT4 hfl hrsl hlhc hcl hNl hu htot hn p7 p2;omega)) r h
    ·have:r=[]:=by simpa using h
     subst this;simp
   ·intro m hm;rw[Yc2,hN,Zcm _ _ _ _ _ (by rw[ZcQ]),ZgN,if_pos (by (clear hlord hlolh hhl hlerd hlelh hrdlh hT4 hfl hrsl hlhc hcl hNl hu htot hn p7 p2;omega)),Zij,Yc2];simp[pot,S]
   ·rintro t σ Ht ht ⟨lo,iL,aL,io,ao,L,o,rdl,o8,o9,o10,o11,rfl,hiL,haL,hLL,hcor,hlo,hRS,harH,hlen,hsz,hpl,hrdt,hrdl,hpot,hlht,sHt,hlolh,hlord⟩;obtain⟨v,hv⟩:∃ v,n - t=v+1:=⟨n - t - 1,by (clear hlord hlolh hrdl hsz hLL haL hiL hhl hlerd hlelh hrdlh hT4 hfl hTT hrsl hlhc hcl hNl hu htot hn p7 p2;omega)⟩
    have hvl:=ZaT (p:=p) (by (clear hv hlord hlolh hrdl hsz hLL haL hiL ht hhl hlerd hlelh hrdlh hT4 hfl hTT hrsl hlhc hcl hNl hu htot hn p7;omega)) v;obtain⟨A0,rest,hAr⟩:∃ A0 rest,tnum p v=A0::rest:=by
     cases e:tnum p v with
     | nil=>rw[e] at hvl;simp at hvl;(clear hv hlord hlolh hrdl hsz hLL haL hiL ht hhl hlerd hlelh hrdlh hT4 hfl hTT hrsl hlhc hcl hNl hu htot hn p7;omega)
     | cons x y=>exact⟨x,y,rfl⟩
    have hrest:rest.length+1=p:=by rw[hAr] at hvl;simpa using hvl
    have e0:tnum p (n - t)++[[]]=PP A0 rest 0:=by rw[hv,tnum,hAr,Zku]
    rw[e0] at hlen hpot;refine cut1 (fun σ' H'=>∃ (L:List (List (List Int))) (o:List (List Int)) (rdl:List Int) (o9 o10 o11:Option V),σ'=[some (.int p),some (.int n),some (.ref lh),some (.int (TT:Int)),o4,some (.ref rd),some (.ref lo),some (.int ((io:Nat):Int)),some (.int (0+(t:Int))),o9,o10,o11,none]/\L.length=p/\H' lo=some (.lst ((iL.map fun (i:Nat)=>(i:Int)).map V.int))/\RS H' [lo,rd,lh] (aL++[ao]) (L++[o])/\lenR (L++[o])=(PP A0 rest A0.length).map Ybf/\szR (L++[o])<=4000/\PlR TT (L++[o])/\H' rd=some (.lst (rdl.map V.int))/\rdl.length=TT/\(∀ m:Nat,m<TT->rdl.getD m 0+pot m (L++[o]) (PP A0 rest A0.length)=N.flatten.getD m 0)/\H' lh=some (.lst (hs.map V.ref))/\Same H H') (fun R hR=>?_) ?_
    ·refine⟨fun m σ Hx=>∃ (s:Nat) (L:List (List (List Int))) (o:List (List Int)) (rdl:List Int) (o9 o10 o11:Option V),s<=A0.length/\m=A0.length - s/\σ=[some (.int p),some (.int n),some (.ref lh),some (.int (TT:Int)),o4,some (.ref rd),some (.ref lo),some (.int ((io:Nat):Int)),some (.int (0+(t:Int))),o9,o10,o11,none]/\L.length=p/\Hx lo=some (.lst ((iL.map fun (i:Nat)=>(i:Int)).map V.int))/\RS Hx [lo,rd,lh] (aL++[ao]) (L++[o])/\lenR (L++[o])=(PP A0 rest s).map Ybf/\szR (L++[o])<=4000/\PlR TT (L++[o])/\Hx rd=some (.lst (rdl.map V.int))/\rdl.length=TT/\(∀ m:Nat,m<TT->rdl.getD m 0+pot m (L++[o]) (PP A0 rest s)=N.flatten.getD m 0)/\Hx lh=some (.lst (hs.map V.ref))/\Same H Hx,
      ⟨_,0,L,o,rdl,o9,o10,o11,YaO _,rfl,rfl,hLL,hlo,hRS,hlen,hsz,hpl,hrdt,hrdl,hpot,hlht,sHt⟩,?_⟩
     clear hLL hlo hRS hlen hsz hpl hrdt hrdl hpot hlht sHt;rintro m σ Hx ⟨s,L,o,rdl,o9,o10,o11,hsle,rfl,rfl,hLL,hlo,hRS,hlen,hsz,hpl,hrdt,hrdl,hpot,hlht,sHt⟩;have hllen:∀ j (hj:j<p),(L[j]'(by (clear hrdl hsz hsle hrest hvl hv hlord hlolh haL hiL ht hhl hlerd hlelh hrdlh hT4 hfl hTT hrsl hlhc hcl hNl hu htot hn p7 p2;omega))).length=((rest++[[]])[j]'(by simp;(clear hrdl hsz hLL hsle hvl hv hlord hlolh haL hiL ht hhl hlerd hlelh hrdlh hT4 hfl hTT hrsl hlhc hcl hNl hu htot hn p7 p2;omega))).length+(A0.length - s):=by
      intro j hj;have h1:=congrArg (fun l=>l[j]?) hlen;unfold lenR PP at h1;simp only[Yaf] at h1;rw[Yaj (by (clear hrdl hsz hsle hrest hvl hv hlord hlolh haL hiL ht hhl hlerd hlelh hrdlh hT4 hfl hTT hrsl hlhc hcl hNl hu htot hn p7 p2;omega)),Yaj (by simp;(clear hrdl hsz hLL hsle hvl hv hlord hlolh haL hiL ht hhl hlerd hlelh hrdlh hT4 hfl hTT hrsl hlhc hcl hNl hu htot hn p7 p2;omega)),Yaf,Yab (by (clear hrdl hsz hsle hrest hvl hv hlord hlolh haL hiL ht hhl hlerd hlelh hrdlh hT4 hfl hTT hrsl hlhc hcl hNl hu htot hn p7 p2;omega)),Yab (by simp;(clear hrdl hsz hsle hvl hv hlord hlolh haL hiL ht hhl hlerd hlelh hrdlh hT4 hfl hTT hrsl hlhc hcl hNl hu htot hn p7 p2;omega))] at h1;simp only[YdI,Yef,Yai,Yaz,Zbl,YcZ] at h1
      (clear hrdl hsz hsle hvl hv hlord hlolh haL hiL ht hhl hlerd hlelh hrdlh hT4 hfl hTT hrsl hlhc hcl hNl hu htot hn p7 p2;omega)
     obtain⟨jl,hjl⟩:∃ jl,p=jl+1:=⟨p - 1,by (clear hrdl hsz hsle hvl hv hlord hlolh haL hiL ht hhl hlerd hlelh hrdlh hT4 hfl hTT hrsl hlhc hcl hNl hu htot hn p7 p2;omega)⟩
     have hal:(aL++[ao])[jl]?=some (aL[jl]'(by (clear hrdl hsz hsle hvl hv hlord hlolh hiL ht hhl hlerd hlelh hrdlh hT4 hfl hTT hrsl hlhc hcl hNl hu htot hn p7 p2;omega))):=by rw[Yaj (by (clear hrdl hsz hsle hvl hv hlord hlolh hiL ht hhl hlerd hlelh hrdlh hT4 hfl hTT hrsl hlhc hcl hNl hu htot hn p7 p2;omega)),Yab]
     obtain⟨il,hil,hhil⟩:=hcor.at hal;have hil':iL[jl]?=some il:=by rw[Yaj (by (clear hrdl hsz hsle hvl hv hlord hlolh ht hhl hlerd hlelh hrdlh hT4 hfl hTT hrsl hlhc hcl hNl hu htot hn p7 p2;omega))] at hil;exact hil
     obtain⟨Rl,hRl,asl,ha1,ha2,ha3⟩:=hRS.at hal;have hRl':Rl=L[jl]'(by (clear hrdl hsz hsle hvl hv hlord hlolh hiL ht hhl hlerd hlelh hrdlh hT4 hfl hTT hrsl hlhc hcl hNl hu htot hn p7 p2;omega)):=by
      rw[Yaj (by (clear hrdl hsz hsle hvl hv hlord hlolh hiL ht hhl hlerd hlelh hrdlh hT4 hfl hTT hrsl hlhc hcl hNl hu htot hn p7 p2;omega)),Yab (by (clear hrdl hsz hsle hvl hv hlord hlolh hiL ht hhl hlerd hlelh hrdlh hT4 hfl hTT hrsl hlhc hcl hNl hu htot hn p7 p2;omega))] at hRl;exact (Yay hRl).symm
     have hasl:asl.length=A0.length - s:=by
      have h1:=hllen jl (by (clear hrdl hsz hsle hvl hv hlord hlolh hiL ht hhl hlerd hlelh hrdlh hT4 hfl hTT hrsl hlhc hcl hNl hu htot hn p7 p2;omega));have e:(rest++[[]])[jl]'(by simp;(clear h1 hrdl hsz hsle hvl hv hlord hlolh hiL ht hhl hlerd hlelh hrdlh hT4 hfl hTT hrsl hlhc hcl hNl hu htot hn p7 p2;omega))=[]:=by
       rw[List.getElem_append_right (by (clear h1 hrdl hsz hsle hvl hv hlord hlolh hiL ht hhl hlerd hlelh hrdlh hT4 hfl hTT hrsl hlhc hcl hNl hu htot hn p7 p2;omega))];simp
      rw[e] at h1;rw[ha2.1,hRl',h1];simp
     refine⟨_,rfl,_,rfl,1,rfl,lo,_,-1,.int ((il:Nat):Int),rfl,rfl,SqL.of hlo,?_,lh,_,_,.ref (aL[jl]'(by (clear hasl hrdl hsz hsle hvl hv hlord hlolh hiL ht hhl hlerd hlelh hrdlh hT4 hfl hTT hrsl hlhc hcl hNl hu htot hn p7 p2;omega))),rfl,rfl,SqL.of hlht,?_,YaO _,fun le e9=>?_⟩
     ·unfold atI ixN;rw[Yac,Yac,hiL,if_neg (by decide),if_pos (by (clear hasl hrdl hsz hsle hvl hv hlord hlolh hiL ht hhl hlerd hlelh hrdlh hT4 hfl hTT hrsl hlhc hcl hNl hu htot hn p7 p2;omega))];show ((iL.map fun (i:Nat)=>(i:Int)).map V.int)[(-1+(p:Int)).toNat]?=_;rw[show (-1+(p:Int)).toNat=jl by (clear hasl hrdl hsz hsle hvl hv hlord hlolh hiL ht hhl hlerd hlelh hrdlh hT4 hfl hTT hrsl hlhc hcl hNl hu htot hn p7 p2;omega),Yaf,Yaf,hil'];rfl
     ·refine ZaP ?_;rw[Yaf,hhil];rfl
     have s9:Same Hx (upd Hx le (.lst [])):=Same.new e9;have hle9:(upd Hx le (.lst [])) le=some (.lst []):=Zab;generalize (upd Hx le (.lst []))=H9 at s9 hle9 ⊢;refine⟨_,le,_,rfl,rfl,SqL.of (s9 _ _ ha1),SqL.of hle9,_,rfl,?_⟩;have hemp:(!(asl.map V.ref).isEmpty)=decide (s<A0.length):=by
      rw[Yb4]
      cases asl with
      | nil=>simp at hasl;simp;(clear hrdl hsz hsle hvl hv hlord hlolh hiL ht hhl hlerd hlelh hrdlh hT4 hfl hTT hrsl hlhc hcl hNl hu htot hn p7 p2;omega)
      | cons x y=>simp at hasl;simp;(clear hrdl hsz hsle hvl hv hlord hlolh hiL ht hhl hlerd hlelh hrdlh hT4 hfl hTT hrsl hlhc hcl hNl hu htot hn p7 p2;omega)
     rw[hemp];have hRS9:RS H9 [lo,rd,lh] (aL++[ao]) (L++[o]):=hRS.keep fun b o e _=>s9 b o e;have hlo9:=s9 lo _ hlo;have hlh9:=s9 lh _ hlht;have hrd9:=s9 rd _ hrdt;have s09:=sHt.trans s9;by_cases hsA:s<A0.length
     ·rw[decide_eq_true hsA];refine iteT ⟨fun σ Hx=>∃ (L:List (List (List Int))) (o:List (List Int)) (rdl:List Int) (o9 o10 o11:Option V),σ=[some (.int p),some (.int n),some (.ref lh),some (.int (TT:Int)),o4,some (.ref rd),some (.ref lo),some (.int ((io:Nat):Int)),some (.int (0+(t:Int))),o9,o10,o11,none]/\L.length=p/\Hx lo=some (.lst ((iL.map fun (i:Nat)=>(i:Int)).map V.int))/\RS Hx [lo,rd,lh] (aL++[ao]) (L++[o])/\lenR (L++[o])=(PP A0 rest (s+1)).map Ybf/\szR (L++[o])<=4000/\PlR TT (L++[o])/\Hx rd=some (.lst (rdl.map V.int))/\rdl.length=TT/\(∀ m:Nat,m<TT->rdl.getD m 0+pot m (L++[o]) (PP A0 rest (s+1))=N.flatten.getD m 0)/\Hx lh=some (.lst (hs.map V.ref))/\Same H Hx,?_,?_⟩
      ·rintro σ' H' ⟨L,o,rdl,o9,o10,o11,rfl,g1,g2,g3,g4,g5,g6,g7,g8,g9,g10,g11⟩;exact⟨A0.length - (s+1),by (clear g8 g5 g1 hasl hrdl hsz hsle hvl hv hlord hlolh hiL ht hhl hlerd hlelh hrdlh hT4 hfl hTT hrsl hlhc hcl hNl hu htot hn p7 p2;omega),s+1,L,o,rdl,o9,o10,o11,by (clear g8 g5 g1 hasl hrdl hsz hsle hvl hv hlord hlolh hiL ht hhl hlerd hlelh hrdlh hT4 hfl hTT hrsl hlhc hcl hNl hu htot hn p7 p2;omega),rfl,rfl,g1,g2,g3,g4,g5,g6,g7,g8,g9,g10,g11⟩
      refine⟨YaO _,fun wl ewl=>?_⟩;have hwlH:H wl=none:=s09.free ewl;have hwllo:wl≠lo:=YaX (Zae hlo9 ewl);have hwlrd:wl≠rd:=YaX (Zae hrd9 ewl);have hwllh:wl≠lh:=YaX (Zae hlh9 ewl);have s10:Same H9 (upd H9 wl (.lst [])):=Same.new ewl;have hwl10:(upd H9 wl (.lst [])) wl=some (.lst []):=Zab;have hRS10:RS (upd H9 wl (.lst [])) [wl,lo,rd,lh] (aL++[ao]) (L++[o]):=(hRS9.more ewl).keep fun b o e _=>s10 b o e;generalize (upd H9 wl (.lst []))=H10 at s10 hwl10 hRS10 ⊢;have hlo10:=s10 lo _ hlo9;have hlh10:=s10 lh _ hlh9;have hrd10:=s10 rd _ hrd9;have hvtot:tot p v<=4000:=by
       have:=ZbW (p:=p) p2 (show v<=n by (clear hwllh hwlrd hwllo hsA hasl hrdl hsz hsle hvl hlord hlolh hiL ht hhl hlerd hlelh hrdlh hT4 hfl hTT hrsl hlhc hcl hNl hu htot hn p7 p2;omega))
       (clear hwllh hwlrd hwllo hsA hasl hrdl hsz hsle hvl hv hlord hlolh hiL ht hhl hlerd hlelh hrdlh hT4 hfl hTT hrsl hlhc hcl hNl hu hn p7 p2;omega)
      have hA4:A0.length<=4000:=by
       have:=ZeR (p:=p) (n:=v) (by (clear hvtot hwllh hwlrd hwllo hsA hasl hrdl hsz hsle hvl hv hlord hlolh hiL ht hhl hlerd hlelh hrdlh hT4 hfl hTT hrsl hlhc hcl hNl hu htot hn p7 p2;omega)) (xs:=A0) (by rw[hAr];simp)
       (clear hwllh hwlrd hwllo hsA hasl hrdl hsz hsle hvl hv hlord hlolh hiL ht hhl hlerd hlelh hrdlh hT4 hfl hTT hrsl hlhc hcl hNl hu htot hn p7 p2;omega)
      have hszL:szR L<=4000:=by rw[ZcG] at hsz;(clear hA4 hvtot hwllh hwlrd hwllo hsA hasl hrdl hsle hvl hv hlord hlolh hiL ht hhl hlerd hlelh hrdlh hT4 hfl hTT hrsl hlhc hcl hNl hu htot hn p7 p2;omega)
      have hplL:PlR TT L:=fun r hr'=>hpl r (Ya0 _ hr');refine⟨_,rfl,lo,rfl,⟨_,SqL.of hlo10⟩,?_⟩;refine Za6 (xs:=(iL.map fun (i:Nat)=>(i:Int)).map V.int) (fun j σ Hj=>∃ o10:Option V,σ=[some (.int p),some (.int n),some (.ref lh),some (.int (TT:Int)),o4,some (.ref rd),some (.ref lo),some (.int ((io:Nat):Int)),some (.int (0+(t:Int))),some (.ref wl),o10,o11,none]/\Hj wl=some (.lst ((((L.take j).map Za3).flatten).map V.int))/\RS Hj [wl,lo,rd,lh] (aL++[ao]) (((L.take j).map YbA++L.drop j)++[o])/\Hj lo=some (.lst ((iL.map fun (i:Nat)=>(i:Int)).map V.int))/\Hj lh=some (.lst (hs.map V.ref))/\Hj rd=some (.lst (rdl.map V.int))/\Same H Hj)
       ⟨o10,rfl,by simpa using hwl10,by simpa using hRS10,hlo10,hlh10,hrd10,s09.trans s10⟩ (fun j σ Hj _ ⟨_,_,_,_,h,_⟩=>SqL.of h) ?_ ?_
      ·rintro j x σ Hj hx ⟨o10,rfl,hwlj,hRSj,hloj,hlhj,hrdj,sj⟩;rw[Yaf,Yaf] at hx;obtain⟨id0,hid0,rfl⟩:=Yeg.mp hx;obtain⟨id,hid,rfl⟩:=Yeg.mp hid0;have hj:j<p:=by have:=(Yaa.mp hid).1;(clear hszL hA4 hvtot hwllh hwlrd hwllo hsA hasl hrdl hsz hsle hvl hv hlord hlolh ht hhl hlerd hlelh hrdlh hT4 hfl hTT hrsl hlhc hcl hNl hu htot hn p7 p2;omega)
       have haj:(aL++[ao])[j]?=some (aL[j]'(by (clear hszL hA4 hvtot hwllh hwlrd hwllo hsA hasl hrdl hsz hsle hvl hv hlord hlolh hiL ht hhl hlerd hlelh hrdlh hT4 hfl hTT hrsl hlhc hcl hNl hu htot hn p7 p2;omega))):=by rw[Yaj (by (clear hszL hA4 hvtot hwllh hwlrd hwllo hsA hasl hrdl hsz hsle hvl hv hlord hlolh hiL ht hhl hlerd hlelh hrdlh hT4 hfl hTT hrsl hlhc hcl hNl hu htot hn p7 p2;omega)),Yab]
       have hhid:hs[id]?=some (aL[j]'(by (clear hszL hA4 hvtot hwllh hwlrd hwllo hsA hasl hrdl hsz hsle hvl hv hlord hlolh hiL ht hhl hlerd hlelh hrdlh hT4 hfl hTT hrsl hlhc hcl hNl hu htot hn p7 p2;omega))):=hcor.2 j id _ (by rw[Yaj (by (clear hszL hA4 hvtot hwllh hwlrd hwllo hsA hasl hrdl hsz hsle hvl hv hlord hlolh ht hhl hlerd hlelh hrdlh hT4 hfl hTT hrsl hlhc hcl hNl hu htot hn p7 p2;omega))];exact hid) haj;generalize (aL[j]'(by (clear hszL hA4 hvtot hwllh hwlrd hwllo hsA hasl hrdl hsz hsle hvl hv hlord hlolh hiL ht hhl hlerd hlelh hrdlh hT4 hfl hTT hrsl hlhc hcl hNl hu htot hn p7 p2;omega)))=a at haj hhid;obtain⟨Rw,hRw,as,b1,b2,b3⟩:=hRSj.at haj;have hRw':Rw=L[j]'(by (clear hszL hA4 hvtot hwllh hwlrd hwllo hsA hasl hrdl hsz hsle hvl hv hlord hlolh hiL ht hhl hlerd hlelh hrdlh hT4 hfl hTT hrsl hlhc hcl hNl hu htot hn p7 p2;omega)):=by
        rw[Yaj (by simp;(clear hszL hA4 hvtot hwllh hwlrd hwllo hsA hasl hrdl hsz hsle hvl hv hlord hlolh hiL ht hhl hlerd hlelh hrdlh hT4 hfl hTT hrsl hlhc hcl hNl hu htot hn p7 p2;omega)),ZkV _ _ _ (by (clear hszL hA4 hvtot hwllh hwlrd hwllo hsA hasl hrdl hsz hsle hvl hv hlord hlolh hiL ht hhl hlerd hlelh hrdlh hT4 hfl hTT hrsl hlhc hcl hNl hu htot hn p7 p2;omega))] at hRw;exact (Yay hRw).symm
       have hRne:Rw≠[]:=by
        intro z;have h1:=hllen j hj;rw[<- hRw',z] at h1;simp at h1
        (clear hszL hA4 hvtot hwllh hwlrd hwllo hasl hrdl hsz hsle hvl hv hlord hlolh hiL ht hhl hlerd hlelh hrdlh hT4 hfl hTT hrsl hlhc hcl hNl hu htot hn p7 p2;omega)
       obtain⟨bs,r,rfl,c1,c2⟩:=b2.pop hRne;have hra:r≠a:=fun z=>(b3 r (by simp)).1 (z ▸ Yah haj)
       have hrwl:r≠wl:=fun z=>(b3 r (by simp)).2 (by simp[z])
       have hawl:a≠wl:=fun z=>hRSj.2.2.1 a (Yah haj) (by simp[z]);have halo:a≠lo:=fun z=>hRSj.2.2.1 a (Yah haj) (by simp[z]);have halh:a≠lh:=fun z=>hRSj.2.2.1 a (Yah haj) (by simp[z]);have hard:a≠rd:=fun z=>hRSj.2.2.1 a (Yah haj) (by simp[z]);refine⟨_,rfl,.inl ⟨rfl,_,SqL.of hwlj⟩,?_⟩;refine⟨_,rfl,_,rfl,lh,_,_,.ref a,rfl,rfl,SqL.of hlhj,?_,.inl ⟨rfl,_,SqL.of b1⟩,a,_,.ref r,rfl,rfl,b1,?_,?_⟩
       ·refine ZaP ?_;rw[Yaf,hhid];rfl
       ·simp
       rw[show ((bs++[r]).map V.ref).dropLast=bs.map V.ref by simp];have hRS1:=hRSj.put (as:=bs) (Rw:=Rw.dropLast) haj c1 (fun x hx=>b3 x (by simp[hx]));have eset:((L.take j).map YbA++L.drop j++[o]).set j Rw.dropLast=(L.take (j+1)).map YbA++L.drop (j+1)++[o]:=by
        rw[YeI _ _ (by simp;(clear hard halh halo hawl hrwl hra hszL hA4 hvtot hwllh hwlrd hwllo hsA hasl hrdl hsz hsle hvl hv hlord hlolh hiL ht hhl hlerd hlelh hrdlh hT4 hfl hTT hrsl hlhc hcl hNl hu htot hn p7 p2;omega)),hRw',ZjP _ _ _ (by (clear hard halh halo hawl hrwl hra hszL hA4 hvtot hwllh hwlrd hwllo hsA hasl hrdl hsz hsle hvl hv hlord hlolh hiL ht hhl hlerd hlelh hrdlh hT4 hfl hTT hrsl hlhc hcl hNl hu htot hn p7 p2;omega))]
       rw[eset] at hRS1;have hwl1:(upd Hj a (.lst (bs.map V.ref))) wl=some (.lst ((((L.take j).map Za3).flatten).map V.int)):=by rw[upd_ne (YaX hawl)];exact hwlj
       have hr1:(upd Hj a (.lst (bs.map V.ref))) r=some (.lst ((Za3 Rw).map V.int)):=by rw[upd_ne hra];exact c2
       have hlo1:(upd Hj a (.lst (bs.map V.ref))) lo=some (.lst ((iL.map fun (i:Nat)=>(i:Int)).map V.int)):=by rw[upd_ne (YaX halo)];exact hloj
       have hlh1:(upd Hj a (.lst (bs.map V.ref))) lh=some (.lst (hs.map V.ref)):=by rw[upd_ne (YaX halh)];exact hlhj
       have hrd1:(upd Hj a (.lst (bs.map V.ref))) rd=some (.lst (rdl.map V.int)):=by rw[upd_ne (YaX hard)];exact hrdj
       have s1:Same H (upd Hj a (.lst (bs.map V.ref))):=sj.put (harH a (Yah haj));generalize (upd Hj a (.lst (bs.map V.ref)))=Hk at hRS1 hwl1 hr1 hlo1 hlh1 hrd1 s1 ⊢;have ew:((L.take (j+1)).map Za3).flatten=((L.take j).map Za3).flatten++Za3 Rw:=by
        rw[Ya4 (by (clear hard halh halo hawl hrwl hra hszL hA4 hvtot hwllh hwlrd hwllo hsA hasl hrdl hsz hsle hvl hv hlord hlolh hiL ht hhl hlerd hlelh hrdlh hT4 hfl hTT hrsl hlhc hcl hNl hu htot hn p7 p2;omega)),YaB,Ybc,hRw'];simp
       have hwz:=Zhj (L:=L) (j:=j+1);rw[ew,Yai] at hwz;refine⟨wl,r,_,_,rfl,rfl,hwl1,hr1,Ybi (Zed (by simp only[Yac];(clear hard halh halo hawl hrwl hra hA4 hvtot hwllh hwlrd hwllo hsA hasl hrdl hsz hsle hvl hv hlord hlolh hiL ht hhl hlerd hlelh hrdlh hT4 hfl hTT hrsl hlhc hcl hNl hu htot hn p7 p2;omega))),?_⟩;refine⟨_,rfl,?_,?_,?_,?_,?_,s1.put hwlH⟩
       ·rw[Zab,ew];simp
       ·exact hRS1.keep fun b o e hn=>by rw[upd_ne (fun z=>hn (by simp[z]))];exact e
       ·rw[upd_ne (YaX hwllo)];exact hlo1
       ·rw[upd_ne (YaX hwllh)];exact hlh1
       ·rw[upd_ne (YaX hwlrd)];exact hrd1
      rintro σ H11 ⟨o10,rfl,hwl11,hRS11,hlo11,hlh11,hrd11,s11⟩;rw[Yac,Yac,hiL,YaW (by (clear hszL hA4 hvtot hwllh hwlrd hwllo hsA hasl hrdl hsz hsle hvl hv hlord hlolh hiL ht hhl hlerd hlelh hrdlh hT4 hfl hTT hrsl hlhc hcl hNl hu htot hn p7 p2;omega)),Yeu (by (clear hszL hA4 hvtot hwllh hwlrd hwllo hsA hasl hrdl hsz hsle hvl hv hlord hlolh hiL ht hhl hlerd hlelh hrdlh hT4 hfl hTT hrsl hlhc hcl hNl hu htot hn p7 p2;omega)),Ybz] at hRS11;rw[Yac,Yac,hiL,YaW (by (clear hszL hA4 hvtot hwllh hwlrd hwllo hsA hasl hrdl hsz hsle hvl hv hlord hlolh hiL ht hhl hlerd hlelh hrdlh hT4 hfl hTT hrsl hlhc hcl hNl hu htot hn p7 p2;omega)),show (L.map Za3).flatten=wr L from rfl] at hwl11;have hwpl:=Zkw hplL;have hwz:(wr L).length<=4000:=by have:=Zh8 L;(clear hA4 hvtot hwllh hwlrd hwllo hsA hasl hrdl hsz hsle hvl hv hlord hlolh hiL ht hhl hlerd hlelh hrdlh hT4 hfl hTT hrsl hlhc hcl hNl hu htot hn p7 p2;omega)
      refine⟨_,rfl,wl,rfl,⟨_,SqL.of hwl11⟩,?_⟩;refine Za6 (xs:=(wr L).map V.int) (fun i σ Hi=>∃ o11:Option V,σ=[some (.int p),some (.int n),some (.ref lh),some (.int (TT:Int)),o4,some (.ref rd),some (.ref lo),some (.int ((io:Nat):Int)),some (.int (0+(t:Int))),some (.ref wl),o10,o11,none]/\Hi rd=some (.lst ((bump rdl ((wr L).take i)).map V.int))/\Sm rd H11 Hi)
       ⟨o11,rfl,hrd11,Sm.refl _ _⟩ (fun i σ Hi _ ⟨_,_,_,sm⟩=>SqL.of (sm wl _ hwl11 hwlrd)) ?_ ?_
      ·rintro i x σ Hi hx ⟨o11,rfl,hrdi,smi⟩;obtain⟨z,hz,rfl⟩:=Zbt hx;obtain⟨z0,z1⟩:=hwpl z (Yah hz);have hbl:(bump rdl ((wr L).take i)).length=TT:=by rw[ZfT,hrdl]
       refine⟨_,rfl,_,rfl,rd,_,_,_,rfl,rfl,SqL.of hrdi,Zh0 z0 (by (clear z0 hwz hszL hA4 hvtot hwllh hwlrd hwllo hsA hasl hrdl hsz hsle hvl hv hlord hlolh hiL ht hhl hlerd hlelh hrdlh hT4 hfl hTT hrsl hlhc hcl hNl hu htot hn p7 p2;omega)),_,1,rfl,rfl,?_⟩;refine⟨_,rfl,_,rfl,rd,_,z,z.toNat,rfl,rfl,hrdi,by rw[Yac];exact ZfM z0 (by (clear z0 hwz hszL hA4 hvtot hwllh hwlrd hwllo hsA hasl hrdl hsz hsle hvl hv hlord hlolh hiL ht hhl hlerd hlelh hrdlh hT4 hfl hTT hrsl hlhc hcl hNl hu htot hn p7 p2;omega)),?_⟩;refine⟨_,rfl,?_,smi.trans Sm.put⟩;rw[Zab,Ya9,hz,Ydo,ZhU,YeA]
      rintro σ H12 ⟨o11,rfl,hrd12,sm12⟩;rw[Yac,YaT] at hrd12;have hwl12:=sm12 wl _ hwl11 hwlrd;have hlo12:=sm12 lo _ hlo11 hlord;have hlh12:=sm12 lh _ hlh11 hrdlh;have hRS12:RS H12 [wl,lo,rd,lh] (aL++[ao]) (L.map YbA++[o]):=hRS11.keep fun b o e hn=>sm12 b o e (fun z=>hn (by simp[z]));have s12:Same H H12:=fun b o e=>sm12 b o (s11 b o e) (Zae e hrdH);have hao:(aL++[ao])[p]?=some ao:=by rw[Yak (by (clear hwz hszL hA4 hvtot hwllh hwlrd hwllo hsA hasl hrdl hsz hsle hvl hv hlord hlolh hiL ht hhl hlerd hlelh hrdlh hT4 hfl hTT hrsl hlhc hcl hNl hu htot hn p7 p2;omega)),haL,Yb6];rfl
      have hio:hs[io]?=some ao:=hcor.2 p io ao (by rw[Yak (by (clear hwz hszL hA4 hvtot hwllh hwlrd hwllo hsA hasl hrdl hsz hsle hvl hv hlord hlolh ht hhl hlerd hlelh hrdlh hT4 hfl hTT hrsl hlhc hcl hNl hu htot hn p7 p2;omega)),hiL,Yb6];rfl) hao;obtain⟨Ro,hRo,aso,d1,d2,d3⟩:=hRS12.at hao;have hRo':Ro=o:=by
       rw[Yak (by simp;(clear hwz hszL hA4 hvtot hwllh hwlrd hwllo hsA hasl hrdl hsz hsle hvl hv hlord hlolh hiL ht hhl hlerd hlelh hrdlh hT4 hfl hTT hrsl hlhc hcl hNl hu htot hn p7 p2;omega))] at hRo;simp[hLL] at hRo;exact hRo.symm
      subst hRo';have hol:Ro.length=s:=by
       have h1:=congrArg (fun l=>l[p]?) hlen;unfold lenR PP at h1;simp only[Yaf] at h1;rw[Yak (by (clear hsz hwz hszL hA4 hvtot hwllh hwlrd hwllo hsA hasl hrdl hsle hvl hv hlord hlolh hiL ht hhl hlerd hlelh hrdlh hT4 hfl hTT hrsl hlhc hcl hNl hu htot hn p7 p2;omega)),Yak (by simp;(clear hsz hwz hszL hA4 hvtot hwllh hwlrd hwllo hsA hasl hrdl hsle hvl hv hlord hlolh hiL ht hhl hlerd hlelh hrdlh hT4 hfl hTT hrsl hlhc hcl hNl hu htot hn p7 p2;omega)),hLL,Yb6] at h1;simp[hrest] at h1
       (clear hsz hwz hszL hA4 hvtot hwllh hwlrd hwllo hsA hasl hrdl hvl hv hlord hlolh hiL ht hhl hlerd hlelh hrdlh hT4 hfl hTT hrsl hlhc hcl hNl hu htot hn p7 p2;omega)
      have haol:ao≠lo:=fun z=>hRS12.2.2.1 ao (by simp) (by simp[z]);have haoh:ao≠lh:=fun z=>hRS12.2.2.1 ao (by simp) (by simp[z]);have haor:ao≠rd:=fun z=>hRS12.2.2.1 ao (by simp) (by simp[z]);refine⟨_,rfl,_,rfl,lh,_,_,.ref ao,rfl,rfl,SqL.of hlh12,?_,.inl ⟨rfl,_,SqL.of d1⟩,_,rfl,ao,_,_,rfl,rfl,d1,?_,?_⟩
      ·refine ZaP ?_;rw[Yaf,hio];rfl
      ·rw[Yac,d2.1,hol];exact Zed (by (clear haor haoh haol hol hsz hwz hszL hvtot hwllh hwlrd hwllo hsA hasl hrdl hvl hv hlord hlolh hiL ht hhl hlerd hlelh hrdlh hT4 hfl hTT hrsl hlhc hcl hNl hu htot hn p7 p2;omega))
      have hwlarr:wl ∉ aL++[ao]:=fun z=>hRS12.2.2.1 wl z (by simp);have hput:=(hRS12.sub (av':=[lo,rd,lh]) (by simp)).put (as:=aso++[wl]) (Rw:=Ro++[wr L]) hao (d2.snoc hwl12) (fun x hx=>by
       rcases Yao.mp hx with hx | hx
       ·exact⟨(d3 x hx).1,fun z=>(d3 x hx).2 (Yan _ z)⟩
       ·have:x=wl:=by simpa using hx
        subst this;exact⟨hwlarr,by simp[hwllo,hwlrd,hwllh]⟩)
      have eset:(L.map YbA++[Ro]).set p (Ro++[wr L])=L.map YbA++[Ro++[wr L]]:=by
       rw[Ydg _ _ (by simp;(clear hwlarr haor haoh haol hol hsz hwz hszL hA4 hvtot hwllh hwlrd hwllo hsA hasl hrdl hsle hvl hv hlord hlolh hiL ht hhl hlerd hlelh hrdlh hT4 hfl hTT hrsl hlhc hcl hNl hu htot hn p7 p2;omega)),show p - (L.map YbA).length=0 by simp;(clear hwlarr haor haoh haol hol hsz hwz hszL hA4 hvtot hwllh hwlrd hwllo hsA hasl hrdl hsle hvl hv hlord hlolh hiL ht hhl hlerd hlelh hrdlh hT4 hfl hTT hrsl hlhc hcl hNl hu htot hn p7 p2;omega)];rfl
      rw[eset] at hput;rw[show aso.map V.ref++[V.ref wl]=(aso++[wl]).map V.ref by simp];refine⟨L.map YbA,Ro++[wr L],bump rdl (wr L),_,o10,o11,rfl,by simp[hLL],?_,hput,Zhf (w:=[]) hsA hlen,by rw[Zih];exact hsz,Zii hpl,?_,by rw[ZfT];exact hrdl,fun m hm=>?_,?_,s12.put (harH ao (by simp))⟩
      ·rw[upd_ne (YaX haol)];exact hlo12
      ·rw[upd_ne (YaX haor)];exact hrd12
      ·rw[Zi0 (by (clear hwlarr haor haoh haol hol hsz hwz hszL hA4 hvtot hwllh hwlrd hwllo hsA hasl hsle hvl hv hlord hlolh hiL ht hhl hlerd hlelh hrdlh hT4 hfl hTT hrsl hlhc hcl hNl hu htot hn p7 p2;omega)) (wr L) (fun x hx=>by rw[hrdl];exact hwpl x hx)];have h1:=hpot m hm;rw[ZgM hsA hlen] at h1
       (clear hm hwlarr haor haoh haol hol hsz hwz hszL hA4 hvtot hwllh hwlrd hwllo hsA hasl hrdl hsle hvl hv hlord hlolh hiL ht hhl hlerd hlelh hrdlh hT4 hfl hTT hrsl hlhc hcl hNl hu htot hn p7 p2;omega)
      ·rw[upd_ne (YaX haoh)];exact hlh12
     ·rw[decide_eq_false hsA];have es:s=A0.length:=by (clear hasl hrdl hsz hvl hv hlord hlolh hiL ht hhl hlerd hlelh hrdlh hT4 hfl hTT hrsl hlhc hcl hNl hu htot hn p7 p2;omega)
      subst es;exact iteF (hR _ _ ⟨L,o,rdl,o9,o10,o11,rfl,hLL,hlo9,hRS9,hlen,hsz,hpl,hrd9,hrdl,hpot,hlh9,s09⟩)
    ·rintro σ' Hx ⟨L,o,rdl,o9,o10,o11,rfl,hLL,hlo,hRS,hlen,hsz,hpl,hrdt,hrdl,hpot,hlhx,sHx⟩;rw[Zlx] at hlen hpot;obtain⟨iI,il,rfl⟩:∃ iI il,iL=iI++[il]:=by
      have hne:iL≠[]:=by intro z;rw[z] at hiL;simp at hiL;(clear hrdl hsz hLL hrest hvl hv hlord hlolh haL ht hhl hlerd hlelh hrdlh hT4 hfl hTT hrsl hlhc hcl hNl hu htot hn p7;omega)
      exact⟨_,_,(YbD hne).symm⟩
     obtain⟨aI,al,rfl⟩:∃ aI al,aL=aI++[al]:=by
      have hne:aL≠[]:=by intro z;rw[z] at haL;simp at haL;(clear hiL hrdl hsz hLL hrest hvl hv hlord hlolh ht hhl hlerd hlelh hrdlh hT4 hfl hTT hrsl hlhc hcl hNl hu htot hn p7;omega)
      exact⟨_,_,(YbD hne).symm⟩
     obtain⟨LI,Ll,rfl⟩:∃ LI Ll,L=LI++[Ll]:=by
      have hne:L≠[]:=by intro z;rw[z] at hLL;simp at hLL;(clear haL hiL hrdl hsz hrest hvl hv hlord hlolh ht hhl hlerd hlelh hrdlh hT4 hfl hTT hrsl hlhc hcl hNl hu htot hn p7;omega)
      exact⟨_,_,(YbD hne).symm⟩
     have hiI:iI.length+1=p:=by simpa using hiL
     have haI:aI.length+1=p:=by simpa using haL
     have hLI:LI.length+1=p:=by simpa using hLL
     refine⟨_,rfl,(by show 1<=sizeLine;decide),fun q1 f1=>?_⟩;have t1:Same Hx (upd Hx q1 (.lst [.int ((io:Nat):Int)])):=Same.new f1;refine⟨_,rfl,q1,lo,_,_,rfl,rfl,Zab,t1 lo _ hlo,?_,fun l2 f2=>?_⟩
     ·exact Ybi (Zas (by simp;(clear hLI haI hsz hLL haL hiL hrdl hrest hvl hv hlord hlolh ht hhl hlerd hlelh hrdlh hT4 hfl hTT hrsl hlhc hcl hNl hu htot hn p2;omega)))
     have t2:Same Hx (upd (upd Hx q1 (.lst [.int ((io:Nat):Int)])) l2 (.lst ([.int ((io:Nat):Int)]++((iI++[il]).map fun (i:Nat)=>(i:Int)).map V.int))):=t1.trans (Same.new f2);have hl2:(upd (upd Hx q1 (.lst [.int ((io:Nat):Int)])) l2 (.lst ([.int ((io:Nat):Int)]++((iI++[il]).map fun (i:Nat)=>(i:Int)).map V.int))) l2=some (.lst (((io::iI).map fun (i:Nat)=>(i:Int)).map V.int++[.int ((il:Nat):Int)])):=by
      rw[Zab];simp
     have hl2lh:l2≠lh:=YaX (Zae (t1 lh _ hlhx) f2);have hl2rd:l2≠rd:=YaX (Zae (t1 rd _ hrdt) f2);have hl2H:H l2=none:=(sHx.trans t1).free f2;have hRS2:RS (upd (upd Hx q1 (.lst [.int ((io:Nat):Int)])) l2 (.lst ([.int ((io:Nat):Int)]++((iI++[il]).map fun (i:Nat)=>(i:Int)).map V.int))) [l2,rd,lh] ((aI++[al])++[ao]) ((LI++[Ll])++[o]) :=
      (((hRS.sub (av':=[rd,lh]) (by simp)).keep fun b o e _=>t1 b o e).more f2).keep fun b o e _=>(Same.new f2) b o e
     generalize (upd (upd Hx q1 (.lst [.int ((io:Nat):Int)])) l2 (.lst ([.int ((io:Nat):Int)]++((iI++[il]).map fun (i:Nat)=>(i:Int)).map V.int)))=H2 at t2 hl2 hRS2 ⊢;refine⟨_,rfl,.inl ⟨rfl,_,SqL.of hl2⟩,l2,_,.int ((il:Nat):Int),rfl,rfl,hl2,?_,?_⟩
     ·rw[Yai,YbP,Ydx,Yak (Yas _),Yb6];rfl
     rw[Ydn];have hkp:∀ b o,H2 b=some o->b ∉ [l2,rd,lh]->(upd H2 l2 (.lst (((io::iI).map fun (i:Nat)=>(i:Int)).map V.int))) b=some o:=fun b o e hn=>by
      rw[upd_ne (fun z=>hn (by simp[z]))];exact e
     have hsw:=RS.swap (by rw[haL,hLL]) (hRS2.keep hkp);have hcr:=Cor.rot (by simp;(clear hl2rd hl2lh hLI hsz hLL haL hiL hrdl hrest hvl hv hlord hlolh ht hhl hlerd hlelh hrdlh hT4 hfl hTT hrsl hlhc hcl hNl hu htot hn p7 p2;omega)) hcor;have e1:tnum p (n - (t+1))++[[]]=A0::(rest++[[]]):=by rw[show n - (t+1)=v by (clear hl2rd hl2lh hLI haI hiI hsz hLL haL hiL hrdl hrest hvl hlord hlolh ht hhl hlerd hlelh hrdlh hT4 hfl hTT hrsl hlhc hcl hNl hu htot hn p7 p2;omega),hAr];rfl
     refine⟨l2,io::iI,ao::aI,il,al,o::LI,Ll,rdl,_,o9,o10,o11,rfl,by simp;(clear hl2rd hl2lh hLI haI hsz hLL haL hiL hrdl hrest hvl hv hlord hlolh ht hhl hlerd hlelh hrdlh hT4 hfl hTT hrsl hlhc hcl hNl hu htot hn p7 p2;omega),by simp;(clear hl2rd hl2lh hLI hiI hsz hLL haL hiL hrdl hrest hvl hv hlord hlolh ht hhl hlerd hlelh hrdlh hT4 hfl hTT hrsl hlhc hcl hNl hu htot hn p7 p2;omega),by simp;(clear hl2rd hl2lh haI hiI hsz hLL haL hiL hrdl hrest hvl hv hlord hlolh ht hhl hlerd hlelh hrdlh hT4 hfl hTT hrsl hlhc hcl hNl hu htot hn p7 p2;omega),?_,Zab,?_,?_,?_,?_,?_,?_,hrdl,fun m hm=>?_,?_,(sHx.trans t2).put hl2H,hl2lh,hl2rd⟩
     ·simpa using hcr
     ·simpa using hsw
     ·intro b hb;refine harH b ?_;simp at hb ⊢;rcases hb with h | h | h <;> simp[h]
     ·rw[e1];unfold lenR at hlen ⊢;have hlen2:(LI++[Ll]).map Ybf++[o].map Ybf=(rest++[[]]).map Ybf++[A0].map Ybf:=by
       rw[<- YaB,<- YaB];exact hlen
      have h2:=YdX hlen2 (by simp;(clear hl2rd hl2lh haI hiI hsz hLL haL hiL hrdl hvl hv hlord hlolh ht hhl hlerd hlelh hrdlh hT4 hfl hTT hrsl hlhc hcl hNl hu htot hn p7 p2;omega));have h3:o.length=A0.length:=by simpa using h2.2
      show (o::LI++[Ll]).map Ybf=(A0::(rest++[[]])).map Ybf;rw[YbR,Yam,Yam,h2.1,h3]
     ·have:szR (o::LI++[Ll])=szR ((LI++[Ll])++[o]):=by
       rw[YbR,Zbm,ZcG (LI++[Ll]) [o],Zbm];simp[szR]
       (clear hl2rd hl2lh hLI haI hiI hsz hLL haL hiL hrdl hrest hvl hv hlord hlolh ht hhl hlerd hlelh hrdlh hT4 hfl hTT hrsl hlhc hcl hNl hu htot hn p7 p2;omega)
      rw[this];exact hsz
     ·intro r hr';refine hpl r ?_;simp at hr' ⊢;rcases hr' with h | h | h <;> simp[h]
     ·rw[upd_ne (YaX hl2rd)];exact t2 rd _ hrdt
     ·have h1:=hpot m hm;rw[e1];have e2:o::LI++[Ll]=o::(LI++[Ll]):=rfl;rw[e2,ZjO _ (by simp;(clear h1 hm hl2rd hl2lh haI hiI hsz hLL haL hiL hrdl hvl hv hlord hlolh ht hhl hlerd hlelh hrdlh hT4 hfl hTT hrsl hlhc hcl hNl hu htot hn p7 p2;omega))];exact h1
     ·rw[upd_ne (YaX hl2lh)];exact t2 lh _ hlhx
   ·rintro σ Hx ⟨lo,iL,aL,io,ao,L,o,rdl,o8,o9,o10,o11,rfl,hiL,haL,hLL,hcor,hlo,hRS,harH,hlen,hsz,hpl,hrdt,hrdl,hpot,hlht,sHt,hlolh,hlord⟩;rw[Yb6] at hpot;have hread:rdl=N.flatten:=by
     apply Ycu
     ·(clear hlord hlolh hsz hLL haL hiL hhl hlerd hlelh hrdlh hT4 hfl hrsl hlhc hcl hNl hu htot hn p7 p2;omega)
     ·intro m g1 g2;have h1:=hpot m (by (clear g2 hlord hlolh hsz hLL haL hiL hhl hlerd hlelh hrdlh hT4 hfl hTT hrsl hlhc hcl hNl hu htot hn p7 p2;omega));rw[Zcm _ _ _ _ _ (by rw[hLL,ZaT (by (clear h1 g2 g1 hlord hlolh hrdl hsz hLL haL hiL hhl hlerd hlelh hrdlh hT4 hfl hTT hrsl hlhc hcl hNl hu htot hn p7;omega))]),show tnum p 0=num0 p from rfl,Ziq] at h1;have e3:pot (m:Int) [o] [[]]=0:=by simp[pot,S]
      rw[e3] at h1;simp only[Yad,Yab g1,Yab g2,YeT] at h1
      (clear e3 hlord hlolh hrdl hsz hLL haL hiL hhl hlerd hlelh hrdlh hT4 hfl hTT hrsl hlhc hcl hNl hu htot hn p7 p2;omega)
    subst hread;refine⟨YaO _,fun fl efl=>?_⟩;have hflH:H fl=none:=sHt.free efl;have t1:Same Hx (upd Hx fl (.lst [])):=Same.new efl;have hfl1:(upd Hx fl (.lst [])) fl=some (.lst []):=Zab;generalize (upd Hx fl (.lst []))=H1 at t1 hfl1 ⊢;refine⟨_,rfl,_,rfl,p,n,rfl,p2,p7,hn,fun l3 H3 e3 hl3 s3'=>⟨l3,rfl,⟨_,SqL.of hl3⟩,?_⟩⟩;have hflc:l3≠fl:=YaX (Zae hfl1 e3);refine Za6 (xs:=(cnt p n).map V.int) (fun i σ Hi=>∃ (us:List Addr) (rd:Addr) (o4:Option V),σ=[some (.int p),some (.int n),some (.ref lh),some (.int (TT:Int)),o4,some (.ref rd),some (.ref lo),some (.int ((io:Nat):Int)),o8,o9,o10,o11,some (.ref fl)]/\Hi rd=some (.lst ((N.drop i).flatten.map V.int))/\Hi fl=some (.lst (us.map V.ref))/\fl ∉ us/\fl≠rd/\LLs Hi us (N.take i)/\(∀ x∈us,H x=none)/\Hi l3=some (.lst ((cnt p n).map V.int))/\Same H Hi)
     ⟨[],rd,o4,rfl,s3' rd _ (t1 rd _ hrdt),s3' fl _ hfl1,by simp,YaX (Zae hrdt efl),⟨rfl,fun j r xs a=>by simp at a⟩,(fun x hx=>by simp at hx),hl3,(sHt.trans t1).trans s3'⟩ (fun i σ Hi _ ⟨_,_,_,_,_,_,_,_,_,_,h,_⟩=>SqL.of h) ?_ ?_
    ·rintro i x σ Hi hx ⟨us,rd,o4,rfl,hrdi,hfli,hnin,hflrd,hus,husn,hl3i,si⟩;obtain⟨hi,rfl⟩:=hcnt i x hx;have husl:us.length<=7:=by have:=hus.1;rw[Yaz] at this;(clear hflrd hnin hflc hrdl hlord hlolh hsz hLL haL hiL hhl hlerd hlelh hrdlh hT4 hfl hTT hrsl hlhc hcl hu htot hn p2;omega)
     have ed:(N.drop i).flatten=N[i]++(N.drop (i+1)).flatten:=by
      rw[Yct hi,YaI]
     refine⟨_,rfl,.inl ⟨rfl,_,SqL.of hfli⟩,?_⟩;refine⟨_,rfl,_,rfl,_,rfl,rd,_,rfl,SqL.of hrdi,fun q1 f1=>?_⟩;rw[ZiU,ed,YaB,List.take_left' (by simp)];have u1:Same Hi (upd Hi q1 (.lst (N[i].map V.int))):=Same.new f1;have hq1fl:fl≠q1:=Zae hfli f1;have hq1H:H q1=none:=si.free f1;have hq11:(upd Hi q1 (.lst (N[i].map V.int))) q1=some (.lst (N[i].map V.int)):=Zab;have hq1us:q1 ∉ us:=Lv.LLs.none hus f1;generalize (upd Hi q1 (.lst (N[i].map V.int)))=Hj at u1 hq11 ⊢;refine⟨fl,_,_,rfl,rfl,u1 fl _ hfli,Zas (by rw[Yac];(clear hq1us hq1fl hflrd hnin hflc hrdl hlord hlolh hsz hLL haL hiL hhl hlerd hlelh hrdlh hT4 hfl hTT hrsl hlhc hcl hNl hu htot hn p7 p2;omega)),?_⟩;have hrdj:(upd Hj fl (.lst (us.map V.ref++[.ref q1]))) rd=some (.lst ((N.drop i).flatten.map V.int)):=by
      rw[upd_ne (YaX hflrd)];exact u1 rd _ hrdi
     refine⟨_,rfl,_,rfl,_,rfl,rd,_,rfl,SqL.of hrdj,fun q2 f2=>?_⟩;rw[ZiW,ed,YaB,List.drop_left' (by simp)];have hq2fl:fl≠q2:=Zae Zab f2;refine⟨us++[q1],q2,_,rfl,Zab,?_,by simp[hnin,hq1fl],hq2fl,?_,(fun x hx=>(Yao.mp hx).elim (husn x) fun z=>by rw[YaH.mp z];exact hq1H),?_,((si.trans u1).put hflH).trans (Same.new f2)⟩
     ·rw[upd_ne hq2fl,Zab];simp
     ·rw[Ya4 hi];refine LLs.same ?_ (Same.new f2);refine L2.LLs.snoc ((hus.same u1).lst hnin) ?_;rw[upd_ne (YaX hq1fl)];exact hq11
     ·refine (Same.new f2) l3 _ ?_;rw[upd_ne hflc];exact u1 l3 _ hl3i
    ·rintro σ Hi ⟨us,rd,o4,rfl,hrdi,hfli,hnin,hflrd,hus,husn,hl3i,si⟩;rw[Yac,hcl,YaT] at hus;exact⟨_,rfl,k fl us Hi hflH hfli (by rw[hN];exact hus) husn si⟩
end
end Fi56
namespace Lv
open PySem L2
abbrev TD:=Option (Bool × List Int)
def TV (Hb H:Hp) (v:V):TD->Prop
 | none=>v=.non
 | some d=>∃ q t:Addr,v=.ref q/\H q=some (.tup [.bl d.1,.ref t])/\H t=some (.lst (d.2.map V.int))/\Hb t=none
theorem TV.same {Hb H H':Hp}{v:V}{d:TD} (h:TV Hb H v d) (s:Same H H'):TV Hb H' v d:=by
 cases d with
 | none=>exact h
 | some d=>
  obtain⟨q,t,e,a,b,c⟩:=h;exact⟨q,t,e,s _ _ a,s _ _ b,c⟩
theorem TV.base {Hb Hc H:Hp}{v:V}{d:TD} (h:TV Hb H v d) (s:∀ a,Hb a=none->Hc a=none):TV Hc H v d:=by
 cases d with
 | none=>exact h
 | some d=>
  obtain⟨q,t,e,a,b,c⟩:=h;exact⟨q,t,e,a,b,s _ c⟩
def TVs (Hb H:Hp) (vs:List V) (ds:List TD):Prop:=vs.length=ds.length/\∀ (i:Nat) v d,vs[i]?=some v->ds[i]?=some d->TV Hb H v d
theorem TVs.same {Hb H H':Hp}{vs:List V}{ds:List TD} (h:TVs Hb H vs ds) (s:Same H H'):TVs Hb H' vs ds:=⟨h.1,fun i v d a b=>(h.2 i v d a b).same s⟩
theorem TVs.base {Hb Hc H:Hp}{vs:List V}{ds:List TD} (h:TVs Hb H vs ds) (s:∀ a,Hb a=none->Hc a=none):TVs Hc H vs ds:=⟨h.1,fun i v d a b=>(h.2 i v d a b).base s⟩
theorem TVs.nil (Hb H:Hp):TVs Hb H [] []:=⟨rfl,fun i v d a=>by simp at a⟩
theorem TVs.cons {Hb H:Hp}{v:V}{d:TD}{vs:List V}{ds:List TD} (h:TV Hb H v d) (t:TVs Hb H vs ds):TVs Hb H (v::vs) (d::ds):=by
 refine⟨by rw[YaR,YaR,t.1],fun i w e a b=>?_⟩
 cases i with
 | zero=>cases a;cases b;exact h
 | succ i=>exact t.2 i w e a b
theorem TVs.uncons {Hb H:Hp}{v:V}{d:TD}{vs:List V}{ds:List TD} (h:TVs Hb H (v::vs) (d::ds)):TV Hb H v d/\TVs Hb H vs ds :=
 ⟨h.2 0 v d rfl rfl,by have:=h.1;simpa using this,fun i w e a b=>h.2 (i+1) w e a b⟩
theorem TVs.take {Hb H:Hp}{vs:List V}{ds:List TD} (h:TVs Hb H vs ds) (m:Nat):TVs Hb H (vs.take m) (ds.take m):=by
 refine⟨by rw[Yaz,Yaz,h.1],fun i v d a b=>?_⟩;rw[YeY] at a b;split at a
 ·rename_i hi;rw[if_pos hi] at b;exact h.2 i v d a b
 ·cases a
theorem TVs.rev {Hb H:Hp}{vs:List V}{ds:List TD} (h:TVs Hb H vs ds):TVs Hb H vs.reverse ds.reverse:=by
 refine⟨by rw[Ybr,Ybr,h.1],fun i v d a b=>?_⟩;have hi:i<vs.length:=by
  have:=(Yaa.mp a).1
  rwa [Ybr] at this
 rw[Yci hi] at a;rw[Yci (by rw[<- h.1];exact hi),<- h.1] at b;exact h.2 _ v d a b
theorem TVs.app {Hb H:Hp}:∀ {vs ws:List V}{ds es:List TD},TVs Hb H vs ds->TVs Hb H ws es->TVs Hb H (vs++ws) (ds++es)
 | [],_,[],_,_,h=>h
 | [],_,_::_,_,h,_=>absurd h.1 (by simp)
 | _::_,_,[],_,h,_=>absurd h.1 (by simp)
 | v::vs,ws,d::ds,es,h,g=>TVs.cons h.uncons.1 (TVs.app h.uncons.2 g)
theorem TVs.at {Hb H:Hp}{vs:List V}{ds:List TD} (h:TVs Hb H vs ds) {i:Nat}{v:V} (a:vs[i]?=some v):∃ d,ds[i]?=some d/\TV Hb H v d:=by
 have hi:=(Yaa.mp a).1
 have hj:i<ds.length:=by rw[<- h.1];exact hi
 have e:ds[i]?=some ds[i]:=Yab hj;exact⟨_,e,h.2 i v _ a e⟩
def ZaF (ds:List TD):List (Bool × List Int):=ds.filterMap id
def tm (ds:List TD):TD:=match ZaF ds with
 | []=>none
 | d::r=>if d.1 then some (false,(srt ((d::r).map (·.2)).flatten).reverse) else some (true,srt ((d::r).map (·.2)).flatten)
def NoCl (ds:List TD):Prop:=¬ (true∈(ZaF ds).map (·.1)/\false∈(ZaF ds).map (·.1))
def tth (ds:List TD):Int:=((ZaF ds).map fun d=>(d.2.length:Int)).sum
def tkT (D:List (List TD)) (m i:Nat):List TD:=D.filterMap fun r=>(r.reverse.take m)[i]?
def phT (D:List (List TD)) (o m:Nat):List (List TD):=(D.map fun r=>r.take (r.length - m)).set o ((Yap m).map fun i=>tm (tkT D m i))
def rdT (D:List (List TD)) (m:Nat):List Int:=D.map fun r=>tth (r.reverse.take m)
abbrev RT:=Addr × Addr × (Bool × List Int)
def RTok (Hb H:Hp) (r:RT):Prop:=H r.1=some (.tup [.bl r.2.2.1,.ref r.2.1])/\H r.2.1=some (.lst (r.2.2.2.map V.int))/\Hb r.2.1=none
theorem RTok.same {Hb H H':Hp}{r:RT} (h:RTok Hb H r) (s:Same H H'):RTok Hb H' r:=⟨s _ _ h.1,s _ _ h.2.1,h.2.2⟩
def nonV:V->Option V
 | .non=>none
 | v=>some v
theorem TVs.reals {Hb H:Hp}:∀ {vs:List V}{ds:List TD},TVs Hb H vs ds->∃ rs:List RT,vs.filterMap nonV=rs.map (fun r=>V.ref r.1)/\rs.map (·.2.2)=ZaF ds/\∀ r∈rs,RTok Hb H r
 | [],[],_=>⟨[],rfl,rfl,fun r hr=>(nomatch hr)⟩
 | [],_::_,h=>absurd h.1 (by simp)
 | _::_,[],h=>absurd h.1 (by simp)
 | v::vs,d::ds,h=>by
  obtain⟨h1,h2⟩:=h.uncons;obtain⟨rs,a,b,c⟩:=h2.reals
  cases d with
  | none=>
   have:v=.non:=h1;subst this;refine⟨rs,?_,?_,c⟩
   ·rw[YaJ];exact a
   ·rw[b];rfl
  | some d=>
   obtain⟨q,t,rfl,e1,e2,e3⟩:=h1;refine⟨(q,t,d)::rs,?_,?_,fun r hr=>?_⟩
   ·rw[YaJ,Yam,<- a];rfl
   ·rw[Yam,b];rfl
   ·rcases Yav.mp hr with rfl | hr
    ·exact⟨e1,e2,e3⟩
    ·exact c r hr
theorem Zb9 {α β:Type} (g:α->Option β):∀ l:List α,(Yap l.length).filterMap (fun j=>l[j]?.bind g)=l.filterMap g
 | []=>rfl
 | x::l=>by
  have ih:=Zb9 g l;rw[YaR,Yes,YaJ,Ycc,YaJ];have e:((fun j=>(x::l)[j]?.bind g) ∘ Nat.succ)=fun j=>l[j]?.bind g:=by
   funext j
   simp
  rw[e,ih];simp
def Zjz:Sp:=fun vs H Q _=>∃ (l:Addr) (as:List Addr) (W:List (List V)) (i:Nat),vs=[.ref l,.int i]/\H l=some (.lst (as.map V.ref))/\as.length=W.length/\(∀ (j:Nat) a ws,as[j]?=some a->W[j]?=some ws->H a=some (.lst ws))/\as.length<=20/\∀ a H',H a=none->H' a=some (.lst (W.filterMap (·[i]?)))->Same H H'->Q (.ref a) H'
def ZjB:Sp:=fun vs H Q _=>∃ (l:Addr) (as:List Addr) (N:List (List Int)),vs=[.ref l]/\H l=some (.lst (as.map V.ref))/\LLs H as N/\N.length<=15000/\∀ H',Same H H'->Q (.int (N.map fun xs=>(xs.length:Int)).sum) H'
def ZgA:Sp:=fun vs H Q _=>∃ (v:V) (d:TD),vs=[v]/\TV (fun _=>none) H v d/\∀ v' H',TV H H' v' d->Same H H'->Q v' H'
def Zgy:Sp:=fun vs H Q _=>∃ (l:Addr) (ws:List V) (ds:List TD) (at_:Int),vs=[.ref l,.int at_]/\H l=some (.lst ws)/\TVs (fun _=>none) H ws ds/\ws.length<=20/\NoCl ds/\(((ZaF ds).map (·.2)).flatten).length<=15000/\∀ v H',TV H H' v (tm ds)->Same H H'->Q v H'
def ZjA:Sp:=fun vs H Q _=>∃ (l:Addr) (ws:List V) (ds:List TD),vs=[.ref l]/\H l=some (.lst ws)/\TVs (fun _=>none) H ws ds/\ws.length<=15000/\∀ H',Same H H'->Q (.int (tth ds)) H'
end Lv
namespace Lv
open PySem L2
def wT (g:List Int->Int):TD->Int
 | none=>0
 | some d=>g d.2
structure WT (h:TD->Int):Prop where
 non:h none=0
 tm:∀ ds,h (tm ds)=(ds.map h).sum
theorem Zd5 {g:List Int->Int} (hg:Adds g):∀ ds:List TD,(ds.map (wT g)).sum=g ((ZaF ds).map (·.2)).flatten
 | []=>hg.nil.symm
 | none::ds=>by
  have ih:=Zd5 hg ds;rw[Yam,YaD,ih];show 0+_=g ((ZaF ds).map (·.2)).flatten;rw[Ydl]
 | some d::ds=>by
  have ih:=Zd5 hg ds;rw[Yam,YaD,ih];show g d.2+g ((ZaF ds).map (·.2)).flatten=g (d.2++((ZaF ds).map (·.2)).flatten);rw[hg.app]
theorem Zkz {g:List Int->Int} (hg:Adds g) (hp:∀ a b:List Int,a.Perm b->g a=g b):WT (wT g):=⟨rfl,fun ds=>by
 rw[Zd5 hg];unfold tm
 cases e:ZaF ds with
 | nil=>exact hg.nil.symm
 | cons d r=>
  dsimp only;split
  ·exact hp _ _ ((YdA _).trans (Zbe _))
  ·exact hp _ _ (Zbe _)⟩
def gl58 (xs:List Int):Int:=(xs.length:Int)
theorem Zc1:Adds gl58:=⟨rfl,fun a b=>by unfold gl58;rw[Yai];omega⟩
def lenT:TD->Int:=wT gl58
theorem lenT_ok:WT lenT:=Zkz Zc1 fun a b h=>by unfold gl58;rw[h.length_eq]
def gc58 (x:Int) (xs:List Int):Int:=(xs.count x:Int)
theorem Zc4 (x:Int):Adds (gc58 x):=⟨rfl,fun a b=>by unfold gc58;rw[Ye6];omega⟩
theorem Zkn (x:Int):WT (wT (gc58 x)):=Zkz (Zc4 x) fun a b h=>by unfold gc58;rw[h.count_eq]
def dtT (h:TD->Int):List TD->List Int->Int
 | d::ds,n::ns=>n*h d+dtT h ds ns
 | _,_=>0
def ptT (h:TD->Int):List (List TD)->List (List Int)->Int
 | ds::D,ws::W=>dtT h ds ws+ptT h D W
 | _,_=>0
def ez:List Int->(Nat->Int)->Int
 | [],_=>0
 | n::ns,k=>n*k 0+ez ns fun j=>k (j+1)
theorem Zjm:∀ (ns:List Int) (h k:Nat->Int),ez ns (fun j=>h j+k j)=ez ns h+ez ns k
 | [],_,_=>rfl
 | n::ns,h,k=>by
  rw[ez,ez,ez,Zjm ns (fun j=>h (j+1)) fun j=>k (j+1),Int.mul_add];omega
theorem Zfb:∀ ns:List Int,ez ns (fun _=>0)=0
 | []=>rfl
 | n::ns=>by rw[ez,Zfb ns];omega
theorem ZdV:∀ (ns:List Int) (h k:Nat->Int),(∀ j,j<ns.length->h j=k j)->ez ns h=ez ns k
 | [],_,_,_=>rfl
 | n::ns,h,k,e=>by
  rw[ez,ez,e 0 (by simp),ZdV ns (fun j=>h (j+1)) (fun j=>k (j+1)) fun j hj=>e (j+1) (by simpa using hj)]
theorem ZhA {h:TD->Int} (h0:h none=0):∀ (ds:List TD) (ns:List Int),dtT h ds ns=ez ns fun j=>h (ds.getD j none)
 | [],ns=>by
  have e:(fun j:Nat=>h (([]:List TD).getD j none))=fun _=>(0:Int):=funext fun j=>by simpa using h0
  rw[e,Zfb];cases ns <;> rfl
 | d::ds,[]=>rfl
 | d::ds,n::ns=>by
  rw[dtT,ez,ZhA h0 ds ns];rfl
theorem colT {h:TD->Int} (h0:h none=0) (A:List Int):∀ T:List (List TD),(T.map fun r=>dtT h r A).sum=ez A fun j=>((T.filterMap (·[j]?)).map h).sum
 | []=>by
  have e:(fun j:Nat=>((([]:List (List TD)).filterMap (·[j]?)).map h).sum)=fun _=>(0:Int):=rfl;rw[e,Zfb];rfl
 | r::T=>by
  rw[Yam,YaD,colT h0 A T,ZhA h0,<- Zjm];refine ZdV A _ _ fun j _=>?_;rw[YaJ,Yad]
  cases r[j]? with
  | none=>show h none+_=_;rw[h0,Ydl]
  | some d=>show h d+_=_;rw[Yam,YaD]
theorem newT {h:TD->Int} (hh:WT h) (A:List Int) (T:List (List TD)):dtT h ((Yap A.length).map fun i=>tm (T.filterMap (·[i]?))) A=(T.map fun r=>dtT h r A).sum:=by
 rw[colT hh.non,ZhA hh.non];refine ZdV A _ _ fun j hj=>?_;rw[Yad,Yaf,YbB hj];exact hh.tm _
theorem Zhz (h:TD->Int):∀ (ds:List TD) (A:List Int),ds.length<=A.length->dtT h ds (A.map (·+1))=dtT h ds A+(ds.map h).sum
 | [],A,_=>by cases A <;> rfl
 | d::ds,[],z=>by simp at z
 | d::ds,n::ns,z=>by
  rw[Yam,dtT,dtT,Zhz h ds ns (by simpa using z),Yam,YaD,YeZ]
  (clear z;omega)
theorem Zfd (h:TD->Int):∀ (ds:List TD) (m:Nat),ds.length<=m->dtT h ds (Yal m 1)=(ds.map h).sum
 | [],m,_=>by cases m <;> rfl
 | d::ds,0,z=>by simp at z
 | d::ds,m+1,z=>by
  rw[YbL,dtT,Zfd h ds m (by simpa using z),Yam,YaD]
  (clear z;omega)
theorem Zfe (h:TD->Int):∀ {a b:List TD}{x y:List Int},a.length=x.length->dtT h (a++b) (x++y)=dtT h a x+dtT h b y
 | [],b,[],y,_=>by show dtT h b y=0+_;rw[Ydl]
 | [],_,_::_,_,z=>by simp at z
 | _::_,_,[],_,z=>by simp at z
 | d::a,b,n::x,y,z=>by
  rw[YbR,YbR,dtT,dtT,Zfe h (by simpa using z)]
  (clear z;omega)
theorem Zhy (h:TD->Int):∀ (a:List TD) (x:List Int),a.length=x.length->dtT h a.reverse x.reverse=dtT h a x
 | [],[],_=>rfl
 | [],_::_,z=>by simp at z
 | _::_,[],z=>by simp at z
 | d::a,n::x,z=>by
  have z':a.length=x.length:=by simpa using z
  rw[YbK,YbK,Zfe h (by rw[Ybr,Ybr];exact z'),Zhy h a x z',dtT,dtT];have e:dtT h [] []=0:=rfl;rw[e]
  (clear e z' z;omega)
def dirT (up:Bool) (xs:List Int):List Int:=if up then srt xs else (srt xs).reverse
def GdT (fl:Bool) (d:TD) (x:Int):Prop:=∀ e,d=some e->e.1=(evB x != fl)/\e.2=dirT e.1 e.2
def GdR (fl:Bool):List TD->List Int->Prop
 | [],[]=>True
 | d::ds,x::xs=>GdT fl d x/\GdR fl ds xs
 | _,_=>False
def GdD (fl:Bool):List (List TD)->List (List Int)->Prop
 | [],[]=>True
 | d::ds,x::xs=>GdR fl d x/\GdD fl ds xs
 | _,_=>False
theorem GdR.len {fl:Bool}:∀ {ds:List TD}{xs:List Int},GdR fl ds xs->ds.length=xs.length
 | [],[],_=>rfl
 | [],_::_,h=>h.elim
 | _::_,[],h=>h.elim
 | d::ds,x::xs,h=>by rw[YaR,YaR,GdR.len h.2]
theorem GdD.len {fl:Bool}:∀ {ds:List (List TD)}{xs:List (List Int)},GdD fl ds xs->ds.length=xs.length
 | [],[],_=>rfl
 | [],_::_,h=>h.elim
 | _::_,[],h=>h.elim
 | d::ds,x::xs,h=>by rw[YaR,YaR,GdD.len h.2]
theorem GdR.app {fl:Bool}:∀ {a b:List TD}{x y:List Int},GdR fl a x->GdR fl b y->GdR fl (a++b) (x++y)
 | [],_,[],_,_,k=>k
 | [],_,_::_,_,h,_=>h.elim
 | _::_,_,[],_,h,_=>h.elim
 | d::a,b,n::x,y,h,k=>⟨h.1,GdR.app h.2 k⟩
theorem GdR.rev {fl:Bool}:∀ {a:List TD}{x:List Int},GdR fl a x->GdR fl a.reverse x.reverse
 | [],[],_=>trivial
 | [],_::_,h=>h.elim
 | _::_,[],h=>h.elim
 | d::a,n::x,h=>by
  rw[YbK,YbK];exact GdR.app (GdR.rev h.2) ⟨h.1,trivial⟩
theorem GdR.split {fl:Bool}:∀ {ds:List TD}{x y:List Int},GdR fl ds (x++y)->∃ c t,ds=c++t/\GdR fl c x/\GdR fl t y
 | ds,[],y,h=>⟨[],ds,rfl,trivial,h⟩
 | [],x::xs,y,h=>h.elim
 | d::ds,x::xs,y,h=>by
  obtain⟨c,t,rfl,a,b⟩:=GdR.split (x:=xs) (y:=y) h.2;exact⟨d::c,t,rfl,⟨h.1,a⟩,b⟩
theorem GdR.at {fl:Bool}:∀ {ds:List TD}{xs:List Int},GdR fl ds xs->∀ {i:Nat}{d:TD},ds[i]?=some d->∃ x,xs[i]?=some x/\GdT fl d x
 | [],[],_,i,d,e=>by simp at e
 | [],_::_,h,_,_,_=>h.elim
 | _::_,[],h,_,_,_=>h.elim
 | d::ds,x::xs,h,0,e,z=>by cases z;exact⟨x,rfl,h.1⟩
 | d::ds,x::xs,h,i+1,e,z=>GdR.at h.2 (i:=i) (by simpa using z)
theorem GdR.of {fl:Bool}:∀ {ds:List TD}{xs:List Int},ds.length=xs.length->(∀ (i:Nat) d x,ds[i]?=some d->xs[i]?=some x->GdT fl d x)->GdR fl ds xs
 | [],[],_,_=>trivial
 | [],_::_,z,_=>by simp at z
 | _::_,[],z,_=>by simp at z
 | d::ds,x::xs,z,h=>⟨h 0 d x rfl rfl,GdR.of (by simpa using z) fun i e y a b=>h (i+1) e y (by simpa using a) (by simpa using b)⟩
theorem GdD.at {fl:Bool}:∀ {ds:List (List TD)}{xs:List (List Int)},GdD fl ds xs->∀ {i:Nat}{d:List TD},ds[i]?=some d->∃ x,xs[i]?=some x/\GdR fl d x
 | [],[],_,i,d,e=>by simp at e
 | [],_::_,h,_,_,_=>h.elim
 | _::_,[],h,_,_,_=>h.elim
 | d::ds,x::xs,h,0,e,z=>by cases z;exact⟨x,rfl,h.1⟩
 | d::ds,x::xs,h,i+1,e,z=>GdD.at h.2 (i:=i) (by simpa using z)
theorem GdD.set {fl:Bool}:∀ {D:List (List TD)}{W:List (List Int)} (i:Nat) {ds:List TD}{ws:List Int},GdD fl D W->GdR fl ds ws->GdD fl (D.set i ds) (W.set i ws)
 | [],[],_,_,_,_,_=>trivial
 | [],_::_,_,_,_,h,_=>h.elim
 | _::_,[],_,_,_,h,_=>h.elim
 | d::D,w::W,0,_,_,h,k=>⟨k,h.2⟩
 | d::D,w::W,i+1,_,_,h,k=>⟨h.1,GdD.set i h.2 k⟩
theorem ZgK (h:TD->Int):∀ {D:List (List TD)}{W:List (List Int)}{i:Nat}{ds:List TD}{ws:List Int},D.length=W.length->D[i]?=some []->W[i]?=some []->ptT h (D.set i ds) (W.set i ws)=ptT h D W+dtT h ds ws
 | [],_,_,_,_,_,e,_=>by simp at e
 | _::_,[],_,_,_,z,_,_=>by simp at z
 | d::D,w::W,0,ds,ws,_,e,k=>by
  cases e;cases k;show dtT h ds ws+ptT h D W=0+ptT h D W+dtT h ds ws;omega
 | d::D,w::W,i+1,ds,ws,z,e,k=>by
  show dtT h d w+ptT h (D.set i ds) (W.set i ws)=dtT h d w+ptT h D W+dtT h ds ws;rw[ZgK h (by simpa using z) (by simpa using e) (by simpa using k)]
  (clear z;omega)
def cutT {α:Type} (f:Nat) (l:List α):List α:=l.take (l.length - f)
def Shp (A:List Int) (ws:List Int):Prop:=ws=[]∨∃ w,ws=w++(A.map (·+1)).reverse
theorem ZdY {α:Type}{f:Nat}:cutT f ([]:List α)=[]:=List.take_nil
theorem Zik {fl:Bool}{ds:List TD}{w A:List Int} (h:GdR fl ds (w++(A.map (·+1)).reverse)):GdR fl (cutT A.length ds) w/\GdR fl (ds.reverse.take A.length) (A.map (·+1))/\∀ hh:TD->Int,dtT hh ds (w++(A.map (·+1)).reverse)=dtT hh (cutT A.length ds) w+dtT hh (ds.reverse.take A.length) (A.map (·+1)):=by
 obtain⟨c,t,rfl,hc,ht⟩:=h.split;have l1:=hc.len;have l2:=ht.len;have l3:t.length=A.length:=by simpa using l2
 have e1:cutT A.length (c++t)=c:=by
  unfold cutT;rw[Yai,show c.length+t.length - A.length=c.length by (clear l2 l1;omega),Yc3]
 have e2:(c++t).reverse.take A.length=t.reverse:=by
  rw[YcA,<- l3,<- Ybr (as:=t),Yc3]
 rw[e1,e2];refine⟨hc,by have:=ht.rev;rwa [YeJ] at this,fun hh=>?_⟩;rw[Zfe hh l1,<- Zhy hh t ((A.map (·+1)).reverse) l2,YeJ]
theorem Zki {w A:List Int}:cutT A.length (w++(A.map (·+1)).reverse)=w:=by
 unfold cutT;rw[Yai,Ybr,Yac,Ydx,Yc3]
theorem Zeh {fl:Bool}{A:List Int}:∀ {D:List (List TD)}{W:List (List Int)},GdD fl D W->(∀ ws∈W,Shp A ws)->GdD fl (D.map (cutT A.length)) (W.map (cutT A.length))/\(∀ ds∈D,GdR fl (ds.reverse.take A.length) (A.map (·+1))∨ds=[])/\∀ h:TD->Int,ptT h D W=ptT h (D.map (cutT A.length)) (W.map (cutT A.length))+(D.map fun ds=>dtT h (ds.reverse.take A.length) (A.map (·+1))).sum
 | [],[],_,_=>⟨trivial,fun _ z=>by simp at z,fun h=>rfl⟩
 | [],_::_,h,_=>h.elim
 | _::_,[],h,_=>h.elim
 | d::D,w::W,g,s=>by
  obtain⟨i1,i2,i3⟩:=Zeh g.2 fun ws hw=>s ws (Yan _ hw);rcases s w Yaw with rfl | ⟨v,rfl⟩
  ·have hd:d=[]:=Ybu.mp g.1.len;subst hd;refine⟨⟨by rw[ZdY,ZdY];trivial,i1⟩,fun ds hds=>?_,fun h=>?_⟩
   ·rcases Yav.mp hds with rfl | z
    ·exact .inr rfl
    ·exact i2 ds z
   ·have e9:dtT h [] []=0:=rfl;have e:dtT h (([]:List TD).reverse.take A.length) (A.map (·+1))=0:=by rw[YcS,List.take_nil];cases A <;> rfl
    rw[Yam,Yam,Yam,YaD,ptT,ptT,ZdY,ZdY,e,e9,i3 h]
    (clear e e9;omega)
  ·obtain⟨j1,j2,j3⟩:=Zik g.1;refine⟨⟨by rw[Zki];exact j1,i1⟩,fun ds hds=>?_,fun h=>?_⟩
   ·rcases Yav.mp hds with rfl | z
    ·exact .inl j2
    ·exact i2 ds z
   ·rw[Yam,Yam,Yam,YaD,ptT,ptT,j3 h,Zki,i3 h];omega
theorem ZiR (x:Int):evB (x+1) = !evB x:=by
 unfold evB;by_cases h:x % 2=0
 ·rw[decide_eq_true h,decide_eq_false (by omega)];rfl
 ·rw[decide_eq_false h,decide_eq_true (by omega)];rfl
theorem Zfq (s:List Int):srt (srt s)=srt s:=(ZcI (YdH _) (Zec s)).symm
theorem Zgw (s:List Int):srt (srt s).reverse=srt s:=(ZcI (YdA _).symm (Zec s)).symm
theorem realT_mem {ds:List TD}{e:Bool × List Int}:e∈ZaF ds↔some e∈ds:=by
 unfold ZaF;rw[Ycb];exact⟨fun ⟨a,h,z⟩=>by cases z;exact h,fun h=>⟨_,h,rfl⟩⟩
theorem Zgq {fl:Bool}{x:Int}{ds:List TD} (h:∀ d∈ds,GdT fl d (x+1)):NoCl ds/\GdT fl (tm ds) x:=by
 have hr:∀ e∈ZaF ds,e.1=(evB (x+1) != fl):=fun e he=>(h _ (realT_mem.mp he) e rfl).1
 refine⟨fun ⟨a,b⟩=>?_,fun e z=>?_⟩
 ·obtain⟨e1,h1,z1⟩:=YaY.mp a;obtain⟨e2,h2,z2⟩:=YaY.mp b;have q1:=hr e1 h1;have q2:=hr e2 h2;rw[z1] at q1;rw[z2,<- q1] at q2;cases q2
 ·unfold tm at z
  cases q:ZaF ds with
  | nil=>rw[q] at z;cases z
  | cons d r=>
   have hd:=hr d (by rw[q];exact Yaw);rw[q] at z;dsimp only at z;rw[ZiR] at hd;split at z
   ·next u=>
    cases z;rw[u] at hd;refine⟨?_,?_⟩
    ·revert hd
     generalize evB x=q;cases q <;> cases fl <;> first | exact fun _=>rfl | exact fun z=>(nomatch z)
    ·show _=(srt (srt _).reverse).reverse;rw[Zgw]
   ·next u=>
    cases z;have u:d.1=false:=by simpa using u
    rw[u] at hd;refine⟨?_,?_⟩
    ·revert hd
     generalize evB x=q;cases q <;> cases fl <;> first | exact fun _=>rfl | exact fun z=>(nomatch z)
    ·show _=srt (srt _);rw[Zfq]
theorem ZiI {fl:Bool}{A:List Int}{D:List (List TD)} (h:∀ ds∈D,GdR fl (ds.reverse.take A.length) (A.map (·+1))∨ds=[]):(∀ i,i<A.length->NoCl (tkT D A.length i))/\GdR fl ((Yap A.length).map fun i=>tm (tkT D A.length i)) A:=by
 have key:∀ (i:Nat) x,A[i]?=some x->∀ d∈tkT D A.length i,GdT fl d (x+1):=fun i x hx d hd=>by
  unfold tkT at hd;obtain⟨ds,hds,e⟩:=Ycb.mp hd;rcases h ds hds with g | rfl
  ·obtain⟨y,hy,gy⟩:=g.at e;rw[Yaf,hx] at hy;cases hy;exact gy
  ·simp at e
 refine⟨fun i hi=>(Zgq (key i _ (Yab hi))).1,GdR.of (by simp) fun i d x hd hx=>?_⟩;have hi:=(Yaa.mp hx).1
 rw[Yaf,YbB hi] at hd;cases hd;exact (Zgq (key i x hx)).2
def Tm (p m:Nat):List (List Int):=tnum p m++[[]]
theorem Zcg {p:Nat} (hp:2<=p) (m:Nat):(Tm p m).length=p+1:=by rw[Tm,Yai,ZaT (by omega)];rfl
theorem Zks {p:Nat} (hp:2<=p) (k a:Nat) (ha:a<=p):∃ A r,tnum p k=A::r/\(∀ ws∈rot a (Tm p (k+1)),Shp A ws) /\
  (rot a (Tm p (k+1)))[p - a]?=some []/\((rot a (Tm p (k+1))).map (cutT A.length)).set (p - a) A=rot (if a=p then 0 else a+1) (Tm p k):=by
 have hpl:=ZaT (show 1<=p by (clear ha;omega)) k;obtain⟨A,r,e⟩:∃ A r,tnum p k=A::r:=by
  cases q:tnum p k with
  | nil=>rw[q] at hpl;simp at hpl;(clear ha;omega)
  | cons A r=>exact⟨A,r,rfl⟩
 have hr:r.length+1=p:=by rw[e] at hpl;simpa using hpl
 have e2:tnum p (k+1)=(r++[[]]).map (·++(A.map (·+1)).reverse):=by
  show Zem (tnum p k)=_;rw[e,<- YcU];rfl
 have hl:=Zcg hp (k+1);refine⟨A,r,e,fun ws hw=>?_,?_,?_⟩
 ·rw[ZgF,Tm,e2] at hw;rcases Yao.mp hw with hw | hw
  ·obtain⟨y,_,rfl⟩:=YaY.mp hw;exact .inr ⟨y,rfl⟩
  ·exact .inl (by simpa using hw)
 ·rw[ZjJ hl ha,Tm,Yak (by rw[ZaT (by (clear hl hr hpl ha;omega))];(clear hl hr hpl ha hp;omega)),ZaT (by (clear hl hr hpl ha;omega))];simp
 ·have hm:(Tm p (k+1)).map (cutT A.length)=r++[[],[]]:=by
   rw[Tm,e2,YaB,Ybw];have h1:(cutT A.length ∘ (·++(A.map (·+1)).reverse))=id:=funext fun y=>Zki;rw[h1,List.map_id];simp[cutT]
  rw[ZjI,hm];have hl2:(r++[([]:List Int),[]]).length=p+1:=by simp;(clear hl hpl ha hp;omega)
  rw[ZjH hl2 ha];have hs:(r++[([]:List Int),[]]).set p A=rot 1 (Tm p k):=by
   rw[Ydg _ _ (by (clear hl2 hl hpl ha hp;omega)),show p - r.length=1 by (clear hl2 hl hpl ha hp;omega),Tm,e];simp[rot]
  rw[hs];by_cases z:a=p
  ·rw[if_pos z,ZgG (by rw[Zcg hp];(clear z hl2 hl hr hpl hp;omega)),z,show p+1=(Tm p k).length from (Zcg hp k).symm,ZjK]
  ·rw[if_neg z,ZgG (by rw[Zcg hp];(clear z hl2 hl hr hpl hp;omega))]
theorem ZeS (D:List (List TD)) (m i:Nat):tkT D m i=(D.map fun r=>r.reverse.take m).filterMap (·[i]?):=by
 unfold tkT;rw[Ycc];rfl
theorem ph58 {p:Nat} (hp:2<=p) {k a:Nat} (ha:a<=p) {fl:Bool}{D:List (List TD)} (hG:GdD fl D (rot a (Tm p (k+1)))):∃ f:Nat,hd p k=f/\D[p - a]?=some []/\(∀ i,i<f->NoCl (tkT D f i)) /\
  GdD fl (phT D (p - a) f) (rot (if a=p then 0 else a+1) (Tm p k))/\∀ h:TD->Int,WT h->ptT h D (rot a (Tm p (k+1)))=ptT h (phT D (p - a) f) (rot (if a=p then 0 else a+1) (Tm p k))+(D.map fun ds=>((ds.reverse.take f).map h).sum).sum:=by
 obtain⟨A,r,ek,hS,h0,hn⟩:=Zks hp k a ha;have hx:hd p k=(A.length:Nat):=by
  unfold hd;rw[<- Za2 (show 1<=p by (clear ha;omega)),ek];rfl
 obtain⟨g1,g2,g3⟩:=Zeh hG hS;obtain⟨n1,n2⟩:=ZiI g2;have hl:=hG.len;have hll:(rot a (Tm p (k+1))).length=p+1:=by rw[Ze1,Zcg hp]
 have hDn:D[p - a]?=some []:=by
  have hi:p - a<D.length:=by (clear hx ha hp;omega)
  obtain⟨W,e1,e2⟩:=hG.at (Yab hi);rw[h0] at e1;cases e1;rw[Yab hi,Ybu.mp e2.len]
 refine⟨A.length,hx,hDn,n1,?_,fun h hh=>?_⟩
 ·rw[<- hn];exact GdD.set _ g1 n2
 ·rw[g3 h,<- hn];have e1:ptT h (phT D (p - a) A.length) (((rot a (Tm p (k+1))).map (cutT A.length)).set (p - a) A)=ptT h (D.map (cutT A.length)) ((rot a (Tm p (k+1))).map (cutT A.length))+dtT h ((Yap A.length).map fun i=>tm (tkT D A.length i)) A :=
   ZgK h (by rw[Yac,Yac,hl]) (by rw[Yaf,hDn];simp[cutT]) (by rw[Yaf,h0];simp[cutT])
  have e2:(fun i=>tm (tkT D A.length i))=fun i=>tm ((D.map fun r=>r.reverse.take A.length).filterMap (·[i]?)):=funext fun i=>by rw[ZeS]
  have e3:=newT hh A (D.map fun r=>r.reverse.take A.length);rw[e1,e2,e3,Ybw];have e4:∀ E:List (List TD),(E.map fun ds=>dtT h (ds.reverse.take A.length) (A.map (·+1))).sum=(E.map ((fun r=>dtT h r A) ∘ fun r=>r.reverse.take A.length)).sum+(E.map fun ds=>((ds.reverse.take A.length).map h).sum).sum:=fun E=>by
   induction E with
   | nil=>rfl
   | cons d E ih=>
    rw[Yam,Yam,Yam,YaD,YaD,YaD,ih,Zhz h _ A (by rw[Yaz];(clear ih e3 e1 hll hl hx ha hp;omega))];show _=(dtT h (d.reverse.take A.length) A+_)+_
    (clear ih e3 e1 hll hl hx ha hp;omega)
  rw[e4]
  (clear e3 e1 hll hl hx ha hp;omega)
def totT (h:TD->Int) (D:List (List TD)):Int:=(D.map fun ds=>(ds.map h).sum).sum
theorem ZbX (h:TD->Int) (d:List TD) (E:List (List TD)):totT h (d::E)=(d.map h).sum+totT h E:=by
 unfold totT;rw[Yam,YaD]
theorem Zfn (h:TD->Int):∀ {D:List (List TD)}{i:Nat}{ds:List TD},D[i]?=some []->totT h (D.set i ds)=totT h D+(ds.map h).sum
 | [],_,_,e=>by simp at e
 | d::D,0,ds,e=>by
  cases e;show (ds.map h).sum+totT h D=0+totT h D+(ds.map h).sum;omega
 | d::D,i+1,ds,e=>by
  show (d.map h).sum+totT h (D.set i ds)=(d.map h).sum+totT h D+(ds.map h).sum;rw[Zfn h (by simpa using e)];omega
theorem Zkj (h:TD->Int) (m:Nat) (ds:List TD):(ds.map h).sum=((cutT m ds).map h).sum+((ds.reverse.take m).map h).sum:=by
 unfold cutT;have e:(ds.reverse.take m)=(ds.drop (ds.length - m)).reverse:=by
  rw[Ye4]
 rw[e,YcU,List.sum_reverse,<- YcE,<- YaB,YaQ]
theorem Zi6 {h:TD->Int} (hh:WT h) {D:List (List TD)}{o m:Nat} (ho:D[o]?=some []):totT h (phT D o m)=totT h D:=by
 have e1:totT h (phT D o m)=totT h (D.map (cutT m))+(((Yap m).map fun i=>tm (tkT D m i)).map h).sum:=Zfn h (by rw[Yaf,ho];simp[cutT]);have e2:(((Yap m).map fun i=>tm (tkT D m i)).map h).sum=(D.map fun ds=>((ds.reverse.take m).map h).sum).sum:=by
  rw[<- Zfd h _ m (by simp)];have e3:=newT hh (Yal m 1) (D.map fun r=>r.reverse.take m);rw[YbZ] at e3;have e4:(fun i=>tm (tkT D m i))=fun i=>tm ((D.map fun r=>r.reverse.take m).filterMap (·[i]?)):=funext fun i=>by rw[ZeS]
  rw[e4,e3,Ybw];congr 1;refine Ybe fun ds _=>?_;exact Zfd h _ m (by rw[Yaz];(clear e3 e1;omega))
 have e5:∀ E:List (List TD),totT h E=totT h (E.map (cutT m))+(E.map fun ds=>((ds.reverse.take m).map h).sum).sum:=fun E=>by
  induction E with
  | nil=>rfl
  | cons d E ih=>
   rw[Yam,Yam,YaD,ZbX,ZbX,ih,Zkj h m d]
   (clear ih e2 e1;omega)
 rw[e1,e2,e5 D]
def HasT (D:List (List TD)):Prop:=∃ ds∈D,∃ e,some e∈ds
theorem tm_some {ds:List TD}:(∃ e,tm ds=some e)↔∃ e,some e∈ds:=by
 unfold tm
 cases q:ZaF ds with
 | nil=>
  refine⟨fun ⟨e,z⟩=>(nomatch z),fun ⟨e,z⟩=>?_⟩;have:=realT_mem.mpr z;rw[q] at this;simp at this
 | cons d r=>
  refine⟨fun _=>⟨d,realT_mem.mp (by rw[q];exact Yaw)⟩,fun _=>?_⟩;dsimp only;split
  ·exact⟨_,rfl⟩
  ·exact⟨_,rfl⟩
theorem Zln {D:List (List TD)}{o m:Nat} (ho:D[o]?=some []):HasT (phT D o m)↔HasT D:=by
 have hi:=(Yaa.mp ho).1
 constructor
 ·rintro⟨ds,hds,e,he⟩;rcases Yd9 hds with z | rfl
  ·obtain⟨ds',h',rfl⟩:=YaY.mp z;exact⟨ds',h',e,Ybv he⟩
  ·obtain⟨i,_,z⟩:=YaY.mp he;obtain⟨e',h'⟩:=tm_some.mp ⟨e,z⟩;unfold tkT at h';obtain⟨r,hr,h2⟩:=Ycb.mp h';exact⟨r,hr,e',YbX.mp (Ybv (Yah h2))⟩
 ·rintro⟨ds,hds,e,he⟩;by_cases z:some e∈ds.reverse.take m
  ·obtain⟨i,hz⟩:=YaK z;have hm:i<m:=by
    have:=(Yaa.mp hz).1
    rw[Yaz] at this
    (clear hi;omega)
   obtain⟨e',h'⟩:=tm_some.mpr ⟨e,(show some e∈tkT D m i from Ycb.mpr ⟨ds,hds,hz⟩)⟩;refine⟨_,Yah (i:=o) (show (phT D o m)[o]?=some _ by unfold phT;rw[Ybk (by rw[Yac];exact hi)]),e',YaY.mpr ⟨i,Ybn.mpr hm,h'⟩⟩
  ·obtain⟨j,hj⟩:=YaK hds;have hne:j≠o:=fun q=>by rw[q,ho] at hj;cases hj;simp at he
   refine⟨ds.take (ds.length - m),Yah (i:=j) (show (phT D o m)[j]?=some _ by unfold phT;rw[Ya5 (YaX hne),Yaf,hj];rfl),e,?_⟩;rw[<- YaQ (ds.length - m) ds] at he;rcases Yao.mp he with he | he
   ·exact he
   ·rw[Ye4,YbX] at z;exact absurd he z
def plT:List (List TD)->List (Int × Int)->List (List TD)
 | D,[]=>D
 | D,(o,m)::r=>plT (phT D o.toNat m.toNat) r
def rdTP:List (List TD)->List Int->List (Int × Int)->List Int
 | _,rd,[]=>rd
 | D,rd,(o,m)::r=>rdTP (phT D o.toNat m.toNat) (YcO (·+·) rd (rdT D m.toNat)) r
def OkP:List (List TD)->List (Int × Int)->Prop
 | _,[]=>True
 | D,(o,m)::r=>(0<=o/\0<=m/\D[o.toNat]?=some []/\∀ i,i<m.toNat->NoCl (tkT D m.toNat i))/\OkP (phT D o.toNat m.toNat) r
theorem ZcS (D:List (List TD)) (o m:Nat):(phT D o m).length=D.length:=by unfold phT;rw[Yby,Yac]
theorem ZeQ (ds:List TD):tth ds=(ds.map lenT).sum:=by
 induction ds with
 | nil=>rfl
 | cons d ds ih=>
  rw[Yam,YaD,<- ih];unfold tth
  cases d with
  | none=>show _=0+_;rw[Ydl];rfl
  | some d=>rfl
theorem ZjL (D:List (List TD)) (m:Nat):(rdT D m).sum=(D.map fun ds=>((ds.reverse.take m).map lenT).sum).sum:=by
 unfold rdT;congr 1;exact Ybe fun ds _=>ZeQ _
theorem Zgu:∀ {a b:List Int},a.length=b.length->(YcO (·+·) a b).sum=a.sum+b.sum
 | [],[],_=>rfl
 | [],_::_,z=>by simp at z
 | _::_,[],z=>by simp at z
 | x::a,y::b,z=>by
  rw[List.zipWith_cons_cons,YaD,YaD,YaD,Zgu (by simpa using z)]
  (clear z;omega)
theorem ZfV {p:Nat}{h:TD->Int}:∀ {D:List (List TD)}{W:List (List Int)},(∀ ws∈W,∀ x∈ws,x=0)->ptT h D W=0
 | [],W,_=>by cases W <;> rfl
 | _::_,[],_=>rfl
 | d::D,w::W,z=>by
  rw[ptT,ZfV (p:=p) fun ws hw=>z ws (Yan _ hw),dz d w (z w Yaw)];rfl
where
 dz:∀ (d:List TD) (w:List Int),(∀ x∈w,x=0)->dtT h d w=0
  | [],w,_=>by cases w <;> rfl
  | _::_,[],_=>rfl
  | e::d,x::w,z=>by rw[dtT,dz d w fun y hy=>z y (Yan _ hy),z x Yaw];omega
theorem Zh2 {p a:Nat}:∀ ws∈rot a (Tm p 0),∀ x∈ws,x=0:=fun ws hw x hx=>by
 rw[ZgF,Tm] at hw;have e:tnum p 0=num0 p:=rfl;rw[e] at hw;rcases Yao.mp hw with h | h
 ·unfold num0 at h;rcases Yav.mp h with rfl | h
  ·simpa using hx
  ·have:=List.eq_of_mem_replicate h;rw[this] at hx;simp at hx
 ·have:ws=[]:=by simpa using h
  rw[this] at hx;simp at hx
theorem ZgP {p:Nat} (hp:2<=p) {fl:Bool}:∀ (m t:Nat) (D:List (List TD)),GdD fl D (rot (t % (p+1)) (Tm p m))->OkP D (phL p t m)/\GdD fl (plT D (phL p t m)) (rot ((t+m) % (p+1)) (Tm p 0)) /\
  (∀ rd:List Int,rd.length=D.length->(rdTP D rd (phL p t m)).sum=rd.sum+ptT lenT D (rot (t % (p+1)) (Tm p m)))/\(∀ h,WT h->totT h (plT D (phL p t m))=totT h D)/\(HasT (plT D (phL p t m))↔HasT D)
 | 0,t,D,h=>⟨trivial,h,fun rd _=>by rw[ZfV (p:=p) Zh2];simp[phL,rdTP],fun _ _=>rfl,Iff.rfl⟩
 | m+1,t,D,h=>by
  have ha:t % (p+1)<=p:=by have:=YdF t (show 0<p+1 by (clear hp;omega));(clear hp;omega)
  obtain⟨f,e1,hn,hc,hG,hpt⟩:=ph58 hp ha h;rw[<- Zfo] at hG hpt;obtain⟨i1,i2,i3,i4,i5⟩:=ZgP hp m (t+1) _ hG;have e2:(phO p t).toNat=p - t % (p+1):=by rw[ZgT,Ybh]
  have e3:(hd p m).toNat=f:=by rw[e1,Ybh]
  have eP:plT D (phL p t (m+1))=plT (phT D (p - t % (p+1)) f) (phL p (t+1) m):=by rw[phL,plT,e2,e3]
  have et:t+1+m=t+(m+1):=by (clear e3 e2 i5 e1 ha hp;omega)
  rw[et] at i2;rw[eP];refine⟨?_,i2,fun rd hrd=>?_,fun g hg=>(i4 g hg).trans (Zi6 hg hn),i5.trans (Zln hn)⟩
  ·rw[phL,OkP,e2,e3];exact⟨⟨by rw[ZgT];(clear et e3 e2 i5 e1 ha hp;omega),by rw[e1];(clear et e3 e2 i5 e1 ha hp;omega),hn,hc⟩,i1⟩
  ·rw[phL,rdTP,e2,e3,i3 _ (by rw[ZcS,YeO,rdT,Yac,hrd];(clear hrd et e3 e2 i5 e1 ha hp;omega)),Zgu (by rw[rdT,Yac,hrd]),ZjL,hpt lenT lenT_ok]
   (clear hrd et e3 e2 i5 e1 ha hp;omega)
theorem Zke {p:Nat} (hp:2<=p) {a:Nat}{fl:Bool}{D:List (List TD)} (hG:GdD fl D (rot a (Tm p 0))):∃ d,D.flatten=[d]/\GdT fl d 0:=by
 have hlen:∀ {D:List (List TD)}{W:List (List Int)},GdD fl D W->D.flatten.length=W.flatten.length:=fun {D}=>by
  induction D with
  | nil=>intro W h;cases W with
   | nil=>rfl
   | cons=>exact h.elim
  | cons d D ih=>intro W h;cases W with
   | nil=>exact h.elim
   | cons w W=>rw[YaI,YaI,Yai,Yai,ih h.2,h.1.len]
 have h2:(rot a (Tm p 0)).flatten.length=1:=by
  have h3:(Tm p 0).flatten.length=1:=by
   have e:tnum p 0=num0 p:=rfl;unfold Tm;rw[e];simp[num0,YcY]
  rw[<- YaQ a (Tm p 0),Ybc,Yai] at h3;unfold rot;rw[Ybc,Yai]
  (clear hp;omega)
 rw[<- hlen hG] at h2;obtain⟨d,e⟩:=Yde.mp h2;refine⟨d,e,?_⟩;have hm:d∈D.flatten:=by rw[e];exact Yc7 d
 obtain⟨ds,hds,hd⟩:=YcT.mp hm;obtain⟨i,hi⟩:=YaK hds;obtain⟨ws,hw,g⟩:=hG.at hi;obtain⟨j,hj⟩:=YaK hd;obtain⟨x,hx,gx⟩:=g.at hj;rw[Zh2 ws (Yah hw) x (Yah hx)] at gx;exact gx
def ZbJ (D:List (List TD)):List Int:=((ZaF D.flatten).map (·.2)).flatten
theorem Zdv {g:List Int->Int} (hg:Adds g):∀ D:List (List TD),totT (wT g) D=g (ZbJ D)
 | []=>hg.nil.symm
 | ds::D=>by
  have ih:=Zdv hg D;show (ds.map (wT g)).sum+totT (wT g) D=g (ZbJ (ds::D));rw[ih,Zd5 hg];unfold ZbJ ZaF;rw[YaI,YcP,YaB,Ybc,hg.app]
theorem ZlZ {p n:Nat} (hp:2<=p) {fl:Bool}{D:List (List TD)} (hG:GdD fl D (Tm p n)):OkP D (phL p 0 n)/\∃ d,(plT D (phL p 0 n)).flatten=[d]/\(∀ rd:List Int,rd.length=D.length->(rdTP D rd (phL p 0 n)).sum=rd.sum+ptT lenT D (Tm p n))/\(d=none↔¬ HasT D)/\∀ e,d=some e->e=(!fl,dirT (!fl) (ZbJ D)):=by
 have e0:∀ l:List (List Int),rot (0 % (p+1)) l=l:=fun l=>by rw[YdJ];simp[rot]
 obtain⟨i1,i2,i3,i4,i5⟩:=ZgP hp (fl:=fl) n 0 D (by rw[e0];exact hG);obtain⟨d,ed,gd⟩:=Zke hp i2;rw[e0] at i3;have hh:HasT (plT D (phL p 0 n))↔d≠none:=by
  constructor
  ·rintro⟨ds,hds,e,he⟩ z;have:some e∈(plT D (phL p 0 n)).flatten:=YcT.mpr ⟨ds,hds,he⟩;rw[ed,YaH,z] at this;cases this
  ·intro z
   cases d with
   | none=>exact absurd rfl z
   | some e=>
    have:some e∈(plT D (phL p 0 n)).flatten:=by rw[ed];exact Yc7 _
    obtain⟨ds,hds,he⟩:=YcT.mp this;exact⟨ds,hds,e,he⟩
 refine⟨i1,d,ed,i3,⟨fun z h=>hh.mp (i5.mpr h) z,fun z=>?_⟩,fun e he=>?_⟩
 ·cases d with
  | none=>rfl
  | some e=>exact absurd (i5.mp (hh.mpr (fun q=>by cases q))) z
 ·subst he;obtain⟨u,v⟩:=gd e rfl;have pm:e.2.Perm (ZbJ D):=by
   rw[List.perm_iff_count];intro x;have h1:=i4 _ (Zkn x);rw[Zdv (Zc4 x),Zdv (Zc4 x)] at h1;have h2:ZbJ (plT D (phL p 0 n))=e.2:=by unfold ZbJ;rw[ed];simp[ZaF]
   rw[h2] at h1;unfold gc58 at h1
   (clear hh i5 hp;omega)
  have u':e.1 = !fl:=by rw[u];cases fl <;> decide
  have sv:srt e.2=srt (ZbJ D):=ZcI ((Zbe _).trans pm) (Zec _);rw[u'] at v;refine YeS u' ?_;show e.2=dirT (!fl) (ZbJ D);rw[v];unfold dirT at v ⊢;have:∀ b:Bool,(if b=true then srt e.2 else (srt e.2).reverse)=if b=true then srt (ZbJ D) else (srt (ZbJ D)).reverse:=fun b=>by rw[sv]
  rw[<- v];rw[v,this]
end Lv
namespace Lv
open PySem L2
theorem Zcc {b:Bool}{K:Yae}{own:List Str}{js:List Nat}{g:TG}{te:TE}{σ:L2.St}{H1:Hp}{Q:VK}{a:Addr}{xs:List V} (Ph:Addr->Nat->Hp->V->Prop) (hq:SqB b K H1 a xs) (hlen:xs.length<=20000)
  (st1:∀ {acc i H H' y},Ph acc i H y->Same H H'->Ph acc i H' y) (st2:∀ {acc i H zs ys y},H acc=some (.lst zs)->Ph acc i H y->Ph acc i (upd H acc (.lst ys)) y)
  (hs:∀ acc,H1 acc=none->∀ (i:Nat) x,xs[i]?=some x->∀ H,Same H1 H->H acc≠none->∀ R:VK,(∀ y H',Same H H'->Ph acc i H' y->R y H')->g x (blkσ own js σ) H fun τ H4=>te τ H4 R)
  (hd:∀ acc ys H,H1 acc=none->H acc=some (.lst ys)->ys.length=xs.length->(∀ (i:Nat) y,ys[i]?=some y->Ph acc i H y)->Same H1 H->Q (.ref acc) H):ZaY own js g Zbw te σ (ItlB b K a) H1 Q:=by
 refine Zcb (b:=b) (K:=K) (a:=a) (xs:=xs) (fun acc i H=>∃ ys,H acc=some (.lst ys)/\ys.length=i/\(∀ (j:Nat) y,ys[j]?=some y->Ph acc j H y)/\Same H1 H) (fun acc h0=>⟨[],Zab,rfl,fun j y z=>by simp at z,Same.new h0⟩) (fun acc i H h0 _ z=>?_) ?_ ?_
 ·obtain⟨_,_,_,_,s⟩:=z;exact Same.sqB s hq
 ·rintro acc i x H h0 hx ⟨ys,hacc,hl,hP,s1⟩;have hi:=(Yaa.mp hx).1
  refine (cast ?_ (hs acc h0 i x hx H s1 (by rw[hacc];exact fun z=>nomatch z) (fun y H6=>∃ zs,H6 acc=some (.lst zs)/\zs.length<sizeLine/\(i+1<=xs.length/\∃ ys,upd H6 acc (.lst (zs++[y])) acc=some (.lst ys)/\ys.length=i+1/\(∀ (j:Nat) y',ys[j]?=some y'->Ph acc j (upd H6 acc (.lst (zs++[y]))) y')/\Same H1 (upd H6 acc (.lst (zs++[y]))))) fun y H6 s6 hy=>?_))
  ·unfold Zbw;simp only[if_true]
  ·have h6:=s6 _ _ hacc;refine⟨ys,h6,by rw[sizeLine_eq];omega,hi,_,Zab,by simp[hl],fun j y' hj=>?_,(s1.trans s6).put h0⟩;rcases Ybt j ys.length with z | z
   ·rw[Yaj z] at hj;exact st2 h6 (st1 (hP j y' hj) s6)
   ·rw[Yak z] at hj;obtain⟨h1,h2⟩:=Yaa.mp hj;have:j=i:=by simp at h1;(clear hi hlen;omega)
    subst this;have:y=y':=by simpa using h2
    subst this;exact st2 h6 hy
 ·rintro acc H h0 ⟨ys,hacc,hl,hP,s1⟩;exact hd acc ys H h0 hacc hl hP s1
theorem ZhK {own:List Str}{js:List Nat}{g:TG}{te:TE}{σ:L2.St}{H1:Hp}{Q:VK}{lo:Int}{n:Nat} (Ph:Addr->Nat->Hp->V->Prop) (hlen:n<=20000)
  (st1:∀ {acc i H H' y},Ph acc i H y->Same H H'->Ph acc i H' y) (st2:∀ {acc i H zs ys y},H acc=some (.lst zs)->Ph acc i H y->Ph acc i (upd H acc (.lst ys)) y)
  (hs:∀ acc,H1 acc=none->∀ (i:Nat),i<n->∀ H,Same H1 H->H acc≠none->∀ R:VK,(∀ y H',Same H H'->Ph acc i H' y->R y H')->g (.int (lo+i)) (blkσ own js σ) H fun τ H4=>te τ H4 R)
  (hd:∀ acc ys H,H1 acc=none->H acc=some (.lst ys)->ys.length=n->(∀ (i:Nat) y,ys[i]?=some y->Ph acc i H y)->Same H1 H->Q (.ref acc) H):ZaY own js g Zbw te σ (Itr lo n) H1 Q:=by
 refine ZbH (fun acc i H=>∃ ys,H acc=some (.lst ys)/\ys.length=i/\(∀ (j:Nat) y,ys[j]?=some y->Ph acc j H y)/\Same H1 H) (fun acc h0=>⟨[],Zab,rfl,fun j y z=>by simp at z,Same.new h0⟩) ?_ ?_
 ·rintro acc i H h0 hi ⟨ys,hacc,hl,hP,s1⟩;refine (cast ?_ (hs acc h0 i hi H s1 (by rw[hacc];exact fun z=>nomatch z) (fun y H6=>∃ zs,H6 acc=some (.lst zs)/\zs.length<sizeLine/\(i+1<=n/\∃ ys,upd H6 acc (.lst (zs++[y])) acc=some (.lst ys)/\ys.length=i+1/\(∀ (j:Nat) y',ys[j]?=some y'->Ph acc j (upd H6 acc (.lst (zs++[y]))) y')/\Same H1 (upd H6 acc (.lst (zs++[y]))))) fun y H6 s6 hy=>?_))
  ·unfold Zbw;simp only[if_true]
  ·have h6:=s6 _ _ hacc;refine⟨ys,h6,by rw[sizeLine_eq];omega,hi,_,Zab,by simp[hl],fun j y' hj=>?_,(s1.trans s6).put h0⟩;rcases Ybt j ys.length with z | z
   ·rw[Yaj z] at hj;exact st2 h6 (st1 (hP j y' hj) s6)
   ·rw[Yak z] at hj;obtain⟨h1,h2⟩:=Yaa.mp hj;have:j=i:=by simp at h1;(clear hi hlen;omega)
    subst this;have:y=y':=by simpa using h2
    subst this;exact st2 h6 hy
 ·rintro acc H h0 ⟨ys,hacc,hl,hP,s1⟩;exact hd acc ys H h0 hacc hl hP s1
theorem pick {P:Nat->Addr->Prop}:∀ {ys:List V},(∀ (i:Nat) y,ys[i]?=some y->∃ q,y=.ref q/\P i q)->∃ qs:List Addr,ys=qs.map V.ref/\∀ (i:Nat) q,qs[i]?=some q->P i q:=fun {ys}=>by
 induction ys generalizing P with
 | nil=>exact fun _=>⟨[],rfl,fun i q z=>by simp at z⟩
 | cons y ys ih=>
  intro h;obtain⟨q,rfl,hq⟩:=h 0 y rfl;obtain⟨qs,rfl,hqs⟩:=ih (P:=fun i=>P (i+1)) fun i z hz=>h (i+1) z (by simpa using hz);refine⟨q::qs,rfl,fun i r hr=>?_⟩
  cases i with
  | zero=>cases hr;exact hq
  | succ i=>exact hqs i r (by simpa using hr)
theorem ZlK {P:Nat->Addr->List V->Prop}:∀ {qs:List Addr},(∀ (i:Nat) q,qs[i]?=some q->∃ vs,P i q vs)->∃ Vs:List (List V),qs.length=Vs.length/\∀ (i:Nat) q vs,qs[i]?=some q->Vs[i]?=some vs->P i q vs:=fun {qs}=>by
 induction qs generalizing P with
 | nil=>exact fun _=>⟨[],rfl,fun i q vs z=>by simp at z⟩
 | cons q qs ih=>
  intro h;obtain⟨vs,hq⟩:=h 0 q rfl;obtain⟨Vs,hl,hqs⟩:=ih (P:=fun i=>P (i+1)) fun i z hz=>h (i+1) z (by simpa using hz);refine⟨vs::Vs,by rw[YaR,YaR,hl],fun i r ws hr hw=>?_⟩
  cases i with
  | zero=>cases hr;cases hw;exact hq
  | succ i=>exact hqs i r ws (by simpa using hr) (by simpa using hw)
def RL (H:Hp) (as:List Addr) (Vs:List (List V)):Prop:=as.length=Vs.length/\∀ (j:Nat) a vs,as[j]?=some a->Vs[j]?=some vs->H a=some (.lst vs)
theorem RL.same {H H':Hp}{as:List Addr}{Vs:List (List V)} (h:RL H as Vs) (s:Same H H'):RL H' as Vs:=⟨h.1,fun j a vs x y=>s _ _ (h.2 j a vs x y)⟩
theorem RL.off {H:Hp}{as:List Addr}{Vs:List (List V)}{a:Addr}{o:HO} (h:RL H as Vs) (n:∀ q∈as,q≠a):RL (upd H a o) as Vs:=⟨h.1,fun j q vs x y=>by rw[upd_ne (n q (Yah x))];exact h.2 j q vs x y⟩
theorem RL.set {H:Hp}{as:List Addr}{Vs:List (List V)}{o:Nat}{q:Addr}{vs:List V} (h:RL H as Vs) (e:H q=some (.lst vs)):RL H (as.set o q) (Vs.set o vs):=⟨by rw[Yby,Yby,h.1],fun j r ws x y=>by
 by_cases z:o=j
 ·subst z;have h1:=(Yaa.mp x).1
  rw[Yby] at h1;rw[Ybk h1] at x;rw[Ybk (by rw[<- h.1];exact h1)] at y;cases x;cases y;exact e
 ·rw[Ya5 z] at x y;exact h.2 j r ws x y⟩
theorem RL.at {H:Hp}{as:List Addr}{Vs:List (List V)} (h:RL H as Vs) {j:Nat}{a:Addr} (e:as[j]?=some a):∃ vs,Vs[j]?=some vs/\H a=some (.lst vs):=by
 have hi:=(Yaa.mp e).1
 have hj:j<Vs.length:=by rw[<- h.1];exact hi
 have e2:Vs[j]?=some Vs[j]:=Yab hj;exact⟨_,e2,h.2 j a _ e e2⟩
def TVD (Hb H:Hp) (Vs:List (List V)) (D:List (List TD)):Prop:=Vs.length=D.length/\∀ (j:Nat) vs ds,Vs[j]?=some vs->D[j]?=some ds->TVs Hb H vs ds
theorem TVD.same {Hb H H':Hp}{Vs:List (List V)}{D:List (List TD)} (h:TVD Hb H Vs D) (s:Same H H'):TVD Hb H' Vs D:=⟨h.1,fun j a vs x y=>(h.2 j a vs x y).same s⟩
theorem TVD.base {Hb Hc H:Hp}{Vs:List (List V)}{D:List (List TD)} (h:TVD Hb H Vs D) (s:∀ a,Hb a=none->Hc a=none):TVD Hc H Vs D:=⟨h.1,fun j a vs x y=>(h.2 j a vs x y).base s⟩
theorem TVD.at {Hb H:Hp}{Vs:List (List V)}{D:List (List TD)} (h:TVD Hb H Vs D) {j:Nat}{vs:List V} (e:Vs[j]?=some vs):∃ ds,D[j]?=some ds/\TVs Hb H vs ds:=by
 have hi:=(Yaa.mp e).1
 have hj:j<D.length:=by rw[<- h.1];exact hi
 have e2:D[j]?=some D[j]:=Yab hj;exact⟨_,e2,h.2 j vs _ e e2⟩
theorem TVD.map {Hb H:Hp}{Vs:List (List V)}{D:List (List TD)} (h:TVD Hb H Vs D) {f:List V->List V}{g:List TD->List TD} (k:∀ vs ds,TVs Hb H vs ds->TVs Hb H (f vs) (g ds)):TVD Hb H (Vs.map f) (D.map g):=⟨by rw[Yac,Yac,h.1],fun j vs ds x y=>by
 rw[Yaf] at x y
 cases e1:Vs[j]? with
 | none=>rw[e1] at x;cases x
 | some v=>
  cases e2:D[j]? with
  | none=>rw[e2] at y;cases y
  | some d=>
   rw[e1] at x;rw[e2] at y;cases x;cases y;exact k _ _ (h.2 j v d e1 e2)⟩
theorem TVD.set {Hb H:Hp}{Vs:List (List V)}{D:List (List TD)}{o:Nat}{vs:List V}{ds:List TD} (h:TVD Hb H Vs D) (e:TVs Hb H vs ds):TVD Hb H (Vs.set o vs) (D.set o ds):=⟨by rw[Yby,Yby,h.1],fun j r ws x y=>by
 by_cases z:o=j
 ·subst z;have h1:=(Yaa.mp x).1
  rw[Yby] at h1;rw[Ybk h1] at x;rw[Ybk (by rw[<- h.1];exact h1)] at y;cases x;cases y;exact e
 ·rw[Ya5 z] at x y;exact h.2 j r ws x y⟩
theorem TVD.uncons {Hb H:Hp}{vs:List V}{Vs:List (List V)}{ds:List TD}{D:List (List TD)} (h:TVD Hb H (vs::Vs) (ds::D)):TVs Hb H vs ds/\TVD Hb H Vs D :=
 ⟨h.2 0 vs ds rfl rfl,by have:=h.1;simpa using this,fun i w e a b=>h.2 (i+1) w e a b⟩
theorem TVD.col {Hb H:Hp} (i:Nat):∀ {Vs:List (List V)}{D:List (List TD)},TVD Hb H Vs D->TVs Hb H (Vs.filterMap (·[i]?)) (D.filterMap (·[i]?))
 | [],[],_=>TVs.nil _ _
 | [],_::_,h=>absurd h.1 (by simp)
 | _::_,[],h=>absurd h.1 (by simp)
 | vs::Vs,ds::D,h=>by
  obtain⟨h1,h2⟩:=h.uncons;have ih:=TVD.col i h2;rw[YaJ,YaJ];by_cases z:i<vs.length
  ·have z2:i<ds.length:=by rw[<- h1.1];exact z
   have e1:vs[i]?=some vs[i]:=Yab z;have e2:ds[i]?=some ds[i]:=Yab z2;rw[e1,e2];exact TVs.cons (h1.2 i _ _ e1 e2) ih
  ·have e1:vs[i]?=none:=Ybs (by omega);have e2:ds[i]?=none:=Ybs (by have:=h1.1;omega);rw[e1,e2];exact ih
theorem TVD.flat {Hb H:Hp}:∀ {Vs:List (List V)}{D:List (List TD)},TVD Hb H Vs D->TVs Hb H Vs.flatten D.flatten
 | [],[],_=>TVs.nil _ _
 | [],_::_,h=>absurd h.1 (by simp)
 | _::_,[],h=>absurd h.1 (by simp)
 | vs::Vs,ds::D,h=>by
  obtain⟨h1,h2⟩:=h.uncons;rw[YaI,YaI];exact h1.app h2.flat
theorem TV.put {Hb H:Hp}{v:V}{d:TD}{a:Addr}{zs:List V}{o:HO} (h:TV Hb H v d) (e:H a=some (.lst zs)) (x:Hb a≠none):TV Hb (upd H a o) v d:=by
 cases d with
 | none=>exact h
 | some d=>
  obtain⟨q,t,e1,e2,e3,e4⟩:=h;refine⟨q,t,e1,?_,?_,e4⟩
  ·rw[upd_ne (fun z=>by rw[z,e] at e2;cases e2)];exact e2
  ·rw[upd_ne (fun z=>x (by rw[<- z];exact e4))];exact e3
theorem TVs.put {Hb H:Hp}{vs:List V}{ds:List TD}{a:Addr}{zs:List V}{o:HO} (h:TVs Hb H vs ds) (e:H a=some (.lst zs)) (x:Hb a≠none):TVs Hb (upd H a o) vs ds:=⟨h.1,fun i v d y z=>(h.2 i v d y z).put e x⟩
theorem TVD.put {Hb H:Hp}{vs:List (List V)}{ds:List (List TD)}{a:Addr}{zs:List V}{o:HO} (h:TVD Hb H vs ds) (e:H a=some (.lst zs)) (x:Hb a≠none):TVD Hb (upd H a o) vs ds:=⟨h.1,fun i v d y z=>(h.2 i v d y z).put e x⟩
theorem Zbd {H:Hp}{a:Addr}{o:HO}:upd H a o a≠none:=by rw[Zab];exact fun z=>nomatch z
theorem ZdO {H H1:Hp}{a t:Addr}{o:HO} (s:Same H1 H) (h:H a≠none) (e:H t=none):upd H1 a o t=none:=by
 rw[upd_ne fun z=>h (by rw[<- z];exact e)];exact s.free e
theorem ZaE {H1:Hp}{a t:Addr}{o:HO} (e:upd H1 a o t=none):H1 t=none:=by
 by_cases z:t=a
 ·rw[z,Zab] at e;cases e
 ·rw[upd_ne z] at e;exact e
theorem TV.old {Hb H:Hp}{v:V}{d:TD}{a:Addr}{o:HO} (h:TV Hb H v d) (e:H a=none):TV (upd Hb a o) H v d:=by
 cases d with
 | none=>exact h
 | some d=>
  obtain⟨q,t,e1,e2,e3,e4⟩:=h;exact⟨q,t,e1,e2,e3,by rw[upd_ne fun z=>by rw[z,e] at e3;cases e3];exact e4⟩
theorem TVD.oldD {Hb H:Hp}{vs:List (List V)}{ds:List (List TD)}{a:Addr}{o:HO} (h:TVD Hb H vs ds) (e:H a=none):TVD (upd Hb a o) H vs ds:=⟨h.1,fun i v d y z=>⟨(h.2 i v d y z).1,fun j w c p q=>((h.2 i v d y z).2 j w c p q).old e⟩⟩
theorem Zdp {b:Bool}{K:Yae}{own:List Str}{js:List Nat}{g:TG}{te:TE}{σ:L2.St}{H1:Hp}{Q:VK}{a:Addr}{xs:List V} (F:Nat->List V) (hq:SqB b K H1 a xs) (hlen:xs.length<=20000)
  (hs:∀ (i:Nat) x,xs[i]?=some x->∀ H,Same H1 H->∀ R:VK,(∀ q H',H q=none->H' q=some (.lst (F i))->Same H H'->R (.ref q) H')->g x (blkσ own js σ) H fun τ H4=>te τ H4 R)
  (hd:∀ acc (qs:List Addr) H,H1 acc=none->H acc=some (.lst (qs.map V.ref))->qs.length=xs.length->(∀ (j:Nat) q,qs[j]?=some q->q≠acc/\H1 q=none/\H q=some (.lst (F j)))->Same H1 H->Q (.ref acc) H):ZaY own js g Zbw te σ (ItlB b K a) H1 Q:=by
 refine Zcc (fun acc i H y=>∃ q,y=.ref q/\q≠acc/\H1 q=none/\H q=some (.lst (F i))) hq hlen (fun h s=>?_) (fun e h=>?_) (fun acc h0 i x hx H s1 na R hR=>?_) fun acc ys H h0 ha hl hP s1=>?_
 ·obtain⟨q,e,n,f,z⟩:=h;exact⟨q,e,n,f,s _ _ z⟩
 ·obtain⟨q,e1,n,f,z⟩:=h;exact⟨q,e1,n,f,by rw[upd_ne n];exact z⟩
 ·exact hs i x hx H s1 R fun q H' hq hq2 s=>hR _ H' s ⟨q,rfl,fun z=>na (by rw[<- z];exact hq),s1.free hq,hq2⟩
 ·obtain⟨qs,rfl,hqs⟩:=pick hP;exact hd acc qs H h0 ha (by rw[<- hl,Yac]) hqs s1
theorem ZiY {b:Bool}{K:Yae}{own:List Str}{js:List Nat}{g:TG}{te:TE}{σ:L2.St}{H1:Hp}{Q:VK}{a:Addr}{xs:List V} (F:Nat->TD) (hq:SqB b K H1 a xs) (hlen:xs.length<=20000)
  (hs:∀ (i:Nat) x,xs[i]?=some x->∀ H,Same H1 H->∀ R:VK,(∀ y H',TV H H' y (F i)->Same H H'->R y H')->g x (blkσ own js σ) H fun τ H4=>te τ H4 R)
  (hd:∀ acc ys H,H1 acc=none->H acc=some (.lst ys)->TVs (upd H1 acc (.lst [])) H ys ((Yap xs.length).map F)->Same H1 H->Q (.ref acc) H):ZaY own js g Zbw te σ (ItlB b K a) H1 Q:=by
 refine Zcc (fun acc i H y=>TV (upd H1 acc (.lst [])) H y (F i)) hq hlen (fun h s=>h.same s) (fun e h=>h.put e Zbd) (fun acc h0 i x hx H s1 na R hR=>?_) fun acc ys H h0 ha hl hP s1=>?_
 ·exact hs i x hx H s1 R fun y H' h s=>hR _ H' s (h.base fun t ht=>ZdO s1 na ht)
 ·refine hd acc ys H h0 ha ⟨by simp[hl],fun i v d hv hd'=>?_⟩ s1;have hi:i<xs.length:=by rw[<- hl];exact (Yaa.mp hv).1
  rw[Yaf,YbB hi] at hd';cases hd';exact hP i v hv
theorem ZhJ {own:List Str}{js:List Nat}{g:TG}{te:TE}{σ:L2.St}{H1:Hp}{Q:VK}{lo:Int}{n:Nat} (F:Nat->TD) (hlen:n<=20000)
  (hs:∀ (i:Nat),i<n->∀ H,Same H1 H->∀ R:VK,(∀ y H',TV H H' y (F i)->Same H H'->R y H')->g (.int (lo+i)) (blkσ own js σ) H fun τ H4=>te τ H4 R)
  (hd:∀ acc ys H,H1 acc=none->H acc=some (.lst ys)->TVs (upd H1 acc (.lst [])) H ys ((Yap n).map F)->Same H1 H->Q (.ref acc) H):ZaY own js g Zbw te σ (Itr lo n) H1 Q:=by
 refine ZhK (fun acc i H y=>TV (upd H1 acc (.lst [])) H y (F i)) hlen (fun h s=>h.same s) (fun e h=>h.put e Zbd) (fun acc h0 i hx H s1 na R hR=>?_) fun acc ys H h0 ha hl hP s1=>?_
 ·exact hs i hx H s1 R fun y H' h s=>hR _ H' s (h.base fun t ht=>ZdO s1 na ht)
 ·refine hd acc ys H h0 ha ⟨by simp[hl],fun i v d hv hd'=>?_⟩ s1;have hi:i<n:=by rw[<- hl];exact (Yaa.mp hv).1
  rw[Yaf,YbB hi] at hd';cases hd';exact hP i v hv
theorem Zfh {b:Bool}{K:Yae}{own:List Str}{js:List Nat}{g:TG}{te:TE}{σ:L2.St}{H1:Hp}{Q:VK}{a:Addr}{xs:List V} (F:Nat->List TD) (hq:SqB b K H1 a xs) (hlen:xs.length<=20000)
  (hs:∀ (i:Nat) x,xs[i]?=some x->∀ H,Same H1 H->∀ R:VK,(∀ q ys H',H q=none->H' q=some (.lst ys)->TVs H H' ys (F i)->Same H H'->R (.ref q) H')->g x (blkσ own js σ) H fun τ H4=>te τ H4 R)
  (hd:∀ acc (qs:List Addr) (Vs:List (List V)) H,H1 acc=none->H acc=some (.lst (qs.map V.ref))->qs.length=xs.length->RL H qs Vs->(∀ q∈qs,q≠acc/\H1 q=none)->TVD (upd H1 acc (.lst [])) H Vs ((Yap xs.length).map F)->Same H1 H->Q (.ref acc) H):ZaY own js g Zbw te σ (ItlB b K a) H1 Q:=by
 refine Zcc (fun acc i H y=>∃ q,y=.ref q/\∃ ys,q≠acc/\H1 q=none/\H q=some (.lst ys)/\TVs (upd H1 acc (.lst [])) H ys (F i)) hq hlen (fun h s=>?_) (fun e h=>?_) (fun acc h0 i x hx H s1 na R hR=>?_) fun acc ys H h0 ha hl hP s1=>?_
 ·obtain⟨q,e,ys,n,f,z,t⟩:=h;exact⟨q,e,ys,n,f,s _ _ z,t.same s⟩
 ·obtain⟨q,e1,ys,n,f,z,t⟩:=h;exact⟨q,e1,ys,n,f,by rw[upd_ne n];exact z,t.put e Zbd⟩
 ·exact hs i x hx H s1 R fun q ys H' hq hq2 t s=>hR _ H' s ⟨q,rfl,ys,fun z=>na (by rw[<- z];exact hq),s1.free hq,hq2,t.base fun t ht=>ZdO s1 na ht⟩
 ·obtain⟨qs,rfl,hqs⟩:=pick hP;obtain⟨Vs,hVl,hVs⟩:=ZlK hqs;have hl':qs.length=xs.length:=by rw[<- hl,Yac]
  refine hd acc qs Vs H h0 ha hl' ⟨hVl,fun j q vs x y=>(hVs j q vs x y).2.2.1⟩ (fun q hq'=>?_) ⟨by simp[<- hVl,hl'],fun j vs ds x y=>?_⟩ s1
  ·obtain⟨j,hj⟩:=YaK hq';obtain⟨_,a1,a2,_⟩:=hqs j q hj;exact⟨a1,a2⟩
  ·have hi:j<xs.length:=by rw[<- hl',hVl];exact (Yaa.mp x).1
   rw[Yaf,YbB hi] at y;cases y;have hj:qs[j]?=some (qs[j]'(by (clear hVl hl hlen;omega))):=Yab (by (clear hVl hl hlen;omega));exact (hVs j _ vs hj x).2.2.2
theorem _root_.L2.pe_revK (K:Yae) {X:Cx}{e st:Expr}{te:TE}{ts:TO}{pos p2:Pos} (he:PE X e te) (hst:PO X (some st) ts) (hK:X.K=K:=by rfl):PE X (.Subscript e (.Slice none none (some st) p2) pos) (ZkF K te ts):=by subst hK;exact ZfB he hst
theorem Zey (xs:List V) (c:Nat):cutV xs none (some (c:Int))=xs.take c:=by
 unfold cutV;show (xs.drop 0).take (HT.sIx xs.length xs.length (some (c:Int)) - 0)=_;rw[HT.sIx_nat,Yc2,List.drop_zero];by_cases h:c<=xs.length
 ·rw[Yd6 h]
 ·rw[YdN (by omega),YaT,YaW (by omega)]
theorem ZiV (xs:List V) (m:Nat):cutV xs none (some (if (0:Int) > (xs.length:Int) - (m:Int) then 0 else (xs.length:Int) - (m:Int)))=cutT m xs:=by
 have e:(if (0:Int) > (xs.length:Int) - (m:Int) then 0 else (xs.length:Int) - (m:Int))=((xs.length - m:Nat):Int):=by
  split <;> omega
 rw[e,Zey];rfl
theorem Zgl {g:List Int->Int} (hg:∀ xs,0<=g xs):∀ d:TD,0<=wT g d
 | none=>Ycl _
 | some d=>hg _
theorem ZcX (d:TD):0<=lenT d:=Zgl (fun xs=>Int.natCast_nonneg _) d
theorem Zbx:∀ ds:List TD,0<=(ds.map lenT).sum
 | []=>Ycl _
 | d::ds=>by
  have h1:=Zbx ds;have h2:=ZcX d;rw[Yam,YaD];omega
theorem ZfJ:∀ {ds:List TD}{d:TD},d∈ds->lenT d<=(ds.map lenT).sum
 | [],d,h=>by simp at h
 | e::ds,d,h=>by
  rw[Yam,YaD];rcases Yav.mp h with rfl | h
  ·have:=Zbx ds;omega
  ·have:=ZfJ h;have:=ZcX e;omega
theorem Zez (m i:Nat):∀ D:List (List TD),((tkT D m i).map lenT).sum<=totT lenT D
 | []=>Ycl _
 | d::D=>by
  have ih:=Zez m i D;have h0:=Zbx d;rw[ZbX];unfold tkT at ih ⊢;rw[YaJ]
  cases e:(d.reverse.take m)[i]? with
  | none=>dsimp only;omega
  | some x=>
   dsimp only;rw[Yam,YaD];have:=ZfJ (YbX.mp (Ybv (Yah e)))
   (clear h0;omega)
theorem ZfQ {D:List (List TD)}{m:Nat} (h:totT lenT D<=15000) (i:Nat):(((ZaF (tkT D m i)).map (·.2)).flatten).length<=15000:=by
 have h1:=Zez m i D;unfold lenT at h1;rw[Zd5 Zc1] at h1;unfold lenT at h;have e:∀ xs:List Int,gl58 xs=(xs.length:Int):=fun _=>rfl;rw[e] at h1;omega
def spLW (K:Yae):Sp:=fun vs H Q _=>∃ (p n:Nat) (a:Addr),vs=[.int p,.ref a]/\2<=p/\p<=7/\SqT K H a ((cnt p n).map V.int)/\∀ H',Same H H'->Q (.int n) H'
def SzT (D:List (List TD)):Prop:=D.length<=20/\(∀ r∈D,r.length<=15000)/\totT lenT D<=15000
theorem ZdL:∀ (D:List (List TD)) (ps:List (Int × Int)) (o m:Int),plT D (ps++[(o,m)])=phT (plT D ps) o.toNat m.toNat
 | D,[],o,m=>rfl
 | D,(a,b)::ps,o,m=>ZdL (phT D a.toNat b.toNat) ps o m
theorem ZcM:∀ (D:List (List TD)) (rd:List Int) (ps:List (Int × Int)) (o m:Int),rdTP D rd (ps++[(o,m)])=YcO (·+·) (rdTP D rd ps) (rdT (plT D ps) m.toNat)
 | D,rd,[],o,m=>rfl
 | D,rd,(a,b)::ps,o,m=>ZcM (phT D a.toNat b.toNat) _ ps o m
theorem ZdM:∀ (D:List (List TD)) (ps:List (Int × Int)),(plT D ps).length=D.length
 | D,[]=>rfl
 | D,(a,b)::ps=>by rw[plT,ZdM,ZcS]
theorem ZcD:∀ (D:List (List TD)) (rd:List Int) (ps:List (Int × Int)),rd.length=D.length->(rdTP D rd ps).length=D.length
 | D,rd,[],h=>h
 | D,rd,(a,b)::ps,h=>by rw[rdTP,ZcD _ _ ps (by rw[ZcS,YeO,rdT,Yac,h];(clear h;omega)),ZcS]
theorem OkP.at:∀ {D:List (List TD)}{ps:List (Int × Int)}{i:Nat}{o m:Int},OkP D ps->ps[i]?=some (o,m)->0<=o/\0<=m/\(plT D (ps.take i))[o.toNat]?=some []/\∀ j,j<m.toNat->NoCl (tkT (plT D (ps.take i)) m.toNat j)
 | D,[],i,o,m,_,e=>by simp at e
 | D,(a,b)::ps,0,o,m,h,e=>by cases e;exact h.1
 | D,(a,b)::ps,i+1,o,m,h,e=>OkP.at (D:=phT D a.toNat b.toNat) h.2 (i:=i) (by simpa using e)
theorem SzT.ph {D:List (List TD)}{o m:Nat} (h:SzT D) (ho:D[o]?=some []) (hm:m<=15000):SzT (phT D o m):=by
 refine⟨by rw[ZcS];exact h.1,fun r hr=>?_,by rw[Zi6 lenT_ok ho];exact h.2.2⟩;rcases Yd9 hr with hr | rfl
 ·obtain⟨r',hr',rfl⟩:=YaY.mp hr;have:=h.2.1 r' hr';rw[Yaz]
  (clear hm;omega)
 ·simp;exact hm
theorem OkP.sz:∀ {D:List (List TD)}{ps:List (Int × Int)},OkP D ps->SzT D->(∀ q∈ps,q.2<=15000)->∀ i,SzT (plT D (ps.take i))
 | D,ps,_,h,_,0=>by rw[Ybj];exact h
 | D,[],_,h,_,i+1=>h
 | D,(a,b)::ps,ok,h,hb,i+1=>OkP.sz (D:=phT D a.toNat b.toNat) ok.2 (h.ph ok.1.2.2.1 (by have:b<=15000:=hb (a,b) Yaw;omega)) (fun q hq=>hb q (Yan _ hq)) i
theorem Zlm {p:Nat} (hp:2<=p) (n:Nat):hd p n<=tot p n:=by
 have:=Zdu hp n;have h1:tot p n<=tot p (n+1):=ZbW hp (Ydb n);exact Zja (ZbG p n).2
theorem ZcT {p:Nat} (hp:2<=p):∀ (m t:Nat),∀ q∈phL p t m,q.2<=tot p m
 | 0,t,q,h=>by simp[phL] at h
 | m+1,t,q,h=>by
  rw[phL] at h;have h1:tot p m<=tot p (m+1):=ZbW hp (Ydb m);rcases Yav.mp h with rfl | h
  ·have:=Zlm hp m;show hd p m<=_
   (clear hp;omega)
  ·have:=ZcT hp m (t+1) q h
   (clear hp;omega)
theorem ZfK:∀ {xs:List Int}{x:Int},(∀ y∈xs,0<=y)->x∈xs->x<=xs.sum
 | [],x,_,h=>by simp at h
 | y::xs,x,h0,h=>by
  have h1:0<=xs.sum:=nn fun z hz=>h0 z (Yan _ hz);have h2:=h0 y Yaw;rw[YaD];rcases Yav.mp h with rfl | h
  ·(clear h2;omega)
  ·have:=ZfK (fun z hz=>h0 z (Yan _ hz)) h
   (clear h1;omega)
where
 nn:∀ {ys:List Int},(∀ z∈ys,0<=z)->0<=ys.sum
  | [],_=>Ycl _
  | y::ys,h=>by
   have h1:=nn fun z hz=>h z (Yan _ hz);have h2:=h y Yaw;rw[YaD];omega
theorem Zbr {α:Type} (l:List α) (d:α):(Yap l.length).map (fun j=>l.getD j d)=l:=by
 refine Ycu (by simp) fun i h1 h2=>?_;rw[Ydc,YeX,Yad,Yab h2];rfl
theorem RL.snoc {H:Hp}{as:List Addr}{Vs:List (List V)}{q:Addr}{vs:List V} (h:RL H as Vs) (e:H q=some (.lst vs)):RL H (as++[q]) (Vs++[vs]):=⟨by simp[h.1],fun j a ws x y=>by
 by_cases z:j<as.length
 ·rw[Yaj z] at x;rw[Yaj (by rw[<- h.1];exact z)] at y;exact h.2 j a ws x y
 ·rw[Yak (by omega)] at x;rw[Yak (by rw[<- h.1];omega)] at y;have hj:=(Yaa.mp x).1
  have:j - as.length=0:=by simp at hj;(clear z;omega)
  rw[this] at x;rw[<- h.1,this] at y;cases x;cases y;exact e⟩
theorem TVD.snoc {Hb H:Hp}{Vs:List (List V)}{D:List (List TD)}{vs:List V}{ds:List TD} (h:TVD Hb H Vs D) (e:TVs Hb H vs ds):TVD Hb H (Vs++[vs]) (D++[ds]):=⟨by simp[h.1],fun j a ws x y=>by
 by_cases z:j<Vs.length
 ·rw[Yaj z] at x;rw[Yaj (by rw[<- h.1];exact z)] at y;exact h.2 j a ws x y
 ·rw[Yak (by omega)] at x;rw[Yak (by rw[<- h.1];omega)] at y;have hj:=(Yaa.mp x).1
  have:j - Vs.length=0:=by simp at hj;(clear z;omega)
  rw[this] at x;rw[<- h.1,this] at y;cases x;cases y;exact e⟩
theorem Zdo:∀ {i:Nat}{Ws:List (List V)},i<=Ws.length->(∀ (j:Nat) ws,Ws[j]?=some ws->ws.length<=15000)->((Ws.take i).flatten).length<=i*15000
 | 0,Ws,_,_=>by simp
 | i+1,[],h,_=>by simp at h
 | i+1,w::Ws,h,hb=>by
  have h1:=Zdo (i:=i) (Ws:=Ws) (by simpa using h) fun j ws e=>hb (j+1) ws (by simpa using e);have h2:=hb 0 w rfl;rw[List.take_succ_cons,YaI,Yai]
  (clear h;omega)
def ZjC:Sp:=fun vs H Q _=>∃ (Hb:Hp) (l q:Addr) (as:List Addr) (Vs:List (List V)) (D:List (List TD)) (o m:Nat) (g:Int),vs=[.ref l,.ref q,.int g]/\H l=some (.lst (as.map V.ref))/\RL H as Vs/\TVD Hb H Vs D/\(∀ a,H a=none->Hb a=none)/\H q=some (.tup [.int o,.int m])/\D[o]?=some []/\m<=15000/\SzT D/\(∀ i,i<m->NoCl (tkT D m i)) /\
 ∀ t b e bs Ws H',H' t=some (.tup [.ref b,.ref e])->H' b=some (.lst (bs.map V.ref))->RL H' bs Ws->TVD Hb H' Ws (phT D o m)->H' e=some (.lst ((rdT D m).map V.int))->H b=none->H e=none->Same H H'->Q (.ref t) H'
def RLb (b:Bool) (H:Hp) (as:List Addr) (Vs:List (List V)):Prop:=as.length=Vs.length/\∀ (j:Nat) a vs,as[j]?=some a->Vs[j]?=some vs->H a=some (if b then .lst vs else .tup vs)
theorem RLb.at {b:Bool}{H:Hp}{as:List Addr}{Vs:List (List V)} (h:RLb b H as Vs) {j:Nat}{a:Addr} (e:as[j]?=some a):∃ vs,Vs[j]?=some vs/\H a=some (if b then .lst vs else .tup vs):=by
 have hi:=(Yaa.mp e).1
 have hj:j<Vs.length:=by rw[<- h.1];exact hi
 have e2:Vs[j]?=some Vs[j]:=Yab hj;exact⟨_,e2,h.2 j a _ e e2⟩
def ZeV (K:Yae):Sp:=fun vs H Q _=>∃ (b:Bool) (p n:Nat) (l:Addr) (as:List Addr) (Vs:List (List V)) (D:List (List TD)) (d:TD) (r:List TD),vs=[.int p,.ref l]/\2<=p/\p<=7/\n<=300/\tot p n<=4000/\SqB b K H l (as.map V.ref)/\RLb b H as Vs/\TVD (fun _=>none) H Vs D/\D.map (fun r=>(r.length:Int))=cnt p n/\totT lenT D<=15000/\OkP (D++[[]]) (phL p 0 n)/\(plT (D++[[]]) (phL p 0 n)).flatten=d::r /\
 ∀ t e v H',H' t=some (.tup [v,.ref e])->TV (upd H e (.lst [])) H' v d->H' e=some (.lst ((rdTP (D++[[]]) (Yal (p+1) 0) (phL p 0 n)).map V.int))->H e=none->Same H H'->Q (.ref t) H'
end Lv
namespace L2
open PySem PySem.Spec PyProof.Rows PySem.SeqAt
def rNeD:R2:=fun x y H Q=>∃ d1 d2:PyData,RdN H x d1/\RdN H y d2/\d1.depth<=10/\d1.canLay0=true/\d2.canLay0=true/\Q (.bl (!PyData.eqv d1 d2)) H
theorem ZcY:∀ xs:List Int,YbS (xs.map Ybo)=true
 | []=>rfl
 | x::xs=>by
  rw[Yam,YbS,ZcY xs];rfl
theorem Zbj:∀ {xs:List PyData}{m:Nat},(∀ x∈xs,x.depth<=m)->Ybl xs<=m
 | [],_,_=>YaO _
 | x::xs,m,h=>by
  show max x.depth (Ybl xs)<=m;exact Nat.max_le.mpr ⟨h x Yaw,Zbj fun y hy=>h y (Yan _ hy)⟩
theorem rdl_ints {H:Hp}:∀ xs:List Int,RdL H (xs.map V.int) (xs.map Ybo)
 | []=>.nil
 | x::xs=>.cons (.int x) (rdl_ints xs)
section
variable {X:Cx}
theorem Zk2 (hu:X.A.units+12<cLine):OpR X (compareOp .NotEq) rNeD:=by
 intro pins s σ H x y v u Q I rx ry h;obtain⟨d1,d2,r1,r2,hd,c1,c2,q⟩:=h;obtain⟨as,z1⟩:=RdN.reads I.hok r1 rx;obtain⟨bs,z2⟩:=RdN.reads I.hok r2 ry;refine rcNeAt_reads z1 z2 c1 c2 (by omega) _ _ _ _ ?_;exact⟨.bl _,H,I,rfl,q⟩
end
end L2
namespace Lv
open PySem L2
theorem Sm.putL {p q:Addr}{H H2:Hp}{o:HO} (s:Sm p H H2) (h:H q=none):Sm p H (upd H2 q o):=fun b u e n=>by
 rw[L2.upd_ne (Zae e h)];exact s b u e n
theorem PotT.lst {H:Hp}{p:Addr} (h:PotT H p):∃ zs,H p=some (.lst zs):=by
 obtain⟨a,b,e,_⟩:=h;exact⟨_,e⟩
theorem PotT.some {H:Hp}{p:Addr} (h:PotT H p):H p≠none:=by
 obtain⟨a,b,e,_⟩:=h;rw[e];exact fun z=>nomatch z
theorem PotT.off {H:Hp}{p q:Addr}{o:HO} (h:PotT H p) (hq:q≠p):PotT (upd H q o) p:=by
 obtain⟨a,b,e,r⟩:=h;exact⟨a,b,by rw[L2.upd_ne (YaX hq)];exact e,r⟩
theorem PotT.neR {H:Hp}{p q:Addr}{as:List Addr} (h:PotT H p) (e:H q=Option.some (.lst (as.map V.ref))):q≠p:=fun z=>by
 obtain⟨a,b,e2,_⟩:=h;rw[z,e2] at e;injection e with e;injection e with e
 cases as with
 | nil=>cases e
 | cons x xs=>cases e
theorem TV.sm {Hb H H':Hp}{v:V}{d:TD}{p:Addr} (h:TV Hb H v d) (s:Sm p H H') (hp:PotT H p) (x:Hb p≠none):TV Hb H' v d:=by
 cases d with
 | none=>exact h
 | some d=>
  obtain⟨q,t,e1,e2,e3,e4⟩:=h;obtain⟨zs,hz⟩:=hp.lst;refine⟨q,t,e1,s _ _ e2 fun z=>?_,s _ _ e3 fun z=>x (by rw[<- z];exact e4),e4⟩;rw[z,hz] at e2;cases e2
theorem TVs.sm {Hb H H':Hp}{vs:List V}{ds:List TD}{p:Addr} (h:TVs Hb H vs ds) (s:Sm p H H') (hp:PotT H p) (x:Hb p≠none):TVs Hb H' vs ds:=⟨h.1,fun i v d y z=>(h.2 i v d y z).sm s hp x⟩
theorem TVD.sm {Hb H H':Hp}{vs:List (List V)}{ds:List (List TD)}{p:Addr} (h:TVD Hb H vs ds) (s:Sm p H H') (hp:PotT H p) (x:Hb p≠none):TVD Hb H' vs ds:=⟨h.1,fun i v d y z=>(h.2 i v d y z).sm s hp x⟩
theorem TVs.snoc {Hb H:Hp}{vs:List V}{ds:List TD}{v:V}{d:TD} (h:TVs Hb H vs ds) (e:TV Hb H v d):TVs Hb H (vs++[v]) (ds++[d]):=h.app (TVs.cons e (TVs.nil _ _))
theorem RL.sm {H H':Hp}{as:List Addr}{Vs:List (List V)}{p:Addr} (h:RL H as Vs) (s:Sm p H H') (n:∀ q∈as,q≠p):RL H' as Vs:=⟨h.1,fun j a vs x y=>s _ _ (h.2 j a vs x y) (n a (Yah x))⟩
theorem GdD.snoc {fl:Bool}:∀ {D:List (List TD)}{W:List (List Int)}{ds:List TD}{ws:List Int},GdD fl D W->GdR fl ds ws->GdD fl (D++[ds]) (W++[ws])
 | [],[],_,_,_,k=>⟨k,trivial⟩
 | [],_::_,_,_,h,_=>h.elim
 | _::_,[],_,_,h,_=>h.elim
 | d::D,w::W,_,_,h,k=>⟨h.1,GdD.snoc h.2 k⟩
def dTD:TD->PyData
 | none=>.none
 | some d=>.tuple [.bool d.1,.list (d.2.map Ybo)]
theorem TV.rd {Hb H:Hp}{v:V}{d:TD} (h:TV Hb H v d):RdN H v (dTD d):=by
 cases d with
 | none=>
  have:v=.non:=h;subst this;exact .non
 | some d=>
  obtain⟨q,t,rfl,e2,e3,_⟩:=h;exact .tup e2 (.cons (.bl _) (.cons (.lst e3 (L2.rdl_ints _)) .nil))
theorem TVs.rd {Hb H:Hp}:∀ {vs:List V}{ds:List TD},TVs Hb H vs ds->RdL H vs (ds.map dTD)
 | [],[],_=>.nil
 | [],_::_,h=>absurd h.1 (by simp)
 | _::_,[],h=>absurd h.1 (by simp)
 | v::vs,d::ds,h=>.cons h.uncons.1.rd (TVs.rd h.uncons.2)
theorem Zkh:∀ d:TD,(dTD d).canLay0=true
 | none=>rfl
 | some d=>by
  show (YcJ (.tuple [.bool d.1,.list (d.2.map Ybo)]))=true;rw[YcJ,YbS,YbS,YbS,YcJ,YcJ,ZcY];rfl
theorem depth_ints (xs:List Int):Ybl (xs.map Ybo)<=1:=Zbj fun x hx=>by
 obtain⟨i,_,rfl⟩:=YaY.mp hx;exact YaO _
theorem Zex:∀ d:TD,(dTD d).depth<=3
 | none=>YaO _
 | some d=>by
  have:=depth_ints d.2;show Ybl [.bool d.1,.list (d.2.map Ybo)]+1<=3;have h:Ybl [.bool d.1,.list (d.2.map Ybo)]<=2:=Zbj fun x hx=>by
   rcases Yav.mp hx with rfl | hx
   ·exact YaO _
   ·rw[YaH.mp hx];show Ybl (d.2.map Ybo)+1<=2;omega
  (clear this;omega)
theorem ZiS (ds:List TD):Ybl (ds.map dTD)<=3:=Zbj fun x hx=>by
 obtain⟨d,_,rfl⟩:=YaY.mp hx;exact Zex d
theorem TV.isn {Hb H:Hp}{v:V}{d:TD} (h:TV Hb H v d):decide (v=V.non)=d.isNone:=by
 cases d with
 | none=>
  have:v=.non:=h;subst this;rfl
 | some d=>
  obtain⟨q,t,rfl,_⟩:=h;rfl
theorem Zju {D:List (List TD)} (h:∀ r∈D,∀ e,some e∈r->e.2.length<=3):totT lenT D<=3*(D.flatten.length:Int):=by
 have aux:∀ ds:List TD,(∀ e,some e∈ds->e.2.length<=3)->(ds.map lenT).sum<=3*(ds.length:Int):=fun ds=>by
  induction ds with
  | nil=>exact fun _=>Ycl _
  | cons d ds ih=>
   intro hd;have h1:=ih fun e he=>hd e (Yan _ he);have h2:lenT d<=3:=by
    cases d with
    | none=>decide
    | some e=>
     have:=hd e Yaw;show gl58 e.2<=3;unfold gl58
     (clear h1 ih;omega)
   rw[Yam,YaD,YaR]
   (clear ih;omega)
 induction D with
 | nil=>exact Ycl _
 | cons d D ih=>
  have h1:=ih fun r hr=>h r (Yan _ hr);have h2:=aux d (h d Yaw);rw[ZbX,YaI,Yai]
  (clear ih;omega)
theorem GdD.flen {fl:Bool}:∀ {D:List (List TD)}{W:List (List Int)},GdD fl D W->D.flatten.length=W.flatten.length
 | [],[],_=>rfl
 | [],_::_,h=>h.elim
 | _::_,[],h=>h.elim
 | d::D,w::W,h=>by rw[YaI,YaI,Yai,Yai,GdD.flen h.2,h.1.len]
theorem GdD.lens {fl:Bool}:∀ {D:List (List TD)}{W:List (List Int)},GdD fl D W->D.map (fun r=>(r.length:Int))=ZbQ W
 | [],[],_=>rfl
 | [],_::_,h=>h.elim
 | _::_,[],h=>h.elim
 | d::D,w::W,h=>by
  have:=GdD.lens h.2;unfold ZbQ at this ⊢;rw[Yam,Yam,this,h.1.len]
theorem Zkg (up:Bool) (xs:List Int):dirT up (dirT up xs)=dirT up xs:=by
 unfold dirT
 cases up with
 | true=>show srt (srt xs)=srt xs;rw[Zfq]
 | false=>show (srt (srt xs).reverse).reverse=(srt xs).reverse;rw[Zgw]
theorem ZhD (up:Bool) (xs:List Int):(dirT up xs).length=xs.length:=by
 unfold dirT;have:=(Zbe xs).length_eq;split <;> simp[this]
def Zdy:Sp:=fun vs H Q _=>∃ (l:Addr) (xs:List Int) (up:Bool),vs=[.ref l,.bl up]/\H l=some (.lst (xs.map V.int))/\∀ l' H',H l'=none->H' l'=some (.lst ((dirT up xs).map V.int))->Same H H'->Q (.ref l') H'
end Lv
namespace Lv
open PySem L2
theorem ZeU {xs ys:List Int} (h:xs.Perm ys):srt xs=srt ys:=ZcI ((Zbe xs).trans h) (Zec _)
def thT (xs:List TD):List Int:=((ZaF xs).map (·.2)).flatten
theorem Zi3 (D:List (List TD)):ZbJ D=thT D.flatten:=rfl
theorem ZkC (D:List (List TD)):((thT D.flatten).length:Int)=totT lenT D:=by
 unfold lenT;rw[Zdv Zc1];rfl
theorem Zfi {b:Bool}{K:Yae}{own:List Str}{js:List Nat}{g:TG}{te:TE}{σ:L2.St}{H1:Hp}{Q:VK}{a:Addr}{xs:List V} (F:Nat->List V) (hq:SqB b K H1 a xs) (hlen:xs.length<=20000)
  (hs:∀ (i:Nat) x,xs[i]?=some x->∀ H,Same H1 H->∀ R:VK,(∀ q H',H q=none->H' q=some (.lst (F i))->Same H H'->R (.ref q) H')->g x (blkσ own js σ) H fun τ H4=>te τ H4 R)
  (hd:∀ acc (qs:List Addr) H,H1 acc=none->H acc=some (.lst (qs.map V.ref))->qs.length=xs.length->qs.Nodup->(∀ (j:Nat) q,qs[j]?=some q->q≠acc/\H1 q=none/\H q=some (.lst (F j)))->Same H1 H->Q (.ref acc) H):ZaY own js g Zbw te σ (ItlB b K a) H1 Q:=by
 refine Zcb (b:=b) (K:=K) (a:=a) (xs:=xs) (fun acc i H=>∃ qs:List Addr,H acc=some (.lst (qs.map V.ref))/\qs.length=i/\qs.Nodup/\(∀ (j:Nat) q,qs[j]?=some q->q≠acc/\H1 q=none/\H q=some (.lst (F j)))/\Same H1 H) (fun acc h0=>⟨[],Zab,rfl,List.nodup_nil,fun j y z=>by simp at z,Same.new h0⟩) (fun acc i H h0 _ z=>?_) ?_ ?_
 ·obtain⟨_,_,_,_,_,s⟩:=z;exact Same.sqB s hq
 ·rintro acc i x H h0 hx ⟨qs,hacc,hl,hn,hP,s1⟩;have hi:=(Yaa.mp hx).1
  have hna:H acc≠none:=by rw[hacc];exact fun z=>nomatch z
  refine (cast ?_ (hs i x hx H s1 (fun y H6=>∃ zs,H6 acc=some (.lst zs)/\zs.length<sizeLine/\(i+1<=xs.length/\∃ qs:List Addr,upd H6 acc (.lst (zs++[y])) acc=some (.lst (qs.map V.ref))/\qs.length=i+1/\qs.Nodup/\(∀ (j:Nat) q,qs[j]?=some q->q≠acc/\H1 q=none/\upd H6 acc (.lst (zs++[y])) q=some (.lst (F j)))/\Same H1 (upd H6 acc (.lst (zs++[y]))))) fun q H6 hq0 hq6 s6=>?_))
  ·unfold Zbw;simp only[if_true]
  ·have h6:=s6 _ _ hacc;have hqa:q≠acc:=fun z=>hna (by rw[<- z];exact hq0);have hqn:q ∉ qs:=fun z=>by
    obtain⟨j,hj⟩:=YaK z;rw[(hP j q hj).2.2] at hq0;cases hq0
   refine⟨_,h6,by rw[sizeLine_eq,Yac];(clear hqn hqa;omega),hi,qs++[q],by rw[Zab];simp,by simp[hl],Zcq hn hqn,fun j r hr=>?_,(s1.trans s6).put h0⟩;rcases Ybt j qs.length with z | z
   ·rw[Yaj z] at hr;obtain⟨a1,a2,a3⟩:=hP j r hr;exact⟨a1,a2,by rw[upd_ne a1];exact s6 _ _ a3⟩
   ·rw[Yak z] at hr;obtain⟨z1,z2⟩:=Yaa.mp hr;have:j=i:=by simp at z1;(clear z2 hqn hqa hi hlen;omega)
    subst this;have:q=r:=by simpa using z2
    subst this;exact⟨hqa,s1.free hq0,by rw[upd_ne hqa];exact hq6⟩
 ·rintro acc H h0 ⟨qs,hacc,hl,hn,hP,s1⟩;exact hd acc qs H h0 hacc hl hn hP s1
end Lv
namespace Lv
open PySem L2
def ordT (p a:Nat):List Nat:=(Yap p).map fun j=>if j<a then j+(p+1 - a) else j - a
theorem ZaZ (p a:Nat):(ordT p a).length=p:=by simp[ordT]
theorem Zbs {p a j:Nat} (h:j<p):(ordT p a)[j]?=some (if j<a then j+(p+1 - a) else j - a):=by
 unfold ordT;rw[Yaf,YbB h];rfl
theorem Zb5 {p a i:Nat} (ha:a<=p) (h:i∈ordT p a):i<=p/\i≠p - a:=by
 obtain⟨j,hj,rfl⟩:=YaY.mp h;have:=Ybn.mp hj;split <;> omega
theorem ZfE {p a i:Nat} (ha:a<=p) (h:i<=p) (hne:i≠p - a):i∈ordT p a:=by
 by_cases z:i+a<p
 ·exact Yah (i:=i+a) (by rw[Zbs z,if_neg (by (clear z hne h ha;omega))];exact congrArg some (by (clear z hne h ha;omega)))
 ·exact Yah (i:=i+a - (p+1)) (by rw[Zbs (by (clear z;omega)),if_pos (by (clear ha;omega))];exact congrArg some (by (clear h;omega)))
theorem ZgY {p a:Nat} (ha:a<=p):(ordT p a).Nodup:=by
 unfold ordT List.Nodup;rw[YcN];refine (List.pairwise_lt_range (n:=p)).imp_of_mem fun {x y} hx hy h=>?_;have h1:=Ybn.mp hx;have h2:=Ybn.mp hy;split <;> split <;> (clear h1 ha;omega)
def nxA (p a:Nat):Nat:=if a=p then 0 else a+1
theorem ZgX {p a:Nat} (hp:2<=p) (ha:a<=p):(p - a)::ordT p a=ordT p (nxA p a)++[p - nxA p a]:=by
 refine YdC fun j=>?_;rcases Ye9 j p with h | h | h
 ·rw[Yaj (by rw[ZaZ];exact h),Zbs h]
  cases j with
  | zero=>
   rw[List.getElem?_cons_zero];unfold nxA;refine congrArg some ?_;split <;> split <;> (clear h ha hp;omega)
  | succ j=>
   rw[Yc9,Zbs (by (clear ha hp;omega))];unfold nxA;refine congrArg some ?_;split <;> split <;> split <;> (clear hp;omega)
 ·subst h;rw[Yak (by rw[ZaZ];exact Yas _),ZaZ,Yb6];obtain⟨q,rfl⟩:∃ q,j=q+1:=⟨j - 1,by (clear ha;omega)⟩
  rw[Yc9,Zbs (by (clear ha hp;omega))];unfold nxA;show some _=some _;refine congrArg some ?_;split <;> split <;> (clear hp;omega)
 ·rw[Ybs (by rw[YaR,ZaZ];(clear ha hp;omega)),Ybs (by rw[Yai,ZaZ,YbP];(clear ha hp;omega))]
def endT (p a:Nat):Nat:=if a=p then p else p - a - 1
theorem ZgZ {p a:Nat} (hp:2<=p) (ha:a<=p):(ordT p a)[p - 1]?=some (endT p a):=by
 rw[Zbs (by (clear ha;omega))];unfold endT;refine congrArg some ?_;split <;> split <;> (clear hp;omega)
theorem Zlb {p:Nat} (hp:2<=p) {k a:Nat} (ha:a<=p) {fl:Bool}{D:List (List TD)} (hG:GdD fl D (rot a (Tm p (k+1)))) {f:Nat} (hf:hd p k=f):D.length=p+1/\(∀ i,i<=p->i≠p - a->f<=(D.getD i []).length)/\(D.getD (endT p a) []).length=f:=by
 have hl:=hG.len;have hll:(rot a (Tm p (k+1))).length=p+1:=by rw[Ze1,Zcg hp]
 have hpl:=ZaT (show 1<=p by (clear hll hl hf ha;omega)) k;obtain⟨A,r,e⟩:∃ A r,tnum p k=A::r:=by
  cases q:tnum p k with
  | nil=>rw[q] at hpl;simp at hpl;(clear hll hl hf ha;omega)
  | cons A r=>exact⟨A,r,rfl⟩
 have hr:r.length+1=p:=by rw[e] at hpl;simpa using hpl
 have hx:hd p k=(A.length:Nat):=by
  unfold hd;rw[<- Za2 (show 1<=p by (clear hr hpl hll hl hf ha;omega)),e];rfl
 have hfA:f=A.length:=by (clear hr hpl hll hl ha hp;omega)
 have e2:tnum p (k+1)=(r++[[]]).map (·++(A.map (·+1)).reverse):=by
  show Zem (tnum p k)=_;rw[e,<- YcU];rfl
 have at_:∀ {i:Nat},i<=p->∃ W,(rot a (Tm p (k+1)))[i]?=some W/\(D.getD i []).length=W.length:=fun {i} hi=>by
  have hi2:i<D.length:=by (clear hfA hx hr hpl hf ha hp;omega)
  obtain⟨W,h1,h2⟩:=hG.at (Yab hi2);exact⟨W,h1,by rw[Yad,Yab hi2];exact h2.len⟩
 refine⟨by (clear hfA hx hr hpl hf ha hp;omega),fun i hi hne=>?_,?_⟩
 ·obtain⟨W,h1,h2⟩:=at_ hi;have hm:=ZgE ha (ZaT (by (clear h2 hne hi hfA hx hr hpl hll hl hf ha;omega)) (k+1)) h1 hne;rw[e2] at hm;obtain⟨y,_,rfl⟩:=YaY.mp hm;rw[h2,hfA];simp
 ·have he:endT p a<=p:=by unfold endT;split <;> (clear hfA hx hr hpl hll hl hf ha hp;omega)
  obtain⟨W,h1,h2⟩:=at_ he;have h3:(rot a (Tm p (k+1)))[endT p a]?=(Tm p (k+1))[p - 1]?:=by
   have hll2:=Zcg hp (k+1);unfold rot endT;by_cases z:a=p
   ·rw[if_pos z,Yak (by rw[Ya3];(clear h2 he hfA hx hr hpl hll hl hf ha;omega)),Ya3,hll2,Ybm (by (clear hll2 h2 he hfA hx hr hpl hll hl hf ha;omega))];congr 1
    (clear hll2 h2 he hfA hx hr hpl hll hl hf ha hp;omega)
   ·rw[if_neg z,Yaj (by rw[Ya3];(clear z h2 he hfA hx hr hpl hll hl hf hp;omega)),Ybx];congr 1
    (clear hll2 h2 he hfA hx hr hpl hll hl hf hp;omega)
  have h4:(Tm p (k+1))[p - 1]?=some ((A.map (·+1)).reverse):=by
   unfold Tm;rw[e2,Yaj (by simp;(clear h2 he hfA hx hpl hll hl hf ha hp;omega)),Yaf,Yak (by (clear h2 he hfA hx hpl hll hl hf ha hp;omega)),show p - 1 - r.length=0 by (clear h2 he hfA hx hpl hll hl hf ha hp;omega)];rfl
  rw[h3,h4] at h1;cases h1;rw[h2,hfA];simp
theorem Zjv {ds es:List TD} (h:(ZaF ds).Perm (ZaF es)) (hc:NoCl es):tm ds=tm es:=by
 unfold tm
 cases e1:ZaF ds with
 | nil=>
  rw[e1] at h;rw[List.nil_perm.mp h]
 | cons d r=>
  cases e2:ZaF es with
  | nil=>
   rw[e1,e2] at h;exact absurd (List.perm_nil.mp h) (Yfb _ _)
  | cons d' r'=>
   rw[e1,e2] at h;have hd:d∈ZaF es:=by rw[e2];exact h.subset Yaw
   have hd':d'∈ZaF es:=by rw[e2];exact Yaw
   have hu:d.1=d'.1:=by
    cases u:d.1 with
    | true=>
     cases u':d'.1 with
     | true=>rfl
     | false=>exact absurd ⟨YaY.mpr ⟨d,hd,u⟩,YaY.mpr ⟨d',hd',u'⟩⟩ hc
    | false=>
     cases u':d'.1 with
     | false=>rfl
     | true=>exact absurd ⟨YaY.mpr ⟨d',hd',u'⟩,YaY.mpr ⟨d,hd,u⟩⟩ hc
   have hs:srt ((d::r).map (·.2)).flatten=srt ((d'::r').map (·.2)).flatten:=ZeU ((h.map _).flatten);dsimp only;rw[hu,hs]
def colO (p a:Nat) (D:List (List TD)) (s:Nat):List TD:=(ordT p a).filterMap fun i=>(D.getD i []).reverse[s]?
theorem ZhN (D:List (List TD)) (s:Nat):(D.filterMap fun r=>r.reverse[s]?)=(Yap D.length).filterMap fun i=>(D.getD i []).reverse[s]?:=by
 conv=>lhs;rw[<- Zbr D []]
 rw[Ycc];rfl
theorem ZeA {p a s:Nat} (ha:a<=p) {D:List (List TD)} (hl:D.length=p+1) (ho:D[p - a]?=some []):(colO p a D s).Perm (D.filterMap fun r=>r.reverse[s]?):=by
 rw[ZhN,hl];have pm:(Yap (p+1)).Perm ((p - a)::ordT p a):=(List.perm_ext_iff_of_nodup List.nodup_range (YcX.mpr ⟨fun z=>(Zb5 ha z).2 rfl,ZgY ha⟩)).mpr fun i=>by
  rw[Ybn,Yav];constructor
  ·intro h;by_cases z:i=p - a
   ·exact .inl z
   ·exact .inr (ZfE ha (by (clear z hl ha;omega)) z)
  ·rintro (rfl | h)
   ·(clear hl ha;omega)
   ·have:=(Zb5 ha h).1;(clear hl ha;omega)
 refine Yc6 ?_ (pm.filterMap _).symm;rw[YaJ];have e:(D.getD (p - a) []).reverse[s]?=none:=by
  rw[Yad,ho];rfl
 rw[e];exact YdH _
theorem Zgr {D:List (List TD)}{m i:Nat} (h:i<m):tkT D m i=D.filterMap fun r=>r.reverse[i]?:=by
 unfold tkT;congr 1
 funext r
 rw[YeY,if_pos h]
theorem Zkm {p a s f:Nat} (ha:a<=p) {D:List (List TD)} (hl:D.length=p+1) (ho:D[p - a]?=some []) (hs:s<f) (hc:NoCl (tkT D f s)):tm (colO p a D s)=tm (tkT D f s)/\NoCl (colO p a D s):=by
 have h1:=ZeA (s:=s) ha hl ho;rw[<- Zgr hs] at h1;have h2:(ZaF (colO p a D s)).Perm (ZaF (tkT D f s)):=h1.filterMap _;refine⟨Zjv h2 hc,fun ⟨x,y⟩=>hc ⟨(h2.map _).subset x,(h2.map _).subset y⟩⟩
theorem Zkk {α:Type}{s:Nat}{l:List α} (h:s<l.length):(cutT s l).dropLast=cutT (s+1) l/\(cutT s l)[(cutT s l).length - 1]?=l.reverse[s]?:=by
 unfold cutT;have hl:(l.take (l.length - s)).length=l.length - s:=by rw[Yaz];(clear h;omega)
 constructor
 ·rw[List.dropLast_eq_take,hl,List.take_take];congr 1
  (clear hl h;omega)
 ·rw[hl,Ybm (by (clear hl;omega)),Yci h];congr 1
  (clear hl h;omega)
theorem Zkl {α:Type} (s:Nat) (l:List α):(cutT s l).length=l.length - s:=by unfold cutT;rw[Yaz];omega
theorem ZiT {α:Type} (l:List α):cutT 0 l=l:=by unfold cutT;rw[Yc2,YaT]
theorem Zia {ds:List TD}{s:Nat}{d:TD} (h:ds[s]?=some d):tth (ds.take (s+1))=tth (ds.take s)+lenT d:=by
 rw[ZeQ,ZeQ,Ya9,h,YaB,YcE];simp
def RLf (H:Hp) (hs:List Addr) (F:Nat->List V):Prop:=∀ (i:Nat) a,hs[i]?=some a->H a=some (.lst (F i))
theorem RLf.same {H H':Hp}{hs:List Addr}{F:Nat->List V} (h:RLf H hs F) (s:Same H H'):RLf H' hs F:=fun i a e=>s _ _ (h i a e)
theorem RLf.off {H:Hp}{hs:List Addr}{F:Nat->List V}{a:Addr}{o:HO} (h:RLf H hs F) (n:a ∉ hs):RLf (upd H a o) hs F:=fun i b e=>by
 rw[upd_ne fun z=>n (by rw[<- z];exact Yah e)];exact h i b e
theorem RLf.put {H:Hp}{hs:List Addr}{F G:Nat->List V}{j:Nat}{a:Addr}{zs:List V} (h:RLf H hs F) (nd:hs.Nodup) (ha:hs[j]?=some a) (e1:G j=zs) (e2:∀ i,i≠j->i<hs.length->G i=F i):RLf (upd H a (.lst zs)) hs G:=fun i b e=>by
 by_cases z:i=j
 ·subst z;rw[ha] at e;cases e;rw[Zab,e1]
 ·have nb:b≠a:=fun q=>z (Zjl nd e (by rw[q];exact ha));rw[upd_ne nb,e2 i z (Yaa.mp e).1];exact h i b e
def ZdA:Sp:=fun vs H Q _=>∃ (p n:Nat) (rl:Addr) (as:List Addr) (Vs:List (List V)) (D:List (List TD)) (fl:Bool),vs=[.int p,.int n,.ref rl]/\2<=p/\p<=7/\n<=300/\tot p n<=4000/\H rl=some (.lst (as.map V.ref))/\RL H as Vs/\TVD (fun _=>none) H Vs D/\GdD fl D (tnum p n)/\totT lenT D<=15000 /\
 ∀ t e v d r H',(plT (D++[[]]) (phL p 0 n)).flatten=d::r->H' t=some (.tup [v,.ref e])->TV (fun _=>none) H' v d->H' e=some (.lst ((rdTP (D++[[]]) (Yal (p+1) 0) (phL p 0 n)).map V.int))->H e=none->Same H H'->Q (.ref t) H'
end Lv
namespace Lv
open PySem L2
def mutH (S:List Addr):Hp:=fun a=>if a∈S then some (.lst []) else none
theorem mutH_none {S:List Addr}{a:Addr}:mutH S a=none↔a ∉ S:=by
 unfold mutH;by_cases h:a∈S
 ·rw[if_pos h];exact⟨(fun z=>nomatch z),fun z=>absurd h z⟩
 ·rw[if_neg h];exact⟨fun _=>h,fun _=>rfl⟩
theorem Zha {S:List Addr}{a:Addr} (h:a∈S):mutH S a≠none:=fun z=>mutH_none.mp z h
theorem TVs.old {Hb H:Hp}{vs:List V}{ds:List TD}{a:Addr}{o:HO} (h:TVs Hb H vs ds) (e:H a=none):TVs (upd Hb a o) H vs ds:=⟨h.1,fun j w c p q=>(h.2 j w c p q).old e⟩
theorem TV.mut {Hb H:Hp}{v:V}{d:TD}{S:List Addr} (h:TV Hb H v d) (e:∀ a∈S,H a=none):TV (mutH S) H v d:=by
 cases d with
 | none=>exact h
 | some d=>
  obtain⟨q,t,e1,e2,e3,e4⟩:=h;exact⟨q,t,e1,e2,e3,mutH_none.mpr fun z=>by rw[e t z] at e3;cases e3⟩
theorem TVD.mut {Hb H:Hp}{Vs:List (List V)}{D:List (List TD)}{S:List Addr} (h:TVD Hb H Vs D) (e:∀ a∈S,H a=none):TVD (mutH S) H Vs D:=⟨h.1,fun i v d y z=>⟨(h.2 i v d y z).1,fun j w c p q=>((h.2 i v d y z).2 j w c p q).mut e⟩⟩
theorem TVs.filt {Hb H:Hp}{Vs:List (List V)}{D:List (List TD)} (h:TVD Hb H Vs D) (s:Nat):∀ is:List Nat,(∀ i∈is,i<D.length)->TVs Hb H (is.filterMap fun i=>(Vs.getD i []).reverse[s]?) (is.filterMap fun i=>(D.getD i []).reverse[s]?)
 | [],_=>TVs.nil _ _
 | i::is,hi=>by
  have ih:=TVs.filt h s is fun j hj=>hi j (Yan _ hj);have h1:=hi i Yaw;have h2:i<Vs.length:=by rw[h.1];exact h1
  have ht:=(h.2 i _ _ (Yab h2) (Yab h1)).rev;have e1:Vs.getD i []=Vs[i]:=by rw[Yad,Yab h2];rfl
  have e2:D.getD i []=D[i]:=by rw[Yad,Yab h1];rfl
  rw[YaJ,YaJ,e1,e2];by_cases z:s<Vs[i].reverse.length
  ·have z2:s<D[i].reverse.length:=by rw[<- ht.1];exact z
   have g1:Vs[i].reverse[s]?=some Vs[i].reverse[s]:=Yab z;have g2:D[i].reverse[s]?=some D[i].reverse[s]:=Yab z2;rw[g1,g2];exact TVs.cons (ht.2 s _ _ g1 g2) ih
  ·have g1:Vs[i].reverse[s]?=none:=Ybs (by omega);have g2:D[i].reverse[s]?=none:=Ybs (by have:=ht.1;omega);rw[g1,g2];exact ih
theorem setR {α:Type}{n i:Nat}{F G:Nat->α} (hi:i<n) (h:∀ j,j≠i->G j=F j):((Yap n).map F).set i (G i)=(Yap n).map G:=by
 refine Ycu (by simp) fun j h1 h2=>?_;rw[List.getElem_set];simp at h1;split
 ·next e=>subst e;simp
 ·next e=>simp[h j (YaX e)]
theorem zipR {n:Nat}{a b:List Int} (ha:a.length=n) (hb:b.length=n):(Yap n).map (fun i=>a.getD i 0+b.getD i 0)=YcO (·+·) a b:=by
 refine Ycu (by simp;omega) fun j h1 h2=>?_;simp at h1;rw[Ydc,YeX,List.getElem_zipWith,Yad,Yad,Yab (by (clear h2 hb;omega)),Yab (by (clear h2 ha;omega))];rfl
theorem ZkA {D:List (List TD)}{m i:Nat} (h:i<D.length):(rdT D m).getD i 0=tth ((D.getD i []).reverse.take m):=by
 unfold rdT;rw[Yad,Yaf,Yad,Yab h];rfl
theorem ZlV {p a:Nat} (hp:2<=p) (ha:a<=p) {fl:Bool}{D:List (List TD)}{d:TD}{r:List TD} (hG:GdD fl D (rot a (Tm p 0))) (hd:D.flatten=d::r):∃ i,(ordT p a)[0]?=some i/\D[i]?=some [d]:=by
 have hl:=hG.len;have hll:(rot a (Tm p 0)).length=p+1:=by rw[Ze1,Zcg hp]
 refine⟨_,Zbs (by (clear hll hl ha;omega)),?_⟩;generalize hi:(if 0<a then 0+(p+1 - a) else 0 - a)=i;have hip:i<=p:=by rw[<- hi];split <;> (clear hi hll hl ha hp;omega)
 have h1:i<D.length:=by (clear hi ha hp;omega)
 obtain⟨W,e1,e2⟩:=hG.at (Yab h1);have h3:(rot a (Tm p 0))[i]?=(Tm p 0)[0]?:=by
  have hll2:=Zcg hp 0;unfold rot;by_cases z:0<a
  ·rw[if_pos z] at hi;rw[Yak (by rw[Ya3];(clear z hip hll hl ha hp;omega)),Ya3,hll2,Ybm (by (clear z hll2 hip ha hp;omega))];congr 1
   (clear z hll2 hip hll hl ha hp;omega)
  ·rw[if_neg z] at hi;rw[Yaj (by rw[Ya3];(clear z hip hll hl hp;omega)),Ybx];congr 1
   (clear hll2 hip hll hl ha hp;omega)
 have h4:(Tm p 0)[0]?=some [0]:=rfl;rw[h3,h4] at e1;cases e1;obtain⟨x,hx⟩:=Yde.mp e2.len;obtain⟨d',ed,_⟩:=Zke hp hG;rw[ed] at hd;injection hd with hd _;have hm:x∈D.flatten:=YcT.mpr ⟨D[i],YcV h1,by rw[hx];exact Yc7 _⟩;rw[ed,YaH] at hm;rw[Yab h1,hx,hm,hd]
end Lv
namespace Lv
open PySem L2
theorem ZkX (p n:Nat):∀ (t j:Nat),j<n->(phL p t n)[j]?=some (phO p (t+j),hd p (n - 1 - j)):=by
 induction n with
 | zero=>intro t j h;omega
 | succ n ih=>
  intro t j h;rw[phL]
  cases j with
  | zero=>rfl
  | succ j=>
   rw[Yc9,ih (t+1) j (by omega),show t+1+j=t+(j+1) by (clear h;omega),show n - 1 - j=n+1 - 1 - (j+1) by (clear h;omega)]
theorem Zj3 {α:Type}{l:List α}{j:Nat}{x:α} (h:l.Nodup) (e:l[j]?=some x):x ∉ l.take j:=fun z=>by
 obtain⟨i,hi⟩:=YaK z;have h1:=(Yaa.mp hi).1
 rw[Yaz] at h1;rw[Ybm (by omega)] at hi;obtain⟨g1,g2⟩:=Yaa.mp hi;obtain⟨g3,g4⟩:=Yaa.mp e;exact (Yb0.mp h) i j g1 g3 (by omega) (g2.trans g4.symm)
end Lv
namespace Lv
open PySem L2
theorem RLf.congr {H:Hp}{hs:List Addr}{F G:Nat->List V} (h:RLf H hs F) (e:∀ i,i<hs.length->G i=F i):RLf H hs G:=fun i a z=>by
 rw[e i (Yaa.mp z).1];exact h i a z
theorem Zlz {ds:List TD}{r0:RT}{rr:List RT} (e:(r0::rr).map (·.2.2)=ZaF ds):tm ds=some (!r0.2.2.1,dirT (!r0.2.2.1) (((r0::rr).map (·.2.2.2)).flatten)):=by
 unfold tm;rw[<- e];have e2:((r0::rr).map (·.2.2)).map (·.2)=(r0::rr).map (·.2.2.2):=by rw[Ybw];rfl
 rw[Yam] at e2 ⊢;dsimp only;rw[e2];cases r0.2.2.1 <;> rfl
theorem Zil {p a s f:Nat} (ha:a<=p) {D:List (List TD)} (hl:D.length=p+1) (ho:D[p - a]?=some []) (hs:s<f) (ht:totT lenT D<=15000):(((ZaF (colO p a D s)).map (·.2)).flatten).length<=15000:=by
 have h1:=ZeA (s:=s) ha hl ho;rw[<- Zgr hs] at h1;have h2:(ZaF (colO p a D s)).Perm (ZaF (tkT D f s)):=h1.filterMap _;have h3:=((h2.map (·.2)).flatten).length_eq;rw[h3];exact ZfQ ht s
theorem Zes {rs:List RT}{i:Nat}{r:RT} (h:rs[i]?=some r):(((rs.take i).map (·.2.2.2)).flatten).length+r.2.2.2.length<=((rs.map (·.2.2.2)).flatten).length:=by
 obtain⟨h1,h2⟩:=Yaa.mp h;have e:rs=rs.take i++(r::rs.drop (i+1)):=by rw[<- h2,List.getElem_cons_drop,YaQ]
 conv=>rhs;rw[e]
 rw[YaB,Ybc,Yai,Yam,YaI,Yai];omega
end Lv
namespace Lv
open PySem L2
def BndT (d:TD):Prop:=∀ e,d=some e->e.2.length<=3/\∀ z∈e.2,-Zbc<z/\z<Zbc
theorem Zib {d:TD} (h:BndT d):(dTD d).showable=true/\(dTD d).hasDict=false/\(dTD d).shown.length<=1100:=by
 cases d with
 | none=>exact⟨rfl,rfl,by decide +kernel⟩
 | some e=>
  obtain⟨h1,h2⟩:=h e rfl;obtain⟨g2,g3,g4,g5,g6⟩:=Zdm h2;have hb:(YcM (.bool e.1)).length<=5:=by cases e.1 <;> decide +kernel
  refine⟨by simp only[dTD,Ydd,YbV,g2];rfl,by simp only[dTD,Ydk,Yb1,g3];rfl,?_⟩;simp only[dTD,YcM,YaV] at hb ⊢;have t1:=listText_len_le (YaV (e.2.map Ybo));have t2:=tupleText_len_le [YcM (.bool e.1),listText (YaV (e.2.map Ybo))];simp only[Yam,YcC,YaD,Yey,YaR,YdU,YcM] at t2
  (clear g4;omega)
theorem Zea:∀ {ds:List TD},(∀ d∈ds,BndT d)->YbV (ds.map dTD)=true/\Yb1 (ds.map dTD)=false/\((YaV (ds.map dTD)).map (·.length)).sum<=1100*ds.length/\(YaV (ds.map dTD)).length=ds.length
 | [],_=>⟨rfl,rfl,by simp[YaV],by simp[YaV]⟩
 | d::ds,h=>by
  obtain⟨h2,h3,h5,h6⟩:=Zea (ds:=ds) fun x hx=>h x (Yan _ hx);obtain⟨a1,a2,a3⟩:=Zib (h d Yaw);refine⟨?_,?_,?_,?_⟩
  ·simp only[Yam,YbV,a1,h2,Yeo]
  ·simp only[Yam,Yb1,a2,h3,YeE]
  ·simp only[Yam,YaV,YaD,YaR]
   (clear h6;omega)
  ·simp[YaV,h6]
def dRl (ds:List TD):PyData:=.list (ds.map dTD)
theorem Zef:∀ {D:List (List TD)},(∀ ds∈D,∀ d∈ds,BndT d)->YbV (D.map dRl)=true/\Yb1 (D.map dRl)=false/\Ybl (D.map dRl)<=4/\((YaV (D.map dRl)).map (·.length)).sum<=1110*D.flatten.length+10*D.length/\(YaV (D.map dRl)).length=D.length
 | [],_=>⟨rfl,rfl,by simp[Ybl],by simp[YaV],by simp[YaV]⟩
 | ds::D,h=>by
  obtain⟨h2,h3,h4,h5,h6⟩:=Zef (D:=D) fun x hx=>h x (Yan _ hx);obtain⟨g2,g3,g5,g6⟩:=Zea (h ds Yaw);have e1:(dRl ds).showable=true:=by simp only[dRl,Ydd,g2]
  have e2:(dRl ds).hasDict=false:=by simp only[dRl,Ydk,g3]
  have e3:(dRl ds).depth<=4:=by
   have:=ZiS ds;simp only[dRl,Yei]
   (clear g6 g5 h6 h5 h4;omega)
  have e4:(dRl ds).shown.length<=1105*ds.length+10:=by
   simp only[dRl,YcM];have:=listText_len_le (YaV (ds.map dTD))
   (clear e3 h6 h5 h4;omega)
  refine⟨?_,?_,?_,?_,?_⟩
  ·simp only[Yam,YbV,e1,h2,Yeo]
  ·simp only[Yam,Yb1,e2,h3,YeE]
  ·simp only[Yam,Ybl];(clear e4 g6 g5 h6 h5;omega)
  ·simp only[Yam,YaV,YaD,YaR,YaI,Yai]
   (clear e3 g6 g5 h6 h4;omega)
  ·simp[YaV,h6]
def dRs (D:List (List TD)):PyData:=.list (D.map dRl)
theorem Zig {D:List (List TD)} (h:∀ ds∈D,∀ d∈ds,BndT d) (hn:D.flatten.length<=4000) (hl:D.length<=10):(dRs D).showable=true/\(dRs D).hasDict=false/\(dRs D).depth<=10/\(dRs D).shown.length<=sizeLine:=by
 obtain⟨g2,g3,g4,g5,g6⟩:=Zef h;refine⟨by simp only[dRs,Ydd,g2],by simp only[dRs,Ydk,g3],by simp only[dRs,Yei];(clear g6 g5 hl hn;omega),?_⟩;simp only[dRs,YcM];have:=listText_len_le (YaV (D.map dRl));rw[sizeLine_eq]
 (clear g4;omega)
theorem ZkT {Hb H:Hp}:∀ {as:List Addr}{Vs:List (List V)}{D:List (List TD)},RL H as Vs->TVD Hb H Vs D->RdL H (as.map V.ref) (D.map dRl)
 | [],[],[],_,_=>.nil
 | [],[],_::_,_,h=>absurd h.1 (by simp)
 | [],_::_,_,h,_=>absurd h.1 (by simp)
 | _::_,[],_,h,_=>absurd h.1 (by simp)
 | _::_,_::_,[],_,h=>absurd h.1 (by simp)
 | a::as,vs::Vs,ds::D,h,g=>.cons (.lst (h.2 0 a vs rfl rfl) g.uncons.1.rd) (ZkT ⟨by have:=h.1;simpa using this,fun j b ws x y=>h.2 (j+1) b ws x y⟩ g.uncons.2)
theorem Zgg {own:List Str}{js:List Nat}{g:TG}{te:TE}{σ:L2.St}{H1:Hp}{Q:VK}{lo:Int}{n:Nat}{pl:Addr} (P:Int->Prop) (hp:PotT H1 pl) (hn:n<=20000)
  (hs:∀ (i:Nat) H,i<n->PotT H pl->Sm pl H1 H->∀ R:VK,(∀ (d:Int) H',P d->PotT H' pl->Sm pl H H'->R (.int d) H')->g (.int (lo+(i:Int))) (blkσ own js σ) H fun τ H4=>te τ H4 R)
  (hd:∀ acc (ds:List Int) H,H1 acc=none->H acc=some (.lst (ds.map V.int))->ds.length=n->(∀ d∈ds,P d)->PotT H pl->Sm pl H1 H->Q (.ref acc) H):ZaY own js g Zbw te σ (Itr lo n) H1 Q:=by
 refine ZbH (fun acc i H=>∃ ds:List Int,H acc=some (.lst (ds.map V.int))/\ds.length=i/\(∀ d∈ds,P d)/\PotT H pl/\Sm pl H1 H) (fun acc h0=>⟨[],Zab,rfl,fun d z=>by simp at z,hp.put h0,Sm.new h0⟩) ?_ ?_
 ·rintro acc i H h0 hi ⟨ds,hacc,hl,hP,hp2,s2⟩;have ha:acc≠pl:=hp.ne h0;refine (cast ?_ (hs i H hi hp2 s2 (fun y H6=>∃ zs,H6 acc=some (.lst zs)/\zs.length<sizeLine/\(i+1<=n/\∃ ds:List Int,upd H6 acc (.lst (zs++[y])) acc=some (.lst (ds.map V.int))/\ds.length=i+1/\(∀ d∈ds,P d)/\PotT (upd H6 acc (.lst (zs++[y]))) pl/\Sm pl H1 (upd H6 acc (.lst (zs++[y]))))) fun d H6 hPd hp6 s6=>?_))
  ·unfold Zbw;simp only[if_true]
  ·have h6:=s6 _ _ hacc ha;refine⟨_,h6,by rw[sizeLine_eq,Yac];(clear ha;omega),hi,ds++[d],by rw[Zab];simp,by simp[hl],fun x hx=>?_,hp6.off ha,(s2.trans s6).putL h0⟩;rcases Yao.mp hx with hx | hx
   ·exact hP x hx
   ·rw[YaH.mp hx];exact hPd
 ·rintro acc H h0 ⟨ds,hacc,hl,hP,hp2,s2⟩;exact hd acc ds H h0 hacc hl hP hp2 s2
theorem Zkf {up:Bool}{xs:List Int}{z:Int} (h:z∈dirT up xs):z∈xs:=by
 unfold dirT at h;split at h
 ·exact (Zbe xs).subset h
 ·exact (Zbe xs).subset (YbX.mp h)
def ZcK:Sp:=fun vs H Q _=>∃ (pl:Addr) (p n:Nat),vs=[.ref pl,.int p,.int n]/\2<=p/\p<=7/\n<=300/\tot p n<=4000/\PotT H pl /\
 ∀ l as Vs D fl H',H l=none->H' l=some (.lst (as.map V.ref))->RL H' as Vs->TVD H H' Vs D->(∀ q∈as,H q=none)->GdD fl D (tnum p n)->(∀ r∈D,∀ d∈r,BndT d)->PotT H' pl->Sm pl H H'->Q (.ref l) H'
end Lv
namespace Lv
open PySem L2
theorem ZdQ (d:TD) (rs:List Int):(PyData.tuple [dTD d,.list (rs.map Ybo)]).canLay0=true:=by
 rw[YcJ,YbS,YbS,YbS,YcJ,ZcY,Zkh];rfl
end Lv
namespace Fi56
open PySem L2 Lv
section
variable {P:Program}{w:World}{K:Yae}{mg:Str->Option Value}{base:Heap}
theorem ZkQ:FnScope ["things","up"] ["things","up"] (Zac Za7):=⟨rfl,rfl,rfl,by decide +kernel,rfl,by decide +kernel,by decide +kernel⟩
theorem ZiB {f:Addr}{fd:FuncData} (F:Fun K "_law_sorted" "_law_sorted" Za7 f fd) (T:Txt mg):FnOk P w K mg base CX0 1 f fd ["things","up"] Zdy:=by
 refine okW F ZkQ (fun vs H Q E h=>?_) (fun cdv A outer s H vs Q E hr h=>?_)
 ·obtain⟨l,xs,up,rfl,_⟩:=h;rfl
 ·obtain⟨l,xs,up,rfl,hl,k⟩:=h;refine⟨_,(Zag (Zch (Zcu (pv 1))
   (Zan (ws (Zay (Zal Zcs rfl T.sorted Zd2 (Zaa (pv 0) Zad)))))
   Za8)
   (Zan (ws (Zay (ZfB (Zal Zcs rfl T.sorted Zd2 (Zaa (pv 0) Zad)) (Zbf (Zf8 Zdb Zaf))))))),?_⟩
  refine⟨_,rfl,up,rfl,?_⟩
  cases up with
  | true=>
   refine iteT ⟨_,rfl,l,xs,rfl,SqL.of hl,fun l2 ms n2 hp hs=>?_⟩;exact k l2 _ n2 (by rw[Zab,ZcI hp hs];rfl) (Same.new n2)
  | false=>
   refine iteF ⟨_,rfl,l,xs,rfl,SqL.of hl,fun l2 ms n2 hp hs=>⟨1,rfl,-1,rfl,rfl,l2,_,rfl,SqL.of Zab,fun l3 n3=>?_⟩⟩;have s2:Same H (upd H l2 (.lst (ms.map V.int))):=Same.new n2;exact k l3 _ (s2.free n3) (by rw[Zab,ZcI hp hs,<- YcU];rfl) (s2.trans (Same.new n3))
theorem scReels56:FnScope ["pot","p","n","flip","idle","far","found","numbers","reel","number","up","things"] ["pot","p","n"] (Zac Zbo):=⟨rfl,rfl,rfl,by decide +kernel,rfl,by decide +kernel,by decide +kernel⟩
theorem Zf9 {f f1 f2 f3:Addr}{fd d1 d2 d3:FuncData} (F:Fun K "_law_reels" "_law_reels" Zbo f fd) (T:Txt mg) (CS:Cal P w K mg base 1 "_law_sorted" ["things","up"] Zdy f1 d1) (CT:Cal P w K mg base 1 "_law_take" ["pot","many"] ZcJ f2 d2) (CB:Cal P w K mg base 2 "_law_read_back" ["p","n"] Zdz f3 d3):FnOk P w K mg base CX0 3 f fd ["pot","p","n"] ZcK:=by
 refine okW F scReels56 (fun vs H Q E h=>?_) (fun cdv A outer s H vs Q E hr h=>?_)
 ·obtain⟨pl,p,n,rfl,_⟩:=h;rfl
 ·obtain⟨pl,p,n,rfl,h1,h2,h300,h4000,hpot,k⟩:=h;have hr1:Room 1 _:=hr.mono (by decide);have hr2:Room 2 _:=hr.mono (by decide);refine⟨_,(Zag (ws (Zaj (i:=3) scReels56.nd rfl (YaP rfl) (Zcp Zg4 (Zat CT hr1 rfl (Zaa (pv 0) (Zaa Zaf Zad))) Zaf (ZaS _))))
   (Zag (ws (Zaj (i:=4) scReels56.nd rfl (YaP rfl) (Zat CT hr1 rfl (Zaa (pv 0) (Zaa Zaf Zad)))))
   (Zag (Zkv (i:=5) scReels56.nd rfl (Yds rfl) (Zly Zar (Zkx (Zdt rfl Zaf (Zdt rfl Zaf (Zdt rfl Zaf (Zdt rfl (Zaq ZcW Zaf Zaf) Zky))))) (we (Zat CT hr1 rfl (Zaa (pv 0) (Zaa Zaf Zad)))) (fun _ _=>rfl)))
   (Zag (ws (Zaj (i:=6) scReels56.nd rfl (YaP rfl) (Zav Zad)))
   (Zag (ws (Zbb Yba rfl (Zbg (Zat CB hr2 rfl (Zaa (pv 1) (Zaa (pv 2) Zad)))) (Zah (i:=7) scReels56.nd rfl (YaP rfl))
   (WSs.out (Zag (ws (Zaj (i:=8) scReels56.nd rfl (YaP rfl) (Zav Zad)))
    (Zag (ws (Zbb Yba rfl (Zbg (pv 7)) (Zah (i:=9) scReels56.nd rfl (YaP rfl))
    (WSs.out (Zag (ws (Zaj (i:=10) scReels56.nd rfl (YaP rfl) (Zcp Ziw (Zcp Zg4 (Zaq ZbL (pv 9) Zaf) Zaf (ZaS _)) (pv 3) (ZaS _))))
     (Zag (ws (Zcl (i:=11) scReels56.nd rfl rfl (own:=["k"]) (js:=[0,5]) (CompOk.by (sc:=Zac Zbo) (N:=["pot","p","n","flip","idle","far","found","numbers","reel","number","up","things"]) rfl rfl (by decide +kernel)) rfl (ZaR rfl T.range (Zaa (Zat CT hr1 rfl (Zaa (pv 0) (Zaa Zaf Zad))) Zad)) Zao (fun _ _ _ _ _=>(Zah (i:=0) (by show (["k","pot","far"]:List Str).Nodup;decide +kernel) rfl (YaP rfl) (.inr rfl))) (fun _ _ _ _ _=>ZaA) (fun _ _ _ _ _=>(Zaq ZcV (Zaq Za1 (Zat CT hr1 rfl (Zaa (pv 1) (Zaa (Zaq ZcV (Zaq Zg1 Zaf (pv 2)) Zaf) Zad))) Zaf) (pv 2)))))
     (Zag (ws (Zaj (i:=11) scReels56.nd rfl (YaP rfl) (Zat CS hr1 rfl (Zaa (pv 11) (Zaa (pv 10) Zad)))))
     (Zan (Zch (ZaM Zg2 (Zat CT hr1 rfl (Zaa (pv 0) (Zaa Zaf Zad))) (pv 4) (ZaS _))
     (Zan (ws (ZaJ (Zb4 YaG Ya2 Ya1 ZaC (pv 8) (Zaa ZfC Zad)))))
     (Zan (ws (ZaJ (Zb4 YaG Ya2 Ya1 ZaC (pv 8) (Zaa (Zb3 (Zaa (pv 10) (Zaa (pv 11) Zad))) Zad)))))))))))))
    (Zan (ws (ZaJ (Zb4 YaG Ya2 Ya1 ZaC (pv 6) (Zaa (pv 8) Zad))))))))))
   (Zan (ws (Zay (pv 6))))))))),?_⟩
  have hNl:(tnum p n).length=p:=ZaT (by (clear h4000 h300 h2;omega)) n;have hN4:∀ xs∈tnum p n,xs.length<=4000:=fun xs hxs=>by have:=ZeR (show 1<=p by (clear hNl h4000 h300 h2;omega)) hxs;(clear hNl h300 h2 h1;omega)
  refine⟨_,rfl,pl,2,rfl,hpot,by decide,by decide,fun b1 Ha _ _ hpa sma=>⟨rfl,?_⟩⟩;generalize decide (V.int b1=V.int 1)=fl;refine⟨_,rfl,pl,4,rfl,hpa,by decide,by decide,fun idle Hb' _ _ hpb smb=>?_⟩;refine⟨10,60,rfl,rfl,⟨by decide,by decide,by decide +kernel⟩,(by show 4<=sizeLine;decide),fun l0 nl0=>?_⟩;have hp0':=hpb.put (o:=.lst [.int 1,.int 3,.int 50,.int (10 ^ YcF 60)]) nl0;have nl0p:l0≠pl:=hpb.ne nl0;refine⟨_,rfl,pl,4,rfl,hp0',by decide,by decide,fun df Hc c0 c1 hpc smc=>?_⟩;have hl0c:Hc l0=some (.lst [.int 1,.int 3,.int 50,.int (10 ^ YcF 60)]):=smc _ _ Zab nl0p;obtain⟨far,hfar,f1,f2,f3⟩:∃ far:Int,atI [V.int 1,.int 3,.int 50,.int (10 ^ YcF 60)] df=some (.int far)/\1<=far/\far<=10 ^ YcF 60/\YbH (2*far - 1)<=8000:=by
   have:df=0∨df=1∨df=2∨df=3:=by (clear nl0p hNl h4000 h300 h2 h1;omega)
   rcases this with rfl | rfl | rfl | rfl
   ·exact⟨1,rfl,by decide,by decide +kernel,by decide +kernel⟩
   ·exact⟨3,rfl,by decide,by decide +kernel,by decide +kernel⟩
   ·exact⟨50,rfl,by decide,by decide +kernel,by decide +kernel⟩
   ·exact⟨10 ^ YcF 60,rfl,by decide +kernel,Ycl _,by decide +kernel⟩
  have f4:far<Zbc:=Int.lt_of_le_of_lt f2 (by decide +kernel);refine⟨l0,_,df,.int far,rfl,rfl,SqL.of hl0c,hfar,?_⟩;have smH:Sm pl H Hc:=(sma.trans smb).trans ((Sm.new nl0).trans smc);refine⟨YaO _,fun f nf0=>?_⟩;have nf:H f=none:=by
   have h9:f≠pl:=hpc.ne nf0;exact smH.free h9 nf0
  have s0:Same Hc (upd Hc f (.lst [])):=Same.new nf0;have hf0:upd Hc f (.lst []) f=some (.lst []):=Zab;have hp0:=hpc.put (o:=.lst []) nf0;have nfp:f≠pl:=hpc.ne nf0;have hb:∀ t,upd Hc f (.lst []) t=none->H t=none:=fun t ht=>by
   have h8:=ZaE ht;exact smH.free (hpc.ne h8) h8
  have smHf:Sm pl H (upd Hc f (.lst [])):=smH.trans (Sm.of s0);generalize hHf:upd Hc f (.lst [])=Hf at hf0 hp0 s0 hb smHf ⊢;have hfn:Hf f≠none:=by rw[hf0];exact fun z=>nomatch z
  have hpn:=hp0.some;refine⟨_,rfl,_,rfl,p,n,rfl,h1,h2,h300,h4000,fun u us Hu nu0 hu0 hN hus s1u=>⟨u,rfl,⟨_,SqL.of hu0⟩,?_⟩⟩;have husl:us.length=p:=by rw[hN.1,hNl]
  have hpu:=hp0.same s1u;have nu:u≠pl:=hpu.neR hu0;have nuf:u≠f:=fun z=>hfn (by rw[<- z];exact nu0);have husp:∀ q∈us,q≠pl:=fun q hq z=>hpn (by rw[<- z];exact hus q hq);have husf:∀ q∈us,q≠f:=fun q hq z=>hfn (by rw[<- z];exact hus q hq);refine Za6 (xs:=us.map V.ref) (fun i σ Hx=>∃ (as:List Addr) (Vs:List (List V)) (D:List (List TD)) (o7 o8 o9 o10 o11:Option V),σ=[some (.ref pl),some (.int p),some (.int n),some (.bl fl),some (.int idle),some (.int far),some (.ref f),o7,o8,o9,o10,o11]/\Hx f=some (.lst (as.map V.ref))/\as.length=i/\RL Hx as Vs/\TVD Hf Hx Vs D/\(∀ q∈as,Hf q=none)/\GdD fl D ((tnum p n).take i)/\(∀ r∈D,∀ d∈r,BndT d)/\PotT Hx pl/\(∀ b o,Hu b=some o->b≠pl->b≠f->Hx b=some o))
   ⟨[],[],[],none,none,none,none,none,rfl,s1u _ _ hf0,rfl,⟨rfl,fun j a vs x=>by simp at x⟩,⟨rfl,fun j a vs x=>by simp at x⟩,fun q hq=>by simp at hq,trivial,fun r hr=>by simp at hr,hpu,fun b o e _ _=>e⟩ (fun i σ Hx _ z=>by
    obtain⟨_,_,_,_,_,_,_,_,_,_,_,_,_,_,_,_,_,sz⟩:=z;exact SqL.of (sz _ _ hu0 nu nuf)) ?_ ?_
  ·rintro i x σ Hx hx ⟨as,Vs,D,o7,o8,o9,o10,o11,rfl,hf,hal,hRL,hTV,hnew,hG,h3,hp,sx⟩;obtain⟨r,hr',rfl⟩:=Zau hx;have hi:=(Yaa.mp hr').1
   obtain⟨ws,hws⟩:∃ ws,(tnum p n)[i]?=some ws:=⟨_,Yab (by (clear hal nuf nu nfp f4 f3 f2 f1 c1 c0 nl0p h4000 h300 h2 h1;omega))⟩
   have hrH:=hN.2 i r _ hr' hws;have hrp:=husp r (Yah hr');have hrf:=husf r (Yah hr');have hrx:=sx _ _ hrH hrp hrf;have hw4:=hN4 ws (Yah hws);refine⟨YaO _,fun rw0 nrw=>?_⟩;have nrwp:rw0≠pl:=hp.ne nrw;have nrwf:rw0≠f:=fun z=>by rw[z,hf] at nrw;cases nrw
   have hRLn:∀ q∈as,q≠rw0:=fun q hq z=>by
    obtain⟨j,hj⟩:=YaK hq;obtain⟨vs,_,e⟩:=hRL.at hj;rw[z,nrw] at e;cases e
   have hasf:∀ q∈as,q≠f:=fun q hq z=>hfn (by rw[<- z];exact hnew q hq);have hasp:∀ q∈as,q≠pl:=fun q hq z=>hpn (by rw[<- z];exact hnew q hq);have s1:Same Hx (upd Hx rw0 (.lst [])):=Same.new nrw;have hrw1:upd Hx rw0 (.lst []) rw0=some (.lst []):=Zab;have hp1:=hp.put (o:=.lst []) nrw;have nrwu:Hu rw0=none:=by
    cases e:Hu rw0 with
    | none=>rfl
    | some o=>rw[sx _ _ e nrwp nrwf] at nrw;cases nrw
   have nrw0:Hf rw0=none:=s1u.free nrwu;have hf1:=s1 _ _ hf;have hR1:=hRL.same s1;have hT1:TVD (upd Hf rw0 (.lst [])) (upd Hx rw0 (.lst [])) Vs D:=(hTV.oldD nrw).same s1;have hww:upd Hf rw0 (.lst []) rw0≠none:=Zbd;have hwp:upd Hf rw0 (.lst []) pl≠none:=by rw[upd_ne nrwp.symm];exact hpn
   have hwb:∀ t,upd Hf rw0 (.lst []) t=none->Hf t=none:=fun t ht=>ZaE ht;have hwn:∀ t,Hf t=none->t≠rw0->upd Hf rw0 (.lst []) t=none:=fun t h1 h2=>by rw[upd_ne h2];exact h1
   generalize upd Hf rw0 (.lst [])=Hw at hT1 hww hwp hwb hwn ⊢;have sx1:∀ b o,Hu b=some o->b≠pl->b≠f->upd Hx rw0 (.lst []) b=some o:=fun b o e n1 n2=>s1 _ _ (sx b o e n1 n2);generalize upd Hx rw0 (.lst [])=H1 at s1 hrw1 hp1 hf1 hR1 hT1 sx1 ⊢;have hr1':=s1 _ _ hrx;refine⟨_,rfl,r,rfl,⟨_,SqL.of hr1'⟩,?_⟩;refine Za6 (xs:=ws.map V.int) (fun j σ' Hy=>∃ (vs:List V) (ds:List TD) (o9 o10 o11:Option V),σ'=[some (.ref pl),some (.int p),some (.int n),some (.bl fl),some (.int idle),some (.int far),some (.ref f),some (.ref r),some (.ref rw0),o9,o10,o11]/\Hy rw0=some (.lst vs)/\vs.length=j/\TVs Hw Hy vs ds/\GdR fl ds (ws.take j)/\(∀ d∈ds,BndT d)/\Hy f=some (.lst (as.map V.ref))/\RL Hy as Vs/\TVD Hw Hy Vs D/\PotT Hy pl/\(∀ b o,Hu b=some o->b≠pl->b≠f->Hy b=some o)/\Hy r=some (.lst (ws.map V.int)))
     ⟨[],[],_,_,_,rfl,hrw1,rfl,TVs.nil _ _,trivial,fun e he=>by simp at he,hf1,hR1,hT1,hp1,sx1,hr1'⟩ (fun j σ' Hy _ z=>by
      obtain⟨_,_,_,_,_,_,_,_,_,_,_,_,_,_,_,_,e⟩:=z;exact SqL.of e) ?_ ?_
   ·rintro j y σ' Hy hy ⟨vs,ds,o9,o10,o11,rfl,hrw,hvl,hTy,hGy,h3y,hfy,hRy,hTDy,hpy,sy,hry⟩;obtain⟨w0,hw0,rfl⟩:=Zbt hy;have hj:=(Yaa.mp hw0).1
    have nrr:r≠rw0:=fun z=>by rw[z,nrw] at hrx;cases hrx
    refine⟨_,rfl,w0,2,rfl,rfl,(by show (0:Int)<2;decide),rfl,_,rfl,rfl,?_⟩;have eup:(!decide (V.bl (decide (V.int (w0 % 2)=V.int 0))=V.bl fl))=(evB w0 != fl):=by
     rw[ZhG,Zfg];have:((w0 % 2) == (0:Int))=evB w0:=by unfold evB;rw[Yb4];simp
     rw[this];rfl
    rw[eup];refine⟨_,rfl,pl,4,rfl,hpy,by decide,by decide,fun dn H2 e0 e1 hp2 sm2=>⟨_,rfl,by (clear e1 nrr hj hvl nrwf nrwp hw4 hrf hrp hi hal nuf nu husl nfp f4 f3 f2 f1 c1 c0 nl0p hNl h4000 h300 h2 h1;omega),by (clear e0 nrr hj hvl nrwf nrwp hw4 hrf hrp hi hal nuf nu husl nfp f4 f3 f2 f1 c1 c0 nl0p hNl h4000 h300 h2 h1;omega),?_⟩⟩;refine Zgg (fun d=>-Zbc<d/\d<Zbc) hp2 (by (clear e0 nrr hj hvl nrwf nrwp hw4 hrf hrp hi hal nuf nu husl nfp f4 f3 f2 f1 c1 c0 nl0p hNl h4000 h300 h2 h1;omega)) (fun ii H3 hi3 hp3 sm3 R2 hR2=>⟨_,rfl,_,rfl,2,far,rfl,rfl,.inl ⟨by decide,by decide⟩,_,1,rfl,rfl,pl,2*far - 1,rfl,hp3,by (clear hi3 e1 e0 nrr hj hvl nrwf nrwp hw4 hrf hrp hi hal nuf nu husl nfp f4 f3 f2 c1 c0 nl0p hNl h4000 h300 h2 h1;omega),f3,fun d H4 d0 d1 hp4 sm4=>⟨_,1,rfl,rfl,_,rfl,_,_,rfl,rfl,hR2 _ H4 ⟨by (clear d1 hi3 e1 e0 nrr hj hvl nrwf nrwp hw4 hrf hrp hi hal nuf nu husl nfp f3 f2 f1 c1 c0 nl0p hNl h4000 h300 h2 h1;omega),by (clear d0 hi3 e1 e0 nrr hj hvl nrwf nrwp hw4 hrf hrp hi hal nuf nu husl nfp f3 f2 f1 c1 c0 nl0p hNl h4000 h300 h2 h1;omega)⟩ hp4 sm4⟩⟩) fun acc xs H3 ha0 hacc hxl hxP hp3 sm3=>?_;refine⟨_,rfl,_,rfl,acc,xs,_,rfl,hacc,fun th H4 nth hth s4=>?_⟩;have m4:Sm pl Hy H4:=(sm2.trans sm3).trans (Sm.of s4);have hrw4:=m4 _ _ hrw nrwp;have hp4:PotT H4 pl:=hp3.same s4;have thy:Hy th=none:=by
     have h1:H3 th=none:=nth;have h2:th≠pl:=hp3.ne h1;exact (sm2.trans sm3).free h2 h1
    have thf:Hf th=none:=by
     have h2:th≠pl:=hpy.ne thy;have h8:Hu th=none:=by
      cases e:Hu th with
      | none=>rfl
      | some o=>exact absurd (sy _ _ e h2 (fun z=>by rw[z,hfy] at thy;cases thy)) (by rw[thy];exact fun z=>nomatch z)
     exact s1u.free h8
    have thw:Hw th=none:=hwn th thf fun z=>by rw[z,hrw] at thy;cases thy
    clear hacc;have hgood:GdT fl (some ((evB w0 != fl),dirT (evB w0 != fl) xs)) w0:=fun e he=>by cases he;exact⟨rfl,(Zkg _ _).symm⟩
    have hbnd:BndT (some ((evB w0 != fl),dirT (evB w0 != fl) xs)):=fun e he=>by
     cases he;refine⟨?_,fun z hz=>hxP z (Zkf hz)⟩;rw[ZhD]
     (clear e0 nrr hj hvl nrwf nrwp hw4 hrf hrp hi hal nuf nu husl nfp f4 f3 f2 f1 c1 c0 nl0p hNl h4000 h300 h2 h1;omega)
    refine⟨_,rfl,pl,4,rfl,hp4,by decide,by decide,fun d H7 d0 d1 hp7 sm7=>⟨_,rfl,_,_,rfl,rfl,_,rfl,?_⟩⟩;have m7:Sm pl Hy H7:=m4.trans sm7;have hrw7:=m7 _ _ hrw nrwp;have hfy7:=m7 _ _ hfy nfp;have hth7:H7 th=some (.lst ((dirT (evB w0 != fl) xs).map V.int)):=sm7 _ _ hth fun z=>hpy.some (by rw[<- z];exact thy);have e4:ws.take (j+1)=ws.take j++[w0]:=by rw[Ya9,hw0];rfl
    refine ite2 (fun _=>?_) (fun _=>?_)
    ·refine⟨_,rfl,.inl ⟨rfl,_,SqL.of hrw7⟩,rw0,_,_,rfl,rfl,hrw7,Zbn (by (clear d1 d0 hxl e1 e0 nrr nrwf nrwp hrf hrp hi hal nuf nu husl nfp f4 f3 f2 f1 c1 c0 nl0p hNl h4000 h300 h2 h1;omega)),?_⟩;refine⟨vs++[.non],ds++[none],_,_,_,rfl,Zab,by simp[hvl],TVs.snoc ((hTy.sm m7 hpy hwp).put hrw7 hww) (show TV Hw _ V.non none from rfl),?_,?_,by rw[upd_ne nrwf.symm];exact hfy7,(hRy.sm m7 hasp).off hRLn,(hTDy.sm m7 hpy hwp).put hrw7 hww,hp7.off nrwp,fun b o e n1 n2=>?_,?_⟩
     ·rw[e4];exact GdR.app hGy ⟨(fun e he=>by cases he),trivial⟩
     ·intro e he;rcases Yao.mp he with he | he
      ·exact h3y e he
      ·rw[YaH.mp he];exact fun e he=>by cases he
     ·have nb:b≠rw0:=fun z=>by rw[z,nrwu] at e;cases e
      rw[upd_ne nb];exact m7 _ _ (sy b o e n1 n2) n1
     ·rw[upd_ne nrr];exact m7 _ _ hry hrp
    ·refine⟨_,rfl,.inl ⟨rfl,_,SqL.of hrw7⟩,_,rfl,_,rfl,(by show 2<=sizeLine;decide),fun t1 nt1=>?_⟩;have s8:Same H7 (upd H7 t1 (.tup [.bl (evB w0 != fl),.ref th])):=Same.new nt1;have ht1:upd H7 t1 (.tup [.bl (evB w0 != fl),.ref th]) t1=some (.tup [.bl (evB w0 != fl),.ref th]):=Zab;have m8:=m7.trans (Sm.of s8);have hrw8:=s8 _ _ hrw7;have hfy8:=s8 _ _ hfy7;have hp8:=hp7.same s8;have hth8:=s8 _ _ hth7;generalize upd H7 t1 (.tup [.bl (evB w0 != fl),.ref th])=H8 at s8 ht1 m8 hrw8 hfy8 hp8 hth8 ⊢;have hv2:TV Hw H8 (.ref t1) (some ((evB w0 != fl),dirT (evB w0 != fl) xs)):=⟨t1,th,rfl,ht1,hth8,thw⟩
     refine⟨rw0,_,_,rfl,rfl,hrw8,Zbn (by (clear d1 d0 hxl e1 e0 nrr nrwf nrwp hrf hrp hi hal nuf nu husl nfp f4 f3 f2 f1 c1 c0 nl0p hNl h4000 h300 h2 h1;omega)),?_⟩;refine⟨vs++[.ref t1],ds++[some ((evB w0 != fl),dirT (evB w0 != fl) xs)],_,_,_,rfl,Zab,by simp[hvl],TVs.snoc ((hTy.sm m8 hpy hwp).put hrw8 hww) (hv2.put hrw8 hww),?_,?_,by rw[upd_ne nrwf.symm];exact hfy8,(hRy.sm m8 hasp).off hRLn,(hTDy.sm m8 hpy hwp).put hrw8 hww,hp8.off nrwp,fun b o e n1 n2=>?_,?_⟩
     ·rw[e4];exact GdR.app hGy ⟨hgood,trivial⟩
     ·intro e he;rcases Yao.mp he with he | he
      ·exact h3y e he
      ·rw[YaH.mp he];exact hbnd
     ·have nb:b≠rw0:=fun z=>by rw[z,nrwu] at e;cases e
      rw[upd_ne nb];exact m8 _ _ (sy b o e n1 n2) n1
     ·rw[upd_ne nrr];exact m8 _ _ hry hrp
   ·rintro σ' Hy ⟨vs,ds,o9,o10,o11,rfl,hrw,hvl,hTy,hGy,h3y,hfy,hRy,hTDy,hpy,sy,hry⟩;rw[Yac,YaT] at hGy;refine⟨_,rfl,.inl ⟨rfl,_,SqL.of hfy⟩,_,rfl,f,_,_,rfl,rfl,hfy,Zbn (by rw[Yac];(clear hvl nrwf nrwp hw4 hrf hrp nuf nu nfp f4 f3 f2 f1 c1 c0 nl0p hNl h4000 h300 h1;omega)),?_⟩;have hfw:Hw f≠none:=fun z=>hfn (hwb f z);refine⟨as++[rw0],Vs++[vs],D++[ds],_,_,_,_,_,rfl,by rw[Zab];simp,by simp[hal],RL.snoc (hRy.off hasf) (by rw[upd_ne nrwf];exact hrw),(TVD.snoc (hTDy.put hfy hfw) (hTy.put hfy hfw)).base hwb,fun q hq=>?_,?_,?_,hpy.off nfp,fun b o e n1 n2=>?_⟩
    ·rcases Yao.mp hq with hq | hq
     ·exact hnew q hq
     ·rw[YaH.mp hq];exact nrw0
    ·rw[Ya9,hws];exact GdD.snoc hG hGy
    ·intro d hd e he;rcases Yao.mp hd with hd | hd
     ·exact h3 d hd e he
     ·rw[YaH.mp hd] at he;exact h3y e he
    ·rw[upd_ne n2];exact sy b o e n1 n2
  ·rintro σ Hx ⟨as,Vs,D,o7,o8,o9,o10,o11,rfl,hf,hal,hRL,hTV,hnew,hG,h3,hp,sx⟩;rw[Yac,husl,YaW (by rw[hNl];exact Yas _)] at hG;refine⟨_,rfl,k f as Vs D fl Hx nf hf hRL (hTV.base hb) (fun q hq=>hb q (hnew q hq)) hG h3 hp fun b o e n=>?_⟩;exact sx b o (s1u _ _ (smHf _ _ e n)) n fun z=>by rw[z,nf] at e;cases e
theorem scFormed:FnScope ["told","p","row"] ["told","p"] (Zac Zck):=⟨rfl,rfl,rfl,by decide +kernel,rfl,by decide +kernel,by decide +kernel⟩
theorem ZiN {K:Yae}:Yco K (.type "bool") (.type "bool")=some true:=by rfl
def ZdD:Sp:=fun vs H Q _=>∃ (t e:Addr) (p:Nat) (v:V) (d:TD) (rs:List Int),vs=[.ref t,.int p]/\H t=some (.tup [v,.ref e])/\TV (fun _=>none) H v d/\H e=some (.lst (rs.map V.int))/\rs.length=p+1/\∀ H',Same H H'->Q (.bl true) H'
theorem Zg7 {f:Addr}{fd:FuncData} (F:Fun K "_law_formed" "_law_formed" Zck f fd) (T:Txt mg):FnOk P w K mg base CX0 1 f fd ["told","p"] ZdD:=by
 refine okW F scFormed (fun vs H Q E h=>?_) (fun cdv A outer s H vs Q E hr h=>?_)
 ·obtain⟨t,e,p,v,d,rs,rfl,_⟩:=h;rfl
 ·obtain⟨t,e,p,v,d,rs,rfl,ht,hv,he,hrl,k⟩:=h;refine⟨_,(Zag (Zch (PW.pt (Ze3 (Zb2 (Zcu (Zal ZaW rfl T.isinstance ZaO (Zaa (pv 0) (Zaa (Ze5 rfl T.tuple ZbT) Zad))))) (Ze3 (ZaM Ziw (Zal ZaH rfl T.len YbM (Zaa (pv 0) Zad)) Zaf (ZaS _)) (Ze3 (Zb2 (Zcu (Zal ZaW rfl T.isinstance ZaO (Zaa (Zaw Za4 (pv 0) Zaf (fun _ _=>rfl)) (Zaa (Ze5 rfl T.list Zdr) Zad))))) (Zfv (ZaM Ziw (Zal ZaH rfl T.len YbM (Zaa (Zaw Za4 (pv 0) Zaf (fun _ _=>rfl)) Zad)) (Zaq Za1 (pv 1) Zaf) (ZaS _)))))))
   (Zan (ws (Zay Ze6)))
   Za8)
   (Zag (Zch (ZcO (Zjh (Zaw Za4 (pv 0) Zaf (fun _ _=>rfl))))
   (Zan (ws (Zay Ze6)))
   Za8)
   (Zag (ws (Zaj (i:=2) scFormed.nd rfl (YaP rfl) (Zaw Za4 (pv 0) Zaf (fun _ _=>rfl))))
   (Zan (ws (Zay (ZfD (Zal ZaW rfl T.isinstance ZaO (Zaa (pv 2) (Zaa (Ze5 rfl T.tuple ZbT) Zad))) (ZfD (Zcp Zg4 (Zal ZaH rfl T.len YbM (Zaa (pv 2) Zad)) Zaf (ZaS _)) (ZfD (Zal ZaW rfl T.isinstance ZaO (Zaa (Zaw Za4 (pv 2) Zaf (fun _ _=>rfl)) (Zaa (Ze5 rfl T.bool Zjo) Zad))) (Zjg (Zal ZaW rfl T.isinstance ZaO (Zaa (Zaw Za4 (pv 2) Zaf (fun _ _=>rfl)) (Zaa (Ze5 rfl T.list Zdr) Zad))))))))))))),?_⟩
  have hth:=SqT.of (K:=K) ht;have hel:=SqL.of (K:=K) he;refine⟨_,rfl,.ref t,"tuple",_,true,rfl,.tup ht,Zbz,true,rfl,?_⟩;refine iteF ⟨_,rfl,t,_,rfl,.inr hth,rfl,_,rfl,iteF ?_⟩;refine⟨_,rfl,t,_,1,.ref e,rfl,rfl,hth,rfl,.ref e,"list",_,true,rfl,.lst he,Zb6,true,rfl,iteF ?_⟩;refine⟨_,rfl,t,_,1,.ref e,rfl,rfl,hth,rfl,e,_,rfl,.inl hel,_,rfl,_,_,rfl,rfl,rfl,_,rfl,?_⟩;have e1:(!decide (V.int ((rs.map V.int).length:Int)=V.int ((p:Int)+1)))=false:=by
   rw[Yac,hrl,decide_eq_true (by simp)];rfl
  rw[e1];refine iteF ?_;refine⟨_,rfl,t,_,0,v,rfl,rfl,hth,rfl,_,rfl,?_⟩;rw[hv.isn]
  cases d with
  | none=>exact iteT (k H (Same.refl _))
  | some d=>
   obtain⟨q,tt,rfl,hq,htt,_⟩:=hv;have hqh:=SqT.of (K:=K) hq;refine iteF ⟨_,rfl,t,_,0,.ref q,rfl,rfl,hth,rfl,?_⟩;refine⟨_,rfl,.ref q,"tuple",_,true,rfl,.tup hq,Zbz,true,rfl,iteT ?_⟩;refine⟨_,rfl,q,_,rfl,.inr hqh,rfl,true,rfl,iteT ?_⟩;refine⟨_,rfl,q,_,0,.bl d.1,rfl,rfl,hqh,rfl,.bl d.1,"bool",_,true,rfl,.bl _,ZiN,true,rfl,iteT ?_⟩;exact⟨_,rfl,q,_,1,.ref tt,rfl,rfl,hqh,rfl,.ref tt,"list",_,true,rfl,.lst htt,Zb6,k H (Same.refl _)⟩
end
end Fi56
namespace Fi56
open PySem L2 Lv
section
variable {P:Program}{w:World}{K:Yae}{mg:Str->Option Value}{base:Heap}
theorem scPlay56:FnScope ["p","n","reels","here","order","out","read","at","turn","rows","reel","row","up","things"] ["p","n","reels"] (Zac Zbp):=⟨rfl,rfl,rfl,by decide +kernel,rfl,by decide +kernel,by decide +kernel⟩
theorem Zg5 {f f1:Addr}{fd d1:FuncData} (F:Fun K "_law_play" "_law_play" Zbp f fd) (T:Txt mg) (CS:Cal P w K mg base 1 "_law_sorted" ["things","up"] Zdy f1 d1):FnOk P w K mg base CX0 2 f fd ["p","n","reels"] ZdA:=by
 refine okW F scPlay56 (fun vs H Q E h=>?_) (fun cdv A outer s H vs Q E hr h=>?_)
 ·obtain⟨p,n,rl,as,Vs,D,fl,rfl,_⟩:=h;rfl
 ·obtain⟨p,n,rl,as,Vs,D,fl,rfl,h1,h2,h300,h4000,hrl,hRL,hTV,hG,htot,k⟩:=h;have hr1:Room 1 _:=hr.mono (by decide);have hu0:(A.deeper (YcL "_law_play" (Zac Zbp) s.heap.objs.size f cdv)).units<cLine:=by have:=hr.un;(clear htot h4000 h300 h2 h1;omega)
  refine⟨_,(Zag (ws (Zaj (i:=3) scPlay56.nd rfl (YaP rfl) (Zaq Zcw (ZaN (own:=["reel"]) (js:=[]) (CompOk.by (sc:=Zac Zbp) (N:=["p","n","reels","here","order","out","read","at","turn","rows","reel","row","up","things"]) rfl rfl (by decide +kernel)) rfl (ZaQ (pv 2)) Zao (fun _ _ _ _ _=>(Zah (i:=0) (by show (["reel"]:List Str).Nodup;decide +kernel) rfl (YaP rfl) (.inr rfl))) (fun _ _ _ _ _=>ZaA) (fun _ _ _ _ _=>(ZaB (Zd1 K) rfl T.list Zdr (Zaa (pv 0) Zad)))) (Zav (Zaa (Zav Zad) Zad)))))
   (Zag (ws (Zaj (i:=4) scPlay56.nd rfl (YaP rfl) (ZaB (Zce rfl) rfl T.list Zdr (Zaa (ZaB ZfS rfl T.range ZhZ (Zaa (pv 0) Zad)) Zad))))
   (Zag (ws (Zaj (i:=5) scPlay56.nd rfl (YaP rfl) (pv 0)))
   (Zag (ws (Zaj (i:=6) scPlay56.nd rfl (YaP rfl) (Zaq Zek (Zav (Zaa Zaf Zad)) (Zaq Za1 (pv 0) Zaf))))
   (Zag (ws (Zaj (i:=7) scPlay56.nd rfl (YaP rfl) Zaf))
   (Zag (ws (Zbb Yba rfl (ZaR rfl T.range (Zaa (pv 1) Zad)) (Zah (i:=8) scPlay56.nd rfl (YaP rfl))
   (WSs.out (Zag (ws (ZdK Yba (ZaM (Zji hu0) (Zaw Zar (pv 3) (Zaw Zar (pv 4) (Zf8 Zdb Zaf) (fun _ _=>rfl)) (fun _ _=>rfl)) (Zav Zad) (ZaS _))
    (WSs.out (Zag (ws (Zaj (i:=9) scPlay56.nd rfl (YaP rfl) (Zav Zad)))
     (Zag (ws (Zbb Yba rfl (Zbg (pv 4)) (Zah (i:=10) scPlay56.nd rfl (YaP rfl))
     (WSs.out (Zag (ws (Zaj (i:=11) scPlay56.nd rfl (YaP rfl) (Zej YaG YcI YcH ZfI (Zaw Zar (pv 3) (pv 10) (fun _ _=>rfl)))))
      (Zan (Zch (ZcO (ZcU (pv 11)))
      (Zag (ws (ZaJ (Zb4 YaG Ya2 Ya1 ZaC (pv 9) (Zaa (pv 11) Zad))))
       (Zan (ws (Zcv (Zaq Za1 (Zaw Zar (pv 6) (pv 10) (fun _ _=>rfl)) (Zal ZaH rfl T.len YbM (Zaa (Zaw Za4 (pv 11) Zaf (fun _ _=>rfl)) Zad))) (Zei (pv 6) (pv 10) Zb1)))))
      Za8))))))
     (Zag (Zch (ZaM (Zk3 hu0) (pv 9) (Zav Zad) (ZaS _))
     (Zan (ws (ZaJ (Zb4 YaG Ya2 Ya1 ZaC (Zaw Zar (pv 3) (pv 5) (fun _ _=>rfl)) (Zaa ZfC Zad)))))
     (Zag (ws (Zaj (i:=12) scPlay56.nd rfl (Yds rfl) (Zaw Za4 (Zaw Zar (pv 9) Zaf (fun _ _=>rfl)) Zaf (fun _ _=>rfl))))
      (Zag (Zch (Zb2 (Zcu (Zal (ZiZ rfl) rfl T.all ZlY (Zaa (ZaN (own:=["row"]) (js:=[12]) (CompOk.by (sc:=Zac Zbp) (N:=["p","n","reels","here","order","out","read","at","turn","rows","reel","row","up","things"]) rfl rfl (by decide +kernel)) rfl (ZaQ (pv 9)) Zao (fun _ _ _ _ _=>(Zah (i:=0) (by show (["row","up"]:List Str).Nodup;decide +kernel) rfl (YaP rfl) (.inr rfl))) (fun _ _ _ _ _=>ZaA) (fun _ _ _ _ _=>(Zcp Zg4 (Zaw (Zhm K) (pv 0) Zaf (fun _ _=>rfl)) (pv 1) (ZaS _)))) Zad))))
      (Zan (ws (Zay (pv 7))))
      Za8)
      (Zag (ws (Zaj (i:=13) scPlay56.nd rfl (YaP rfl) (Zav Zad)))
      (Zag (ws (Zbb Yba rfl (Zbg (pv 9)) (Zah (i:=11) scPlay56.nd rfl (YaP rfl))
      (WSs.out (Zan (ws (ZaJ (Zb4 YaG YdR YdQ Zeo (pv 13) (Zaa (Zaw Za4 (pv 11) Zaf (fun _ _=>rfl)) Zad))))))))
      (Zan (ws (ZaJ (Zb4 YaG Ya2 Ya1 ZaC (Zaw Zar (pv 3) (pv 5) (fun _ _=>rfl)) (Zaa (Zb3 (Zaa (ZgU (pv 12)) (Zaa (Zat CS hr1 rfl (Zaa (pv 13) (Zaa (ZgU (pv 12)) Zad))) Zad))) Zad))))))))))
     (Zan (ws (Zaj (i:=7) scPlay56.nd rfl (YaP rfl) (Zaq Za1 (pv 7) Zaf))))))))))
    (Zag (ws (Zaj (i:=4) scPlay56.nd rfl (YaP rfl) (Zaq Zcw (Zav (Zaa (pv 5) Zad)) (pv 4))))
    (Zan (ws (Zaj (i:=5) scPlay56.nd rfl (YaP rfl) (Zej YaG YcI YcH ZfI (pv 4))))))))))
   (Zan (ws (Zay (Zb3 (Zaa (Zaw Zar (Zaw Zar (pv 3) (Zaw Zar (pv 4) Zaf (fun _ _=>rfl)) (fun _ _=>rfl)) Zaf (fun _ _=>rfl)) (Zaa (pv 6) Zad)))))))))))),?_⟩
  have hal:as.length=Vs.length:=hRL.1;have hvl:Vs.length=D.length:=hTV.1;have hpl:D.length=p:=by rw[hG.len,ZaT (by (clear hvl hal hu0 htot h4000 h300 h2;omega))]
  have hD4:∀ r∈D,r.length<=4000:=fun r hr'=>by
   obtain⟨jj,hj⟩:=YaK hr';obtain⟨ws,hw,gw⟩:=hG.at hj;have:=ZeR (show 1<=p by (clear hpl hvl hal hu0 htot h4000 h300 h2;omega)) (Yah hw);rw[gw.len]
   (clear hpl hvl hal hu0 htot h300 h2 h1;omega)
  refine⟨_,rfl,rl,true,rfl,⟨_,SqL.of hrl⟩,?_⟩;refine Zfi (b:=true) (K:=K) (a:=rl) (xs:=as.map V.ref) (fun j=>Vs.getD j []) (SqL.of hrl) (by rw[Yac];(clear hu0 htot h4000 h300 h1;omega)) (fun i x hx H1 s1 R hR=>?_) fun bh bs H1 nbh hbh hbl hbd hbs s1=>?_
  ·obtain⟨r,hr',rfl⟩:=Zau hx;obtain⟨vs,hv,hrv⟩:=hRL.at hr';have hg:Vs.getD i []=vs:=by rw[Yad,hv];rfl
   refine⟨_,rfl,r,vs,rfl,.inl (SqL.of (s1 _ _ hrv)),fun l nl=>hR l _ nl (by rw[Zab,hg]) (Same.new nl)⟩
  rw[Yac] at hbl;refine⟨YaO _,fun e0 ne0=>⟨(by show 1<=sizeLine;decide),fun e2 ne2=>?_⟩⟩;have s5:Same H1 (upd H1 e0 (.lst [])):=Same.new ne0;have s6:Same (upd H1 e0 (.lst [])) (upd (upd H1 e0 (.lst [])) e2 (.lst [.ref e0])):=Same.new ne2;have he0:=s6 _ _ (Zab (H:=H1) (a:=e0) (o:=.lst []));have he2:upd (upd H1 e0 (.lst [])) e2 (.lst [.ref e0]) e2=some (.lst [.ref e0]):=Zab;have s16:=s5.trans s6;generalize upd (upd H1 e0 (.lst [])) e2 (.lst [.ref e0])=H2 at s6 he0 he2 s16 ⊢;refine⟨bh,e2,_,_,rfl,rfl,s16 _ _ hbh,he2,Ybi (Zas (by rw[Yac];show bs.length+1<=1000;(clear hu0 htot h4000 h300 h1;omega))),fun lh nlh=>?_⟩;have s7:Same H2 (upd H2 lh (.lst (bs.map V.ref++[.ref e0]))):=Same.new nlh;have hlh3:upd H2 lh (.lst (bs.map V.ref++[.ref e0])) lh=some (.lst ((bs++[e0]).map V.ref)):=by rw[Zab];simp
  have hbs3:∀ (j:Nat) q,bs[j]?=some q->upd H2 lh (.lst (bs.map V.ref++[.ref e0])) q=some (.lst (Vs.getD j [])):=fun j q e=>s7 _ _ (s16 _ _ (hbs j q e).2.2);have he03:=s7 _ _ he0;have nlhH:H lh=none:=s1.free (s16.free nlh);have nlhb:∀ q∈bs,q≠lh:=fun q hq z=>by
   obtain⟨j,hj⟩:=YaK hq;have:=s16 _ _ (hbs j q hj).2.2;rw[z,nlh] at this;cases this
  have nlhe:e0≠lh:=fun z=>by rw[z,nlh] at he0;cases he0
  have ne0b:e0 ∉ bs:=fun hq=>by
   obtain⟨j,hj⟩:=YaK hq;have:=(hbs j e0 hj).2.2
   rw[ne0] at this;cases this
  have s03:=(s1.trans s16).trans s7;generalize upd H2 lh (.lst (bs.map V.ref++[.ref e0]))=H3 at s7 hlh3 hbs3 he03 s03 ⊢;have hsH:∀ q∈bs++[e0],H q=none:=fun q hq=>by
   rcases Yao.mp hq with hq | hq
   ·obtain⟨j,hj⟩:=YaK hq;exact (hbs j q hj).2.1
   ·rw[YaH.mp hq];exact s1.free ne0
  have hsN:(bs++[e0]).Nodup:=Zcq hbd ne0b;have hsl:(bs++[e0]).length=p+1:=by rw[Yai,YbP];(clear ne0b nlhe hu0 htot h4000 h300 h2 h1;omega)
  have hlhs:lh ∉ bs++[e0]:=fun z=>by
   rcases Yao.mp z with z | z
   ·exact nlhb _ z rfl
   ·exact nlhe (YaH.mp z).symm
  have hRf3:RL H3 (bs++[e0]) (Vs++[[]]):=RL.snoc ⟨by (clear hlhs hsl ne0b nlhe hpl hvl hu0 htot h4000 h300 h2 h1;omega),fun j q vs e1 e2'=>by
   have:=hbs3 j q e1
   rwa [Yad,e2'] at this⟩ he03
  generalize bs++[e0]=hs at hlh3 hsH hsN hsl hlhs hRf3;refine⟨_,rfl,_,rfl,fun q6 e6=>⟨q6,(p:Int),rfl,Zab,by (clear hlhs hsl ne0b nlhe hbl hpl hvl hal hu0 htot h4000 h300 h2 h1;omega),by (clear hlhs hsl ne0b nlhe hbl hpl hvl hal hu0 htot h4000 h300 h1;omega),fun lo elo=>?_⟩⟩;have s67:=(Same.new (o:=.rng 0 (p:Int)) e6).trans (Same.new (o:=.lst (((Yap (p:Int).toNat).map fun (i:Nat)=>(i:Int)).map V.int)) elo);have hlo4:upd (upd H3 q6 (.rng 0 (p:Int))) lo (.lst (((Yap (p:Int).toNat).map fun (i:Nat)=>(i:Int)).map V.int)) lo=some (.lst (((ordT p 0).map fun (i:Nat)=>(i:Int)).map V.int)):=by
   rw[Zab,show ((p:Nat):Int).toNat=p by (clear hlhs hsl ne0b nlhe hbl hpl hvl hal hu0 htot h4000 h300 h2 h1;omega)];unfold ordT;simp
  have nlo:H3 lo=none:=(Same.new (o:=.rng 0 (p:Int)) e6).free elo;generalize upd (upd H3 q6 (.rng 0 (p:Int))) lo (.lst (((Yap (p:Int).toNat).map fun (i:Nat)=>(i:Int)).map V.int))=H4 at s67 hlo4 ⊢;refine⟨_,rfl,?_⟩;refine⟨(by show 1<=sizeLine;decide),fun z0 nz0=>⟨_,rfl,_,_,rfl,rfl,z0,(p:Int)+1,_,rfl,rfl,Zab,by (clear hlhs hsl ne0b nlhe hbl hpl hvl hal hu0 htot h4000 h300 h2 h1;omega),by (clear hlhs hsl ne0b nlhe hbl hpl hvl hal hu0 htot h4000 h300 h1;omega),Ybi (Zas (by show 1*((p:Int)+1).toNat<=1000;(clear hlhs hsl ne0b nlhe hbl hpl hvl hal hu0 htot h4000 h300 h1;omega))),fun rd nrd=>?_⟩⟩;have s8:Same H4 (upd H4 z0 (.lst [.int 0])):=Same.new nz0;have ez:(Yal ((p:Int)+1).toNat [V.int 0]).flatten=(Yal (p+1) (0:Int)).map V.int:=by
   rw[show ((p:Int)+1).toNat=p+1 by (clear hlhs hsl ne0b nlhe hbl hpl hvl hal hu0 htot h4000 h300 h2 h1;omega),YbI,Ydu]
  have s9:=s8.trans (Same.new (o:=.lst (Yal ((p:Int)+1).toNat [V.int 0]).flatten) nrd);have hrd5:upd (upd H4 z0 (.lst [.int 0])) rd (.lst (Yal ((p:Int)+1).toNat [V.int 0]).flatten) rd=some (.lst ((Yal (p+1) (0:Int)).map V.int)):=by rw[Zab,ez]
  have nrd4:H4 rd=none:=s8.free nrd;generalize upd (upd H4 z0 (.lst [.int 0])) rd (.lst (Yal ((p:Int)+1).toNat [V.int 0]).flatten)=H5 at s9 hrd5 ⊢;have s05:=(s03.trans s67).trans s9;have nrdH:H rd=none:=(s03.trans s67).free nrd4;have nloH:H lo=none:=s03.free nlo;have hlh5:=s9 _ _ (s67 _ _ hlh3);have hlo5:=s9 _ _ hlo4;have hR5:=(hRf3.same s67).same s9;have nrdlh:rd≠lh:=fun z=>by have:=s67 _ _ hlh3;rw[<- z,nrd4] at this;cases this
  have nrdlo:rd≠lo:=fun z=>by rw[<- z,nrd4] at hlo4;cases hlo4
  have nlolh:lo≠lh:=fun z=>by rw[z,hlh3] at nlo;cases nlo
  have nrds:rd ∉ hs:=fun z=>by
   obtain⟨j,hj⟩:=YaK z;obtain⟨vs,_,e⟩:=hRf3.at hj;have:=s67 _ _ e;rw[nrd4] at this;cases this
  have nlos:lo ∉ hs:=fun z=>by
   obtain⟨j,hj⟩:=YaK z;obtain⟨vs,_,e⟩:=hRf3.at hj;rw[nlo] at e;cases e
  have hmH:∀ q∈rd::lh::hs,H q=none:=fun q hq=>by
   rcases Yav.mp hq with rfl | hq
   ·exact nrdH
   rcases Yav.mp hq with rfl | hq
   ·exact nlhH
   ·exact hsH q hq
  have hT5:TVD (mutH (rd::lh::hs)) H5 (Vs++[[]]) (D++[[]]):=TVD.snoc ((hTV.mut hmH).same s05) (TVs.nil _ _);have hG0:GdD fl (D++[[]]) (rot (0 % (p+1)) (Tm p n)):=by
   rw[YdJ];have:rot 0 (Tm p n)=Tm p n:=by simp[rot]
   rw[this];exact GdD.snoc hG trivial
  have htot0:totT lenT (D++[[]])<=15000:=by
   have e:totT lenT (D++[[]])=totT lenT D:=by unfold totT;simp
   rw[e];exact htot
  have hok:=(ZgP h1 (fl:=fl) n 0 (D++[[]]) hG0)
  generalize hD0:D++[[]]=D0 at hT5 hG0 htot0 hok k;have hD0l:D0.length=p+1:=by rw[<- hD0,Yai,YbP];(clear hok htot0 nlos nrds nlolh nrdlo nrdlh hlhs hsl ne0b nlhe hbl hvl hal hu0 htot h4000 h300 h2 h1;omega)
  have hrep:(Yal (p+1) (0:Int)).length=D0.length:=by rw[YbZ,hD0l]
  have hD04:∀ r∈D0,r.length<=4000:=fun r hr'=>by
   rw[<- hD0] at hr';rcases Yao.mp hr' with hr' | hr'
   ·exact hD4 r hr'
   ·rw[YaH.mp hr'];exact YaO _
  have hsz0:SzT D0:=⟨by (clear hrep hok htot0 nlos nrds nlolh nrdlo nrdlh hlhs hsl ne0b nlhe hbl hpl hvl hal hu0 htot h4000 h300 h1;omega),fun r hr'=>by have:=hD04 r hr';(clear hrep hD0l hok htot0 nlos nrds nlolh nrdlo nrdlh hlhs hsl ne0b nlhe hbl hpl hvl hal hu0 htot h4000 h300 h2 h1;omega),htot0⟩
  have hps:∀ q∈phL p 0 n,q.2<=15000:=fun q hq'=>by have:=ZcT h1 n 0 q hq';(clear hrep hD0l hok htot0 nlos nrds nlolh nrdlo nrdlh hlhs hsl ne0b nlhe hbl hpl hvl hal hu0 htot h300 h2 h1;omega)
  generalize Vs++[[]]=V0 at hR5 hT5;clear hbs3 he03 hRf3 hlo4 hlh3 hbs hbh;refine⟨_,rfl,_,rfl,by (clear hrep hD0l hok htot0 nlos nrds nlolh nrdlo nrdlh hlhs hsl ne0b nlhe hbl hpl hvl hal hu0 htot h4000 h300 h2 h1;omega),by (clear hrep hD0l hok htot0 nlos nrds nlolh nrdlo nrdlh hlhs hsl ne0b nlhe hbl hpl hvl hal hu0 htot h4000 h2 h1;omega),?_⟩;rw[Ybh];refine Zbi (fun t σ Hx=>∃ (lo:Addr) (Vs:List (List V)) (a:Nat) (at_:Int) (o8 o9 o10 o11 o12 o13:Option V),a=t % (p+1)/\σ=[some (.int p),some (.int n),some (.ref rl),some (.ref lh),some (.ref lo),some (.int ((p - a:Nat):Int)),some (.ref rd),some (.int at_),o8,o9,o10,o11,o12,o13]/\Hx lo=some (.lst (((ordT p a).map fun (i:Nat)=>(i:Int)).map V.int))/\Hx lh=some (.lst (hs.map V.ref))/\RL Hx hs Vs/\TVD (mutH (rd::lh::hs)) Hx Vs (plT D0 ((phL p 0 n).take t))/\GdD fl (plT D0 ((phL p 0 n).take t)) (rot a (Tm p (n - t)))/\Hx rd=some (.lst ((rdTP D0 (Yal (p+1) 0) ((phL p 0 n).take t)).map V.int))/\Same H Hx/\H lo=none/\lo≠lh/\lo≠rd/\lo ∉ hs)
   ⟨lo,V0,0,0,none,none,none,none,none,none,by rw[YdJ],rfl,hlo5,hlh5,hR5,by rw[Ybj];exact hT5,by rw[Ybj];rw[YdJ] at hG0;exact hG0,by rw[Ybj];exact hrd5,s05,nloH,nlolh,YaX nrdlo,nlos⟩ ?_ ?_
  ·rintro t σ Hx ht ⟨lo,Vs,a,at_,o8,o9,o10,o11,o12,o13,ea,rfl,hlo,hlh,hR,hT,hGt,hrd,sx,nloH,nlolh,nlord,nlos⟩;have ha:a<=p:=by rw[ea];have:=YdF t (show 0<p+1 by (clear nlos nlord nlolh ea ht hrep hD0l hok htot0 nrds nrdlo nrdlh hlhs hsl ne0b nlhe hbl hpl hvl hal hu0 htot h4000 h300 h2 h1;omega));(clear nlos nlord nlolh ea ht hrep hD0l hok htot0 nrds nrdlo nrdlh hlhs hsl ne0b nlhe hbl hpl hvl hal hu0 htot h4000 h300 h2 h1;omega)
   obtain⟨kk,hk⟩:∃ kk,n - t=kk+1:=⟨n - t - 1,by (clear ha nlos nlord nlolh ea hrep hD0l hok htot0 nrds nrdlo nrdlh hlhs hsl ne0b nlhe hbl hpl hvl hal hu0 htot h4000 h300 h2 h1;omega)⟩
   rw[hk] at hGt;obtain⟨o,m,hom⟩:∃ o m,(phL p 0 n)[t]?=some (o,m):=⟨_,_,Yab (by rw[Ze4];exact ht)⟩
   have hph:=ZkX p n 0 t (by (clear hk ha nlos nlord nlolh ea hrep hD0l hok htot0 nrds nrdlo nrdlh hlhs hsl ne0b nlhe hbl hpl hvl hal hu0 htot h4000 h300 h2 h1;omega));rw[hom] at hph;obtain⟨f,ef,hDo,hcl,hGn,_⟩:=ph58 h1 ha hGt;have hkk:n - (t+1)=kk:=by (clear ef ha nlos nlord nlolh ea ht hrep hD0l hok htot0 nrds nrdlo nrdlh hlhs hsl ne0b nlhe hbl hpl hvl hal hu0 htot h4000 h300 h2 h1;omega)
   have hphe:(o,m)=(phO p t,hd p kk):=by
    have:=Yay hph;rw[this,YbT,show n - 1 - t=kk by (clear hkk ef ha nlos nlord nlolh ea ht hrep hD0l hok htot0 nrds nrdlo nrdlh hlhs hsl ne0b nlhe hbl hpl hvl hal hu0 htot h4000 h300 h2 h1;omega)]
   have etk:(phL p 0 n).take (t+1)=(phL p 0 n).take t++[(o,m)]:=by rw[Ya9,hom];rfl
   have eo:o.toNat=p - a:=by
    injection hphe with q1 q2;rw[q1,ZgT,Ybh,<- ea]
   have em:m.toNat=f:=by
    injection hphe with q1 q2;rw[q2,ef,Ybh]
   have hszt:=hok.1.sz hsz0 hps t;have hDl:(plT D0 ((phL p 0 n).take t)).length=p+1:=by rw[ZdM,hD0l]
   have hrl0:(rdTP D0 (Yal (p+1) 0) ((phL p 0 n).take t)).length=p+1:=by rw[ZcD _ _ _ hrep,hD0l]
   rw[etk];rw[ZdL,ZcM,eo,em];obtain⟨_,hlens,hlast⟩:=Zlb h1 ha hGt ef;generalize plT D0 ((phL p 0 n).take t)=Dt at hT hGt hDo hcl hGn hszt hDl hlens hlast ⊢;generalize rdTP D0 (Yal (p+1) 0) ((phL p 0 n).take t)=rt at hrd hrl0 ⊢;have hVl:Vs.length=p+1:=by rw[hT.1,hDl]
   have hord:∀ {i:Nat},i∈ordT p a->i<=p/\i≠p - a:=fun h=>Zb5 ha h;have hVD:∀ i,(Vs.getD i []).length=(Dt.getD i []).length:=fun i=>by
    rw[Yad,Yad]
    cases e1:Vs[i]? with
    | none=>
     have:Dt[i]?=none:=by
      rw[Yc4] at e1 ⊢;rw[<- hT.1];exact e1
     rw[this];rfl
    | some v=>
     obtain⟨ds,e2,e3⟩:=hT.at e1;rw[e2];exact e3.1
   have hD15:∀ i,(Dt.getD i []).length<=15000:=fun i=>by
    rw[Yad]
    cases e:Dt[i]? with
    | none=>exact YaO _
    | some ds=>exact hszt.2.1 ds (Yah e)
   have hf15:f<=15000:=by rw[<- hlast];exact hD15 _
   have hao:∃ ao,hs[p - a]?=some ao:=⟨_,Yab (by (clear hf15 hVl hrl0 hlast hDl em eo hkk ef hk ha nlos nlord nlolh ea ht hrep hD0l hok htot0 nrds nrdlo nrdlh hlhs ne0b nlhe hbl hpl hvl hal hu0 htot h4000 h300 h2 h1;omega))⟩
   obtain⟨ao,hao⟩:=hao;have hRf:RLf Hx hs (fun i=>if i=p - a then [] else cutT 0 (Vs.getD i [])):=fun i q e=>by
    obtain⟨vs,e1,e2⟩:=hR.at e;have:Vs.getD i []=vs:=by rw[Yad,e1];rfl
    dsimp only;rw[this,ZiT];by_cases z:i=p - a
    ·rw[if_pos z];have h9:=hVD i;rw[this,z,Yad,hDo] at h9;rw[e2,Ybu.mp h9]
    ·rw[if_neg z];exact e2
   have hrd0:Hx rd=some (.lst (((Yap (p+1)).map fun i=>rt.getD i 0+tth ((Dt.getD i []).reverse.take 0)).map V.int)):=by
    have:(Yap (p+1)).map (fun i=>rt.getD i 0+tth ((Dt.getD i []).reverse.take 0))=rt:=by
     have h0:(fun i=>rt.getD i 0+tth ((Dt.getD i []).reverse.take 0))=fun i=>rt.getD i 0:=funext fun i=>by
      rw[Ybj];show _+0=_;rw[YeM]
     rw[h0,<- hrl0];exact Zbr rt 0
    rw[this];exact hrd
   refine cut1 (fun σ' Hy=>∃ (ys:List V) (at_:Int) (o9 o10 o11 o12 o13:Option V),σ'=[some (.int p),some (.int n),some (.ref rl),some (.ref lh),some (.ref lo),some (.int ((p - a:Nat):Int)),some (.ref rd),some (.int at_),some (.int (0+(t:Int))),o9,o10,o11,o12,o13]/\RLf Hy hs (fun i=>if i=p - a then ys else cutT f (Vs.getD i []))/\TVs (mutH (rd::lh::hs)) Hy ys ((Yap f).map fun i=>tm (tkT Dt f i))/\TVD (mutH (rd::lh::hs)) Hy Vs Dt/\Hy rd=some (.lst (((Yap (p+1)).map fun i=>rt.getD i 0+tth ((Dt.getD i []).reverse.take f)).map V.int))/\Hy lo=some (.lst (((ordT p a).map fun (i:Nat)=>(i:Int)).map V.int))/\Hy lh=some (.lst (hs.map V.ref))/\Same H Hy) (fun R' hR'=>?_) ?_
   ·refine⟨fun mm σ Hy=>∃ (s:Nat) (ys:List V) (at_:Int) (o9 o10 o11 o12 o13:Option V),s<=f/\mm=f - s/\σ=[some (.int p),some (.int n),some (.ref rl),some (.ref lh),some (.ref lo),some (.int ((p - a:Nat):Int)),some (.ref rd),some (.int at_),some (.int (0+(t:Int))),o9,o10,o11,o12,o13]/\RLf Hy hs (fun i=>if i=p - a then ys else cutT s (Vs.getD i []))/\TVs (mutH (rd::lh::hs)) Hy ys ((Yap s).map fun i=>tm (tkT Dt f i))/\TVD (mutH (rd::lh::hs)) Hy Vs Dt/\Hy rd=some (.lst (((Yap (p+1)).map fun i=>rt.getD i 0+tth ((Dt.getD i []).reverse.take s)).map V.int))/\Hy lo=some (.lst (((ordT p a).map fun (i:Nat)=>(i:Int)).map V.int))/\Hy lh=some (.lst (hs.map V.ref))/\Same H Hy,
     ⟨_,0,[],at_,o9,o10,o11,o12,o13,YaO _,rfl,rfl,hRf,TVs.nil _ _,hT,hrd0,hlo,hlh,sx⟩,?_⟩
    clear hRf hrd0 hrd hlo hlh sx hT hR;rintro mm σ Hy ⟨s,ys,at_,o9,o10,o11,o12,o13,hsf,rfl,rfl,hRf,hTy,hT,hrd,hlo,hlh,sx⟩;have hlst:=ZgZ h1 ha;have hme:=Zb5 ha (Yah hlst);obtain⟨ae,hae⟩:∃ ae,hs[endT p a]?=some ae:=⟨_,Yab (by (clear hsf hf15 hVl hrl0 hlast hDl em eo hkk ef hk ha nlos nlord nlolh ea ht hrep hD0l hok htot0 nrds nrdlo nrdlh hlhs ne0b nlhe hbl hpl hvl hal hu0 htot h4000 h300 h2 h1;omega))⟩
    have hre:=hRf _ ae hae;dsimp only at hre;rw[if_neg hme.2] at hre;refine⟨_,rfl,_,rfl,1,rfl,lo,_,-1,.int ((endT p a:Nat):Int),rfl,rfl,SqL.of hlo,?_,lh,_,_,.ref ae,rfl,rfl,SqL.of hlh,ZaP (by rw[Yaf,hae];rfl),YaO _,fun le e9=>?_⟩
    ·unfold atI ixN;rw[Yac,Yac,ZaZ,if_neg (by decide),if_pos (by (clear hme hsf hf15 hVl hrl0 hlast hDl em eo hkk ef hk ha nlos nlord nlolh ea ht hrep hD0l hok htot0 nrds nrdlo nrdlh hlhs hsl ne0b nlhe hbl hpl hvl hal hu0 htot h4000 h300 h2;omega))];show (((ordT p a).map fun (i:Nat)=>(i:Int)).map V.int)[(-1+(p:Int)).toNat]?=_;rw[show (-1+(p:Int)).toNat=p - 1 by (clear hme hsf hf15 hVl hrl0 hlast hDl em eo hkk ef hk ha nlos nlord nlolh ea ht hrep hD0l hok htot0 nrds nrdlo nrdlh hlhs hsl ne0b nlhe hbl hpl hvl hal hu0 htot h4000 h300 h2 h1;omega),Yaf,Yaf,hlst];rfl
    have s9:Same Hy (upd Hy le (.lst [])):=Same.new e9;have hle9:(upd Hy le (.lst [])) le=some (.lst []):=Zab;refine⟨ae,le,_,rfl,rfl,SqL.of (s9 _ _ hre),SqL.of hle9,_,rfl,?_⟩;have hne:(!(cutT s (Vs.getD (endT p a) [])).isEmpty)=decide (s<f):=by
     have h9:=Zkl s (Vs.getD (endT p a) []);rw[hVD,hlast] at h9
     cases e:cutT s (Vs.getD (endT p a) []) with
     | nil=>rw[e] at h9;have h9:0=f - s:=h9;rw[decide_eq_false (by (clear hme hsf hf15 hVl hrl0 hlast hDl em eo hkk ef hk ha nlos nlord nlolh ea ht hrep hD0l hok htot0 nrds nrdlo nrdlh hlhs hsl ne0b nlhe hbl hpl hvl hal hu0 htot h4000 h300 h2 h1;omega))];rfl
     | cons x xs=>rw[e] at h9;have h9:xs.length+1=f - s:=h9;rw[decide_eq_true (by (clear hme hsf hf15 hVl hrl0 hlast hDl em eo hkk ef hk ha nlos nlord nlolh ea ht hrep hD0l hok htot0 nrds nrdlo nrdlh hlhs hsl ne0b nlhe hbl hpl hvl hal hu0 htot h4000 h300 h2 h1;omega))];rfl
    rw[hne];have sx9:=sx.trans s9;have hRf9:=hRf.same s9;have hTy9:=hTy.same s9;have hT9:=hT.same s9;have hrd9:=s9 _ _ hrd;have hlo9:=s9 _ _ hlo;have hlh9:=s9 _ _ hlh;clear hle9 hre e9;generalize upd Hy le (.lst [])=Hz at s9 sx9 hRf9 hTy9 hT9 hrd9 hlo9 hlh9 ⊢;clear hRf hTy hT hrd hlo hlh sx s9;refine ite2 (fun hc=>?_) (fun hc=>?_)
    ·have hsf':s<f:=of_decide_eq_true hc;refine⟨fun σ Hy=>∃ (ys:List V) (at_:Int) (o9 o10 o11 o12 o13:Option V),σ=[some (.int p),some (.int n),some (.ref rl),some (.ref lh),some (.ref lo),some (.int ((p - a:Nat):Int)),some (.ref rd),some (.int at_),some (.int (0+(t:Int))),o9,o10,o11,o12,o13]/\RLf Hy hs (fun i=>if i=p - a then ys else cutT (s+1) (Vs.getD i []))/\TVs (mutH (rd::lh::hs)) Hy ys ((Yap (s+1)).map fun i=>tm (tkT Dt f i))/\TVD (mutH (rd::lh::hs)) Hy Vs Dt/\Hy rd=some (.lst (((Yap (p+1)).map fun i=>rt.getD i 0+tth ((Dt.getD i []).reverse.take (s+1))).map V.int))/\Hy lo=some (.lst (((ordT p a).map fun (i:Nat)=>(i:Int)).map V.int))/\Hy lh=some (.lst (hs.map V.ref))/\Same H Hy,?_,?_⟩
     ·rintro σ' H' ⟨ys,at_,o9,o10,o11,o12,o13,rfl,q1,q2,q3,q4,q5,q6,q7⟩;exact⟨_,by (clear hme hsf hf15 hVl hrl0 hlast hDl em eo hkk ef hk ha nlos nlord nlolh ea ht hrep hD0l hok htot0 nrds nrdlo nrdlh hlhs hsl ne0b nlhe hbl hpl hvl hal hu0 htot h4000 h300 h2 h1;omega),s+1,ys,at_,o9,o10,o11,o12,o13,by (clear hme hsf hf15 hVl hrl0 hlast hDl em eo hkk ef hk ha nlos nlord nlolh ea ht hrep hD0l hok htot0 nrds nrdlo nrdlh hlhs hsl ne0b nlhe hbl hpl hvl hal hu0 htot h4000 h300 h2 h1;omega),rfl,rfl,q1,q2,q3,q4,q5,q6,q7⟩
     refine⟨YaO _,fun rw0 nrw=>?_⟩;have hmS:∀ q∈rd::lh::hs,q≠rw0:=fun q hq z=>by
      rcases Yav.mp hq with rfl | hq
      ·rw[z,nrw] at hrd9;cases hrd9
      rcases Yav.mp hq with rfl | hq
      ·rw[z,nrw] at hlh9;cases hlh9
      ·obtain⟨j,hj⟩:=YaK hq;have:=hRf9 j q hj;rw[z,nrw] at this;cases this
     have nrwlo:lo≠rw0:=fun z=>by rw[z,nrw] at hlo9;cases hlo9
     have nrwH:H rw0=none:=sx9.free nrw;have s10:Same Hz (upd Hz rw0 (.lst [])):=Same.new nrw;have hrw10:upd Hz rw0 (.lst []) rw0=some (.lst []):=Zab;have hTy10:=(hTy9.old (o:=.lst []) nrw).same s10;have hT10:=(hT9.oldD (o:=.lst []) nrw).same s10;have hB:∀ q∈rw0::rd::lh::hs,upd (mutH (rd::lh::hs)) rw0 (.lst []) q≠none:=fun q hq=>by
      rcases Yav.mp hq with rfl | hq
      ·exact Zbd
      ·rw[upd_ne (hmS q hq)];exact Zha hq
     have hBb:∀ q,upd (mutH (rd::lh::hs)) rw0 (.lst []) q=none->mutH (rd::lh::hs) q=none:=fun q hq=>ZaE hq;have hBn:∀ q,q≠rw0->q ∉ rd::lh::hs->upd (mutH (rd::lh::hs)) rw0 (.lst []) q=none:=fun q n1 n2=>by rw[upd_ne n1];exact mutH_none.mpr n2
     generalize upd (mutH (rd::lh::hs)) rw0 (.lst [])=B at hTy10 hT10 hB hBb hBn;have hRf10:=hRf9.same s10;have hrd10:=s10 _ _ hrd9;have hlo10:=s10 _ _ hlo9;have hlh10:=s10 _ _ hlh9;have sx10:=sx9.trans s10;clear hRf9 hTy9 hT9 hrd9 hlo9 hlh9;generalize upd Hz rw0 (.lst [])=Hw at s10 hrw10 hTy10 hT10 hRf10 hrd10 hlo10 hlh10 sx10 ⊢;refine⟨_,rfl,lo,rfl,⟨_,SqL.of hlo10⟩,?_⟩;refine Za6 (xs:=((ordT p a).map fun (i:Nat)=>(i:Int)).map V.int) (fun j σ Hy=>∃ o10 o11:Option V,σ=[some (.int p),some (.int n),some (.ref rl),some (.ref lh),some (.ref lo),some (.int ((p - a:Nat):Int)),some (.ref rd),some (.int at_),some (.int (0+(t:Int))),some (.ref rw0),o10,o11,o12,o13]/\Hy rw0=some (.lst ((((ordT p a).take j).filterMap fun i=>(Vs.getD i []).reverse[s]?).filterMap nonV))/\RLf Hy hs (fun i=>if i=p - a then ys else cutT (if i∈(ordT p a).take j then s+1 else s) (Vs.getD i []))/\Hy rd=some (.lst (((Yap (p+1)).map fun i=>rt.getD i 0+tth ((Dt.getD i []).reverse.take (if i∈(ordT p a).take j then s+1 else s))).map V.int))/\TVs B Hy ys ((Yap s).map fun i=>tm (tkT Dt f i))/\TVD B Hy Vs Dt/\Hy lo=some (.lst (((ordT p a).map fun (i:Nat)=>(i:Int)).map V.int))/\Hy lh=some (.lst (hs.map V.ref))/\Same H Hy)
      ⟨o10,o11,rfl,by rw[Ybj];exact hrw10,by simp only[Ybj,YbW,if_false];exact hRf10,by simp only[Ybj,YbW,if_false];exact hrd10,hTy10,hT10,hlo10,hlh10,sx10⟩ (fun j σ Hy _ z=>by
       obtain⟨_,_,_,_,_,_,_,_,e,_⟩:=z;exact SqL.of e) ?_ ?_
     ·rintro j x σ Hy hx ⟨o10,o11,rfl,hrw,hRf,hrd,hTy,hT,hlo,hlh,sx⟩;obtain⟨x1,hx1,rfl⟩:=Zbt hx;obtain⟨i,hi,rfl⟩:∃ i:Nat,(ordT p a)[j]?=some i/\x1=(i:Int):=by
       rw[Yaf] at hx1
       cases e:(ordT p a)[j]? with
       | none=>rw[e] at hx1;cases hx1
       | some i=>rw[e] at hx1;exact⟨i,rfl,(Yay hx1).symm⟩
      have hmi:=hord (Yah hi);obtain⟨ai,hai⟩:∃ ai,hs[i]?=some ai:=⟨_,Yab (by (clear nrwlo hsf' hme hsf hf15 hVl hrl0 hlast hDl em eo hkk ef hk ha nlos nlord nlolh ea ht hrep hD0l hok htot0 nrds nrdlo nrdlh hlhs ne0b nlhe hbl hpl hvl hal hu0 htot h4000 h300 h2 h1;omega))⟩
      have hni:i ∉ (ordT p a).take j:=Zj3 (ZgY ha) hi;have hci:=hRf i ai hai;dsimp only at hci;rw[if_neg hmi.2,if_neg hni] at hci;have hfi:=hlens i hmi.1 hmi.2;have hsl':s<(Vs.getD i []).length:=by rw[hVD];(clear hni hmi nrwlo hme hsf hf15 hVl hrl0 hlast hDl em eo hkk ef hk ha nlos nlord nlolh ea ht hrep hD0l hok htot0 nrds nrdlo nrdlh hlhs hsl ne0b nlhe hbl hpl hvl hal hu0 htot h4000 h300 h2 h1;omega)
      obtain⟨cp1,cp2⟩:=Zkk hsl';have hrl:s<(Vs.getD i []).reverse.length:=by rw[Ybr];exact hsl'
      obtain⟨v,hv⟩:∃ v,(Vs.getD i []).reverse[s]?=some v:=⟨_,Yab hrl⟩
      rw[hv] at cp2;have hiV:i<Vs.length:=by (clear hrl hsl' hfi hni nrwlo hsf' hme hsf hf15 hrl0 hlast hDl em eo hkk ef hk ha nlos nlord nlolh ea ht hrep hD0l hok htot0 nrds nrdlo nrdlh hlhs hsl ne0b nlhe hbl hpl hvl hal hu0 htot h4000 h300 h2 h1;omega)
      have hiD:i<Dt.length:=by (clear hiV hrl hsl' hfi hni nrwlo hsf' hme hsf hf15 hVl hrl0 hlast em eo hkk ef hk ha nlos nlord nlolh ea ht hrep hD0l hok htot0 nrds nrdlo nrdlh hlhs hsl ne0b nlhe hbl hpl hvl hal hu0 htot h4000 h300 h2 h1;omega)
      have gV:Vs[i]?=some (Vs.getD i []):=by rw[Yad,Yab hiV];rfl
      have gD:Dt[i]?=some (Dt.getD i []):=by rw[Yad,Yab hiD];rfl
      obtain⟨d,hd,hvd⟩:=(hT.2 i _ _ gV gD).rev.at hv;have etk1:(ordT p a).take (j+1)=(ordT p a).take j++[i]:=by rw[Ya9,hi];rfl
      have memT:∀ i',i'≠i->(i'∈(ordT p a).take (j+1)↔i'∈(ordT p a).take j):=fun i' hne=>by
       rw[etk1,Yao,YaH];exact⟨fun z=>z.elim id fun q=>absurd q hne,.inl⟩
      have memI:i∈(ordT p a).take (j+1):=by rw[etk1];simp
      have haiS:ai∈rd::lh::hs:=Yan _ (Yan _ (Yah hai));have nairw:ai≠rw0:=hmS ai haiS;have nailo:ai≠lo:=fun z=>nlos (by rw[<- z];exact Yah hai);have nailh:ai≠lh:=fun z=>hlhs (by rw[<- z];exact Yah hai);have naird:ai≠rd:=fun z=>nrds (by rw[<- z];exact Yah hai);have hBai:B ai≠none:=hB ai (Yan _ haiS);refine⟨_,rfl,_,rfl,lh,_,_,.ref ai,rfl,rfl,SqL.of hlh,ZaP (by rw[Yaf,hai];rfl),.inl ⟨rfl,_,SqL.of hci⟩,ai,_,v,rfl,rfl,hci,cp2,?_⟩;rw[cp1];have hRf2:RLf (upd Hy ai (.lst (cutT (s+1) (Vs.getD i [])))) hs (fun i=>if i=p - a then ys else cutT (if i∈(ordT p a).take (j+1) then s+1 else s) (Vs.getD i [])):=RLf.put hRf hsN hai (by rw[if_neg hmi.2,if_pos memI]) fun i' hne _=>by
       by_cases z:i'=p - a
       ·rw[if_pos z,if_pos z]
       ·rw[if_neg z,if_neg z];by_cases q:i'∈(ordT p a).take j
        ·rw[if_pos q,if_pos ((memT i' hne).mpr q)]
        ·rw[if_neg q,if_neg (fun y=>q ((memT i' hne).mp y))]
      have hTy2:=hTy.put (o:=.lst (cutT (s+1) (Vs.getD i []))) hci hBai;have hT2:=hT.put (o:=.lst (cutT (s+1) (Vs.getD i []))) hci hBai;have hv2:=hvd.put (o:=.lst (cutT (s+1) (Vs.getD i []))) hci hBai;have hrw2:upd Hy ai (.lst (cutT (s+1) (Vs.getD i []))) rw0=some (.lst ((((ordT p a).take j).filterMap fun i=>(Vs.getD i []).reverse[s]?).filterMap nonV)):=by rw[upd_ne (YaX nairw)];exact hrw
      have hlo2:upd Hy ai (.lst (cutT (s+1) (Vs.getD i []))) lo=some (.lst (((ordT p a).map fun (i:Nat)=>(i:Int)).map V.int)):=by rw[upd_ne (YaX nailo)];exact hlo
      have hlh2:upd Hy ai (.lst (cutT (s+1) (Vs.getD i []))) lh=some (.lst (hs.map V.ref)):=by rw[upd_ne (YaX nailh)];exact hlh
      have hrd2:upd Hy ai (.lst (cutT (s+1) (Vs.getD i []))) rd=some (.lst (((Yap (p+1)).map fun i=>rt.getD i 0+tth ((Dt.getD i []).reverse.take (if i∈(ordT p a).take j then s+1 else s))).map V.int)):=by rw[upd_ne (YaX naird)];exact hrd
      have sx2:Same H (upd Hy ai (.lst (cutT (s+1) (Vs.getD i [])))):=sx.put (hmH ai haiS);clear hRf hTy hT hvd hrw hlo hlh hrd sx hci;generalize upd Hy ai (.lst (cutT (s+1) (Vs.getD i [])))=Hq at hRf2 hTy2 hT2 hv2 hrw2 hlo2 hlh2 hrd2 sx2 ⊢;have ef1:((((ordT p a).take (j+1)).filterMap fun i=>(Vs.getD i []).reverse[s]?).filterMap nonV)=((((ordT p a).take j).filterMap fun i=>(Vs.getD i []).reverse[s]?).filterMap nonV)++[v].filterMap nonV:=by
       rw[etk1,YcP,YcP];congr 1;rw[YaJ,hv];rfl
      have hG1:∀ i',i'≠i->rt.getD i' 0+tth ((Dt.getD i' []).reverse.take (if i'∈(ordT p a).take (j+1) then s+1 else s))=rt.getD i' 0+tth ((Dt.getD i' []).reverse.take (if i'∈(ordT p a).take j then s+1 else s)):=fun i' hne=>by
       by_cases q:i'∈(ordT p a).take j
       ·rw[if_pos q,if_pos ((memT i' hne).mpr q)]
       ·rw[if_neg q,if_neg (fun y=>q ((memT i' hne).mp y))]
      have hG2:rt.getD i 0+tth ((Dt.getD i []).reverse.take (if i∈(ordT p a).take (j+1) then s+1 else s))=(rt.getD i 0+tth ((Dt.getD i []).reverse.take (if i∈(ordT p a).take j then s+1 else s)))+lenT d:=by
       rw[if_pos memI,if_neg hni,Zia hd]
       (clear naird nailh nailo nairw hiD hiV hrl hsl' hfi hni hmi nrwlo hsf' hme hsf hf15 hVl hrl0 hlast hDl em eo hkk ef hk ha nlos nlord nlolh ea ht hrep hD0l hok htot0 nrds nrdlo nrdlh hlhs hsl ne0b nlhe hbl hpl hvl hal hu0 htot h4000 h300 h2 h1;omega)
      have hset:=setR (n:=p+1) (i:=i) (F:=fun i=>rt.getD i 0+tth ((Dt.getD i []).reverse.take (if i∈(ordT p a).take j then s+1 else s))) (G:=fun i=>rt.getD i 0+tth ((Dt.getD i []).reverse.take (if i∈(ordT p a).take (j+1) then s+1 else s))) (by (clear hG2 naird nailh nailo nairw hiD hiV hrl hsl' hfi hni nrwlo hsf' hme hsf hf15 hVl hrl0 hlast hDl em eo hkk ef hk ha nlos nlord nlolh ea ht hrep hD0l hok htot0 nrds nrdlo nrdlh hlhs hsl ne0b nlhe hbl hpl hvl hal hu0 htot h4000 h300 h2 h1;omega)) hG1;refine⟨_,rfl,_,rfl,?_⟩
      cases d with
      | none=>
       have:v=.non:=hv2;subst this;refine iteF ⟨_,_,rfl,?_,hRf2,?_,hTy2,hT2,hlo2,hlh2,sx2⟩
       ·rw[ef1];show Hq rw0=some (.lst (_++[]));rw[Ybz];exact hrw2
       ·rw[<- hset];rw[hG2,lenT_ok.non,YeM];have:∀ (F:Nat->Int),((Yap (p+1)).map F).set i (F i)=(Yap (p+1)).map F:=fun F=>setR (by (clear hG2 naird nailh nailo nairw hiD hiV hrl hsl' hfi hni nrwlo hsf' hme hsf hf15 hVl hrl0 hlast hDl em eo hkk ef hk ha nlos nlord nlolh ea ht hrep hD0l hok htot0 nrds nrdlo nrdlh hlhs hsl ne0b nlhe hbl hpl hvl hal hu0 htot h4000 h300 h2 h1;omega)) fun _ _=>rfl;rw[this (fun i=>rt.getD i 0+tth ((Dt.getD i []).reverse.take (if i∈(ordT p a).take j then s+1 else s)))];exact hrd2
      | some d=>
       obtain⟨qq,tt,rfl,hqq,htt,hBt⟩:=hv2;refine iteT ?_;have hrwl:((((ordT p a).take j).filterMap fun i=>(Vs.getD i []).reverse[s]?).filterMap nonV).length<=15000:=by
        have q1:=Ybq nonV (((ordT p a).take j).filterMap fun i=>(Vs.getD i []).reverse[s]?);have q2:=Ybq (fun i=>(Vs.getD i []).reverse[s]?) ((ordT p a).take j);rw[Yaz,ZaZ] at q2
        (clear hG2 naird nailh nailo nairw hiD hiV hrl hsl' hfi hni hmi nrwlo hsf' hme hsf hf15 hVl hrl0 hlast hDl em eo hkk ef hk ha nlos nlord nlolh ea ht hrep hD0l hok htot0 nrds nrdlo nrdlh hlhs hsl ne0b nlhe hbl hpl hvl hal hu0 htot h4000 h300 h1;omega)
       refine⟨_,rfl,.inl ⟨rfl,_,SqL.of hrw2⟩,_,rfl,rw0,_,_,rfl,rfl,hrw2,Zbn (by (clear hG2 naird nailh nailo nairw hiD hiV hrl hsl' hfi hni hmi nrwlo hsf' hme hsf hf15 hVl hrl0 hlast hDl em eo hkk ef hk ha nlos nlord nlolh ea ht hrep hD0l hok htot0 nrds nrdlo nrdlh hlhs hsl ne0b nlhe hbl hpl hvl hal hu0 htot h4000 h300 h2 h1;omega)),?_⟩;have hBrw:B rw0≠none:=hB rw0 Yaw;have nqrw:qq≠rw0:=fun z=>by rw[z,hrw2] at hqq;cases hqq
       have ntrw:tt≠rw0:=fun z=>hBrw (by rw[<- z];exact hBt);have nrdrw:rd≠rw0:=hmS rd Yaw;have hrd3:upd Hq rw0 (.lst (((((ordT p a).take j).filterMap fun i=>(Vs.getD i []).reverse[s]?).filterMap nonV)++[.ref qq])) rd=some (.lst (((Yap (p+1)).map fun i=>rt.getD i 0+tth ((Dt.getD i []).reverse.take (if i∈(ordT p a).take j then s+1 else s))).map V.int)):=by rw[upd_ne nrdrw];exact hrd2
       have hBrd:B rd≠none:=hB rd (Yan _ Yaw);refine⟨_,rfl,_,rfl,rd,_,(i:Int),.int (rt.getD i 0+tth ((Dt.getD i []).reverse.take (if i∈(ordT p a).take j then s+1 else s))),rfl,rfl,SqL.of hrd3,ZaP (by rw[Yaf,Yaf,YbB (by (clear nrdrw ntrw nqrw hrwl hG2 naird nailh nailo nairw hiD hiV hrl hsl' hfi hni nrwlo hsf' hme hsf hf15 hVl hrl0 hlast hDl em eo hkk ef hk ha nlos nlord nlolh ea ht hrep hD0l hok htot0 nrds nrdlo nrdlh hlhs hsl ne0b nlhe hbl hpl hvl hal hu0 htot h4000 h300 h2 h1;omega))];rfl),_,rfl,qq,_,1,.ref tt,rfl,rfl,SqT.of (by rw[upd_ne nqrw];exact hqq),rfl,tt,_,rfl,.inl (SqL.of (by rw[upd_ne ntrw];exact htt)),_,_,rfl,rfl,?_⟩;refine⟨_,rfl,_,rfl,rd,_,_,i,rfl,rfl,hrd3,ZfM (by (clear nrdrw ntrw nqrw hrwl hG2 naird nailh nailo nairw hiD hiV hrl hsl' hfi hni hmi nrwlo hsf' hme hsf hf15 hVl hrl0 hlast hDl em eo hkk ef hk ha nlos nlord nlolh ea ht hrep hD0l hok htot0 nrds nrdlo nrdlh hlhs hsl ne0b nlhe hbl hpl hvl hal hu0 htot h4000 h300 h2 h1;omega)) (by rw[Yac,Yac,Yb3];(clear nrdrw ntrw nqrw hrwl hG2 naird nailh nailo nairw hiD hiV hrl hsl' hfi hni nrwlo hsf' hme hsf hf15 hVl hrl0 hlast hDl em eo hkk ef hk ha nlos nlord nlolh ea ht hrep hD0l hok htot0 nrds nrdlo nrdlh hlhs hsl ne0b nlhe hbl hpl hvl hal hu0 htot h4000 h300 h2 h1;omega)),?_⟩;refine⟨_,_,rfl,?_,(hRf2.off fun z=>hmS rw0 (Yan _ (Yan _ z)) rfl).off nrds,?_,(hTy2.put hrw2 hBrw).put hrd3 hBrd,(hT2.put hrw2 hBrw).put hrd3 hBrd,?_,?_,(sx2.put nrwH).put nrdH⟩
       ·rw[upd_ne (YaX nrdrw),Zab,ef1];rfl
       ·rw[Zab,<- hset];dsimp only;rw[hG2,YeA];have e9:lenT (some d)=((d.2.map V.int).length:Int):=by rw[Yac];rfl
        rw[e9]
       ·rw[upd_ne nlord,upd_ne nrwlo];exact hlo2
       ·rw[upd_ne (YaX nrdlh),upd_ne (hmS lh (Yan _ Yaw))];exact hlh2
     ·rintro σ Hy ⟨o10,o11,rfl,hrw,hRf,hrd,hTy,hT,hlo,hlh,sx⟩;have hjl:(((ordT p a).map fun (i:Nat)=>(i:Int)).map V.int).length=p:=by rw[Yac,Yac,ZaZ]
      have etk2:(ordT p a).take p=ordT p a:=YaW (by rw[ZaZ];exact Yas _);rw[hjl,etk2] at hrw hRf hrd;have hcov:∀ i,i<=p->i≠p - a->i∈ordT p a:=fun i q1 q2=>ZfE ha q1 q2;have hRf:=hRf.congr (G:=fun i=>if i=p - a then ys else cutT (s+1) (Vs.getD i [])) fun i hi=>by
       by_cases z:i=p - a
       ·rw[if_pos z,if_pos z]
       ·rw[if_neg z,if_neg z,if_pos (hcov i (by (clear z hjl nrwlo hsf' hme hsf hf15 hVl hrl0 hlast hDl em eo hkk ef hk ha nlos nlord nlolh ea ht hrep hD0l hok htot0 nrds nrdlo nrdlh hlhs ne0b nlhe hbl hpl hvl hal hu0 htot h4000 h300 h2 h1;omega)) z)]
      have erd:((Yap (p+1)).map fun i=>rt.getD i 0+tth ((Dt.getD i []).reverse.take (if i∈ordT p a then s+1 else s)))=(Yap (p+1)).map fun i=>rt.getD i 0+tth ((Dt.getD i []).reverse.take (s+1)):=Ybe fun i hi=>by
       have hip:=Ybn.mp hi;by_cases z:i=p - a
       ·have:Dt.getD i []=[]:=by rw[z,Yad,hDo];rfl
        rw[this];simp
       ·rw[if_pos (hcov i (by (clear z hjl nrwlo hsf' hme hsf hf15 hVl hrl0 hlast hDl em eo hkk ef hk ha nlos nlord nlolh ea ht hrep hD0l hok htot0 nrds nrdlo nrdlh hlhs hsl ne0b nlhe hbl hpl hvl hal hu0 htot h4000 h300 h2 h1;omega)) z)]
      rw[erd] at hrd;have hVo:=TVs.filt hT s (ordT p a) fun i hi=>by have:=(hord hi).1;(clear hjl nrwlo hsf' hme hsf hf15 hVl hrl0 hlast em eo hkk ef hk ha nlos nlord nlolh ea ht hrep hD0l hok htot0 nrds nrdlo nrdlh hlhs hsl ne0b nlhe hbl hpl hvl hal hu0 htot h4000 h300 h2 h1;omega)
      obtain⟨rs,e1,e2,e3⟩:=hVo.reals;rw[e1] at hrw;obtain⟨ht1,ht2⟩:=Zkm ha hDl hDo hsf' (hcl s hsf');have hlen15:=Zil (s:=s) ha hDl hDo hsf' hszt.2.2;have e2':rs.map (·.2.2)=ZaF (colO p a Dt s):=e2;have hrsl:rs.length<=20:=by
       have q1:=congrArg Ybf e1;rw[Yac] at q1;have q2:=Ybq nonV ((ordT p a).filterMap fun i=>(Vs.getD i []).reverse[s]?);have q3:=Ybq (fun i=>(Vs.getD i []).reverse[s]?) (ordT p a);rw[ZaZ] at q3
       (clear hlen15 hjl nrwlo hsf' hme hsf hf15 hVl hrl0 hlast hDl em eo hkk ef hk ha nlos nlord nlolh ea ht hrep hD0l hok htot0 nrds nrdlo nrdlh hlhs hsl ne0b nlhe hbl hpl hvl hal hu0 htot h4000 h300 h1;omega)
      have haoS:ao∈rd::lh::hs:=Yan _ (Yan _ (Yah hao));have hBao:B ao≠none:=hB ao (Yan _ haoS);have naorw:ao≠rw0:=hmS ao haoS;have naolo:ao≠lo:=fun z=>nlos (by rw[<- z];exact Yah hao);have naolh:ao≠lh:=fun z=>hlhs (by rw[<- z];exact Yah hao);have naord:ao≠rd:=fun z=>nrds (by rw[<- z];exact Yah hao);have hysl:ys.length=s:=by have:=hTy.1;rwa [Yac,Yb3] at this
      have erg:(Yap (s+1)).map (fun i=>tm (tkT Dt f i))=(Yap s).map (fun i=>tm (tkT Dt f i))++[tm (tkT Dt f s)]:=by rw[Ych,YaB];rfl
      have fin:∀ (Hv:Hp) (v:V),RLf Hv hs (fun i=>if i=p - a then ys else cutT (s+1) (Vs.getD i []))->TVs B Hv ys ((Yap s).map fun i=>tm (tkT Dt f i))->TVD B Hv Vs Dt->TV B Hv v (tm (tkT Dt f s))->Hv rd=some (.lst (((Yap (p+1)).map fun i=>rt.getD i 0+tth ((Dt.getD i []).reverse.take (s+1))).map V.int))->Hv lo=some (.lst (((ordT p a).map fun (i:Nat)=>(i:Int)).map V.int))->Hv lh=some (.lst (hs.map V.ref))->Same H Hv->Hv ao=some (.lst ys)/\RLf (upd Hv ao (.lst (ys++[v]))) hs (fun i=>if i=p - a then ys++[v] else cutT (s+1) (Vs.getD i []))/\TVs (mutH (rd::lh::hs)) (upd Hv ao (.lst (ys++[v]))) (ys++[v]) ((Yap (s+1)).map fun i=>tm (tkT Dt f i))/\TVD (mutH (rd::lh::hs)) (upd Hv ao (.lst (ys++[v]))) Vs Dt/\(upd Hv ao (.lst (ys++[v]))) rd=some (.lst (((Yap (p+1)).map fun i=>rt.getD i 0+tth ((Dt.getD i []).reverse.take (s+1))).map V.int))/\(upd Hv ao (.lst (ys++[v]))) lo=some (.lst (((ordT p a).map fun (i:Nat)=>(i:Int)).map V.int))/\(upd Hv ao (.lst (ys++[v]))) lh=some (.lst (hs.map V.ref))/\Same H (upd Hv ao (.lst (ys++[v]))):=fun Hv v q1 q2 q3 q4 q5 q6 q7 q8=>by
       have q0:=q1 _ ao hao;dsimp only at q0;rw[if_pos rfl] at q0;refine⟨q0,RLf.put q1 hsN hao (by rw[if_pos rfl]) fun i' hne _=>by rw[if_neg hne,if_neg hne],?_,(q3.put q0 hBao).base hBb,by rw[upd_ne (YaX naord)];exact q5,by rw[upd_ne (YaX naolo)];exact q6,by rw[upd_ne (YaX naolh)];exact q7,q8.put (hmH ao haoS)⟩;rw[erg];exact (TVs.snoc (q2.put q0 hBao) (q4.put q0 hBao)).base hBb
      dsimp only;refine cut1 (fun σ' Hz=>∃ (v:V) (o11 o12 o13:Option V),σ'=[some (.int p),some (.int n),some (.ref rl),some (.ref lh),some (.ref lo),some (.int ((p - a:Nat):Int)),some (.ref rd),some (.int at_),some (.int (0+(t:Int))),some (.ref rw0),o10,o11,o12,o13]/\RLf Hz hs (fun i=>if i=p - a then ys++[v] else cutT (s+1) (Vs.getD i []))/\TVs (mutH (rd::lh::hs)) Hz (ys++[v]) ((Yap (s+1)).map fun i=>tm (tkT Dt f i))/\TVD (mutH (rd::lh::hs)) Hz Vs Dt/\Hz rd=some (.lst (((Yap (p+1)).map fun i=>rt.getD i 0+tth ((Dt.getD i []).reverse.take (s+1))).map V.int))/\Hz lo=some (.lst (((ordT p a).map fun (i:Nat)=>(i:Int)).map V.int))/\Hz lh=some (.lst (hs.map V.ref))/\Same H Hz) (fun R2 hR2=>?_) ?_
      ·refine⟨_,rfl,YaO _,fun le2 nle2=>?_⟩;have s11:Same Hy (upd Hy le2 (.lst [])):=Same.new nle2;have hrw11:=s11 _ _ hrw;have hRf11:=hRf.same s11;have hTy11:=hTy.same s11;have hT11:=hT.same s11;have hrd11:=s11 _ _ hrd;have hlo11:=s11 _ _ hlo;have hlh11:=s11 _ _ hlh;have sx11:=sx.trans s11;have e311:∀ r∈rs,RTok B (upd Hy le2 (.lst [])) r:=fun r hr'=>(e3 r hr').same s11;refine⟨rw0,le2,_,rfl,rfl,SqL.of hrw11,SqL.of Zab,_,rfl,?_⟩;clear hrw hRf hTy hT hrd hlo hlh sx e3 hVo nle2;generalize upd Hy le2 (.lst [])=Hv at s11 hrw11 hRf11 hTy11 hT11 hrd11 hlo11 hlh11 sx11 e311 ⊢
       match rs,e2',e311,hrsl,hrw11 with
       | [],e2',_,_,_=>
        have etm:tm (tkT Dt f s)=none:=by
         rw[<- ht1];unfold tm;rw[<- e2'];rfl
        obtain⟨q0,qq⟩:=fin Hv .non hRf11 hTy11 hT11 (by rw[etm];exact rfl) hrd11 hlo11 hlh11 sx11;refine iteT ⟨_,rfl,_,rfl,lh,_,_,.ref ao,rfl,rfl,SqL.of hlh11,ZaP (by rw[Yaf,hao];rfl),.inl ⟨rfl,_,SqL.of q0⟩,ao,_,_,rfl,rfl,q0,Zbn (by (clear qq naord naolh naolo naorw hrsl hlen15 hjl nrwlo hsf' hme hVl hrl0 hlast hDl em eo hkk ef hk ha nlos nlord nlolh ea ht hrep hD0l hok htot0 nrds nrdlo nrdlh hlhs hsl ne0b nlhe hbl hpl hvl hal hu0 htot h4000 h300 h2 h1;omega)),?_⟩;exact hR2 _ _ ⟨.non,o11,o12,o13,rfl,qq⟩
       | r0::rr,e2',e311,hrsl,hrw11=>
        refine iteF ?_;have etm:=Zlz e2';rw[ht1] at etm;generalize hrs:r0::rr=rs at e2' e311 hrsl hrw11;have hr0:rs[0]?=some r0:=by rw[<- hrs];rfl
        have hup:∀ r∈rs,r.2.2.1=r0.2.2.1:=fun r hr'=>by
         have m1:r.2.2∈ZaF (colO p a Dt s):=by rw[<- e2'];exact YaY.mpr ⟨r,hr',rfl⟩
         have m2:r0.2.2∈ZaF (colO p a Dt s):=by rw[<- e2'];exact YaY.mpr ⟨r0,Yah hr0,rfl⟩
         cases u:r.2.2.1 with
         | true=>
          cases u':r0.2.2.1 with
          | true=>rfl
          | false=>exact absurd ⟨YaY.mpr ⟨_,m1,u⟩,YaY.mpr ⟨_,m2,u'⟩⟩ ht2
         | false=>
          cases u':r0.2.2.1 with
          | false=>rfl
          | true=>exact absurd ⟨YaY.mpr ⟨_,m2,u'⟩,YaY.mpr ⟨_,m1,u⟩⟩ ht2
        have get:∀ {i:Nat}{x:V},(rs.map fun r=>V.ref r.1)[i]?=some x->∃ r,rs[i]?=some r/\x=.ref r.1:=fun {i x} h=>by
         rw[Yaf] at h
         cases e:rs[i]? with
         | none=>rw[e] at h;cases h
         | some r=>rw[e] at h;exact⟨r,rfl,(Yay h).symm⟩
        have k0:=e311 r0 (Yah hr0);refine⟨_,rfl,rw0,_,0,.ref r0.1,rfl,rfl,SqL.of hrw11,ZaP (j:=0) (by rw[Yaf,hr0];rfl),r0.1,_,0,.bl r0.2.2.1,rfl,rfl,SqT.of k0.1,rfl,?_⟩;refine⟨_,rfl,rw0,true,rfl,⟨_,SqL.of hrw11⟩,?_⟩;refine ZbA (b:=true) (K:=K) ((rs.map fun _=>true).map V.bl) (show SqB true K Hv rw0 (rs.map fun r=>V.ref r.1) from SqL.of hrw11) (by simp) (by rw[Yac];(clear hysl naord naolh naolo naorw hlen15 hjl nrwlo hsf' hme hsf hf15 hVl hrl0 hlast hDl em eo hkk ef hk ha nlos nlord nlolh ea ht hrep hD0l hok htot0 nrds nrdlo nrdlh hlhs hsl ne0b nlhe hbl hpl hvl hal hu0 htot h4000 h300 h2 h1;omega)) (fun i x y hx hy Hc sc R3 hR3=>?_) fun acc H12 n12 s12 hacc=>?_
        ·obtain⟨r,hr',rfl⟩:=get hx;rw[Yaf,Yaf,hr'] at hy;have hy:some (V.bl true)=some y:=hy;cases hy;have hk:=(e311 r (Yah hr')).same sc;have hu:=hup r (Yah hr');refine⟨_,rfl,r.1,_,0,.bl r.2.2.1,rfl,rfl,SqT.of hk.1,rfl,_,rfl,rfl,?_⟩;rw[hu];have:decide (V.bl r0.2.2.1=V.bl r0.2.2.1)=true:=decide_eq_true rfl;rw[this];exact hR3 Hc (Same.refl _)
        refine⟨acc,_,rfl,SqL.of hacc,_,rfl,?_⟩;have eall:(rs.map fun _=>true).all id=true:=by simp
        rw[eall];refine iteF ?_;have hrw12:=s12 _ _ hrw11;refine⟨YaO _,fun th nth=>?_⟩;have s13:Same H12 (upd H12 th (.lst [])):=Same.new nth;have hth13:upd H12 th (.lst []) th=some (.lst []):=Zab;have nthH:H th=none:=(sx11.trans s12).free nth;have hb2:∀ r∈rs,r.2.2=r.2.2/\r.2.1≠th/\r.1≠th:=fun r hr'=>by
         have q:=(e311 r hr').same s12;exact⟨rfl,(fun z=>by rw[<- z,q.2.1] at nth;cases nth),fun z=>by rw[<- z,q.1] at nth;cases nth⟩
        have s11':=s12.trans s13;refine⟨_,rfl,rw0,rfl,⟨_,SqL.of (s13 _ _ hrw12)⟩,?_⟩;have nthrw:rw0≠th:=fun z=>by rw[z,nth] at hrw12;cases hrw12
        refine Za6 (xs:=rs.map fun r=>V.ref r.1) (fun i σ Hm=>∃ o11:Option V,σ=[some (.int p),some (.int n),some (.ref rl),some (.ref lh),some (.ref lo),some (.int ((p - a:Nat):Int)),some (.ref rd),some (.int at_),some (.int (0+(t:Int))),some (.ref rw0),o10,o11,some (.bl r0.2.2.1),some (.ref th)]/\Hm th=some (.lst ((((rs.take i).map (·.2.2.2)).flatten).map V.int))/\Sm th (upd H12 th (.lst [])) Hm)
         ⟨o11,rfl,by rw[Ybj];exact hth13,Sm.refl _ _⟩ (fun i σ Hm _ z=>by
          obtain⟨_,_,_,sm⟩:=z;exact SqL.of (sm _ _ (s13 _ _ hrw12) nthrw)) ?_ ?_
        ·rintro i x σ Hm hx ⟨o11,rfl,hth,sm⟩;obtain⟨r,hr',rfl⟩:=get hx;obtain⟨_,n1,n2⟩:=hb2 r (Yah hr');have hk:=((e311 r (Yah hr')).same s12).same s13;have g1:=sm _ _ hk.1 n2;have g2:=sm _ _ hk.2.1 n1;refine⟨_,rfl,.inl ⟨rfl,_,SqL.of hth⟩,_,rfl,r.1,_,1,.ref r.2.1,rfl,rfl,SqT.of g1,rfl,th,r.2.1,_,_,rfl,rfl,hth,g2,?_,?_⟩
         ·have h9:=Zes hr';have h10:rs.map (·.2.2.2)=(ZaF (colO p a Dt s)).map (·.2):=by rw[<- e2',Ybw];rfl
          rw[h10] at h9;exact Ybi (Zbn (by rw[Yac,Yac];(clear n2 n1 nthrw hrsl hysl naord naolh naolo naorw hjl nrwlo hsf' hme hsf hf15 hVl hrl0 hlast hDl em eo hkk ef ha nlos nlord nlolh ea ht hrep hD0l hok htot0 nrds nrdlo nrdlh hlhs hsl ne0b nlhe hbl hpl hvl hal hu0 htot h4000 h300 h2 h1;omega)))
         ·refine⟨_,rfl,?_,sm.trans Sm.put⟩;rw[Zab,Ya9,hr'];simp
        ·rintro σ Hm ⟨o11,rfl,hth,sm⟩;rw[Yac,YaT] at hth;have smv:Same Hv Hm:=Sm.after s11' sm ((s12).free nth) |> fun z=>z;have nlhth:lh≠th:=fun z=>by have:=s12 _ _ hlh11;rw[z,nth] at this;cases this
         have q11:=hRf11.same smv;have q0:Hm ao=some (.lst ys):=by
          have:=q11 _ ao hao;dsimp only at this
          rwa [if_pos rfl] at this
         refine⟨_,rfl,_,rfl,lh,_,_,.ref ao,rfl,rfl,SqL.of (smv _ _ hlh11),ZaP (by rw[Yaf,hao];rfl),.inl ⟨rfl,_,SqL.of q0⟩,?_⟩;refine⟨_,rfl,r0.2.2.1,rfl,_,rfl,_,rfl,r0.2.2.1,rfl,th,_,_,rfl,hth,fun l5 H13 nl5 hl5 s14=>⟨(by show 2<=sizeLine;decide),fun t5 nt5=>?_⟩⟩;have s15:Same H13 (upd H13 t5 (.tup [.bl (!r0.2.2.1),.ref l5])):=Same.new nt5;have ht5:upd H13 t5 (.tup [.bl (!r0.2.2.1),.ref l5]) t5=some (.tup [.bl (!r0.2.2.1),.ref l5]):=Zab;have hl515:=s15 _ _ hl5;have sv:=(smv.trans s14).trans s15;generalize upd H13 t5 (.tup [.bl (!r0.2.2.1),.ref l5])=H14 at s15 ht5 hl515 sv ⊢;have hBl5:B l5=none:=hBn l5 (fun z=>by
          have:=smv _ _ hrw11;rw[<- z,nl5] at this;cases this) fun z=>by
          rcases Yav.mp z with z | z
          ·have:=smv _ _ hrd11;rw[<- z,nl5] at this;cases this
          rcases Yav.mp z with z | z
          ·have:=smv _ _ hlh11;rw[<- z,nl5] at this;cases this
          ·obtain⟨j,hj⟩:=YaK z;have:=q11 j _ hj;rw[nl5] at this;cases this
         rw[hrs] at etm;obtain⟨q0',qq⟩:=fin H14 (.ref t5) (hRf11.same sv) (hTy11.same sv) (hT11.same sv) (by rw[etm];exact⟨t5,l5,rfl,ht5,hl515,hBl5⟩) (sv _ _ hrd11) (sv _ _ hlo11) (sv _ _ hlh11) (sx11.trans sv);refine⟨ao,_,_,rfl,rfl,q0',Zbn (by (clear qq nlhth nthrw hrsl naord naolh naolo naorw hlen15 hjl nrwlo hsf' hme hVl hrl0 hlast hDl em eo hkk ef hk ha nlos nlord nlolh ea ht hrep hD0l hok htot0 nrds nrdlo nrdlh hlhs hsl ne0b nlhe hbl hpl hvl hal hu0 htot h4000 h300 h2 h1;omega)),?_⟩;exact hR2 _ _ ⟨.ref t5,o11,_,_,rfl,qq⟩
      ·rintro σ' Hz ⟨v,o11,o12,o13,rfl,q1,q2,q3,q4,q5,q6,q7⟩;exact⟨_,rfl,_,_,rfl,rfl,ys++[v],_,_,_,_,_,_,rfl,q1,q2,q3,q4,q5,q6,q7⟩
    ·have hsf':s=f:=by have:¬ s<f:=fun z=>hc (decide_eq_true z);(clear hc hme hf15 hVl hrl0 hlast hDl em eo hkk ef hk ha nlos nlord nlolh ea ht hrep hD0l hok htot0 nrds nrdlo nrdlh hlhs hsl ne0b nlhe hbl hpl hvl hal hu0 htot h4000 h300 h2 h1;omega)
     subst hsf';exact hR' _ _ ⟨ys,at_,o9,o10,o11,o12,o13,rfl,hRf9,hTy9,hT9,hrd9,hlo9,hlh9,sx9⟩
   ·rintro σ' Hy ⟨ys,at_,o9,o10,o11,o12,o13,rfl,q1,q2,q3,q4,q5,q6,q7⟩;refine⟨_,rfl,(by show 1<=sizeLine;decide),fun l1 nl1=>?_⟩;have s1':Same Hy (upd Hy l1 (.lst [.int ((p - a:Nat):Int)])):=Same.new nl1;refine⟨_,rfl,l1,lo,_,_,rfl,rfl,Zab,s1' _ _ q5,Ybi (Zas (by rw[Yac,Yac,ZaZ];show 1+p<=1000;(clear hf15 hVl hrl0 hlast hDl em eo hkk ef hk ha nlos nlord nlolh ea ht hrep hD0l hok htot0 nrds nrdlo nrdlh hlhs hsl ne0b nlhe hbl hpl hvl hal hu0 htot h4000 h300 h1;omega))),fun l2 nl2=>?_⟩;have s2':Same (upd Hy l1 (.lst [.int ((p - a:Nat):Int)])) (upd (upd Hy l1 (.lst [.int ((p - a:Nat):Int)])) l2 (.lst ([.int ((p - a:Nat):Int)]++((ordT p a).map fun (i:Nat)=>(i:Int)).map V.int))):=Same.new nl2;have hl2:upd (upd Hy l1 (.lst [.int ((p - a:Nat):Int)])) l2 (.lst ([.int ((p - a:Nat):Int)]++((ordT p a).map fun (i:Nat)=>(i:Int)).map V.int)) l2=some (.lst (((ordT p (nxA p a)).map fun (i:Nat)=>(i:Int)).map V.int++[.int ((p - nxA p a:Nat):Int)])):=by
     rw[Zab];have e:=congrArg (fun l:List Nat=>(l.map fun (i:Nat)=>(i:Int)).map V.int) (ZgX h1 ha);simp only[YaB,Yam,YcC] at e;rw[<- e];rfl
    have s12':=s1'.trans s2';have nl2H:H l2=none:=q7.free (s1'.free nl2);have nl2S:∀ q∈rd::lh::hs,q≠l2:=fun q hq z=>by
     have hn:=s1'.free nl2;rcases Yav.mp hq with rfl | hq
     ·rw[z,hn] at q4;cases q4
     rcases Yav.mp hq with rfl | hq
     ·rw[z,hn] at q6;cases q6
     ·obtain⟨j,hj⟩:=YaK hq;have:=q1 j q hj;rw[z,hn] at this;cases this
    have q3':=(q3.oldD (a:=l2) (o:=.lst []) (s1'.free nl2)).same s12';have q2':=(q2.old (a:=l2) (o:=.lst []) (s1'.free nl2)).same s12';have q1':=q1.same s12';have q4':=s12' _ _ q4;have q6':=s12' _ _ q6;have q7':=q7.trans s12';generalize upd (upd Hy l1 (.lst [.int ((p - a:Nat):Int)])) l2 (.lst ([.int ((p - a:Nat):Int)]++((ordT p a).map fun (i:Nat)=>(i:Int)).map V.int))=Hz at hl2 q1' q2' q3' q4' q6' q7' ⊢;refine⟨_,rfl,.inl ⟨rfl,_,SqL.of hl2⟩,l2,_,.int ((p - nxA p a:Nat):Int),rfl,rfl,hl2,?_,?_⟩
    ·rw[Yai,YbP,Ydx,Yak (Yas _),Yb6];rfl
    rw[Ydn];have hlb:upd (mutH (rd::lh::hs)) l2 (.lst []) l2≠none:=Zbd;have ea':nxA p a=(t+1) % (p+1):=by rw[Zfo,<- ea];rfl
    have eV:∀ i q,hs[i]?=some q->(if i=p - a then ys else cutT f (Vs.getD i []))=(((Vs.map (cutT f)).set (p - a) ys).getD i []):=fun i q hq=>by
     have hi:=(Yaa.mp hq).1
     have eg:(((Vs.map (cutT f)).set (p - a) ys).getD i [])=(((Vs.map (cutT f)).set (p - a) ys)[i]?).getD []:=Yad;rw[eg];by_cases z:i=p - a
     ·rw[if_pos z,z,Ybk (by rw[Yac];(clear z hi ea' hf15 hrl0 hlast hDl em eo hkk ef hk ha nlos nlord nlolh ea ht hrep hD0l hok htot0 nrds nrdlo nrdlh hlhs hsl ne0b nlhe hbl hpl hvl hal hu0 htot h4000 h300 h2 h1;omega))];rfl
     ·rw[if_neg z,Ya5 (YaX z),Yaf,Yad,Yab (by (clear z ea' hf15 hrl0 hlast hDl em eo hkk ef hk ha nlos nlord nlolh ea ht hrep hD0l hok htot0 nrds nrdlo nrdlh hlhs ne0b nlhe hbl hpl hvl hal hu0 htot h4000 h300 h2 h1;omega))];rfl
    refine⟨l2,(Vs.map (cutT f)).set (p - a) ys,nxA p a,at_,_,o9,o10,o11,o12,o13,ea',rfl,Zab,by rw[upd_ne (nl2S lh (Yan _ Yaw))];exact q6',⟨by rw[Yby,Yac];(clear ea' hf15 hrl0 hlast hDl em eo hkk ef hk ha nlos nlord nlolh ea ht hrep hD0l hok htot0 nrds nrdlo nrdlh hlhs ne0b nlhe hbl hpl hvl hal hu0 htot h4000 h300 h2 h1;omega),fun i q vs hq hv=>?_⟩,?_,by rw[hkk];exact hGn,?_,q7'.put nl2H,nl2H,fun z=>nl2S lh (Yan _ Yaw) z.symm,fun z=>nl2S rd Yaw z.symm,fun z=>nl2S l2 (Yan _ (Yan _ z)) rfl⟩
    ·have hqn:q≠l2:=nl2S q (Yan _ (Yan _ (Yah hq)));rw[upd_ne hqn,q1' i q hq];dsimp only;rw[eV i q hq,Yad,hv];rfl
    ·exact (TVD.set ((q3'.put hl2 hlb).map fun vs ds h=>by
      unfold cutT;rw[h.1];exact h.take _) (q2'.put hl2 hlb)).base fun t ht=>ZaE ht
    ·rw[upd_ne (nl2S rd Yaw),q4',<- zipR hrl0 (by unfold rdT;rw[Yac,hDl])];have:∀ i∈Yap (p+1),rt.getD i 0+tth ((Dt.getD i []).reverse.take f)=rt.getD i 0+(rdT Dt f).getD i 0:=fun i hi=>by
      rw[ZkA (by rw[hDl];exact Ybn.mp hi)]
     rw[Ybe this]
  ·rintro σ Hx ⟨lo,Vs,a,at_,o8,o9,o10,o11,o12,o13,ea,rfl,hlo,hlh,hR,hT,hGt,hrd,sx,nloH,nlolh,nlord,nlos⟩;have etk:(phL p 0 n).take n=phL p 0 n:=YaW (by rw[Ze4];exact Yas _);rw[etk] at hT hGt hrd;rw[Yb6] at hGt;have ha:a<=p:=by rw[ea];have:=YdF n (show 0<p+1 by (clear nlos nlord nlolh ea hrep hD0l hok htot0 nrds nrdlo nrdlh hlhs hsl ne0b nlhe hbl hpl hvl hal hu0 htot h4000 h300 h2 h1;omega));(clear nlos nlord nlolh ea hrep hD0l hok htot0 nrds nrdlo nrdlh hlhs hsl ne0b nlhe hbl hpl hvl hal hu0 htot h4000 h300 h2 h1;omega)
   obtain⟨d,ed,_⟩:=Zke h1 hGt;obtain⟨i0,hi0,hDi⟩:=ZlV h1 ha hGt ed;have hmi:=Zb5 ha (Yah hi0);obtain⟨ai,hai⟩:∃ ai,hs[i0]?=some ai:=⟨_,Yab (by (clear ha nlos nlord nlolh ea hrep hD0l hok htot0 nrds nrdlo nrdlh hlhs ne0b nlhe hbl hpl hvl hal hu0 htot h4000 h300 h2 h1;omega))⟩
   obtain⟨vs,hvs,hav⟩:=hR.at hai;obtain⟨ds,hds,htv⟩:=hT.at hvs;rw[hDi] at hds;cases hds;obtain⟨v,rfl⟩:=Yde.mp htv.1;refine⟨_,rfl,_,rfl,lo,_,0,.int ((i0:Nat):Int),rfl,rfl,SqL.of hlo,ZaP (j:=0) (by rw[Yaf,Yaf,hi0];rfl),lh,_,_,.ref ai,rfl,rfl,SqL.of hlh,ZaP (by rw[Yaf,hai];rfl),ai,_,0,v,rfl,rfl,SqL.of hav,rfl,_,rfl,(by show 2<=sizeLine;decide),fun t nt=>?_⟩;have s9:Same Hx (upd Hx t (.tup [v,.ref rd])):=Same.new nt;have hv:=(htv.2 0 v d rfl rfl).same s9;exact k t rd v d [] _ ed Zab (hv.base fun _ _=>rfl) (s9 _ _ hrd) nrdH (sx.trans s9)
end
end Fi56
namespace Fi56
open PySem L2 Lv
section
variable {P:Program}{w:World}{K:Yae}{mg:Str->Option Value}{base:Heap}
theorem ZkP:FnScope ["rows"] ["rows"] (Zac ZeY):=⟨rfl,rfl,rfl,by decide +kernel,rfl,by decide +kernel,by decide +kernel⟩
theorem Zhv {α β:Type} (f:α->β):∀ l:List α,l.filterMap (fun x=>some (f x))=l.map f
 | []=>rfl
 | x::l=>by rw[YaJ,Yam,<- Zhv f l]
theorem Ziz {f:Addr}{fd:FuncData} (F:Fun K "things_in" "things_in" ZeY f fd) (T:Txt mg):FnOk P w K mg base CX0 1 f fd ["rows"] ZjB:=by
 refine okW F ZkP (fun vs H Q E h=>?_) (fun cdv A outer s H vs Q E hr h=>?_)
 ·obtain⟨l,as,N,rfl,_⟩:=h;rfl
 ·obtain⟨l,as,N,rfl,hl,hL,h5,k⟩:=h;refine⟨_,(Zan (ws (Zay (Zal (ZeD rfl) rfl T.sum Zi2 (Zaa (ZaN (own:=["row"]) (js:=[]) (CompOk.by (sc:=Zac ZeY) (N:=["rows"]) rfl rfl (by decide +kernel)) rfl (ZaQ (pv 0)) Zao (fun _ _ _ _ _=>(Zah (i:=0) (by show (["row"]:List Str).Nodup;decide +kernel) rfl (YaP rfl) (.inr rfl))) (fun _ _ _ _ _=>(ZcN (ZcO (ZcU (pv 0))))) (fun _ _ _ _ _=>(Zal (Zcf K) rfl T.len YbM (Zaa (pv 0) Zad)))) Zad))))),?_⟩;have hal:as.length=N.length:=hL.1;refine⟨_,rfl,l,true,rfl,⟨_,SqL.of hl⟩,?_⟩;refine Zca (b:=true) (K:=K) (a:=l) (xs:=as.map V.ref) (fun i=>N[i]?.bind fun xs=>some (V.int (xs.length:Int))) (SqL.of hl) (by rw[Yac];omega) (fun i x hx H1 s1 A B hf=>?_) fun acc H1 h0 s1 hacc=>?_
  ·obtain⟨q,hq,rfl⟩:=Zau hx;have hi:=(Yaa.mp hq).1
   have hN:N[i]?=some N[i]:=Yab (by (clear h5;omega));rw[hN] at hf;refine⟨_,rfl,_,rfl,iteT ?_⟩;exact⟨_,rfl,q,_,rfl,.inl (SqL.of (s1 _ _ (hL.2 i q _ hq hN))),by rw[Yac];exact hf H1 (Same.refl _)⟩
  have e:(Yap (as.map V.ref).length).filterMap (fun i=>N[i]?.bind fun xs=>some (V.int (xs.length:Int)))=(N.map fun xs=>(xs.length:Int)).map V.int:=by
   rw[Yac,hal,Zb9,Zhv,Ybw];rfl
  rw[e] at hacc;exact⟨acc,_,rfl,SqL.of hacc,k H1 s1⟩
theorem ZkO:FnScope ["taken","at"] ["taken","at"] (Zac ZeX):=⟨rfl,rfl,rfl,by decide +kernel,rfl,by decide +kernel,by decide +kernel⟩
theorem Zk4 {f:Addr}{fd:FuncData} (F:Fun K "taken_at" "taken_at" ZeX f fd) (T:Txt mg):FnOk P w K mg base CX0 1 f fd ["taken","at"] Zjz:=by
 refine okW F ZkO (fun vs H Q E h=>?_) (fun cdv A outer s H vs Q E hr h=>?_)
 ·obtain⟨l,as,W,i,rfl,_⟩:=h;rfl
 ·obtain⟨l,as,W,i,rfl,hl,hal,hA,h20,k⟩:=h;refine⟨_,(Zan (ws (Zay (ZaN (own:=["rows"]) (js:=[1]) (CompOk.by (sc:=Zac ZeX) (N:=["taken","at"]) rfl rfl (by decide +kernel)) rfl (ZaQ (pv 0)) Zao (fun _ _ _ _ _=>(Zah (i:=0) (by show (["rows","at"]:List Str).Nodup;decide +kernel) rfl (YaP rfl) (.inr rfl))) (fun _ _ _ _ _=>(ZcN (ZaM Zg2 (pv 1) (Zal (Zcf K) rfl T.len YbM (Zaa (pv 0) Zad)) (ZaS _)))) (fun _ _ _ _ _=>(Zaw (ZfN K) (pv 0) (pv 1) (fun _ _=>rfl))))))),?_⟩;refine⟨_,rfl,l,true,rfl,⟨_,SqL.of hl⟩,?_⟩;refine Zca (b:=true) (K:=K) (a:=l) (xs:=as.map V.ref) (fun j=>W[j]?.bind (·[i]?)) (SqL.of hl) (by rw[Yac];(clear hal;omega)) (fun j x hx H1 s1 A B hf=>?_) fun acc H1 h0 s1 hacc=>?_
  ·obtain⟨q,hq,rfl⟩:=Zau hx;have hj:=(Yaa.mp hq).1
   have hW:W[j]?=some W[j]:=Yab (by (clear h20;omega));have hw:=s1 _ _ (hA j q _ hq hW);rw[hW] at hf;have hf:(match W[j][i]? with | some y=>∀ H',Same H1 H'->A y H' | none=>∀ H',Same H1 H'->B H'):=hf;refine⟨_,rfl,_,rfl,q,_,rfl,.inl (SqL.of hw),_,_,rfl,rfl,_,rfl,?_⟩;by_cases hi:i<W[j].length
   ·rw[Yab hi] at hf;rw[decide_eq_true (show (i:Int)<(W[j].length:Int) by (clear h20;omega))];exact iteT ⟨_,rfl,_,rfl,q,_,(i:Int),W[j][i],rfl,rfl,SqL.of hw,ZaP (Yab hi),hf H1 (Same.refl _)⟩
   ·rw[Ybs (by (clear h20;omega))] at hf;rw[decide_eq_false (show ¬ (i:Int)<(W[j].length:Int) by (clear h20;omega))];exact iteF (hf H1 (Same.refl _))
  rw[Yac,hal,Zb9] at hacc;exact k acc H1 h0 hacc s1
theorem scCopT:FnScope ["row","up","things"] ["row"] (Zac Zf5):=⟨rfl,rfl,rfl,by decide +kernel,rfl,by decide +kernel,by decide +kernel⟩
theorem Zj0 {f:Addr}{fd:FuncData} (F:Fun K "copied_turned" "copied_turned" Zf5 f fd) (T:Txt mg):FnOk P w K mg base CX0 1 f fd ["row"] ZgA:=by
 refine okW F scCopT (fun vs H Q E h=>?_) (fun cdv A outer s H vs Q E hr h=>?_)
 ·obtain⟨v,d,rfl,_⟩:=h;rfl
 ·obtain⟨v,d,rfl,hv,k⟩:=h;refine⟨_,(Zag (Zch (ZcO (Zjh (pv 0)))
   (Zan (ws (Zay ZfC)))
   Za8)
   (Zag (ws (Zcv (pv 0) (ZfA rfl (ZaK (Zah (i:=1) scCopT.nd rfl (YaP rfl)) (ZaK (Zah (i:=2) scCopT.nd rfl (YaP rfl)) ZbP)))))
   (Zan (ws (Zay (Zb3 (Zaa (pv 1) (Zaa (ZaB Zcy rfl T.list Zdr (Zaa (pv 2) Zad)) Zad)))))))),?_⟩
  refine⟨_,rfl,_,rfl,?_⟩
  cases d with
  | none=>
   have:v=.non:=hv;subst this;exact iteT (k _ _ rfl (Same.refl _))
  | some d=>
   obtain⟨q,t,rfl,hq,ht,_⟩:=hv;refine iteF ?_;refine⟨_,rfl,q,_,rfl,SqT.of hq,rfl,_,_,rfl,_,_,rfl,rfl,?_⟩;refine⟨_,rfl,_,rfl,t,_,rfl,.inl (SqL.of ht),fun l nl=>⟨(by show 2<=sizeLine;decide),fun a na=>?_⟩⟩;have s1:=Same.new (o:=.lst (d.2.map V.int)) nl;have s2:=Same.new (o:=.tup [V.bl d.1,.ref l]) na;exact k _ _ ⟨a,l,rfl,Zab,s2 _ _ Zab,nl⟩ (s1.trans s2)
theorem scMrgT:FnScope ["rows","at","real","ups","things"] ["rows","at"] (Zac ZdI):=⟨rfl,rfl,rfl,by decide +kernel,rfl,by decide +kernel,by decide +kernel⟩
theorem ZlR {c:Bool}{A B:Prop} (e:c=false) (h:B):if c=true then A else B:=by
 rw[e];exact iteF h
theorem Zlw {c1 c2:Bool}{T B Y:Prop} (e:(c1 && c2)=false) (hT:c2=false->Y->T) (hB:Y->B) (y:Y):if c1=true then T else B:=by
 cases c1 with
 | false=>exact iteF (hB y)
 | true=>exact iteT (hT (by simpa using e) y)
theorem Zhs (b:Bool):∀ bs:List Bool,inV (V.bl b) (bs.map V.bl)=decide (b∈bs)
 | []=>rfl
 | c::bs=>by
  have ih:=Zhs b bs;unfold inV at ih ⊢;rw[Yam,Yel,ih];cases b <;> cases c <;> simp[eqV]
theorem ZjY {f f1:Addr}{fd d1:FuncData} (F:Fun K "merged_turned" "merged_turned" ZdI f fd) (T:Txt mg) (CM:Cal P w K mg base 1 "merged_row" ["rows"] ZdB f1 d1):FnOk P w K mg base CX0 2 f fd ["rows","at"] Zgy:=by
 refine okW F scMrgT (fun vs H Q E h=>?_) (fun cdv A outer s H vs Q E hr h=>?_)
 ·obtain⟨l,wv,ds,at_,rfl,_⟩:=h;rfl
 ·obtain⟨l,wv,ds,at_,rfl,hl,hT,h20,hc,h15,k⟩:=h;have hr1:Room 1 _:=hr.mono (by decide);refine⟨_,(Zag (ws (Zcl (i:=2) scMrgT.nd rfl rfl (own:=["row"]) (js:=[]) (CompOk.by (sc:=Zac ZdI) (N:=["rows","at","real","ups","things"]) rfl rfl (by decide +kernel)) rfl (ZaQ (pv 0)) Zao (fun _ _ _ _ _=>(Zah (i:=0) (by show (["row"]:List Str).Nodup;decide +kernel) rfl (YaP rfl) (.inr rfl))) (fun _ _ _ _ _=>(ZcN (ZcO (ZcU (pv 0))))) (fun _ _ _ _ _=>(pv 0))))
   (Zag (Zch (Zb2 (Zio (pv 2) (fun _=>rfl)))
   (Zan (ws (Zay ZfC)))
   Za8)
   (Zag (ws (Zcl (i:=3) scMrgT.nd rfl rfl (own:=["up","things"]) (js:=[]) (CompOk.by (sc:=Zac ZdI) (N:=["rows","at","real","ups","things"]) rfl rfl (by decide +kernel)) rfl (ZaQ (pv 2)) (Zb8 (i:=0) (k:=1) (K:=K)) (fun _ _ _ _ _=>(ZdN K rfl (ZaK (Zah (i:=0) (by show (["up","things"]:List Str).Nodup;decide +kernel) rfl (YaP rfl) (.inr rfl)) (ZaK (Zah (i:=1) (by show (["up","things"]:List Str).Nodup;decide +kernel) rfl (YaP rfl) (.inr rfl)) ZbP)))) (fun _ _ _ _ _=>ZaA) (fun _ _ _ _ _=>(pv 0))))
   (Zag (Zch (PW.pt (Zjc (ZaM Zel Ze6 (pv 3) rfl) (ZgJ (ZaM Zel Ze6 (pv 3) rfl))))
   (wss Zby)
   Za8)
   (Zag (ws (Zaj (i:=4) scMrgT.nd rfl (YaP rfl) (Zat CM hr1 rfl (Zaa (ZaN (own:=["up","things"]) (js:=[]) (CompOk.by (sc:=Zac ZdI) (N:=["rows","at","real","ups","things"]) rfl rfl (by decide +kernel)) rfl (ZaQ (pv 2)) (Zb8 (i:=0) (k:=1) (K:=K)) (fun _ _ _ _ _=>(ZdN K rfl (ZaK (Zah (i:=0) (by show (["up","things"]:List Str).Nodup;decide +kernel) rfl (YaP rfl) (.inr rfl)) (ZaK (Zah (i:=1) (by show (["up","things"]:List Str).Nodup;decide +kernel) rfl (YaP rfl) (.inr rfl)) ZbP)))) (fun _ _ _ _ _=>ZaA) (fun _ _ _ _ _=>(pv 1))) Zad))))
   (Zan (ws (Zay (Zit (Zcu (Zaw Zar (pv 3) Zaf (fun _ _=>rfl))) (Zb3 (Zaa Ze6 (Zaa (ZfB (pv 4) (Zbf (Zf8 Zdb Zaf))) Zad))) (Zb3 (Zaa Ze6 (Zaa (pv 4) Zad)))))))))))),?_⟩
  obtain⟨rs,e1,e2,e3⟩:=hT.reals;have hrl:rs.length<=20:=by
   have h1:=congrArg Ybf e1;rw[Yac] at h1;have:=Ybq nonV wv
   (clear h15;omega)
  refine⟨_,rfl,l,true,rfl,⟨_,SqL.of hl⟩,?_⟩;refine Zca (b:=true) (K:=K) (a:=l) (xs:=wv) (fun i=>wv[i]?.bind nonV) (SqL.of hl) (by (clear hrl h15;omega)) (fun i x hx H1 s1 A B hf=>?_) fun acc H1 h0 s1 hacc=>?_
  ·rw[hx] at hf;obtain⟨d,_,hv⟩:=hT.at hx;refine⟨_,rfl,_,rfl,?_⟩
   cases d with
   | none=>
    have:x=.non:=hv;subst this;exact iteF (hf H1 (Same.refl _))
   | some d=>
    obtain⟨q,t,rfl,_⟩:=hv;exact iteT ⟨_,rfl,hf H1 (Same.refl _)⟩
  rw[Zb9,e1] at hacc;refine⟨_,rfl,!(rs.map fun r=>V.ref r.1).isEmpty,.inl ⟨_,SqL.of hacc,rfl⟩,?_⟩
  match rs,e2,e3,hrl,hacc with
  | [],e2,_,_,_=>
   refine iteT ?_;have e:tm ds=none:=by
    unfold tm;rw[<- e2];rfl
   refine k _ _ ?_ s1;rw[e];exact rfl
  | r0::rr,e2,e3,hrl,hacc=>
   refine iteF ?_;generalize hrs:r0::rr=rs at e2 e3 hrl hacc;have hne:rs≠[]:=by rw[<- hrs];exact Yfb _ _
   have get:∀ {i:Nat}{x:V},(rs.map fun r=>V.ref r.1)[i]?=some x->∃ r,rs[i]?=some r/\x=.ref r.1:=fun {i x} h=>by
    rw[Yaf] at h
    cases e:rs[i]? with
    | none=>rw[e] at h;cases h
    | some r=>rw[e] at h;exact⟨r,rfl,(Yay h).symm⟩
   refine⟨_,rfl,acc,true,rfl,⟨_,SqL.of hacc⟩,?_⟩;refine ZbA (b:=true) (K:=K) ((rs.map fun r=>r.2.2.1).map V.bl) (show SqB true K H1 acc (rs.map fun r=>V.ref r.1) from SqL.of hacc) (by simp) (by rw[Yac];(clear h15 h20;omega)) (fun i x y hx hy Hc sc Rr hRr=>?_) fun a2 H2 n2 s2 ha2=>?_
   ·obtain⟨r,hr,rfl⟩:=get hx;rw[Yaf,Yaf,hr] at hy;have hy:some (V.bl r.2.2.1)=some y:=hy;cases hy;have hk:=(e3 r (Yah hr)).same (s1.trans sc);exact⟨r.1,_,rfl,SqT.of hk.1,rfl,_,_,rfl,_,_,rfl,rfl,_,rfl,hRr Hc (Same.refl _)⟩
   have hup:rs.map (fun r=>r.2.2.1)=(ZaF ds).map (·.1):=by rw[<- e2,Ybw];rfl
   have fl:((rs.map fun r=>r.2.2.1).map V.bl).all ZdU=true:=by
    rw[Ycv];intro x hx;obtain⟨b,_,rfl⟩:=YaY.mp hx;rfl
   have nc:(inV (V.bl true) ((rs.map fun r=>r.2.2.1).map V.bl) && inV (V.bl false) ((rs.map fun r=>r.2.2.1).map V.bl))=false:=by
    rw[Zhs,Zhs,hup]
    cases h1:decide (true∈(ZaF ds).map (·.1)) with
    | false=>rfl
    | true=>
     cases h2:decide (false∈(ZaF ds).map (·.1)) with
     | false=>rfl
     | true=>exact absurd ⟨of_decide_eq_true h1,of_decide_eq_true h2⟩ hc
   refine⟨_,rfl,a2,_,rfl,.inl (SqL.of ha2),rfl,fl,_,rfl,?_⟩;refine Zlw nc (fun h2 y=>⟨_,rfl,a2,_,rfl,.inl (SqL.of ha2),rfl,fl,_,rfl,ZlR h2 y⟩) (fun y=>iteF y) ?_;have s12:=s1.trans s2;have hacc2:=s2 _ _ hacc;refine⟨_,rfl,acc,true,rfl,⟨_,SqL.of hacc2⟩,?_⟩;refine ZbA (b:=true) (K:=K) ((rs.map fun r=>r.2.1).map V.ref) (show SqB true K H2 acc (rs.map fun r=>V.ref r.1) from SqL.of hacc2) (by simp) (by rw[Yac];(clear h15 h20;omega)) (fun i x y hx hy Hc sc Rr hRr=>?_) fun a3 H3 n3 s3 ha3=>?_
   ·obtain⟨r,hr,rfl⟩:=get hx;rw[Yaf,Yaf,hr] at hy;have hy:some (V.ref r.2.1)=some y:=hy;cases hy;have hk:=(e3 r (Yah hr)).same (s12.trans sc);exact⟨r.1,_,rfl,SqT.of hk.1,rfl,_,_,rfl,_,_,rfl,rfl,_,rfl,hRr Hc (Same.refl _)⟩
   have s13:=s12.trans s3;have hLL:LLs H3 (rs.map fun r=>r.2.1) (rs.map fun r=>r.2.2.2):=by
    refine⟨by rw[Yac,Yac],fun j a xs h1 h2=>?_⟩;rw[Yaf] at h1 h2
    cases e:rs[j]? with
    | none=>rw[e] at h1;cases h1
    | some r=>
     rw[e] at h1 h2;cases h1;cases h2;exact ((e3 r (Yah e)).same s13).2.1
   have hN:rs.map (fun r=>r.2.2.2)=(ZaF ds).map (·.2):=by rw[<- e2,Ybw];rfl
   refine⟨a3,_,_,rfl,RwS.of ha3 hLL,?_,fun l4 ms H4 nl4 hl4 hp hs s4=>?_⟩
   ·have:(lenN (rs.map fun r=>r.2.2.2)).sum=((rs.map fun r=>r.2.2.2).flatten).length:=by unfold lenN;rw[YcY]
    rw[this,hN];exact h15
   have ems:=ZcI hp hs;have ha24:=s4 _ _ (s3 _ _ ha2);have s14:=s13.trans s4;have e:tm ds=if r0.2.2.1 then some (false,ms.reverse) else some (true,ms):=by
    have e0:ZaF ds=r0.2.2::rr.map (·.2.2):=by rw[<- e2,<- hrs];rfl
    unfold tm;rw[e0,ems,hN,e0]
   refine⟨_,rfl,a2,_,0,.bl r0.2.2.1,rfl,rfl,SqL.of ha24,by rw[<- hrs];exact ZaP (xs:=((r0::rr).map fun r=>r.2.2.1).map V.bl) (j:=0) rfl,_,rfl,?_⟩
   cases hu:r0.2.2.1 with
   | true=>
    rw[hu] at e;refine iteT ⟨_,rfl,1,rfl,_,rfl,rfl,l4,_,rfl,SqL.of hl4,fun lr nlr=>⟨(by show 2<=sizeLine;decide),fun q nq=>?_⟩⟩;rw[<- YcU] at nq ⊢;have s5:=Same.new (o:=.lst (ms.reverse.map V.int)) nlr;have s6:=Same.new (o:=.tup [V.bl false,.ref lr]) nq;refine k _ _ ?_ ((s14.trans s5).trans s6);rw[e];exact⟨q,lr,rfl,Zab,s6 _ _ Zab,s14.free nlr⟩
   | false=>
    rw[hu] at e;refine iteF ⟨_,rfl,(by show 2<=sizeLine;decide),fun q nq=>?_⟩;have s6:=Same.new (o:=.tup [V.bl true,.ref l4]) nq;refine k _ _ ?_ (s14.trans s6);rw[e];exact⟨q,l4,rfl,Zab,s6 _ _ hl4,s13.free nl4⟩
theorem ZlF:FnScope ["rows"] ["rows"] (Zac sThT):=⟨rfl,rfl,rfl,by decide +kernel,rfl,by decide +kernel,by decide +kernel⟩
def thV (H:Hp):V->Option V
 | .ref q=>match H q with
  | some (.tup [_,y])=>some y
  | _=>none
 | _=>none
theorem Zgs {H:Hp}{q:Addr}{x y:V} (h:H q=some (.tup [x,y])):thV H (.ref q)=some y:=by
 show (match H q with | some (.tup [_,y])=>some y | _=>none)=some y;rw[h]
theorem ZdJ {H:Hp}:∀ {vs:List V}{ds:List TD}{rs:List RT},TVs (fun _=>none) H vs ds->vs.filterMap nonV=rs.map (fun r=>V.ref r.1)->(∀ r∈rs,RTok (fun _=>none) H r)->vs.filterMap (thV H)=(rs.map fun r=>r.2.1).map V.ref
 | [],_,[],_,_,_=>rfl
 | [],_,r::rs,_,e,_=>by simp at e
 | v::vs,[],_,h,_,_=>absurd h.1 (by simp)
 | v::vs,none::ds,rs,h,e,hr=>by
  have:v=.non:=h.uncons.1;subst this;rw[YaJ] at e ⊢;exact ZdJ h.uncons.2 e hr
 | v::vs,some d::ds,rs,h,e,hr=>by
  obtain⟨q,t,rfl,hq,ht,_⟩:=h.uncons.1;rw[YaJ] at e;have e:V.ref q::vs.filterMap nonV=rs.map (fun r=>V.ref r.1):=e
  cases rs with
  | nil=>simp at e
  | cons r rs=>
   rw[Yam] at e;injection e with e1 e2;injection e1 with e1;have ih:=ZdJ h.uncons.2 e2 fun x hx=>hr x (Yan _ hx);have h1:=(hr r Yaw).1
   rw[<- e1,hq] at h1;injection h1 with h1;injection h1 with h1;injection h1 with _ h1;injection h1 with h1 _;injection h1 with h1;rw[YaJ,ih,Yam,Yam,<- h1];have e9:thV H (V.ref q)=some (.ref t):=Zgs hq;rw[e9]
theorem Zk5 {f f1:Addr}{fd d1:FuncData} (F:Fun K "things_turned" "things_turned" sThT f fd) (T:Txt mg) (CI:Cal P w K mg base 1 "things_in" ["rows"] ZjB f1 d1):FnOk P w K mg base CX0 2 f fd ["rows"] ZjA:=by
 refine okW F ZlF (fun vs H Q E h=>?_) (fun cdv A outer s H vs Q E hr h=>?_)
 ·obtain⟨l,wv,ds,rfl,_⟩:=h;rfl
 ·obtain⟨l,wv,ds,rfl,hl,hT,h15,k⟩:=h;have hr1:Room 1 _:=hr.mono (by decide);refine⟨_,(Zan (ws (Zay (Zat CI hr1 rfl (Zaa (ZaN (own:=["row"]) (js:=[]) (CompOk.by (sc:=Zac sThT) (N:=["rows"]) rfl rfl (by decide +kernel)) rfl (ZaQ (pv 0)) Zao (fun _ _ _ _ _=>(Zah (i:=0) (by show (["row"]:List Str).Nodup;decide +kernel) rfl (YaP rfl) (.inr rfl))) (fun _ _ _ _ _=>(ZcN (ZcO (ZcU (pv 0))))) (fun _ _ _ _ _=>(Zaw (Zhm K) (pv 0) Zaf (fun _ _=>rfl)))) Zad))))),?_⟩;obtain⟨rs,e1,e2,e3⟩:=hT.reals;have hrl:rs.length<=15000:=by
   have h1:=congrArg Ybf e1;rw[Yac] at h1;have:=Ybq nonV wv;omega
  refine⟨_,rfl,l,true,rfl,⟨_,SqL.of hl⟩,?_⟩;refine Zca (b:=true) (K:=K) (a:=l) (xs:=wv) (fun i=>wv[i]?.bind (thV H)) (SqL.of hl) (by (clear hrl;omega)) (fun i x hx H1 s1 A B hf=>?_) fun acc H1 h0 s1 hacc=>?_
  ·rw[hx] at hf;obtain⟨d,_,hv⟩:=hT.at hx;refine⟨_,rfl,_,rfl,?_⟩
   cases d with
   | none=>
    have:x=.non:=hv;subst this;exact iteF (hf H1 (Same.refl _))
   | some d=>
    obtain⟨q,t,rfl,hq,ht,_⟩:=hv;have e:thV H (V.ref q)=some (.ref t):=Zgs hq;have hf:(match thV H (V.ref q) with | some y=>∀ H',Same H1 H'->A y H' | none=>∀ H',Same H1 H'->B H'):=hf;rw[e] at hf;exact iteT ⟨_,rfl,q,_,1,.ref t,rfl,rfl,SqT.of (s1 _ _ hq),rfl,hf H1 (Same.refl _)⟩
  rw[Zb9,ZdJ hT e1 e3] at hacc;have hLL:LLs H1 (rs.map fun r=>r.2.1) (rs.map fun r=>r.2.2.2):=by
   refine⟨by rw[Yac,Yac],fun j a xs h1 h2=>?_⟩;rw[Yaf] at h1 h2
   cases e:rs[j]? with
   | none=>rw[e] at h1;cases h1
   | some r=>
    rw[e] at h1 h2;cases h1;cases h2;exact ((e3 r (Yah e)).same s1).2.1
  refine⟨acc,_,_,rfl,hacc,hLL,by rw[Yac];(clear h15;omega),fun H2 s2=>?_⟩;have e:((rs.map fun r=>r.2.2.2).map fun xs=>(xs.length:Int)).sum=tth ds:=by
   unfold tth;rw[<- e2,Ybw,Ybw];rfl
  rw[e];exact k H2 (s1.trans s2)
end
end Fi56
namespace Fi56
open PySem L2 Lv
section
variable {P:Program}{w:World}{K:Yae}{mg:Str->Option Value}{base:Heap}
theorem scLW:FnScope ["p","counts","level","of_level"] ["p","counts"] (Zac sLW):=⟨rfl,rfl,rfl,by decide +kernel,rfl,by decide +kernel,by decide +kernel⟩
theorem Zk7 {f f1 f2:Addr}{fd d1 d2:FuncData} (F:Fun K "level_with" "level_with" sLW f fd) (T:Txt mg) (CF:Cal P w K mg base 1 "first_counts" ["p"] ZdE f1 d1) (CN:Cal P w K mg base 1 "next_counts" ["counts"] (Zfs K) f2 d2):FnOk P w K mg base CX0 2 f fd ["p","counts"] (spLW K):=by
 refine okW F scLW (fun vs H Q E h=>?_) (fun cdv A outer s H vs Q E hr h=>?_)
 ·obtain⟨p,n,a,rfl,_⟩:=h;rfl
 ·obtain⟨p,n,a,rfl,h1,h2,hA,k⟩:=h;have hu0:(A.deeper (YcL "level_with" (Zac sLW) s.heap.objs.size f cdv)).units<cLine:=by have:=hr.un;(clear h2 h1;omega)
  have hr1:Room 1 _:=hr.mono (by decide);refine⟨_,(Zag (ws (Zaj (i:=2) scLW.nd rfl (YaP rfl) Zaf))
   (Zag (ws (Zaj (i:=3) scLW.nd rfl (YaP rfl) (Zat CF hr1 rfl (Zaa (pv 0) Zad))))
   (Zag (ws (ZdK Yba (ZaM Zg2 (Zal (ZeC rfl) rfl T.sum Zi2 (Zaa (pv 3) Zad)) (Zal (ZeC rfl) rfl T.sum Zi2 (Zaa (pv 1) Zad)) (ZaS _))
   (WSs.out (Zag (ws (Zaj (i:=3) scLW.nd rfl (YaP rfl) (Zat CN hr1 rfl (Zaa (pv 3) Zad))))
    (Zan (ws (Zjd (i:=2) scLW.nd rfl (YaP rfl) Zaf Zjk)))))))
   (Zag (Zch (ZaM (Zk1 hu0) (pv 3) (pv 1) (ZaS _))
   (wss Zby)
   Za8)
   (Zan (ws (Zay (pv 2)))))))),?_⟩
  refine⟨_,rfl,p,rfl,h1,h2,fun l H1 hl0 hl1 s1=>?_⟩;refine⟨fun m σ H2=>∃ (k:Nat) (l:Addr),σ=[some (.int p),some (.ref a),some (.int k),some (.ref l)]/\H2 l=some (.tup ((cnt p k).map V.int))/\Same H H2/\k<=n/\m=n - k,⟨_,0,l,rfl,hl1,s1,YaO _,rfl⟩,?_⟩;rintro m σ H2 ⟨k',l,rfl,hl2,s2,hk,rfl⟩;have hlen:=ZbB (p:=p) (by (clear hk hu0 h2;omega)) k';refine⟨_,rfl,l,_,rfl,SqT.of hl2,_,rfl,a,_,rfl,s2.tup hA,_,_,rfl,rfl,_,rfl,?_⟩;refine ite2 (fun hc=>?_) (fun hc=>?_)
  ·have hc':tot p k'<tot p n:=of_decide_eq_true hc;have hkn:k'<n:=by
    rcases Ybt k' n with z | z
    ·exact z
    ·have:=ZbW h1 z
     (clear z hlen hk hu0 h2 h1;omega)
   refine⟨fun σ H2=>∃ l:Addr,σ=[some (.int p),some (.ref a),some (.int ((k'+1:Nat):Int)),some (.ref l)]/\H2 l=some (.tup ((cnt p (k'+1)).map V.int))/\Same H H2,?_,?_⟩
   ·rintro σ' H' ⟨l',rfl,hl',s'⟩;exact⟨_,(by (clear hc' hlen hk hu0 h2 h1;omega)),k'+1,l',rfl,hl',s',hkn,rfl⟩
   ·refine⟨_,rfl,l,cnt p k',rfl,SqT.of hl2,by (clear hkn hc' hk hu0 h2;omega),by (clear hkn hc' hk hu0 h1;omega),fun l3 H3 h30 h3 s3=>?_⟩;exact⟨_,rfl,_,_,rfl,rfl,l3,rfl,h3,s2.trans s3⟩
  ·have hc':¬ tot p k'<tot p n:=fun z=>hc (decide_eq_true z);have hkn:k'=n:=by
    rcases Ybt k' n with z | z
    ·have:=Zjt h1 z
     (clear z hc hlen hk hu0 h2 h1;omega)
    ·(clear hc' hc hlen hu0 h2 h1;omega)
   subst hkn;refine⟨_,rfl,_,rfl,l,a,_,_,rfl,rfl,SqT.of hl2,s2.tup hA,?_⟩;rw[decide_eq_true rfl];exact⟨_,rfl,iteF ⟨_,rfl,k H2 s2⟩⟩
theorem scPhT:FnScope ["reels","phase","merged","out","many","taken","behind"] ["reels","phase","merged"] (Zac sPhT):=⟨rfl,rfl,rfl,by decide +kernel,rfl,by decide +kernel,by decide +kernel⟩
theorem Zk6 {f f1 f2 f3:Addr}{fd d1 d2 d3:FuncData} (F:Fun K "turned_phase" "turned_phase" sPhT f fd) (T:Txt mg) (CM:Cal P w K mg base 2 "merged_turned" ["rows","at"] Zgy f1 d1) (CK:Cal P w K mg base 1 "taken_at" ["taken","at"] Zjz f2 d2) (CT:Cal P w K mg base 2 "things_turned" ["rows"] ZjA f3 d3):FnOk P w K mg base CX0 3 f fd ["reels","phase","merged"] ZjC:=by
 refine okW F scPhT (fun vs H Q E h=>?_) (fun cdv A outer s H vs Q E hr h=>?_)
 ·obtain⟨Hb,l,q,as,Vs,D,o,m,g,rfl,_⟩:=h;rfl
 ·obtain⟨Hb,l,q,as,Vs,D,o,m,g,rfl,hl,hRL,hTV,hbs,hq,ho,hm,hz,hcl,k⟩:=h;have hr1:Room 1 _:=hr.mono (by decide);have hr2:Room 2 _:=hr.mono (by decide);refine⟨_,(Zag (ws (Zcv (pv 1) (ZfA rfl (ZaK (Zah (i:=3) scPhT.nd rfl (YaP rfl)) (ZaK (Zah (i:=4) scPhT.nd rfl (Yds rfl)) ZbP)))))
   (Zag (ws (Zaj (i:=5) scPhT.nd rfl (Yds rfl) (ZaN (own:=["reel"]) (js:=[4]) (CompOk.by (sc:=Zac sPhT) (N:=["reels","phase","merged","out","many","taken","behind"]) rfl rfl (by decide +kernel)) rfl (ZaQ (pv 0)) Zao (fun _ _ _ _ _=>(Zah (i:=0) (by show (["reel","many"]:List Str).Nodup;decide +kernel) rfl (YaP rfl) (.inr rfl))) (fun _ _ _ _ _=>ZaA) (fun _ _ _ _ _=>(ZbF (Zft K) (pe_revK K (pv 0) (Zbf (Zf8 Zdb Zaf))) Zco (Zbf (pv 1)))))))
   (Zag (ws (Zcl (i:=6) scPhT.nd rfl rfl (own:=["reel"]) (js:=[4]) (CompOk.by (sc:=Zac sPhT) (N:=["reels","phase","merged","out","many","taken","behind"]) rfl rfl (by decide +kernel)) rfl (ZaQ (pv 0)) Zao (fun _ _ _ _ _=>(Zah (i:=0) (by show (["reel","many"]:List Str).Nodup;decide +kernel) rfl (YaP rfl) (.inr rfl))) (fun _ _ _ _ _=>ZaA) (fun _ _ _ _ _=>(ZbF (Zft K) (pv 0) Zco (Zbf (Zal (Zc6 rfl) rfl T.max Zkp (Zaa (Zaq ZcV (Zal (Zcf K) rfl T.len YbM (Zaa (pv 0) Zad)) (pv 1)) (Zaa Zaf Zad))))))))
   (Zag (ws (Zcv (ZaN (own:=["at"]) (js:=[2,5]) (CompOk.by (sc:=Zac sPhT) (N:=["reels","phase","merged","out","many","taken","behind"]) rfl rfl (by decide +kernel)) rfl (ZaR rfl T.range (Zaa (pv 4) Zad)) Zao (fun _ _ _ _ _=>(Zah (i:=0) (by show (["at","merged","taken"]:List Str).Nodup;decide +kernel) rfl (YaP rfl) (.inr rfl))) (fun _ _ _ _ _=>ZaA) (fun _ _ _ _ _=>(Zat CM hr2 rfl (Zaa (Zat CK hr1 rfl (Zaa (pv 2) (Zaa (pv 0) Zad))) (Zaa (Zaq Za1 (pv 1) (pv 0)) Zad))))) (Zei (pv 6) (pv 3) Zb1)))
   (Zan (ws (Zay (Zb3 (Zaa (pv 6) (Zaa (ZaN (own:=["rows"]) (js:=[]) (CompOk.by (sc:=Zac sPhT) (N:=["reels","phase","merged","out","many","taken","behind"]) rfl rfl (by decide +kernel)) rfl (ZaQ (pv 5)) Zao (fun _ _ _ _ _=>(Zah (i:=0) (by show (["rows"]:List Str).Nodup;decide +kernel) rfl (YaP rfl) (.inr rfl))) (fun _ _ _ _ _=>ZaA) (fun _ _ _ _ _=>(Zat CT hr2 rfl (Zaa (pv 0) Zad)))) Zad)))))))))),?_⟩
  have hal:as.length=Vs.length:=hRL.1;have hvl:Vs.length=D.length:=hTV.1;have hz20:=hz.1;have ho':o<D.length:=(Yaa.mp ho).1
  have getV:∀ {j:Nat}{r:Addr},as[j]?=some r->∃ vs,Vs[j]?=some vs/\Vs.getD j []=vs/\H r=some (.lst vs):=fun {j r} e=>by
   obtain⟨vs,e1,e2⟩:=hRL.at e;exact⟨vs,e1,by rw[Yad,e1];rfl,e2⟩
  refine⟨_,rfl,q,_,rfl,SqT.of hq,rfl,_,_,rfl,_,_,rfl,rfl,?_⟩;refine⟨_,rfl,l,true,rfl,⟨_,SqL.of hl⟩,?_⟩;refine Zdp (b:=true) (K:=K) (a:=l) (xs:=as.map V.ref) (fun j=>(Vs.getD j []).reverse.take m) (SqL.of hl) (by rw[Yac];(clear ho' hm;omega)) (fun i x hx H1 s1 R hR=>?_) fun tk qs H1 htk0 htk hql hqs s1=>?_
  ·obtain⟨r,hr',rfl⟩:=Zau hx;obtain⟨vs,_,ev,hrv⟩:=getV hr';refine⟨_,rfl,1,rfl,-1,rfl,rfl,r,_,rfl,SqL.of (s1 _ _ hrv),fun lv ev'=>?_⟩;refine⟨_,rfl,_,rfl,lv,_,rfl,SqL.of Zab,fun p np=>?_⟩;rw[Zey];have s2:Same H1 (upd H1 lv (.lst vs.reverse)):=Same.new ev';exact hR p _ (s2.free np) (by rw[Zab,ev]) (s2.trans (Same.new np))
  rw[Yac] at hql;have hRtk:RL H1 qs (Vs.map fun vs=>vs.reverse.take m):=⟨by rw[Yac];(clear ho' hz20 hvl hm;omega),fun j r ws h1 h2=>by
   rw[Yaf] at h2
   cases e:Vs[j]? with
   | none=>rw[e] at h2;cases h2
   | some vs=>
    rw[e] at h2;cases h2;have:=(hqs j r h1).2.2
    rw[Yad,e] at this;exact this⟩
  have hl1:=s1 _ _ hl;refine⟨_,rfl,l,true,rfl,⟨_,SqL.of hl1⟩,?_⟩;refine Zdp (b:=true) (K:=K) (a:=l) (xs:=as.map V.ref) (fun j=>cutT m (Vs.getD j [])) (SqL.of hl1) (by rw[Yac];(clear hql ho' hm;omega)) (fun i x hx H2 s2 R hR=>?_) fun bh bs H2 hbh0 hbh hbl hbsq s2=>?_
  ·obtain⟨r,hr',rfl⟩:=Zau hx;obtain⟨vs,_,ev,hrv⟩:=getV hr';have hrv2:=s2 _ _ (s1 _ _ hrv);refine⟨_,rfl,_,rfl,r,_,rfl,.inl (SqL.of hrv2),_,rfl,_,_,rfl,rfl,_,_,rfl,_,rfl,r,_,rfl,SqL.of hrv2,fun p np=>?_⟩;rw[ZiV];exact hR p _ np (by rw[Zab,ev]) (Same.new np)
  rw[Yac] at hbl;have hRbs:RL H2 bs (Vs.map (cutT m)):=⟨by rw[Yac];(clear hql ho' hz20 hvl hm;omega),fun j r ws h1 h2=>by
   rw[Yaf] at h2
   cases e:Vs[j]? with
   | none=>rw[e] at h2;cases h2
   | some vs=>
    rw[e] at h2;cases h2;have:=(hbsq j r h1).2.2
    rw[Yad,e] at this;exact this⟩
  have s12:=s1.trans s2;have hTV2:TVD (fun _=>none) H2 (Vs.map fun vs=>vs.reverse.take m) (D.map fun ds=>ds.reverse.take m):=((hTV.same s12).base fun _ _=>rfl).map fun vs ds h=>h.rev.take m;refine⟨_,rfl,_,rfl,by (clear hbl hql ho' hz20 hvl hal hm;omega),by (clear hbl hql ho' hz20 hvl hal;omega),?_⟩;rw[Ybh];refine ZhJ (fun i=>tm (tkT D m i)) (by (clear hbl hql ho' hz20 hvl hal;omega)) (fun i hi H3 s3 R hR=>?_) fun ml ys H3 hml0 hml hTy s3=>?_
  ·have hRtk3:=(hRtk.same s2).same s3;refine⟨_,rfl,_,rfl,tk,qs,_,i,(by rw[Ydl];rfl),s3 _ _ (s2 _ _ htk),hRtk3.1,hRtk3.2,by (clear hi hbl ho' hm;omega),fun a H4 ha0 ha s4=>?_⟩;refine⟨_,rfl,_,rfl,_,_,rfl,rfl,?_⟩;refine⟨a,_,tkT D m i,_,rfl,ha,?_,?_,hcl i hi,?_,fun v H5 hv s5=>hR v H5 ?_ (s4.trans s5)⟩
   ·rw[ZeS];exact ((hTV2.same s3).same s4).col i
   ·have:=Ybq (·[i]?) (Vs.map fun vs=>vs.reverse.take m);rw[Yac] at this
    (clear hi hbl hql ho' hal hm;omega)
   ·exact ZfQ hz.2.2 i
   ·exact hv.base fun t ht=>s4.free ht
  have hbh3:=s3 _ _ hbh;refine⟨_,rfl,_,rfl,bh,_,_,o,rfl,rfl,hbh3,ZfM (by (clear hbl hql ho' hz20 hvl hal hm;omega)) (by rw[Yac];(clear hql hz20 hm;omega)),?_⟩;rw[<- YeA];have n0:H bh=none:=s1.free hbh0;have nbm:ml≠bh:=fun z=>by rw[z,hbh] at hml0;cases hml0
  have ntk:tk≠bh:=fun z=>by rw[z,hbh0] at htk;cases htk
  have hRb4:RL (upd H3 bh (.lst ((bs.set o ml).map V.ref))) (bs.set o ml) ((Vs.map (cutT m)).set o ys):=RL.set ((hRbs.same s3).off fun r hr'=>by
   obtain⟨j,hj⟩:=YaK hr';exact (hbsq j r hj).1) (by rw[upd_ne nbm];exact hml)
  have s04:Same H (upd H3 bh (.lst ((bs.set o ml).map V.ref))):=(s12.trans s3).put n0;have hTy4:TVs Hb (upd H3 bh (.lst ((bs.set o ml).map V.ref))) ys ((Yap m).map fun i=>tm (tkT D m i)) :=
   (hTy.put hbh3 (by rw[upd_ne nbm.symm,hbh];exact fun z=>nomatch z)).base fun t ht=>hbs t (s12.free (ZaE ht))
  have hTD4:TVD Hb (upd H3 bh (.lst ((bs.set o ml).map V.ref))) ((Vs.map (cutT m)).set o ys) (phT D o m):=TVD.set ((hTV.same s04).map fun vs ds h=>by
   unfold cutT;rw[h.1];exact h.take _) hTy4
  have hb4:upd H3 bh (.lst ((bs.set o ml).map V.ref)) bh=some (.lst ((bs.set o ml).map V.ref)):=Zab;have htk4:upd H3 bh (.lst ((bs.set o ml).map V.ref)) tk=some (.lst (qs.map V.ref)):=by rw[upd_ne ntk];exact s3 _ _ (s2 _ _ htk)
  have hRtk4:RL (upd H3 bh (.lst ((bs.set o ml).map V.ref))) qs (Vs.map fun vs=>vs.reverse.take m):=((hRtk.same s2).same s3).off fun r hr' z=>by
   obtain⟨j,hj⟩:=YaK hr';have:=(hqs j r hj).2.2
   rw[z,hbh0] at this;cases this
  have hTVt4:TVD (fun _=>none) (upd H3 bh (.lst ((bs.set o ml).map V.ref))) (Vs.map fun vs=>vs.reverse.take m) (D.map fun ds=>ds.reverse.take m):=((hTV.same s04).base fun _ _=>rfl).map fun vs ds h=>h.rev.take m;generalize upd H3 bh (.lst ((bs.set o ml).map V.ref))=H4 at hRb4 s04 hTy4 hTD4 hb4 htk4 hRtk4 hTVt4 ⊢;refine⟨_,rfl,_,rfl,tk,true,rfl,⟨_,SqL.of htk4⟩,?_⟩;refine ZbA ((rdT D m).map V.int) (show SqB true K H4 tk (qs.map V.ref) from SqL.of htk4) (by simp[rdT];(clear ntk nbm hbl ho' hz20 hm;omega)) (by rw[Yac];(clear ntk nbm hbl ho' hm;omega)) (fun i x y hx hy H5 s5 R hR=>?_) fun acc H5 h0 s5 hacc=>?_
  ·obtain⟨r,hr',rfl⟩:=Zau hx;obtain⟨ws,hw,hrw⟩:=hRtk4.at hr';obtain⟨ds,hds,htv⟩:=hTVt4.at hw;have hd2:∃ d0,D[i]?=some d0/\ds=d0.reverse.take m:=by
    rw[Yaf] at hds
    cases e:D[i]? with
    | none=>rw[e] at hds;cases hds
    | some d0=>rw[e] at hds;exact⟨d0,rfl,(Yay hds).symm⟩
   obtain⟨d0,hd0,rfl⟩:=hd2;have ey:y=.int (tth (d0.reverse.take m)):=by
    unfold rdT at hy;rw[Ybw,Yaf,hd0] at hy;exact (Yay hy).symm
   subst ey;have hlen:ws.length<=15000:=by
    rw[htv.1,Yaz]
    (clear ntk nbm hbl hql ho' hz20 hvl hal;omega)
   exact⟨_,rfl,r,ws,_,rfl,s5 _ _ hrw,htv.same s5,hlen,fun H6 s6=>hR H6 s6⟩
  ·refine⟨(by show 2<=sizeLine;decide),fun t nt=>?_⟩;have s6:Same H5 (upd H5 t (.tup [.ref bh,.ref acc])):=Same.new nt;exact k t bh acc _ _ _ Zab (s6 _ _ (s5 _ _ hb4)) ((hRb4.same s5).same s6) ((hTD4.same s5).same s6) (s6 _ _ hacc) n0 (s04.free h0) ((s04.trans s5).trans s6)
end
end Fi56
namespace Fi56
open PySem L2 Lv
section
variable {P:Program}{w:World}{K:Yae}{mg:Str->Option Value}{base:Heap}
theorem scLPh:FnScope ["p","n","greatest","counts","level"] ["p","n"] (Zac sLPh):=⟨rfl,rfl,rfl,by decide +kernel,rfl,by decide +kernel,by decide +kernel⟩
def ZjD:Sp:=fun vs H Q _=>∃ p n:Nat,vs=[.int p,.int n]/\2<=p/\p<=7/\n<=300/\∀ (l:Addr) (qs:List Addr) H',H l=none->H' l=some (.lst (qs.map V.ref))->(∀ q∈qs,q≠l)->TuM H' qs (phs p n n)->Same H H'->Q (.ref l) H'
theorem Zk8 {f f1 f2 f3 f4:Addr}{fd d1 d2 d3 d4:FuncData} (F:Fun K "level_phases" "level_phases" sLPh f fd) (T:Txt mg) (Te:mg "enumerate"=none) (CW:Cal P w K mg base 2 "check_ways" ["p"] Zfr f1 d1) (CV:CalD P w K mg base 2 "check_level" ["n","last"] [.int 300] ZdC f2 d2) (CA:Cal P w K mg base 1 "first_counts" ["p"] ZdE f3 d3) (CN:Cal P w K mg base 1 "next_counts" ["counts"] (Zfs K) f4 d4):FnOk P w K mg base CX0 3 f fd ["p","n"] ZjD:=by
 refine F.ok scLPh (fun vs H Q E h=>?_) (fun cdv A outer s H vs Q E hr2 h=>?_)
 ·obtain⟨p,n,rfl,_⟩:=h;rfl
 ·obtain⟨p,n,rfl,h2,h7,h3,k⟩:=h;have hr1:Room 1 _:=hr2.mono (by decide);refine⟨_,(Zai (ZaJ (Zat CW hr2 rfl (Zaa (pv 0) Zad)))
   (Zai (ZaJ (ZjS CV hr2 rfl (Zaa (pv 1) Zad)))
   (Zai (Zaj (i:=2) scLPh.nd rfl (YaP rfl) (Zav Zad))
   (Zai (Zaj (i:=3) scLPh.nd rfl (YaP rfl) (Zat CA hr1 rfl (Zaa (pv 0) Zad)))
   (Zai (Zbb Yba rfl (ZaR rfl T.range (Zaa (pv 1) Zad)) (Zah (i:=4) scLPh.nd rfl (YaP rfl))
   (Zai (ZaJ (Zb4 YaG Ya2 Ya1 ZaC (pv 2) (Zaa (Zaw Za4 (pv 3) Zaf (fun _ _=>rfl)) Zad)))
    (Zax (Zaj (i:=3) scLPh.nd rfl (YaP rfl) (Zat CN hr1 rfl (Zaa (pv 3) Zad))))))
   (Zax (Zay (ZaN (own:=["at","many"]) (js:=[0]) (CompOk.by (sc:=Zac sLPh) (N:=["p","n","greatest","counts","level"]) rfl rfl (by decide +kernel)) rfl (Zis rfl Te (Zaa (ZfB (pv 2) (Zbf (Zf8 Zdb Zaf))) Zad)) (Zb8 (i:=0) (k:=1) (K:=K)) (fun _ _ _ _ _=>(ZdN K rfl (ZaK (Zah (i:=0) (by show (["at","many","p"]:List Str).Nodup;decide +kernel) rfl (YaP rfl) (.inr rfl)) (ZaK (Zah (i:=1) (by show (["at","many","p"]:List Str).Nodup;decide +kernel) rfl (YaP rfl) (.inr rfl)) ZbP)))) (fun _ _ _ _ _=>ZaA) (fun _ _ _ _ _=>(Zb3 (Zaa (Zaq ZbL (Zaq ZcV (pv 2) (pv 0)) (Zaq Za1 (pv 2) Zaf)) (Zaa (pv 1) Zad)))))))))))),?_⟩
  have hzz:1000<sizeLine:=by decide
  refine⟨_,rfl,p,rfl,by (clear hzz h3 h7;omega),by (clear hzz h3 h2;omega),_,rfl,n,300,rfl,by (clear hzz h3 h7 h2;omega),by (clear hzz h7 h2;omega),YaO _,fun gl ngl=>?_⟩;have s0:Same H (upd H gl (.lst [])):=Same.new ngl;refine⟨_,rfl,p,rfl,h2,h7,fun l H1 hl0 hl1 s1=>?_⟩;refine⟨_,rfl,n,rfl,by (clear hzz h3 h7 h2;omega),by (clear hzz h7 h2;omega),Zbi (fun i σ Hx=>∃ (l:Addr) (o4:Option V),σ=[some (.int p),some (.int n),some (.ref gl),some (.ref l),o4]/\Hx gl=some (.lst (((Yap i).map fun t=>hd p t).map V.int))/\Hx l=some (.tup ((cnt p i).map V.int))/\Same H Hx)
   ⟨l,none,rfl,s1 _ _ Zab,hl1,s0.trans s1⟩ ?_ ?_⟩
  ·rintro i σ Hx hi ⟨l,o4,rfl,hgl,hl,sx⟩;have hlen:=ZbB (p:=p) (by (clear hi hzz h3 h7;omega)) i;refine⟨_,rfl,.inl ⟨rfl,_,SqL.of hgl⟩,_,rfl,l,_,0,.int (hd p i),rfl,rfl,SqT.of hl,?_,gl,_,_,rfl,rfl,hgl,by rw[Yac,Yac,Yb3];(clear hlen h7 h2;omega),?_⟩
   ·obtain⟨x,y,r,e,_⟩:=ZdZ h2 i;unfold hd;rw[e];exact ZaP (j:=0) rfl
   have hlg:l≠gl:=fun z=>by rw[z,hgl] at hl;cases hl
   have hl2:upd Hx gl (.lst (((Yap i).map fun t=>hd p t).map V.int++[.int (hd p i)])) l=some (.tup ((cnt p i).map V.int)):=by rw[upd_ne hlg];exact hl
   refine⟨_,rfl,l,cnt p i,rfl,SqT.of hl2,by (clear hlg hi hzz h3 h7;omega),by (clear hlg hi hzz h3 h2;omega),fun l3 H3 h30 h3' s3=>?_⟩;refine⟨l3,_,rfl,s3 _ _ ?_,h3',(sx.put ngl).trans s3⟩;rw[Zab,Ych,YaB,YaB];rfl
  ·rintro σ Hx ⟨l,o4,rfl,hgl,hl,sx⟩;rw[Ybh] at hgl;refine⟨_,rfl,1,rfl,_,rfl,rfl,gl,_,rfl,SqL.of hgl,fun q hq=>?_⟩;have hglq:Same Hx (upd Hx q (.lst ((((Yap n).map fun t=>hd p t).map V.int).reverse))):=Same.new hq;have hqq:upd Hx q (.lst ((((Yap n).map fun t=>hd p t).map V.int).reverse)) q=some (.lst ((((Yap n).map fun t=>hd p t).map V.int).reverse)):=Zab;generalize upd Hx q (.lst ((((Yap n).map fun t=>hd p t).map V.int).reverse))=H5 at hglq hqq ⊢;refine⟨q,true,rfl,⟨_,SqL.of hqq⟩,?_⟩;have hrl:((((Yap n).map fun t=>hd p t).map V.int).reverse).length=n:=by simp
   refine Zgf (b:=true) (xs:=(((Yap n).map fun t=>hd p t).map V.int).reverse) (fun acc i H2=>Same H5 H2/\∃ ps,H2 acc=some (.lst (ps.map V.ref))/\(∀ p∈ps,p≠acc)/\TuM H2 ps (phs p n i)) (fun acc h0=>⟨Same.new h0,[],Zab,(fun p hp=>nomatch hp),TuM.nil⟩) (fun acc i H2 h0 _ p=>SqL.of (p.1 _ _ hqq)) ?_ ?_
   ·rintro acc i x u H2 h0 hx ⟨s2,ps,hacc,hne,hpr⟩ hu;have hi:i<n:=by have:=(Yaa.mp hx).1;rwa [hrl] at this
    obtain rfl:x=.int (hd p (n - 1 - i)):=by
     rw[Yci (by simpa using hi)] at hx;simp only[Yac,Yb3] at hx;rw[Yaf,Yaf,YbB (by (clear hrl hzz h3 h7 h2;omega))] at hx;exact (Yay hx).symm
    have s3:Same H2 (upd H2 u (.tup [.int i,.int (hd p (n - 1 - i))])):=Same.new hu;have hu3:upd H2 u (.tup [.int i,.int (hd p (n - 1 - i))]) u=some (.tup [.int i,.int (hd p (n - 1 - i))]):=Zab;generalize upd H2 u (.tup [.int i,.int (hd p (n - 1 - i))])=H3 at s3 hu3 ⊢;have hpl:ps.length=i:=by rw[hpr.len,ZgR]
    refine⟨u,_,rfl,SqT.of hu3,rfl,_,_,rfl,_,_,rfl,rfl,?_⟩;refine⟨_,rfl,_,rfl,_,_,rfl,rfl,_,rfl,_,_,rfl,rfl,_,_,rfl,rfl,(by show (0:Int)<(p:Int)+1;(clear hpl hi hrl hzz h3 h7 h2;omega)),_,rfl,(by show 2<=sizeLine;decide),fun t ht=>?_⟩;have hacc3:=s3 _ _ hacc;have hta:t≠acc:=YaX (Zae hacc3 ht);have s45:Same H3 (upd H3 t (.tup [.int (((p:Int) - (i:Int)) % ((p:Int)+1)),.int (hd p (n - 1 - i))])):=Same.new ht;have ht5:upd H3 t (.tup [.int (((p:Int) - (i:Int)) % ((p:Int)+1)),.int (hd p (n - 1 - i))]) t=some (.tup (([phO p i,hd p (n - 1 - i)]:List Int).map V.int)):=Zab;generalize upd H3 t (.tup [.int (((p:Int) - (i:Int)) % ((p:Int)+1)),.int (hd p (n - 1 - i))])=H6 at s45 ht5 ⊢;refine⟨_,s45 _ _ hacc3,by rw[Yac];(clear hta hrl h7 h2;omega),by rw[hrl];exact hi,(s2.trans (s3.trans s45)).put h0,ps++[t],by rw[Zab,YaB];rfl,fun p hp=>?_,?_⟩
    ·rcases Yao.mp hp with hp | hp
     ·exact hne p hp
     ·rw[YaH.mp hp];exact hta
    ·have:=(hpr.same (s3.trans s45)).snoc ht5 (by simp);refine this.keep fun p hp=>upd_ne ?_;rcases Yao.mp hp with hp | hp
     ·exact hne p hp
     ·rw[YaH.mp hp];exact hta
   ·rintro acc H2 h0 ⟨s2,ps,hacc,hne,hpr⟩;rw[hrl] at hpr;exact k acc ps H2 ((sx.trans hglq).free h0) hacc hne hpr (sx.trans (hglq.trans s2))
end
end Fi56
namespace Fi56
open PySem L2 Lv
section
variable {P:Program}{w:World}{K:Yae}{mg:Str->Option Value}{base:Heap}
theorem scPlayT:FnScope ["p","reels","level","behind","read","merged","phase","of_each","left"] ["p","reels"] (Zac ZbK):=⟨rfl,rfl,rfl,by decide +kernel,rfl,by decide +kernel,by decide +kernel⟩
theorem ZiD {f f1 f2 f3 f4 f5:Addr}{fd d1 d2 d3 d4 d5:FuncData} (F:Fun K "turned_play" "turned_play" ZbK f fd) (T:Txt mg) (CC:Cal P w K mg base 2 "check_ways" ["p"] Zfr f1 d1) (CL:Cal P w K mg base 2 "level_with" ["p","counts"] (spLW K) f2 d2) (CO:Cal P w K mg base 1 "copied_turned" ["row"] ZgA f3 d3) (CP:Cal P w K mg base 3 "level_phases" ["p","n"] ZjD f4 d4) (CH:Cal P w K mg base 3 "turned_phase" ["reels","phase","merged"] ZjC f5 d5):FnOk P w K mg base CX0 4 f fd ["p","reels"] (ZeV K):=by
 refine okW F scPlayT (fun vs H Q E h=>?_) (fun cdv A outer s H vs Q E hr h=>?_)
 ·obtain⟨b,p,n,l,as,Vs,D,d,rr,rfl,_⟩:=h;rfl
 ·obtain⟨b,p,n,l,as,Vs,D,d,rr,rfl,h1,h2,h300,h4000,hq,hRL,hTV,hD,htot,hok,hend,k⟩:=h;have hr1:Room 1 _:=hr.mono (by decide);have hr2:Room 2 _:=hr.mono (by decide);have hr3:Room 3 _:=hr.mono (by decide);refine⟨_,(Zag (ws (ZaJ (Zat CC hr2 rfl (Zaa (pv 0) Zad))))
   (Zag (ws (Zaj (i:=2) scPlayT.nd rfl (YaP rfl) (Zat CL hr2 rfl (Zaa (pv 0) (Zaa (ZaB Za0 rfl T.tuple ZbT (Zaa (ZaN (own:=["reel"]) (js:=[]) (CompOk.by (sc:=Zac ZbK) (N:=["p","reels","level","behind","read","merged","phase","of_each","left"]) rfl rfl (by decide +kernel)) rfl (ZaQ (pv 1)) Zao (fun _ _ _ _ _=>(Zah (i:=0) (by show (["reel"]:List Str).Nodup;decide +kernel) rfl (YaP rfl) (.inr rfl))) (fun _ _ _ _ _=>ZaA) (fun _ _ _ _ _=>(Zal (Zcf K) rfl T.len YbM (Zaa (pv 0) Zad)))) Zad)) Zad)))))
   (Zag (ws (Zaj (i:=3) scPlayT.nd rfl (YaP rfl) (Zaq Zcw (ZaN (own:=["reel"]) (js:=[]) (CompOk.by (sc:=Zac ZbK) (N:=["p","reels","level","behind","read","merged","phase","of_each","left"]) rfl rfl (by decide +kernel)) rfl (ZaQ (pv 1)) Zao (fun _ _ _ _ _=>(Zah (i:=0) (by show (["reel"]:List Str).Nodup;decide +kernel) rfl (YaP rfl) (.inr rfl))) (fun _ _ _ _ _=>ZaA) (fun _ _ _ _ _=>(ZaN (own:=["row"]) (js:=[]) (CompOk.bare (by decide +kernel)) rfl (ZcE K (pv 0)) Zao (fun _ _ _ _ _=>(Zah (i:=0) (by show (["row"]:List Str).Nodup;decide +kernel) rfl (YaP rfl) (.inr rfl))) (fun _ _ _ _ _=>ZaA) (fun _ _ _ _ _=>(Zat CO hr1 rfl (Zaa (pv 0) Zad)))))) (Zav (Zaa (Zav Zad) Zad)))))
   (Zag (ws (Zaj (i:=4) scPlayT.nd rfl (YaP rfl) (Zaq Zek (Zav (Zaa Zaf Zad)) (Zaq Za1 (pv 0) Zaf))))
   (Zag (ws (Zaj (i:=5) scPlayT.nd rfl (YaP rfl) Zaf))
   (Zag (ws (Zbb Yba rfl (Zbg (Zat CP hr3 rfl (Zaa (pv 0) (Zaa (pv 2) Zad)))) (Zah (i:=6) scPlayT.nd rfl (YaP rfl))
   (WSs.out (Zag (ws (Zcv (Zat CH hr3 rfl (Zaa (pv 3) (Zaa (pv 6) (Zaa (pv 5) Zad)))) (ZfA rfl (ZaK (Zah (i:=3) scPlayT.nd rfl (YaP rfl)) (ZaK (Zah (i:=7) scPlayT.nd rfl (YaP rfl)) ZbP)))))
    (Zag (ws (Zcl (i:=4) scPlayT.nd rfl rfl (own:=["ahead","more"]) (js:=[]) (CompOk.by (sc:=Zac ZbK) (N:=["p","reels","level","behind","read","merged","phase","of_each","left"]) rfl rfl (by decide +kernel)) rfl (ZjQ rfl T.zip (Zaa (pv 4) (Zaa (pv 7) Zad))) (Zb8 (i:=0) (k:=1) (K:=K)) (fun _ _ _ _ _=>(ZdN K rfl (ZaK (Zah (i:=0) (by show (["ahead","more"]:List Str).Nodup;decide +kernel) rfl (YaP rfl) (.inr rfl)) (ZaK (Zah (i:=1) (by show (["ahead","more"]:List Str).Nodup;decide +kernel) rfl (YaP rfl) (.inr rfl)) ZbP)))) (fun _ _ _ _ _=>ZaA) (fun _ _ _ _ _=>(Zaq Za1 (pv 0) (pv 1)))))
    (Zan (ws (Zjd (i:=5) scPlayT.nd rfl (YaP rfl) (Zaw Za4 (pv 6) Zaf (fun _ _=>rfl)) Zjk))))))))
   (Zag (ws (Zip (i:=8) scPlayT.nd rfl rfl (own:=["reel","row"]) (js:=[]) (fr:=[1]) (CompOk.by (sc:=Zac ZbK) (N:=["p","reels","level","behind","read","merged","phase","of_each","left"]) rfl rfl (by decide +kernel)) rfl (ZaQ (pv 3)) (Zc3 (i:=0)) (Zc2 (i:=1)) (fun _ _ _ _ _=>(Zah (i:=0) (by show (["reel","row"]:List Str).Nodup;decide +kernel) rfl (YaP rfl) (.inr rfl))) (fun _ _ _ _ _=>ZaA) (fun _ _ _ _ _=>(ZcE K (pv 0))) (fun _ _ _ _ _=>(Zah (i:=1) (by show (["reel","row"]:List Str).Nodup;decide +kernel) rfl (YaP rfl) (.inr rfl))) (fun _ _ _ _ _=>ZaA) (fun _ _ _ _ _=>(pv 1))))
   (Zan (ws (Zay (Zb3 (Zaa (Zaw Zar (pv 8) Zaf (fun _ _=>rfl)) (Zaa (pv 4) Zad))))))))))))),?_⟩
  have hal:as.length=Vs.length:=hRL.1;have hvl:Vs.length=D.length:=hTV.1;have hpl:D.length=p:=by
   have:=congrArg Ybf hD;rw[Yac,ZbB (by (clear this hvl hal htot h4000 h300 h2;omega))] at this;exact this
  have getV:∀ {j:Nat}{r:Addr},as[j]?=some r->∃ vs ds,Vs[j]?=some vs/\D[j]?=some ds/\H r=some (if b then .lst vs else .tup vs)/\TVs (fun _=>none) H vs ds/\vs.length<=4000/\(cnt p n)[j]?=some (vs.length:Int):=fun {j r} e=>by
   obtain⟨vs,e1,e2⟩:=hRL.at e;obtain⟨ds,e3,e4⟩:=hTV.at e1;have e5:(cnt p n)[j]?=some (vs.length:Int):=by
    rw[<- hD,Yaf,e3,e4.1];rfl
   have e6:((vs.length:Nat):Int)<=tot p n:=by
    have h0:=(ZbG p n).2
    exact ZfK h0 (Yah e5)
   exact⟨vs,ds,e1,e3,e2,e4,by (clear hpl hvl hal htot h300 h2 h1;omega),e5⟩
  refine⟨_,rfl,p,rfl,by (clear hpl hvl hal htot h4000 h300 h2;omega),by (clear hpl hvl hal htot h4000 h300 h1;omega),?_⟩;refine⟨_,rfl,_,rfl,l,b,rfl,⟨_,hq⟩,?_⟩;refine ZbA (b:=b) ((cnt p n).map V.int) hq (by rw[Yac,Yac,ZbB (by (clear hpl hvl hal htot h4000 h300 h2;omega))];(clear htot h4000 h300 h2 h1;omega)) (by rw[Yac];(clear htot h4000 h300 h1;omega)) (fun i x y hx hy H1 s1 R hR=>?_) fun acc H1 h01 s1 hacc=>?_
  ·obtain⟨r,hr',rfl⟩:=Zau hx;obtain⟨vs,ds,_,_,hrv,_,_,ec⟩:=getV hr';rw[Yaf,ec] at hy;cases hy;refine⟨_,rfl,r,vs,rfl,?_,hR H1 (Same.refl _)⟩;have:=s1 _ _ hrv
   cases b with
   | true=>exact .inl (SqL.of this)
   | false=>exact .inr (SqT.of this)
  refine⟨acc,_,rfl,.inl ⟨SqL.of hacc,fun ct nct=>?_⟩⟩;have s2:=s1.trans (Same.new (o:=.tup ((cnt p n).map V.int)) nct);refine⟨p,n,ct,rfl,h1,h2,SqT.of Zab,fun H2 s3=>?_⟩;have s03:=s2.trans s3;clear hacc;refine⟨_,rfl,l,b,rfl,⟨_,Lv.Same.sqB s03 hq⟩,?_⟩;refine Zfh (b:=b) (K:=K) (a:=l) (xs:=as.map V.ref) (fun j=>D.getD j []) (Lv.Same.sqB s03 hq) (by rw[Yac];(clear htot h4000 h300 h1;omega)) (fun i x hx H3 s4 R hR=>?_) fun bh bs Ws H3 hbh0 hbh hbl hRb hbn hTb s4=>?_
  ·obtain⟨r,hr',rfl⟩:=Zau hx;obtain⟨vs,ds,_,hds,hrv,htv,h40,_⟩:=getV hr';have hrv3:=s4 _ _ (s03 _ _ hrv);have hqr:SqB b K H3 r vs:=by
    cases b with
    | true=>exact SqL.of hrv3
    | false=>exact SqT.of hrv3
   refine⟨_,rfl,r,b,rfl,⟨_,hqr⟩,?_⟩;refine ZiY (b:=b) (K:=K) (a:=r) (xs:=vs) (fun j=>ds.getD j none) hqr (by (clear hpl hvl hal htot h4000 h300 h2 h1;omega)) (fun j y hy H4 s5 R2 hR2=>?_) fun a2 ys H4 ha0 ha2 hty s5=>?_
   ·obtain⟨d2,hd2,hv2⟩:=htv.at hy;refine⟨_,rfl,y,d2,rfl,((hv2.same s03).same s4).same s5,fun v' H5 hv' s6=>hR2 v' H5 ?_ s6⟩;rw[Yad,hd2];exact hv'
   ·have e1:(Yap vs.length).map (fun j=>ds.getD j none)=ds:=by
     rw[htv.1];exact Zbr ds none
    rw[e1] at hty;refine hR a2 ys H4 ha0 ha2 ?_ s5;rw[Yad,hds];exact hty.base fun t ht=>ZaE ht
  rw[Yac] at hbl;have e1:(Yap (as.map V.ref).length).map (fun j=>D.getD j [])=D:=by
   rw[Yac,hal,hvl];exact Zbr D []
  rw[e1] at hTb;refine⟨YaO _,fun e0 ne0=>⟨(by show 1<=sizeLine;decide),fun e2 ne2=>?_⟩⟩;have s5:Same H3 (upd H3 e0 (.lst [])):=Same.new ne0;have s6:Same (upd H3 e0 (.lst [])) (upd (upd H3 e0 (.lst [])) e2 (.lst [.ref e0])):=Same.new ne2;have he0:=s6 _ _ (Zab (H:=H3) (a:=e0) (o:=.lst []));have he2:upd (upd H3 e0 (.lst [])) e2 (.lst [.ref e0]) e2=some (.lst [.ref e0]):=Zab;have s46:=(s4.trans s5).trans s6;have hbh5:=s6 _ _ (s5 _ _ hbh);have s36:=s5.trans s6;generalize upd (upd H3 e0 (.lst [])) e2 (.lst [.ref e0])=H4 at s6 he0 he2 s46 hbh5 s36 ⊢;refine⟨bh,e2,_,_,rfl,rfl,hbh5,he2,Ybi (Zas (by rw[Yac];show bs.length+1<=1000;(clear htot h4000 h300 h1;omega))),fun bl nbl=>?_⟩;have s7:Same H4 (upd H4 bl (.lst (bs.map V.ref++[.ref e0]))):=Same.new nbl;have hbl5:upd H4 bl (.lst (bs.map V.ref++[.ref e0])) bl=some (.lst ((bs++[e0]).map V.ref)):=by rw[Zab];simp
  have hR5:RL (upd H4 bl (.lst (bs.map V.ref++[.ref e0]))) (bs++[e0]) (Ws++[[]]):=RL.snoc ((hRb.same s36).same s7) (s7 _ _ he0);have hT5:TVD H (upd H4 bl (.lst (bs.map V.ref++[.ref e0]))) (Ws++[[]]) (D++[[]]):=TVD.snoc (((hTb.same s36).same s7).base fun t ht=>s03.free (ZaE ht)) (TVs.nil _ _);have s05:=(s03.trans s46).trans s7;generalize upd H4 bl (.lst (bs.map V.ref++[.ref e0]))=H5 at s7 hbl5 hR5 hT5 s05 ⊢;refine⟨(by show 1<=sizeLine;decide),fun z0 nz0=>⟨_,rfl,_,_,rfl,rfl,z0,(p:Int)+1,_,rfl,rfl,Zab,by (clear hbl hpl hvl hal htot h4000 h300 h2 h1;omega),by (clear hbl hpl hvl hal htot h4000 h300 h1;omega),Ybi (Zas (by show 1*((p:Int)+1).toNat<=1000;(clear hbl hpl hvl hal htot h4000 h300 h1;omega))),fun rd nrd=>?_⟩⟩;have s8:Same H5 (upd H5 z0 (.lst [.int 0])):=Same.new nz0;have ez:(Yal ((p:Int)+1).toNat [V.int 0]).flatten=(Yal (p+1) (0:Int)).map V.int:=by
   rw[show ((p:Int)+1).toNat=p+1 by (clear hbl hpl hvl hal htot h4000 h300 h2 h1;omega),YbI,Ydu]
  have s9':=Same.new (o:=.lst (Yal ((p:Int)+1).toNat [V.int 0]).flatten) nrd;have s9:=s8.trans s9';have hrd6:upd (upd H5 z0 (.lst [.int 0])) rd (.lst (Yal ((p:Int)+1).toNat [V.int 0]).flatten) rd=some (.lst ((Yal (p+1) (0:Int)).map V.int)):=by rw[Zab,ez]
  have nrd0:H rd=none:=s05.free (s8.free nrd);generalize upd (upd H5 z0 (.lst [.int 0])) rd (.lst (Yal ((p:Int)+1).toNat [V.int 0]).flatten)=H6 at s9' s9 hrd6 ⊢;have s06:=s05.trans s9;refine⟨_,rfl,_,rfl,p,n,rfl,h1,h2,h300,fun ll qs H7 hll0 hll hqs hPh s10=>⟨ll,rfl,⟨_,SqL.of hll⟩,?_⟩⟩;have hphl:qs.length=(phL p 0 n).length:=by rw[hPh.len,ZgS,Yac]
  have hsz0:SzT (D++[[]]):=⟨by rw[Yai,YbP];(clear hphl hbl hvl hal htot h4000 h300 h1;omega),fun r hr'=>by
   rcases Yao.mp hr' with hr' | hr'
   ·obtain⟨j,hj⟩:=YaK hr';have hjl:=(Yaa.mp hj).1
    obtain⟨vs,ds,_,e3,_,e4,e5,_⟩:=getV (j:=j) (Yab (show j<as.length by (clear hphl hbl hpl htot h4000 h300 h2 h1;omega)));rw[hj] at e3;cases e3;have:=e4.1
    (clear hphl hbl hpl htot h4000 h300 h2 h1;omega)
   ·rw[YaH.mp hr'];simp,by
   have e:totT lenT (D++[[]])=totT lenT D:=by unfold totT;simp
   rw[e];exact htot⟩
  have hps:∀ q∈phL p 0 n,q.2<=15000:=fun q hq'=>by have:=ZcT h1 n 0 q hq';(clear hphl hbl hpl hvl hal htot h300 h2 h1;omega)
  refine Za6 (xs:=qs.map V.ref) (fun i σ Hx=>∃ (bl:Addr) (bs:List Addr) (Ws:List (List V)) (rd:Addr) (g:Int) (o6 o7:Option V),σ=[some (.int p),some (.ref l),some (.int n),some (.ref bl),some (.ref rd),some (.int g),o6,o7,none]/\Hx bl=some (.lst (bs.map V.ref))/\RL Hx bs Ws/\TVD (upd H rd (.lst [])) Hx Ws (plT (D++[[]]) ((phL p 0 n).take i))/\Hx rd=some (.lst ((rdTP (D++[[]]) (Yal (p+1) 0) ((phL p 0 n).take i)).map V.int))/\H rd=none/\Same H7 Hx)
   ⟨bl,bs++[e0],Ws++[[]],rd,0,none,none,rfl,s10 _ _ (s9 _ _ hbl5),(hR5.same s9).same s10,(((hT5.same s8).oldD (o:=.lst []) nrd).same s9').same s10,s10 _ _ hrd6,nrd0,Same.refl _⟩ (fun i σ Hx _ z=>by obtain⟨_,_,_,_,_,_,_,_,_,_,_,_,_,sz⟩:=z;exact SqL.of (sz _ _ hll)) ?_ ?_
  ·rintro i x σ Hx hx ⟨bl,bs,Ws,rd,g,o6,o7,rfl,hbl,hRx,hTx,hrd,hrd0,sx⟩;obtain⟨q,hq',rfl⟩:=Zau hx;have hi:i<qs.length:=(Yaa.mp hq').1
   obtain⟨o,m,hom⟩:∃ o m,(phL p 0 n)[i]?=some (o,m):=⟨_,_,Yab (by (clear hpl hvl hal htot h4000 h300 h2 h1;omega))⟩
   have hqt:Hx q=some (.tup [.int o,.int m]):=by
    obtain⟨kk,hk1,hk2⟩:=hPh.at hq';rw[ZgS,Yaf,hom] at hk1;cases hk1;exact sx _ _ hk2
   obtain⟨g1,g2,g3,g4⟩:=hok.at hom;have gsz:=hok.sz hsz0 hps i;have gm:=hps _ (Yah hom);have etk:(phL p 0 n).take (i+1)=(phL p 0 n).take i++[(o,m)]:=by rw[Ya9,hom];rfl
   obtain⟨o',rfl⟩:=Yev g1;obtain⟨m',rfl⟩:=Yev g2;rw[Ybh] at g3 g4;rw[etk];rw[ZdL,ZcM];rw[Ybh,Ybh];have hrl:(rdTP (D++[[]]) (Yal (p+1) 0) ((phL p 0 n).take i)).length=p+1:=by
    rw[ZcD _ _ _ (by simp[hpl])];simp[hpl]
   have hdl:(plT (D++[[]]) ((phL p 0 n).take i)).length=p+1:=by
    rw[ZdM];simp[hpl]
   generalize plT (D++[[]]) ((phL p 0 n).take i)=Di at hTx g3 g4 gsz hdl ⊢;generalize rdTP (D++[[]]) (Yal (p+1) 0) ((phL p 0 n).take i)=ri at hrd hrl ⊢;have s0x:Same H Hx:=(s06.trans s10).trans sx;refine⟨_,rfl,_,rfl,_,rfl,upd H rd (.lst []),bl,q,bs,Ws,Di,o',m',g,rfl,hbl,hRx,hTx,(fun a ha=>by rw[upd_ne fun z=>by rw[z,hrd] at ha;cases ha];exact s0x.free ha),hqt,g3,by have:(m':Int)<=15000:=gm;(clear this hrl hdl g2 g1 hi hphl hpl hvl hal htot h4000 h300 h2 h1;omega),gsz,g4,fun t b5 e5 bs5 Ws5 H8 ht hb5 hR8 hT8 he5 hb50 he50 s8=>?_⟩;refine⟨t,_,rfl,SqT.of ht,rfl,_,_,rfl,_,_,rfl,rfl,?_⟩;have hrd8:=s8 _ _ hrd;refine⟨_,rfl,_,rfl,true,true,rd,e5,rfl,⟨_,SqL.of hrd8⟩,⟨_,SqL.of he5⟩,?_⟩;refine ZhI (b1:=true) (b2:=true) ((YcO (·+·) ri (rdT Di m')).map V.int) (show SqB true K H8 rd _ from SqL.of hrd8) (show SqB true K H8 e5 _ from SqL.of he5) (by simp[rdT];(clear gm g2 g1 hi hphl hpl hvl hal htot h4000 h300 h2 h1;omega)) (by simp[rdT];(clear gm g2 g1 hi hphl hpl hvl hal htot h4000 h300 h2 h1;omega)) (by simp[rdT];(clear hrl gm g2 g1 hi hphl hpl hvl hal htot h4000 h300 h1;omega)) (fun j x y z hx hy hz pz H9 s9 hpz R hR=>?_) fun acc H9 h09 s9 hacc=>?_
   ·obtain⟨x',hx',rfl⟩:=Zbt hx;obtain⟨y',hy',rfl⟩:=Zbt hy;have ez:z=.int (x'+y'):=by
     rw[Yaf,List.getElem?_zipWith,hx',hy'] at hz;exact (Yay hz).symm
    subst ez;exact⟨pz,_,rfl,SqT.of hpz,rfl,_,_,rfl,_,_,rfl,rfl,_,rfl,_,rfl,_,_,rfl,rfl,hR H9 (Same.refl _)⟩
   have s89:=s8.trans s9;have hq9:=s89 _ _ hqt;refine⟨_,rfl,_,rfl,q,_,1,.int m',rfl,rfl,SqT.of hq9,rfl,_,_,rfl,rfl,?_⟩;exact⟨b5,bs5,Ws5,acc,_,_,_,rfl,s9 _ _ hb5,hR8.same s9,((hT8.oldD (o:=.lst []) h09).base fun t ht=>by rw[upd_ne fun z=>Zbd (by rw[z] at ht;exact ht)];exact ZaE (ZaE ht)).same s9,hacc,(s0x.trans s8).free h09,sx.trans s89⟩
  ·rintro σ Hx ⟨bl,bs,Ws,rd,g,o6,o7,rfl,hbl,hRx,hTx,hrd,hrd0,sx⟩;have etk:(phL p 0 n).take (qs.map V.ref).length=phL p 0 n:=by rw[Yac,hphl,YaT]
   rw[etk] at hTx hrd;have s0x:Same H Hx:=(s06.trans s10).trans sx;have hbsl:bs.length=p+1:=by
    rw[hRx.1,hTx.1,ZdM];simp[hpl]
   have hszx:=hok.sz hsz0 hps (phL p 0 n).length;rw[YaT] at hszx;have wl:∀ {j:Nat}{ws:List V},Ws[j]?=some ws->ws.length<=15000:=fun {j ws} e=>by
    obtain⟨ds,e1,e2⟩:=hTx.at e;have:=hszx.2.1 ds (Yah e1);rw[e2.1];exact this
   refine⟨_,rfl,bl,true,rfl,⟨_,SqL.of hbl⟩,?_⟩;refine Zdq (b:=true) (K:=K) (a:=bl) (xs:=bs.map V.ref) (fun acc i H2=>Same Hx H2/\H2 acc=some (.lst (Ws.take i).flatten)) (fun acc h0=>⟨Same.new h0,Zab⟩) (fun acc i H2 h0 _ z=>SqL.of (z.1 _ _ hbl)) ?_ ?_
   ·rintro acc i x H2 h0 hx ⟨s2,hacc⟩;obtain⟨r,hr',rfl⟩:=Zau hx;have hi:=(Yaa.mp hr').1
    obtain⟨ws,hw,hrw⟩:=hRx.at hr';have hfl:=Zdo (Ybi hi |> fun z=>by rw[hRx.1] at z;exact z) fun j ws e=>wl (j:=j) e;refine⟨_,rfl,r,true,rfl,⟨_,SqL.of (s2 _ _ hrw)⟩,?_⟩;refine Zhr (b:=true) (K:=K) (a:=r) (xs:=ws) (fun j H3=>Same Hx H3/\H3 acc=some (.lst ((Ws.take i).flatten++ws.take j))) ⟨s2,by simpa using hacc⟩ (fun j H3 _ z=>SqL.of (z.1 _ _ hrw)) ?_ ?_
    ·rintro j y H3 hy ⟨s3,hac3⟩;have hj:=(Yaa.mp hy).1
     have:=wl hw;refine⟨_,rfl,_,hac3,?_,hj,s3.put h0,?_⟩
     ·rw[Yai,Yaz,sizeLine_eq]
      (clear hj hphl hpl hvl hal htot h4000 h300 h1;omega)
     ·rw[Zab,Ya9,hy];simp
    ·rintro H3 ⟨s3,hac3⟩;rw[YaT] at hac3;refine⟨by rw[Yac];exact hi,s3,?_⟩;rw[hac3,Ya9,hw];simp
   ·rintro acc H2 h0 ⟨s2,hacc⟩;have e3:Ws.take (bs.map V.ref).length=Ws:=by rw[Yac,hRx.1,YaT]
    rw[e3] at hacc;have hfl:=hTx.flat;rw[hend] at hfl
    cases eW:Ws.flatten with
    | nil=>rw[eW] at hfl;exact absurd hfl.1 (by simp)
    | cons v vr=>
     rw[eW] at hfl hacc;refine⟨_,rfl,acc,_,0,v,rfl,rfl,SqL.of hacc,ZaP (j:=0) rfl,_,rfl,(by show 2<=sizeLine;decide),fun t nt=>?_⟩;have s3:Same H2 (upd H2 t (.tup [v,.ref rd])):=Same.new nt;exact k t rd v _ Zab ((hfl.uncons.1.same s2).same s3) (s3 _ _ (s2 _ _ hrd)) hrd0 ((s0x.trans s2).trans s3)
end
end Fi56
namespace Fi56
open PySem L2 Lv
section
variable {P:Program}{w:World}{K:Yae}{mg:Str->Option Value}{base:Heap}
theorem scLaw:FnScope ["script","k","pot","p","n","reels","due","kept","turn","found"] ["script"] (Zac sLaw):=⟨rfl,rfl,rfl,by decide +kernel,rfl,by decide +kernel,by decide +kernel⟩
theorem ZiF {f f1 f2 f3 f4 f5 f6 f7:Addr}{fd d1 d2 d3 d4 d5 d6 d7:FuncData} (F:Fun K "law" "law" sLaw f fd) (T:Txt mg) (Ts:mg "str"=none) (CP:Cal P w K mg base 1 "_law_pot" ["script","k"] (Zgx K) f1 d1) (CT:Cal P w K mg base 1 "_law_take" ["pot","many"] ZcJ f2 d2) (CV:Cal P w K mg base 2 "_law_level" ["pot","p","most"] Zgz f3 d3) (CR:Cal P w K mg base 3 "_law_reels" ["pot","p","n"] ZcK f4 d4) (CY:Cal P w K mg base 2 "_law_play" ["p","n","reels"] ZdA f5 d5) (CG:Cal P w K mg base 4 "turned_play" ["p","reels"] (ZeV K) f6 d6) (CF:Cal P w K mg base 1 "_law_formed" ["told","p"] ZdD f7 d7):FnOk P w K mg base CX0 5 f fd ["script"] (Zid K):=by
 refine okW F scLaw (fun vs H Q E h=>?_) (fun cdv A outer s H vs Q E hr h=>?_)
 ·obtain⟨a,cs,rfl,_⟩:=h;rfl
 ·obtain⟨a,cs,rfl,hS,hlen,k⟩:=h;have hr1:Room 1 _:=hr.mono (by decide);have hr2:Room 2 _:=hr.mono (by decide);have hr3:Room 3 _:=hr.mono (by decide);have hr4:Room 4 _:=hr.mono (by decide);have hu1:(A.deeper (YcL "law" (Zac sLaw) s.heap.objs.size f cdv)).units+12<cLine:=by have:=hr.un;(clear hlen;omega)
  have hu:(A.deeper (YcL "law" (Zac sLaw) s.heap.objs.size f cdv)).units+20<cLine:=by have:=hr.un;(clear hu1 hlen;omega)
  refine⟨_,(Zag (ws (Zbb Yba rfl (ZaR rfl T.range (Zaa (Zal (Zc6 rfl) rfl T.max Zkp (Zaa Zaf (Zaa (Zal (ZhS rfl) rfl T.min ZlX (Zaa Zaf (Zaa (Zal ZaH rfl T.len YbM (Zaa (pv 0) Zad)) Zad))) Zad))) Zad)) (Zah (i:=1) scLaw.nd rfl (YaP rfl))
   (WSs.out (Zag (ws (Zaj (i:=2) scLaw.nd rfl (YaP rfl) (Zat CP hr1 rfl (Zaa (pv 0) (Zaa (pv 1) Zad)))))
    (Zag (ws (Zaj (i:=3) scLaw.nd rfl (YaP rfl) (Zaq Za1 Zaf (Zat CT hr1 rfl (Zaa (pv 2) (Zaa Zaf Zad))))))
    (Zag (ws (Zaj (i:=4) scLaw.nd rfl (YaP rfl) (Zat CV hr2 rfl (Zaa (pv 2) (Zaa (pv 3) (Zaa (Zaw Zar (Zav (Zaa Zaf (Zaa Zaf Zad))) (ZaB ZhT rfl T.int Zlv (Zaa (Zcp Zg4 (pv 1) Zaf (ZaS _)) Zad)) (fun _ _=>rfl)) Zad))))))
    (Zag (ws (Zaj (i:=5) scLaw.nd rfl (YaP rfl) (Zat CR hr3 rfl (Zaa (pv 2) (Zaa (pv 3) (Zaa (pv 4) Zad))))))
    (Zag (ws (Zaj (i:=6) scLaw.nd rfl (YaP rfl) (Zat CY hr2 rfl (Zaa (pv 3) (Zaa (pv 4) (Zaa (pv 5) Zad))))))
    (Zag (ws (Zaj (i:=7) scLaw.nd rfl (YaP rfl) (ZaB (ZeE hr.gd hu) rfl Ts Zlu (Zaa (pv 5) Zad))))
    (Zan (ws (Zbb Yba rfl (ZaR rfl T.range (Zaa Zaf Zad)) (Zah (i:=8) scLaw.nd rfl (YaP rfl))
    (WSs.out (Zag (ws (Zaj (i:=9) scLaw.nd rfl (YaP rfl) (Zat CG hr4 rfl (Zaa (pv 3) (Zaa (Zaw Zar (Zav (Zaa (pv 5) (Zaa (ZaB Za0 rfl T.tuple ZbT (Zaa (ZaN (own:=["reel"]) (js:=[]) (CompOk.by (sc:=Zac sLaw) (N:=["script","k","pot","p","n","reels","due","kept","turn","found"]) rfl rfl (by decide +kernel)) rfl (ZaQ (pv 5)) Zao (fun _ _ _ _ _=>(Zah (i:=0) (by show (["reel"]:List Str).Nodup;decide +kernel) rfl (YaP rfl) (.inr rfl))) (fun _ _ _ _ _=>ZaA) (fun _ _ _ _ _=>(ZaB (ZeF K) rfl T.tuple ZbT (Zaa (pv 0) Zad)))) Zad)) Zad))) (pv 8) (fun _ _=>rfl)) Zad)))))
     (Zag (Zch (PW.pt (Ze3 (Zb2 (Zcu (Zat CF hr1 rfl (Zaa (pv 9) (Zaa (pv 3) Zad))))) (Ze3 (ZaM (Zk2 hu1) (pv 9) (pv 6) (ZaS _)) (Zfv (ZaM Ziw (ZaB (ZeE hr.gd hu) rfl Ts Zlu (Zaa (pv 5) Zad)) (pv 7) (ZaS _))))))
     (wss Zby)
     Za8)
     (Zag (Zch (ZcO (ZcU (Zaw Za4 (pv 9) Zaf (fun _ _=>rfl))))
     (Zan (ws (ZaJ (Zb4 YaG Ya2 Ya1 ZaC (Zaw Za4 (Zaw Za4 (pv 9) Zaf (fun _ _=>rfl)) Zaf (fun _ _=>rfl)) (Zaa Zaf Zad)))))
     Za8)
     (Zan (ws (ZaJ (Zej YaG PySem.F.slot_list_clear PySem.F.type_list_clear ZiJ (Zaw Za4 (pv 9) Zaf (fun _ _=>rfl))))))))))))))))))))))
   (Zan (ws (Zay Ze6)))),?_⟩
  refine⟨_,rfl,a,_,rfl,.inl hS,_,_,rfl,_,_,rfl,_,rfl,?_,?_,?_⟩
  ·rw[Yac];split <;> split <;> (clear hu hu1 hlen;omega)
  ·rw[Yac];split <;> split <;> (clear hu hu1 hlen;omega)
  have em:((if (if ((cs.map V.int).length:Int)<10 then ((cs.map V.int).length:Int) else 10) > 2 then (if ((cs.map V.int).length:Int)<10 then ((cs.map V.int).length:Int) else 10) else 2)).toNat<=10:=by
   rw[Yac];split <;> split <;> (clear hu hu1 hlen;omega)
  generalize (if (if ((cs.map V.int).length:Int)<10 then ((cs.map V.int).length:Int) else 10) > 2 then (if ((cs.map V.int).length:Int)<10 then ((cs.map V.int).length:Int) else 10) else 2).toNat=NN at em ⊢;refine Zbi (fun i σ H2=>∃ o1 o2 o3 o4 o5 o6 o7 o8 o9:Option V,σ=[some (.ref a),o1,o2,o3,o4,o5,o6,o7,o8,o9]/\Same H H2) ⟨none,none,none,none,none,none,none,none,none,rfl,Same.refl _⟩ ?_ ?_
  ·rintro i σ H2 hi ⟨o1,o2,o3,o4,o5,o6,o7,o8,o9,rfl,s2⟩;refine⟨_,rfl,_,rfl,a,cs,_,rfl,s2.seq hS,by (clear hi em hu hu1 hlen;omega),by (clear hu hu1 hlen;omega),fun pl H3 hpl hp3 s3=>?_⟩;have hpl0:H pl=none:=s2.free hpl;have s03:=s2.trans s3;refine⟨_,rfl,pl,6,rfl,hp3,by decide,by decide,fun dp H4 e0 e1 hp4 sm4=>⟨2,dp,rfl,rfl,?_⟩⟩;have s04:=Sm.after s03 sm4 hpl0;obtain⟨p,hp,p2,p7⟩:∃ p:Nat,2+dp=(p:Int)/\2<=p/\p<=7:=⟨(2+dp).toNat,by (clear e1 hi em hu hu1 hlen;omega),by (clear e1 hi em hu hu1 hlen;omega),by (clear e0 hi em hu hu1 hlen;omega)⟩
   dsimp only;rw[hp];refine⟨_,rfl,_,rfl,(by show 2<=sizeLine;decide),fun l5 e5=>?_⟩;obtain⟨x,hx,x0,x1⟩:∃ x:Int,atI [V.int 60,.int 640] (if decide (V.int (0+(i:Int))=V.int 0)=true then 1 else 0)=some (.int x)/\1<=x/\x<=640:=by
    split
    ·exact⟨640,rfl,by decide,by decide⟩
    ·exact⟨60,rfl,by decide,by decide⟩
   refine⟨_,rfl,rfl,.inr ⟨_,rfl,l5,_,_,.int x,rfl,rfl,SqL.of Zab,hx,?_⟩⟩;refine⟨pl,p,x,rfl,hp4.put e5,p2,p7,by (clear x1 p7 p2 hp e1 e0 hi em hu hu1 hlen;omega),by (clear x0 p7 p2 hp e1 e0 hi em hu hu1 hlen;omega),fun n H6 n24 hnt hp6 sm6=>?_⟩;have s06:=Sm.after (s04.trans (Same.new e5)) sm6 hpl0;refine⟨_,rfl,_,rfl,_,rfl,pl,p,n,rfl,p2,p7,by (clear hnt x1 x0 p7 p2 hp e1 e0 hi em hu hu1 hlen;omega),by (clear n24 x0 p7 p2 hp e1 e0 hi em hu hu1 hlen;omega),hp6,fun rl as Vs D fl H7 nrl hrl hRL hTV hasn hG hB hp7 sm7=>?_⟩;have s07:=Sm.after s06 sm7 hpl0;have hTVn:TVD (fun _=>none) H7 Vs D:=hTV.base fun _ _=>rfl;have hNl:(tnum p n).length=p:=ZaT (by (clear hnt n24 x1 x0 p7 p2 e1 hi em hu hu1 hlen;omega)) n;have hlens:D.map (fun r=>(r.length:Int))=cnt p n:=by rw[hG.lens,Za2 (by (clear hNl hnt n24 x1 x0 p7 p2 e1 hi em hu hu1 hlen;omega))]
   have h3:∀ r∈D,∀ e,some e∈r->e.2.length<=3:=fun r hr' e he=>(hB r hr' _ he e rfl).1
   have hfl:(D.flatten.length:Int)<=640:=by
    have:=Zd9 (show 1<=p by (clear hNl hnt n24 x1 x0 p7 p2 e1 hi em hu hu1 hlen;omega)) n;rw[hG.flen]
    (clear hNl n24 x0 p7 p2 hp e1 e0 hi em hu hu1 hlen;omega)
   have htot:totT lenT D<=2000:=by have h9:=Zju h3;(clear hNl hnt n24 x1 x0 p7 p2 hp e1 e0 hi em hu hu1 hlen;omega)
   have hGT:GdD fl (D++[[]]) (Tm p n):=GdD.snoc hG trivial;obtain⟨a1,d,ed,a3,a4,a5⟩:=ZlZ p2 hGT;have hDl:D.length=p:=by rw[hG.len,hNl]
   obtain⟨r1,r2,r3,r4⟩:=Zig hB (by (clear hDl a4 htot hNl hnt n24 x1 x0 p7 p2 hp e1 e0 hi em hu hu1 hlen;omega)) (by (clear a4 htot hfl hNl hnt n24 x1 x0 p7 p2 e0 hi em hu hu1 hlen;omega));have hrdl:(rdTP (D++[[]]) (Yal (p+1) 0) (phL p 0 n)).length=p+1:=by
    rw[ZcD _ _ _ (by rw[YbZ,Yai,hDl];rfl),Yai,hDl];rfl
   refine⟨_,rfl,_,rfl,_,rfl,p,n,rl,as,Vs,D,fl,rfl,p2,p7,by (clear hrdl r4 r3 hDl a4 htot hfl hNl hnt x1 x0 p7 p2 hp e1 e0 hi em hu hu1 hlen;omega),by (clear hrdl r4 r3 hDl a4 htot hfl hNl n24 x0 p7 p2 hp e1 e0 hi em hu hu1 hlen;omega),hrl,hRL,hTVn,hG,by (clear hrdl r4 r3 hDl a4 hfl hNl hnt n24 x1 x0 p7 p2 hp e1 e0 hi em hu hu1 hlen;omega),fun t1 e1' v1 d1 r1' H8 ed1 ht1 hv1 he1 ne1 s8=>?_⟩;rw[ed] at ed1;injection ed1 with ed1 _;subst ed1;have hrl8:=s8 _ _ hrl;have hRL8:=hRL.same s8;have hTV8:=hTVn.same s8;have rdr:∀ {Hz:Hp},Same H8 Hz->RdN Hz (.ref rl) (dRs D):=fun {Hz} s=>.lst (s _ _ hrl8) (ZkT (hRL8.same s) (hTV8.same s));refine⟨_,rfl,rl,dRs D,rfl,rdr (Same.refl _),r1,r2,r3,r4,?_⟩;have s08:=s07.trans s8;generalize hRD:rdTP (D++[[]]) (Yal (p+1) 0) (phL p 0 n)=RD at he1 hrdl;refine⟨_,rfl,by decide,by decide,?_⟩;refine Zbi (fun j σ Hx=>∃ o8 o9:Option V,σ=[some (.ref a),some (.int (0+(i:Int))),some (.ref pl),some (.int p),some (.int n),some (.ref rl),some (.ref t1),some (.str (dRs D).shown),o8,o9]/\Same H8 Hx)
    ⟨_,_,rfl,Same.refl _⟩ ?_ ?_
   ·rintro j σ Hx hj ⟨o8,o9,rfl,sx⟩;have hrlx:=sx _ _ hrl8;have hRLx:=hRL8.same sx;have hTVx:=hTV8.same sx;have ht1x:=sx _ _ ht1;have hv1x:=hv1.same sx;have he1x:=sx _ _ he1;have hvl:Vs.length=p:=by rw[hTV.1,hDl]
    have hal:as.length=p:=by rw[hRL.1,hvl]
    refine⟨_,rfl,_,rfl,_,rfl,rl,true,rfl,⟨_,SqL.of hrlx⟩,?_⟩;refine Zcc (b:=true) (K:=K) (a:=rl) (xs:=as.map V.ref) (fun acc i H y=>∃ q,y=.ref q/\H q=some (.tup (Vs.getD i []))) (SqL.of hrlx) (by rw[Yac];(clear hvl hj hrdl r4 r3 hDl a4 htot hfl hNl hnt n24 x1 x0 p7 p2 e0 hi em hu hu1 hlen;omega)) (fun h s=>?_) (fun e h=>?_) (fun acc h0 ii x hx H9 s9 na R2 hR2=>?_) fun tl ys H9 ntl htl hyl hP s9=>?_
    ·obtain⟨q,e,z⟩:=h;exact⟨q,e,s _ _ z⟩
    ·obtain⟨q,e1,z⟩:=h;exact⟨q,e1,by rw[upd_ne fun y=>by rw[y,e] at z;cases z];exact z⟩
    ·obtain⟨r,hr',rfl⟩:=Zau hx;obtain⟨vs,hvs,hrv⟩:=hRLx.at hr';have hg:Vs.getD ii []=vs:=by rw[Yad,hvs];rfl
     refine⟨_,rfl,r,vs,rfl,.inl ⟨SqL.of (s9 _ _ hrv),fun q nq=>hR2 _ _ (Same.new nq) ⟨q,rfl,by rw[Zab,hg]⟩⟩⟩
    obtain⟨qs,rfl,hqs⟩:=pick hP;rw[Yac,Yac] at hyl;refine⟨tl,_,rfl,.inl ⟨SqL.of htl,fun tt ntt=>?_⟩⟩;have s10:Same H9 (upd H9 tt (.tup (qs.map V.ref))):=Same.new ntt;have htt:upd H9 tt (.tup (qs.map V.ref)) tt=some (.tup (qs.map V.ref)):=Zab;generalize upd H9 tt (.tup (qs.map V.ref))=H10 at s10 htt ⊢;refine⟨(by show 2<=sizeLine;decide),fun l2 nl2=>?_⟩;have s11:Same H10 (upd H10 l2 (.lst [.ref rl,.ref tt])):=Same.new nl2;have hl2:upd H10 l2 (.lst [.ref rl,.ref tt]) l2=some (.lst [.ref rl,.ref tt]):=Zab;have s911:=(s9.trans s10).trans s11;have htt11:=s11 _ _ htt;generalize upd H10 l2 (.lst [.ref rl,.ref tt])=H11 at s11 hl2 s911 htt11 ⊢;have hRLt:RLb false H11 qs Vs:=⟨by (clear hj hrdl r4 r3 hDl a4 htot hfl hNl hnt n24 x1 x0 p7 p2 hp e1 e0 hi em hu hu1 hlen;omega),fun jj q vs e1 e2=>by
     have h9:=s11 _ _ (s10 _ _ (hqs jj q e1));rw[Yad,e2] at h9;exact h9⟩
    have both:∃ (b:Bool) (at_:Addr) (as':List Addr),atI [V.ref rl,V.ref tt] (0+(j:Int))=some (.ref at_)/\SqB b K H11 at_ (as'.map V.ref)/\RLb b H11 as' Vs:=by
     have:j=0∨j=1:=by have:j<2:=hj;(clear this hyl hal hvl hrdl r4 r3 hDl a4 htot hfl hNl hnt n24 x1 x0 p7 p2 hp e1 e0 hi em hu hu1 hlen;omega)
     rcases this with rfl | rfl
     ·exact⟨true,rl,as,rfl,SqL.of (s911 _ _ hrlx),hRLx.same s911⟩
     ·exact⟨false,tt,qs,rfl,SqT.of htt11,hRLt⟩
    obtain⟨b,at_,as',hat,hsq,hrb⟩:=both;refine⟨_,rfl,l2,_,_,.ref at_,rfl,rfl,SqL.of hl2,hat,?_⟩;refine⟨b,p,n,at_,as',Vs,D,d,[],rfl,p2,p7,by (clear hyl hal hvl hj hrdl r4 r3 hDl a4 htot hfl hNl hnt x1 x0 p7 p2 hp e1 e0 hi em hu hu1 hlen;omega),by (clear hyl hal hvl hj hrdl r4 r3 hDl a4 htot hfl hNl n24 x0 p7 p2 hp e1 e0 hi em hu hu1 hlen;omega),hsq,hrb,hTVx.same s911,hlens,by (clear hyl hal hvl hj hrdl r4 r3 hDl a4 hfl hNl hnt n24 x1 x0 p7 p2 hp e1 e0 hi em hu hu1 hlen;omega),a1,ed,fun t2 e2 v2 H12 ht2 hv2 he2 ne2 s12=>?_⟩;rw[hRD] at he2;have s812:=(sx.trans s911).trans s12;have sx12:=s911.trans s12;refine⟨_,rfl,_,rfl,t2,e2,p,v2,d,RD,rfl,ht2,hv2.base fun _ _=>rfl,he2,hrdl,fun H13 s13=>⟨true,rfl,iteF ?_⟩⟩;have ht213:=s13 _ _ ht2;have hv213:=hv2.same s13;have he213:=s13 _ _ he2;have s813:=s812.trans s13;refine⟨_,rfl,_,rfl,.tuple [dTD d,.list (RD.map Ybo)],.tuple [dTD d,.list (RD.map Ybo)],.tup ht213 (.cons hv213.rd (.cons (.lst he213 (L2.rdl_ints _)) .nil)),.tup ((sx12.trans s13) _ _ ht1x) (.cons (hv1x.same (sx12.trans s13)).rd (.cons (.lst ((sx12.trans s13) _ _ he1x) (L2.rdl_ints _)) .nil)),?_,ZdQ d RD,ZdQ d RD,false,?_,iteF ?_⟩
    ·have q1:=Zex d;have q2:=Lv.depth_ints RD;show Ybl [dTD d,.list (RD.map Ybo)]+1<=10;have:Ybl [dTD d,.list (RD.map Ybo)]<=4:=Zbj fun x hx=>by
      rcases Yav.mp hx with rfl | hx
      ·(clear q2 hyl hal hvl hj hrdl r4 r3 hDl a4 htot hfl hNl hnt n24 x1 x0 p7 p2 hp e1 e0 hi em hu hu1 hlen;omega)
      ·rw[YaH.mp hx];show Ybl (RD.map Ybo)+1<=4
       (clear q1 hyl hal hvl hj hrdl r4 r3 hDl a4 htot hfl hNl hnt n24 x1 x0 p7 p2 hp e1 e0 hi em hu hu1 hlen;omega)
     (clear q2 q1 hyl hal hvl hj hrdl r4 r3 hDl a4 htot hfl hNl hnt n24 x1 x0 p7 p2 hp e1 e0 hi em hu hu1 hlen;omega)
    ·rw[PySem.SeqAt.eqv_refl _ (ZdQ d RD)];rfl
    refine⟨_,rfl,rl,dRs D,rfl,rdr s813,r1,r2,r3,r4,_,rfl,rfl,_,rfl,?_⟩;have e15:(!decide (V.str (dRs D).shown=V.str (dRs D).shown))=false:=by rw[decide_eq_true rfl];rfl
    rw[e15];refine iteF ?_;have h12n:H8 e2=none:=(sx.trans s911).free ne2;refine⟨_,rfl,t2,_,0,v2,rfl,rfl,SqT.of ht213,rfl,_,rfl,?_⟩;rw[hv213.isn]
    cases d with
    | none=>
     refine iteF ?_;refine⟨_,rfl,t2,_,1,.ref e2,rfl,rfl,SqT.of ht213,rfl,.inl ⟨rfl,_,SqL.of he213⟩,e2,_,rfl,rfl,he213,?_⟩;exact⟨_,_,rfl,s813.put h12n⟩
    | some d=>
     obtain⟨q,tt2,rfl,hq,htt2,ntt2⟩:=hv213;have h11n:H8 tt2=none:=(sx.trans s911).free (ZaE ntt2);refine iteT ?_;refine⟨_,rfl,t2,_,0,.ref q,rfl,rfl,SqT.of ht213,rfl,q,_,1,.ref tt2,rfl,rfl,SqT.of hq,rfl,.inl ⟨rfl,_,SqL.of htt2⟩,tt2,_,_,rfl,rfl,htt2,?_,?_⟩
     ·exact Zbn (by
       have h9:=(a5 d rfl)
       have h10:d.2.length<=15000:=by
        rw[h9];show (dirT (!fl) (ZbJ (D++[[]]))).length<=15000;rw[ZhD];have e9:ZbJ (D++[[]])=ZbJ D:=by unfold ZbJ;simp
        have h12:=ZkC D;rw[e9,Zi3]
        (clear a4 hyl hal hvl hj hrdl r4 r3 hDl hfl hNl hnt n24 x1 x0 p7 p2 hp e1 e0 hi em hu hu1 hlen;omega)
       rw[Yac]
       (clear a4 hyl hal hvl hj hrdl r4 r3 hDl htot hfl hNl hnt n24 x1 x0 p7 p2 hp e1 e0 hi em hu hu1 hlen;omega))
     have nt2:t2≠tt2:=fun z=>by rw[z,htt2] at ht213;cases ht213
     have ne2t:e2≠tt2:=fun z=>by
      rw[z] at ntt2;exact Zbd ntt2
     have he2':upd H13 tt2 (.lst (d.2.map V.int++[.int 5])) e2=some (.lst (RD.map V.int)):=by rw[upd_ne ne2t];exact he213
     refine⟨_,rfl,t2,_,1,.ref e2,rfl,rfl,SqT.of (by rw[upd_ne nt2];exact ht213),rfl,.inl ⟨rfl,_,SqL.of he2'⟩,e2,_,rfl,rfl,he2',?_⟩;exact⟨_,_,rfl,(s813.put h11n).put h12n⟩
   ·rintro σ Hx ⟨o8,o9,rfl,sx⟩;exact⟨_,_,_,_,_,_,_,_,_,rfl,s08.trans sx⟩
  ·rintro σ H2 _;exact k H2
end
end Fi56
namespace Fi56
open PySem L2 Lv
section
variable {P:Program}{w:World}{K:Yae}{mg:Str->Option Value}{base:Heap}
theorem ZjE:FnScope ["thing"] ["thing"] (Zac Zde):=⟨rfl,rfl,rfl,by decide +kernel,rfl,by decide +kernel,by decide +kernel⟩
theorem Ziy {f:Addr}{fd:FuncData} (F:Fun K "is_whole" "is_whole" Zde f fd) (T:Txt mg):FnOk P w K mg base CX0 1 f fd ["thing"] Zdx:=by
 refine F.ok ZjE (fun vs H Q E h=>?_) (fun cdv A outer s H vs Q E hr h=>?_)
 ·obtain⟨i,rfl,_⟩:=h;rfl
 ·obtain⟨i,rfl,k⟩:=h;refine⟨_,Zax (Zay (ZfD (Zal ZaW rfl T.isinstance ZaO (Zaa (pv 0) (Zaa (Ze5 rfl T.int Zlv) Zad)))
   (Zjg (ZgU (Zal ZaW rfl T.isinstance ZaO (Zaa (pv 0) (Zaa (Ze5 rfl T.bool Zjo) Zad))))))),?_⟩
  refine⟨_,rfl,.int i,"int",_,true,rfl,.int i,Ze8,true,rfl,iteT ?_⟩;exact⟨_,rfl,.int i,"bool",_,false,rfl,.int i,Zeq,false,rfl,k⟩
theorem ZkN:FnScope ["p"] ["p"] (Zac Zf3):=⟨rfl,rfl,rfl,by decide +kernel,rfl,by decide +kernel,by decide +kernel⟩
theorem ZjV {f fW:Addr}{fd dW:FuncData}{t2 t7:Tok} (F:Fun K "check_ways" "check_ways" Zf3 f fd) (T:Txt mg) (hL:mg "LEAST_WAYS"=some (.int 2 t2)) (hM:mg "MOST_WAYS"=some (.int 7 t7)) (CW:Cal P w K mg base 1 "is_whole" ["thing"] Zdx fW dW) :
  FnOk P w K mg base CX0 2 f fd ["p"] Zfr:=by
 refine F.ok ZkN (fun vs H Q E h=>?_) (fun cdv A outer s H vs Q E hr h=>?_)
 ·obtain⟨i,rfl,_⟩:=h;rfl
 ·obtain⟨i,rfl,h1,h2,k⟩:=h;refine⟨_,Zax (ZgL (PW.pt (Ze3 (Zb2 (Zcu (Zat CW hr rfl (Zaa (pv 0) Zad))))
   (Zfv (Zb2 (Zfw Zg3 Zg3 (ZgV rfl hL) (pv 0) (ZgV rfl hM)))))) Zby ZcP),?_⟩
  refine⟨_,rfl,i,rfl,true,rfl,iteF ?_⟩;refine⟨_,rfl,2,i,rfl,rfl,_,rfl,?_⟩;rw[decide_eq_true h1];refine iteT ⟨i,7,rfl,rfl,_,rfl,?_⟩;rw[decide_eq_true h2];exact iteF k
theorem ZjF:FnScope ["n","last"] ["n","last"] (Zac Zdg):=⟨rfl,rfl,rfl,by decide +kernel,rfl,by decide +kernel,by decide +kernel⟩
theorem ZiE {f fW da:Addr}{fd dW:FuncData} (F:FunD K "check_level" "check_level" Zdg f da fd) (T:Txt mg) (CW:Cal P w K mg base 1 "is_whole" ["thing"] Zdx fW dW) :
  FnOk P w K mg base CX0 2 f fd ["n","last"] ZdC:=by
 refine F.ok ZjF (fun vs H Q E h=>?_) (fun cdv A outer s H vs Q E hr h=>?_)
 ·obtain⟨i,m,rfl,_⟩:=h;rfl
 ·obtain⟨i,m,rfl,h1,h2,k⟩:=h;refine⟨_,Zax (ZgL (PW.pt (Ze3 (Zb2 (Zcu (Zat CW hr rfl (Zaa (pv 0) Zad))))
   (Zfv (Zb2 (Zfw Zg3 Zg3 Zaf (pv 0) (pv 1)))))) Zby ZcP),?_⟩
  refine⟨_,rfl,i,rfl,true,rfl,iteF ?_⟩;refine⟨_,rfl,0,i,rfl,rfl,_,rfl,?_⟩;rw[decide_eq_true h1];refine iteT ⟨_,rfl,i,m,rfl,rfl,_,rfl,?_⟩;rw[decide_eq_true h2];exact iteF k
theorem ZjG:FnScope ["p"] ["p"] (Zac Zdh):=⟨rfl,rfl,rfl,by decide +kernel,rfl,by decide +kernel,by decide +kernel⟩
theorem ZiG {f:Addr}{fd:FuncData} (F:Fun K "first_counts" "first_counts" Zdh f fd) (T:Txt mg):FnOk P w K mg base CX0 1 f fd ["p"] ZdE:=by
 refine F.ok ZjG (fun vs H Q E h=>?_) (fun cdv A outer s H vs Q E hr h=>?_)
 ·obtain⟨p,rfl,_⟩:=h;rfl
 ·obtain⟨p,rfl,h1,h2,k⟩:=h;refine⟨_,Zax (Zay (ZaB Za0 rfl T.tuple ZbT (Zaa (Zaq Zcw (Zav (Zaa Zaf Zad)) (Zaq Zek (Zav (Zaa Zaf Zad)) (Zaq ZcV (pv 0) Zaf))) Zad))),?_⟩;refine⟨(by show 1<=sizeLine;decide),fun p1 e1=>⟨(by show 1<=sizeLine;decide),fun p2 e2=>⟨_,rfl,_,_,rfl,rfl,?_⟩⟩⟩;have z2:(upd (upd H p1 (.lst [.int 1])) p2 (.lst [.int 0])) p1=some (.lst [.int 1]):=by rw[upd_ne (Zae Zab e2)];exact Zab
  refine⟨p2,(p:Int) - 1,_,rfl,rfl,Zab,by (clear h2 h1;omega),by (clear h1;omega),?_,fun p3 e3=>?_⟩
  ·exact Ybi (Zas (by show 1*((p:Int) - 1).toNat<=1000;(clear h1;omega)))
  have z3:=(Same.new (o:=.lst (Yal ((p:Int) - 1).toNat [V.int 0]).flatten) e3) p1 _ z2;have ez:(Yal ((p:Int) - 1).toNat [V.int 0]).flatten=Yal (p - 1) (V.int 0):=by
   rw[show ((p:Int) - 1).toNat=p - 1 by (clear h2 h1;omega)];exact YbI
  rw[ez] at z3 ⊢;refine⟨p1,p3,_,_,rfl,rfl,z3,Zab,?_,fun p4 e4=>?_⟩
  ·exact Ybi (Zas (by rw[YbZ];show 1+(p - 1)<=1000;(clear h1;omega)))
  refine⟨p4,_,rfl,.inl ⟨SqL.of Zab,fun l hl=>?_⟩⟩;have s4:=(((Same.new (o:=.lst [.int 1]) e1).trans (Same.new (o:=.lst [.int 0]) e2)).trans (Same.new (o:=.lst (Yal (p - 1) (V.int 0))) e3)).trans (Same.new (o:=.lst ([.int 1]++Yal (p - 1) (V.int 0))) e4);refine k l _ (s4.free hl) ?_ (s4.trans (Same.new hl));rw[Zab];simp[Zcx]
theorem scNext:FnScope ["counts","first"] ["counts"] (Zac ZeZ):=⟨rfl,rfl,rfl,by decide +kernel,rfl,by decide +kernel,by decide +kernel⟩
theorem ZjX {f:Addr}{fd:FuncData} (F:Fun K "next_counts" "next_counts" ZeZ f fd) (T:Txt mg):FnOk P w K mg base CX0 1 f fd ["counts"] (Zfs K):=by
 refine F.ok scNext (fun vs H Q E h=>?_) (fun cdv A outer s H vs Q E hr h=>?_)
 ·obtain⟨a,c,rfl,_⟩:=h;rfl
 ·obtain⟨a,c,rfl,hA,h1,h2,k⟩:=h;refine⟨_,Zai (Zaj (i:=1) scNext.nd rfl (Yds rfl) (Zaw Za4 (pv 0) Zaf (fun _ _=>rfl)))
   (Zax (Zay (ZaB Za0 rfl T.tuple ZbT (Zaa (Zaq Zcw
    (ZaN (own:=["count"]) (js:=[1]) (CompOk.by (sc:=Zac ZeZ) (N:=["counts","first"]) rfl rfl (by decide +kernel)) rfl (ZkW (ZbF ZkM (pv 0) (Zbf Zaf) Zco)) Zao
     (fun _ _ _ _ _=>Zah (i:=0) (by show (["count","first"]:List Str).Nodup;decide +kernel) rfl (YaP rfl) (.inr rfl)) (fun _ _ _ _ _=>ZaA) (fun _ _ _ _ _=>Zaq Za1 (pv 1) (pv 0)))
    (Zav (Zaa (pv 1) Zad))) Zad)))),?_⟩
  obtain⟨c0,cr,rfl⟩:∃ c0 cr,c=c0::cr:=by
   cases c with
   | nil=>simp at h1
   | cons x y=>exact⟨x,y,rfl⟩
  have hcr:cr.length<=6:=by simpa using h2
  refine⟨_,rfl,a,_,0,.int c0,rfl,rfl,hA,Zd3,?_⟩;refine⟨_,rfl,1,rfl,a,_,rfl,hA,?_,fun p1 e1=>⟨p1,rfl,⟨_,SqT.of Zab⟩,?_⟩⟩
  ·rintro⟨z,_⟩;have:HT.sIx ((c0::cr).map V.int).length 0 (some ((1:Nat):Int))=0:=z;rw[HT.sIx_nat] at this;simp at this
  have ecut:cutV ((c0::cr).map V.int) (some 1) none=cr.map V.int:=by
   unfold cutV;show (((c0::cr).map V.int).drop (HT.sIx ((c0::cr).map V.int).length 0 (some ((1:Nat):Int)))).take (HT.sIx ((c0::cr).map V.int).length ((c0::cr).map V.int).length none - HT.sIx ((c0::cr).map V.int).length 0 (some ((1:Nat):Int)))=_;rw[HT.sIx_nat];rw[show min 1 ((c0::cr).map V.int).length=1 by simp];show (cr.map V.int).take (((c0::cr).map V.int).length - 1)=_;rw[YaW (by simp)]
  rw[ecut];refine ZiX (xs:=cr.map V.int) (fun acc i H2=>Same (upd H p1 (.tup (cr.map V.int))) H2/\H2 acc=some (.lst (((cr.take i).map (c0+·)).map V.int))) (fun acc h0=>⟨Same.new h0,Zab⟩) (fun acc i H2 h0 _ p=>p.1.tup (SqT.of Zab)) ?_ ?_
  ·rintro acc i x H2 h0 hx ⟨s2,hacc⟩;obtain⟨z,hz,rfl⟩:=Zbt hx;have hi:=(Yaa.mp hz).1
   refine⟨_,rfl,_,rfl,_,_,rfl,rfl,_,hacc,?_,by rw[Yac];exact hi,s2.put h0,?_⟩
   ·exact Zas (by simp;(clear hi h2 h1;omega))
   ·rw[Zab,Ya9,hz];simp
  ·rintro acc H2 h0 ⟨s2,hacc⟩;rw[Yac,YaT] at hacc;refine⟨_,rfl,(by show 1<=sizeLine;decide),fun p2 e2=>?_⟩;refine⟨acc,p2,_,_,rfl,rfl,(Same.new e2) acc _ hacc,Zab,?_,fun p3 e3=>⟨p3,_,rfl,.inl ⟨SqL.of Zab,fun l hl=>?_⟩⟩⟩
   ·exact Ybi (Zas (by simp;(clear h2 h1;omega)))
   have s3:=(((Same.new (o:=.tup (cr.map V.int)) e1).trans s2).trans (Same.new (o:=.lst [.int c0]) e2)).trans (Same.new (o:=.lst (((cr.map (c0+·)).map V.int)++[.int c0])) e3);refine k l _ (s3.free hl) ?_ (s3.trans (Same.new hl));rw[Zab];simp[Zbu]
end
end Fi56
namespace Fi56
open PySem L2 Lv
section
variable {P:Program}{w:World}{K:Yae}{mg:Str->Option Value}{base:Heap}
theorem scPotT:FnScope ["script","k","cell","prime"] ["script","k"] (Zac Zf4):=⟨rfl,rfl,rfl,by decide +kernel,rfl,by decide +kernel,by decide +kernel⟩
theorem ix5 {d:Int} (h0:0<=d) (h1:d<5):∃ v:Int,atI [V.int 2147483629,.int 2147483587,.int 2147483579,.int 2147483563,.int 2147483549] d=some (.int v)/\0<v/\v<=2147483647:=by
 have:d=0∨d=1∨d=2∨d=3∨d=4:=by omega
 rcases this with rfl | rfl | rfl | rfl | rfl
 all_goals exact⟨_,rfl,by decide,by decide⟩
theorem ZjW {f:Addr}{fd:FuncData} (F:Fun K "_law_pot" "_law_pot" Zf4 f fd) (T:Txt mg):FnOk P w K mg base CX0 1 f fd ["script","k"] (Zgx K):=by
 refine F.ok scPotT (fun vs H Q E h=>?_) (fun cdv A outer s H vs Q E hr h=>?_)
 ·obtain⟨a,ns,i,rfl,_⟩:=h;rfl
 ·obtain⟨a,ns,i,rfl,hS,i0,i1,k⟩:=h;refine⟨_,Zai (Zaj (i:=2) scPotT.nd rfl (YaP rfl) Zaf)
   (Zai (ZgL (ZaM Zg2 (pv 1) (Zal ZaH rfl T.len YbM (Zaa (pv 0) Zad)) (ZaS _)) (Zax (Zaj (i:=2) scPotT.nd rfl (YaP rfl) (Zaq ZbL (Zaw Zar (pv 0) (pv 1) (fun _ _=>rfl)) (Zaq Zg0 (Zaq Zg0 (Zaq ZcW Zaf Zaf) (Zaq ZcW Zaf Zaf)) (Zaq ZcW Zaf Zaf))))) ZcP)
   (Zai (Zaj (i:=3) scPotT.nd rfl (YaP rfl) (Zaw Zar (Zav (Zaa Zaf (Zaa Zaf (Zaa Zaf (Zaa Zaf (Zaa Zaf Zad)))))) (Zaq ZbL (pv 1) Zaf) (fun _ _=>rfl)))
   (Zax (Zay (Zav (Zaa (Zal (Zc6 rfl) rfl T.max Zkp (Zaa Zaf (Zaa (Zaq ZcV (pv 2) (Zaq ZcW Zaf Zaf)) Zad)))
    (Zaa (Zaq ZbL (Zaq ZcW (Zaq Za1 (Zaq Za1 (Zaq ZbL (pv 2) (pv 3)) (Zaq Zg1 Zaf (pv 1))) Zaf) Zaf) Zaf) Zad))))))),?_⟩
  refine cut2 (fun σ' H'=>∃ c:Int,σ'=[some (.ref a),some (.int i),some (.int c),none]/\H'=H) (fun R2 hR2=>?_) ?_
  ·refine⟨_,rfl,_,rfl,a,_,rfl,.inl hS,_,_,rfl,rfl,_,rfl,?_⟩;refine ite2 (fun hc=>?_) (fun hc=>hR2 _ _ ⟨_,rfl,rfl⟩);have hc':i<(ns.length:Int):=by have:=of_decide_eq_true hc;rwa [Yac] at this
   obtain⟨w1,w2,w3⟩:=ZlJ;refine⟨_,rfl,_,rfl,a,_,i,_,rfl,rfl,hS,Zh0 i0 hc',?_⟩;refine⟨10,60,rfl,rfl,⟨by decide,by decide,by decide⟩,10,60,rfl,rfl,⟨by decide,by decide,by decide⟩,_,_,rfl,rfl,⟨1000,1000,w2,w2,by decide⟩,10,60,rfl,rfl,⟨by decide,by decide,by decide⟩,_,_,rfl,rfl,⟨1000,1000,w3,w2,by decide⟩,_,_,rfl,rfl,w1,?_⟩;exact hR2 _ _ ⟨_,rfl,rfl⟩
  ·rintro σ' H' ⟨c,rfl,rfl⟩;refine⟨(by show 5<=sizeLine;decide),fun q hq=>?_⟩;refine⟨_,rfl,i,5,rfl,rfl,(by show (0:Int)<5;decide),?_⟩;obtain⟨v,ev,v0,v1⟩:=ix5 (YcG i (show (5:Int)≠0 by decide)) (Ycg i (show (0:Int)<5 by decide));refine⟨q,_,_,_,rfl,rfl,SqL.of Zab,ev,?_⟩;refine⟨_,rfl,10,18,rfl,rfl,⟨by decide,by decide,by decide⟩,_,_,rfl,rfl,_,_,rfl,?_⟩;refine⟨_,rfl,_,rfl,c,v,rfl,rfl,v0,_,rfl,7919,i,rfl,rfl,.inl ⟨by decide,by decide⟩,_,_,rfl,rfl,_,11,rfl,rfl,_,3,rfl,rfl,⟨by decide,by decide,?_⟩,_,2147483647,rfl,rfl,(by show (0:Int)<2147483647;decide),(by show 2<=sizeLine;decide),fun l hl=>?_⟩
   ·have m0:=YcG c (show v≠0 by (clear v1 i1 i0;omega));have m1:=Ycg c v0;generalize c % v=y at m0 m1
    (clear v0;omega)
   ·refine k l _ ((Same.new hq).free hl) ⟨_,_,Zab,YcG _ (by decide),?_⟩ ((Same.new hq).trans (Same.new hl));exact Int.lt_trans (Ycg _ (by decide)) (by decide)
theorem scTakeT:FnScope ["pot","many","found"] ["pot","many"] (Zac Zdf):=⟨rfl,rfl,rfl,by decide +kernel,rfl,by decide +kernel,by decide +kernel⟩
theorem ZiA {f:Addr}{fd:FuncData} (F:Fun K "_law_take" "_law_take" Zdf f fd) (T:Txt mg):FnOk P w K mg base CX0 1 f fd ["pot","many"] ZcJ:=by
 refine F.ok scTakeT (fun vs H Q E h=>?_) (fun cdv A outer s H vs Q E hr h=>?_)
 ·obtain⟨p,m,rfl,_⟩:=h;rfl
 ·obtain⟨p,m,rfl,⟨a,b,hp,b0,b1⟩,h0,h1,k⟩:=h;refine⟨_,Zai (ZgL (ZaM ZlL (Zaw Zar (pv 0) Zaf (fun _ _=>rfl)) Zaf (ZaS _))
    (Zai (Zaj (i:=2) scTakeT.nd rfl (YaP rfl) (Zaq ZbL (Zaw Zar (pv 0) Zaf (fun _ _=>rfl)) (pv 1)))
    (Zai (Zcv (Zaq Zix (Zaw Zar (pv 0) Zaf (fun _ _=>rfl)) (pv 1)) (Zei (pv 0) Zaf Zb1))
    (Zax (Zay (pv 2))))) ZcP)
   (Zai (Zcv (Zaq ZbL (Zaq Za1 (Zaq Zg1 (Zaw Zar (pv 0) Zaf (fun _ _=>rfl)) Zaf) Zaf) Zaf) (Zei (pv 0) Zaf Zb1))
   (Zax (Zay (Zaq ZbL (Zaq ZjU (Zaq ZbL (Zaq ZcW (Zaw Zar (pv 0) Zaf (fun _ _=>rfl)) Zaf) Zaf) Zaf) (pv 1))))),?_⟩
  refine⟨_,rfl,p,_,0,.int a,rfl,rfl,SqL.of hp,rfl,_,_,rfl,rfl,_,rfl,?_⟩;refine ite2 (fun _=>?_) (fun _=>?_)
  ·refine⟨_,rfl,p,_,0,.int a,rfl,rfl,SqL.of hp,rfl,_,rfl,a,m,rfl,rfl,h0,?_⟩;refine⟨_,rfl,p,_,0,.int a,rfl,rfl,SqL.of hp,rfl,_,rfl,a,m,rfl,rfl,⟨h0,h1⟩,_,rfl,p,_,0,0,rfl,rfl,hp,rfl,_,rfl,?_⟩;exact k _ _ (YcG _ (by (clear h1 b1 b0;omega))) (Ycg _ h0) ⟨_,_,Zab,b0,b1⟩ Sm.put
  ·have n0:=YcG (b*48271+12820163) (show (2147483647:Int)≠0 by decide);have n1:=Ycg (b*48271+12820163) (show (0:Int)<2147483647 by decide);refine⟨_,rfl,p,_,1,.int b,rfl,rfl,SqL.of hp,rfl,b,48271,rfl,rfl,.inr ⟨by decide,by decide⟩,_,12820163,rfl,rfl,_,2147483647,rfl,rfl,(by show (0:Int)<2147483647;decide),_,rfl,p,_,1,1,rfl,rfl,hp,rfl,?_⟩;have hp1:(upd H p (.lst ([V.int a,.int b].set 1 (.int ((b*48271+12820163) % 2147483647))))) p=some (.lst [.int a,.int ((b*48271+12820163) % 2147483647)]):=by rw[Zab];rfl
   refine⟨_,rfl,p,_,1,.int ((b*48271+12820163) % 2147483647),rfl,rfl,SqL.of hp1,rfl,_,3,rfl,rfl,⟨by decide,by decide,?_⟩,_,2147483629,rfl,rfl,(by show (0:Int)<2147483629;decide),_,8,rfl,rfl,⟨by decide,by decide⟩,_,rfl,_,m,rfl,rfl,h0,?_⟩
   ·generalize (b*48271+12820163) % 2147483647=y at n0 n1
    (clear h1 h0 b1 b0;omega)
   ·exact k _ _ (YcG _ (by (clear n1 n0 h1 b1 b0;omega))) (Ycg _ h0) ⟨_,_,hp1,n0,Int.lt_trans n1 (by decide)⟩ Sm.put
theorem scLevT:FnScope ["pot","p","most","levels"] ["pot","p","most"] (Zac Ze0):=⟨rfl,rfl,rfl,by decide +kernel,rfl,by decide +kernel,by decide +kernel⟩
theorem Zgh (K:Yae) {X:Cx} (hc:X.calm=true) (hK:X.K=K:=by rfl):Zbk X (.builtin "sum") (fun xs H Q=>∃ (a:Addr) (ns:List Int),xs=[.ref a]/\SqL K H a (ns.map V.int)/\Q (.int ns.sum) H):=by subst hK;exact ZeD hc
theorem ZjZ {f fA fB:Addr}{fd dA dB:FuncData} (F:Fun K "_law_level" "_law_level" Ze0 f fd) (T:Txt mg) (CA:Cal P w K mg base 1 "_law_counts" ["p","n"] ZbZ fA dA) (CB:Cal P w K mg base 1 "_law_take" ["pot","many"] ZcJ fB dB):FnOk P w K mg base CX0 2 f fd ["pot","p","most"] Zgz:=by
 refine F.ok scLevT (fun vs H Q E h=>?_) (fun cdv A outer s H vs Q E hr h=>?_)
 ·obtain⟨pl,p,m,rfl,_⟩:=h;rfl
 ·obtain⟨pl,p,m,rfl,hP,h1,h2,m1,m2,k⟩:=h;refine⟨_,Zai (Zcl (i:=3) scLevT.nd rfl rfl (own:=["n"]) (js:=[1,2]) (CompOk.by (sc:=Zac Ze0) (N:=["pot","p","most","levels"]) rfl rfl (by decide +kernel)) rfl (ZaR rfl T.range (Zaa Zaf Zad)) Zao
    (fun _ _ _ _ _=>Zah (i:=0) (by show (["n","p","most"]:List Str).Nodup;decide +kernel) rfl (YaP rfl) (.inr rfl))
    (fun _ _ _ _ _=>ZcN (PW.pt (Zjc (ZaM Zg2 (pv 0) Zaf (ZaS _)) (ZgJ (ZaM Zg3 (Zal (Zgh K rfl) rfl T.sum Zi2 (Zaa (Zat CA hr rfl (Zaa (pv 1) (Zaa (pv 0) Zad))) Zad)) (pv 2) (ZaS _)))))) (fun _ _ _ _ _=>pv 0))
   (Zax (Zay (Zaw Zar (pv 3) (Zat CB hr rfl (Zaa (pv 0) (Zaa (Zal ZaH rfl T.len YbM (Zaa (pv 3) Zad)) Zad))) (fun _ _=>rfl)))),?_⟩
  have t0:tot p 0<=m:=by
   have:tot p 0<=1:=Zi8 h1 h2 0
   (clear m2 h2 h1;omega)
  refine⟨40,rfl,by decide,by decide,?_⟩;rw[show (40:Int).toNat=40 by decide];refine ZbH (fun acc j H3=>Same H H3/\∃ ns:List Nat,(ns=[]->j=0)/\ns.length<=j/\(∀ x∈ns,x<24/\tot p x<=m)/\H3 acc=some (.lst ((ns.map fun x:Nat=>(x:Int)).map V.int))) (fun acc h0=>⟨Same.new h0,[],fun _=>rfl,Yas _,by simp,Zab⟩) ?_ ?_
  ·rintro acc j H3 h0 hj ⟨s3,ns,hne,hlj,hns,hacc⟩;refine⟨_,rfl,_,24,rfl,rfl,_,rfl,?_⟩;have ej:(0:Int)+(j:Int)=(j:Int):=by (clear hlj hne hj t0 m2 m1 h2 h1;omega)
   refine ite2 (fun hc=>?_) (fun hc=>?_)
   ·have hj24:j<24:=by have:=of_decide_eq_true hc;(clear ej hlj hne hj t0 m2 m1 h2 h1;omega)
    refine⟨_,rfl,_,rfl,p,j,?_,h1,h2,by (clear hj24 ej hlj hne t0 m2 m1 h2 h1;omega),fun lc H4 e4 hlc s4=>?_⟩
    ·rw[ej];rfl
    refine⟨lc,cnt p j,rfl,SqL.of hlc,_,rfl,_,_,rfl,rfl,_,rfl,?_⟩;refine ite2 (fun hc2=>?_) (fun hc2=>?_)
    ·have ht:tot p j<=m:=of_decide_eq_true hc2;refine⟨_,rfl,_,s4 acc _ hacc,Zas (by simp;(clear ht hj24 ej hne t0 m2 m1 h2 h1;omega)),hj,(s3.trans s4).put h0,ns++[j],by simp,by simp;(clear ht hj24 ej hne hj t0 m2 m1 h2 h1;omega),?_,?_⟩
     ·intro x hx;rcases Yao.mp hx with h | h
      ·exact hns x h
      ·have:x=j:=by simpa using h
       subst this;exact⟨hj24,ht⟩
     ·rw[Zab,ej];simp
    ·refine⟨hj,s3.trans s4,ns,fun z=>?_,by (clear hc2 hj24 ej hne hj t0 m2 m1 h2 h1;omega),hns,s4 acc _ hacc⟩;exfalso;have:=hne z;subst this;exact hc2 (decide_eq_true t0)
   ·refine iteF ⟨hj,s3,ns,fun z=>?_,by (clear hc ej hne hj t0 m2 m1 h2 h1;omega),hns,hacc⟩;exfalso;have:=hne z;subst this;exact hc (decide_eq_true (by decide))
  ·rintro l H3 h0 ⟨s3,ns,hne,hlj,hns,hl⟩;have hnn:ns≠[]:=fun z=>by have:=hne z;(clear hlj hne t0 m2 m1 h2 h1;omega)
   have hlp:l≠pl:=hP.ne h0;have hln:0<ns.length:=List.length_pos_iff.mpr hnn;refine⟨_,rfl,_,rfl,_,rfl,l,_,rfl,.inl (SqL.of hl),pl,_,rfl,hP.same s3,?_,?_,fun d H4 d0 d1 hP4 sm4=>?_⟩
   ·simp
    (clear hlp hlj hne t0 m2 m1 h2 h1;omega)
   ·refine Zgi (by (clear hln hlp hlj hne t0 m2 m1 h2 h1;omega)) ?_;simp
    (clear hln hlp hne t0 m2 m1 h2 h1;omega)
   have d1':d<(ns.length:Int):=by simpa using d1
   obtain⟨d,rfl⟩:∃ m:Nat,d=(m:Int):=⟨d.toNat,by (clear d1' d1 hln hlp hlj hne t0 m2 m1 h2 h1;omega)⟩
   have hd:d<ns.length:=by (clear d1 d0 hln hlp hlj hne t0 m2 m1 h2 h1;omega)
   refine⟨l,_,_,.int (ns[d]:Nat),rfl,rfl,SqL.of (sm4 l _ hl hlp),?_,?_⟩
   ·refine ZaP ?_;simp[hd]
   ·obtain⟨a1,a2⟩:=hns _ (YcV hd);exact k _ _ a1 a2 hP4 ((Sm.of s3).trans sm4)
end
end Fi56
namespace Fi56
open PySem L2 Lv
section
variable {P:Program}{w:World}{K:Yae}{mg:Str->Option Value}{base:Heap}
theorem Zif:FnScope ["rows"] ["rows"] (Zac Zcj):=⟨rfl,rfl,rfl,by decide +kernel,rfl,by decide +kernel,by decide +kernel⟩
theorem Zg6 {f:Addr}{fd:FuncData} (F:Fun K "merged_row" "merged_row" Zcj f fd) (T:Txt mg):FnOk P w K mg base CX0 1 f fd ["rows"] ZdB:=by
 refine F.ok Zif (fun vs H Q E h=>?_) (fun cdv A outer s H vs Q E hr h=>?_)
 ·obtain⟨a,rs,N,rfl,_⟩:=h;rfl
 ·obtain⟨a,rs,N,rfl,hR,hT,k⟩:=h;refine⟨_,Zax (Zay (Zal Zcs rfl T.sorted Zd2 (Zaa (Ziu (own:=["row","thing"]) (js:=[]) (fr:=[1]) (CompOk.bare (by decide +kernel)) rfl (ZaQ (pv 0)) (Zc3 (i:=0)) Zc2
    (fun _ _ _ _ _=>Zah (i:=0) (by show (["row","thing"]:List Str).Nodup;decide +kernel) rfl (YaP rfl) (.inr rfl)) (fun _ _ _ _ _=>ZaA) (fun _ _ _ _ _=>ZcE K (pv 0))
    (fun _ _ _ _ _=>Zah (i:=1) (by show (["row","thing"]:List Str).Nodup;decide +kernel) rfl (YaP rfl) (.inr rfl)) (fun _ _ _ _ _=>ZaA) (fun _ _ _ _ _=>pv 1)) Zad))),?_⟩
  obtain⟨b,hb⟩:=hR.top.both;refine⟨_,rfl,a,b,rfl,⟨_,hb K H (Same.refl _)⟩,?_⟩;refine Zdq (xs:=rs.map V.ref) (fun acc i H2=>Same H H2/\H2 acc=some (.lst (((N.take i).flatten).map V.int))) (fun acc h0=>⟨Same.new h0,Zab⟩) (fun acc i H2 h0 _ p=>hb K H2 p.1) ?_ ?_
  ·rintro acc i x H2 h0 hx ⟨s2,hacc⟩;have hi:=(Yaa.mp hx).1
   obtain⟨r,xs,rfl,e1,e2,hrow⟩:=hR.get hx;obtain⟨b2,hb2⟩:=hrow.both;refine⟨_,rfl,r,b2,rfl,⟨_,hb2 K H2 s2⟩,?_⟩;refine Zhr (xs:=xs.map V.int) (fun j H3=>Same H H3/\H3 acc=some (.lst (((N.take i).flatten++xs.take j).map V.int))) ⟨s2,by simpa using hacc⟩ (fun j H3 _ p=>hb2 K H3 p.1) ?_ ?_
   ·rintro j y H3 hy ⟨s3,hac3⟩;obtain⟨z,hz,rfl⟩:=Zbt hy;have hj:=(Yaa.mp hz).1
    have hle:=ZiQ e2 (Ybi hj);refine⟨_,rfl,_,hac3,Zbn (by rw[Yac,Yai,Yaz];(clear hj hi;omega)),by rw[Yac];exact hj,s3.put h0,?_⟩;rw[Zab,Ya9,hz];simp
   ·rintro H3 ⟨s3,hac3⟩;refine⟨hi,s3,?_⟩;rw[hac3,Zet e2,Yac,YaT]
  ·rintro acc H2 h0 ⟨s2,hacc⟩;rw[Yac,hR.len,YaT] at hacc;refine⟨acc,_,rfl,SqL.of hacc,fun l ms nl pm up=>?_⟩;have:=Zae hacc nl;exact k l ms _ (s2.free nl) Zab pm up (s2.trans (Same.new nl))
end
end Fi56
namespace Fi56
open PySem L2 Lv
theorem len1 {P:List Value->Prop} (us:List Value) (hl:us.length=1) (h:∀ a0:Value,P [a0]):P us:=by
 match us,hl with
 | [a0],_=>exact h a0
theorem len2 {P:List Value->Prop} (us:List Value) (hl:us.length=2) (h:∀ a0 a1:Value,P [a0,a1]):P us:=by
 match us,hl with
 | [a0,a1],_=>exact h a0 a1
theorem len3 {P:List Value->Prop} (us:List Value) (hl:us.length=3) (h:∀ a0 a1 a2:Value,P [a0,a1,a2]):P us:=by
 match us,hl with
 | [a0,a1,a2],_=>exact h a0 a1 a2
theorem all_mk {l:YdE}{w:World}{K:Yae}{h:Heap}{mg:Str->Option Value}{fa f0 f1 f2 f3 f4 f5 f6 f7 f8 f9 f10 f11 f12 f13 f14 f15 f16 f17 f18 f19 f20 f21 f22 f23 f24:Addr}{tk0 tk1:Tok} (X:K.In h) (G:h.Ns mainGlobals mg) (hfa:mg "law"=some (.ref fa))
  {od0 an0 od1 an1 od2 an2 od3 an3 od4 an4 od5 an5 od6 an6 od7 an7 od8 an8 od9 an9 od10 an10 od11 an11 od12 an12 od13 an13 od14 an14 od15 an15 od16 an16 od17 an17 od18 an18 od19 an19 od20 an20 od21 an21 od22 an22 od23 an23 od24 an24:Option Addr}{sl0 sl1 sl2 sl3 sl4 sl5 sl6 sl7 sl8 sl9 sl10 sl11 sl12 sl13 sl14 sl15 sl16 sl17 sl18 sl19 sl20 sl21 sl22 sl23 sl24:Array (Option Value)}{oc0 kV0 dc0 pm0 cd0 ct0 oc1 kV1 dc1 pm1 cd1 ct1 oc2 kV2 dc2 pm2 cd2 ct2 oc3 kV3 dc3 pm3 cd3 ct3 oc4 kV4 dc4 pm4 cd4 ct4 oc5 kV5 dc5 pm5 cd5 ct5 oc6 kV6 dc6 pm6 cd6 ct6 oc7 kV7 dc7 pm7 cd7 ct7 oc8 kV8 dc8 pm8 cd8 ct8 oc9 kV9 dc9 pm9 cd9 ct9 oc10 kV10 dc10 pm10 cd10 ct10 oc11 kV11 dc11 pm11 cd11 ct11 oc12 kV12 dc12 pm12 cd12 ct12 oc13 kV13 dc13 pm13 cd13 ct13 oc14 kV14 dc14 pm14 cd14 ct14 oc15 kV15 dc15 pm15 cd15 ct15 oc16 kV16 dc16 pm16 cd16 ct16 oc17 kV17 dc17 pm17 cd17 ct17 oc18 kV18 dc18 pm18 cd18 ct18 oc19 kV19 dc19 pm19 cd19 ct19 oc20 kV20 dc20 pm20 cd20 ct20 oc21 kV21 dc21 pm21 cd21 ct21 oc22 kV22 dc22 pm22 cd22 ct22 oc23 kV23 dc23 pm23 cd23 ct23 oc24 kV24 dc24 pm24 cd24 ct24:Value}
  {da2:Addr}{doc2:Value}{dod2:Option Addr}{dn2:Nat}{dsl2:Array (Option Value)}{dt2_0:Tok}
  (a0:YaC K mainGlobals "is_whole"=some (some (.ref f0))) (l0:K.lookup f0=some ⟨oc0,od0,.func (YaN "is_whole" "is_whole" (Zap Zde) (Zam Zde) (Zac Zde) .none kV0 dc0 pm0 an0 cd0 ct0),sl0⟩) (c0:YaL K cd0 "is_whole"=true) (k0:YaE K (.ref f0)=true)
  (a1:YaC K mainGlobals "check_ways"=some (some (.ref f1))) (l1:K.lookup f1=some ⟨oc1,od1,.func (YaN "check_ways" "check_ways" (Zap Zf3) (Zam Zf3) (Zac Zf3) .none kV1 dc1 pm1 an1 cd1 ct1),sl1⟩) (c1:YaL K cd1 "check_ways"=true) (k1:YaE K (.ref f1)=true)
  (a2:YaC K mainGlobals "check_level"=some (some (.ref f2))) (l2:K.lookup f2=some ⟨oc2,od2,.func (YaN "check_level" "check_level" (Zap Zdg) (Zam Zdg) (Zac Zdg) (.ref da2) kV2 dc2 pm2 an2 cd2 ct2),sl2⟩) (c2:YaL K cd2 "check_level"=true) (k2:YaE K (.ref f2)=true)
  (d2:K.lookup da2=some ⟨doc2,dod2,.seq #[.int 300 dt2_0] dn2,dsl2⟩)
  (a3:YaC K mainGlobals "first_counts"=some (some (.ref f3))) (l3:K.lookup f3=some ⟨oc3,od3,.func (YaN "first_counts" "first_counts" (Zap Zdh) (Zam Zdh) (Zac Zdh) .none kV3 dc3 pm3 an3 cd3 ct3),sl3⟩) (c3:YaL K cd3 "first_counts"=true) (k3:YaE K (.ref f3)=true)
  (a4:YaC K mainGlobals "next_counts"=some (some (.ref f4))) (l4:K.lookup f4=some ⟨oc4,od4,.func (YaN "next_counts" "next_counts" (Zap ZeZ) (Zam ZeZ) (Zac ZeZ) .none kV4 dc4 pm4 an4 cd4 ct4),sl4⟩) (c4:YaL K cd4 "next_counts"=true) (k4:YaE K (.ref f4)=true)
  (a5:YaC K mainGlobals "merged_row"=some (some (.ref f5))) (l5:K.lookup f5=some ⟨oc5,od5,.func (YaN "merged_row" "merged_row" (Zap Zcj) (Zam Zcj) (Zac Zcj) .none kV5 dc5 pm5 an5 cd5 ct5),sl5⟩) (c5:YaL K cd5 "merged_row"=true) (k5:YaE K (.ref f5)=true)
  (a6:YaC K mainGlobals "things_in"=some (some (.ref f6))) (l6:K.lookup f6=some ⟨oc6,od6,.func (YaN "things_in" "things_in" (Zap ZeY) (Zam ZeY) (Zac ZeY) .none kV6 dc6 pm6 an6 cd6 ct6),sl6⟩) (c6:YaL K cd6 "things_in"=true) (k6:YaE K (.ref f6)=true)
  (a7:YaC K mainGlobals "taken_at"=some (some (.ref f7))) (l7:K.lookup f7=some ⟨oc7,od7,.func (YaN "taken_at" "taken_at" (Zap ZeX) (Zam ZeX) (Zac ZeX) .none kV7 dc7 pm7 an7 cd7 ct7),sl7⟩) (c7:YaL K cd7 "taken_at"=true) (k7:YaE K (.ref f7)=true)
  (a8:YaC K mainGlobals "level_phases"=some (some (.ref f8))) (l8:K.lookup f8=some ⟨oc8,od8,.func (YaN "level_phases" "level_phases" (Zap sLPh) (Zam sLPh) (Zac sLPh) .none kV8 dc8 pm8 an8 cd8 ct8),sl8⟩) (c8:YaL K cd8 "level_phases"=true) (k8:YaE K (.ref f8)=true)
  (a9:YaC K mainGlobals "level_with"=some (some (.ref f9))) (l9:K.lookup f9=some ⟨oc9,od9,.func (YaN "level_with" "level_with" (Zap sLW) (Zam sLW) (Zac sLW) .none kV9 dc9 pm9 an9 cd9 ct9),sl9⟩) (c9:YaL K cd9 "level_with"=true) (k9:YaE K (.ref f9)=true)
  (a10:YaC K mainGlobals "copied_turned"=some (some (.ref f10))) (l10:K.lookup f10=some ⟨oc10,od10,.func (YaN "copied_turned" "copied_turned" (Zap Zf5) (Zam Zf5) (Zac Zf5) .none kV10 dc10 pm10 an10 cd10 ct10),sl10⟩) (c10:YaL K cd10 "copied_turned"=true) (k10:YaE K (.ref f10)=true)
  (a11:YaC K mainGlobals "merged_turned"=some (some (.ref f11))) (l11:K.lookup f11=some ⟨oc11,od11,.func (YaN "merged_turned" "merged_turned" (Zap ZdI) (Zam ZdI) (Zac ZdI) .none kV11 dc11 pm11 an11 cd11 ct11),sl11⟩) (c11:YaL K cd11 "merged_turned"=true) (k11:YaE K (.ref f11)=true)
  (a12:YaC K mainGlobals "things_turned"=some (some (.ref f12))) (l12:K.lookup f12=some ⟨oc12,od12,.func (YaN "things_turned" "things_turned" (Zap sThT) (Zam sThT) (Zac sThT) .none kV12 dc12 pm12 an12 cd12 ct12),sl12⟩) (c12:YaL K cd12 "things_turned"=true) (k12:YaE K (.ref f12)=true)
  (a13:YaC K mainGlobals "turned_phase"=some (some (.ref f13))) (l13:K.lookup f13=some ⟨oc13,od13,.func (YaN "turned_phase" "turned_phase" (Zap sPhT) (Zam sPhT) (Zac sPhT) .none kV13 dc13 pm13 an13 cd13 ct13),sl13⟩) (c13:YaL K cd13 "turned_phase"=true) (k13:YaE K (.ref f13)=true)
  (a14:YaC K mainGlobals "turned_play"=some (some (.ref f14))) (l14:K.lookup f14=some ⟨oc14,od14,.func (YaN "turned_play" "turned_play" (Zap ZbK) (Zam ZbK) (Zac ZbK) .none kV14 dc14 pm14 an14 cd14 ct14),sl14⟩) (c14:YaL K cd14 "turned_play"=true) (k14:YaE K (.ref f14)=true)
  (a15:YaC K mainGlobals "_law_sorted"=some (some (.ref f15))) (l15:K.lookup f15=some ⟨oc15,od15,.func (YaN "_law_sorted" "_law_sorted" (Zap Za7) (Zam Za7) (Zac Za7) .none kV15 dc15 pm15 an15 cd15 ct15),sl15⟩) (c15:YaL K cd15 "_law_sorted"=true) (k15:YaE K (.ref f15)=true)
  (a16:YaC K mainGlobals "_law_pot"=some (some (.ref f16))) (l16:K.lookup f16=some ⟨oc16,od16,.func (YaN "_law_pot" "_law_pot" (Zap Zf4) (Zam Zf4) (Zac Zf4) .none kV16 dc16 pm16 an16 cd16 ct16),sl16⟩) (c16:YaL K cd16 "_law_pot"=true) (k16:YaE K (.ref f16)=true)
  (a17:YaC K mainGlobals "_law_take"=some (some (.ref f17))) (l17:K.lookup f17=some ⟨oc17,od17,.func (YaN "_law_take" "_law_take" (Zap Zdf) (Zam Zdf) (Zac Zdf) .none kV17 dc17 pm17 an17 cd17 ct17),sl17⟩) (c17:YaL K cd17 "_law_take"=true) (k17:YaE K (.ref f17)=true)
  (a18:YaC K mainGlobals "_law_counts"=some (some (.ref f18))) (l18:K.lookup f18=some ⟨oc18,od18,.func (YaN "_law_counts" "_law_counts" (Zap Zbq) (Zam Zbq) (Zac Zbq) .none kV18 dc18 pm18 an18 cd18 ct18),sl18⟩) (c18:YaL K cd18 "_law_counts"=true) (k18:YaE K (.ref f18)=true)
  (a19:YaC K mainGlobals "_law_level"=some (some (.ref f19))) (l19:K.lookup f19=some ⟨oc19,od19,.func (YaN "_law_level" "_law_level" (Zap Ze0) (Zam Ze0) (Zac Ze0) .none kV19 dc19 pm19 an19 cd19 ct19),sl19⟩) (c19:YaL K cd19 "_law_level"=true) (k19:YaE K (.ref f19)=true)
  (a20:YaC K mainGlobals "_law_read_back"=some (some (.ref f20))) (l20:K.lookup f20=some ⟨oc20,od20,.func (YaN "_law_read_back" "_law_read_back" (Zap ZcL) (Zam ZcL) (Zac ZcL) .none kV20 dc20 pm20 an20 cd20 ct20),sl20⟩) (c20:YaL K cd20 "_law_read_back"=true) (k20:YaE K (.ref f20)=true)
  (a21:YaC K mainGlobals "_law_reels"=some (some (.ref f21))) (l21:K.lookup f21=some ⟨oc21,od21,.func (YaN "_law_reels" "_law_reels" (Zap Zbo) (Zam Zbo) (Zac Zbo) .none kV21 dc21 pm21 an21 cd21 ct21),sl21⟩) (c21:YaL K cd21 "_law_reels"=true) (k21:YaE K (.ref f21)=true)
  (a22:YaC K mainGlobals "_law_play"=some (some (.ref f22))) (l22:K.lookup f22=some ⟨oc22,od22,.func (YaN "_law_play" "_law_play" (Zap Zbp) (Zam Zbp) (Zac Zbp) .none kV22 dc22 pm22 an22 cd22 ct22),sl22⟩) (c22:YaL K cd22 "_law_play"=true) (k22:YaE K (.ref f22)=true)
  (a23:YaC K mainGlobals "_law_formed"=some (some (.ref f23))) (l23:K.lookup f23=some ⟨oc23,od23,.func (YaN "_law_formed" "_law_formed" (Zap Zck) (Zam Zck) (Zac Zck) .none kV23 dc23 pm23 an23 cd23 ct23),sl23⟩) (c23:YaL K cd23 "_law_formed"=true) (k23:YaE K (.ref f23)=true)
  (a24:YaC K mainGlobals "law"=some (some (.ref f24))) (l24:K.lookup f24=some ⟨oc24,od24,.func (YaN "law" "law" (Zap sLaw) (Zam sLaw) (Zac sLaw) .none kV24 dc24 pm24 an24 cd24 ct24),sl24⟩) (c24:YaL K cd24 "law"=true) (k24:YaE K (.ref f24)=true)
  (y0:YaC K mainGlobals "LEAST_WAYS"=some (some (.int 2 tk0)))
  (y1:YaC K mainGlobals "MOST_WAYS"=some (some (.int 7 tk1)))
  (z0:YaC K mainGlobals "isinstance"=some none) (z1:YaC K mainGlobals "int"=some none) (z2:YaC K mainGlobals "bool"=some none) (z3:YaC K mainGlobals "list"=some none) (z4:YaC K mainGlobals "tuple"=some none) (z5:YaC K mainGlobals "min"=some none) (z6:YaC K mainGlobals "max"=some none) (z7:YaC K mainGlobals "len"=some none) (z8:YaC K mainGlobals "range"=some none) (z9:YaC K mainGlobals "all"=some none) (z10:YaC K mainGlobals "sum"=some none) (z11:YaC K mainGlobals "sorted"=some none) (z12:YaC K mainGlobals "zip"=some none) (zenumerate:YaC K mainGlobals "enumerate"=some none) (zstr:YaC K mainGlobals "str"=some none) :
  ∃ fd:FuncData,(∀ (s:Shared) (v:Value),BindsTo s fd ⟨[v],[]⟩ [("script",v)])/\∀ base:Heap,K.In base->base.Ns mainGlobals mg->FnOk l.prog w K mg base CX0 5 fa fd ["script"] (Zid K):=by
 have e:=hfa.symm.trans (Ye7 X G a24);cases e;have T:Txt mg:=⟨Ya7 X G z0,Ya7 X G z1,Ya7 X G z2,Ya7 X G z3,Ya7 X G z4,Ya7 X G z5,Ya7 X G z6,Ya7 X G z7,Ya7 X G z8,Ya7 X G z9,Ya7 X G z10,Ya7 X G z11,Ya7 X G z12⟩
 have F0:=ZaL (st:=Zde) l0 c0 k0;have b0:=F0.binds (ps:=["thing"]) fun _ _ _ _ _ _ us hl=>@len1 (fun us=>bindArgs _ ⟨us,[]⟩=pure (YbN _ us)) us hl fun _=>rfl;have F1:=ZaL (st:=Zf3) l1 c1 k1;have b1:=F1.binds (ps:=["p"]) fun _ _ _ _ _ _ us hl=>@len1 (fun us=>bindArgs _ ⟨us,[]⟩=pure (YbN _ us)) us hl fun _=>rfl;have F2:=Zkb (st:=Zdg) l2 c2 k2;have b2:=F2.binds (ps:=["n","last"]) d2 rfl [.int 300 dt2_0] ["n"] rfl fun _ _ _ _ _ _ us hl=>match us,hl with | [_],_=>⟨_,rfl,rfl⟩
 have F3:=ZaL (st:=Zdh) l3 c3 k3;have b3:=F3.binds (ps:=["p"]) fun _ _ _ _ _ _ us hl=>@len1 (fun us=>bindArgs _ ⟨us,[]⟩=pure (YbN _ us)) us hl fun _=>rfl;have F4:=ZaL (st:=ZeZ) l4 c4 k4;have b4:=F4.binds (ps:=["counts"]) fun _ _ _ _ _ _ us hl=>@len1 (fun us=>bindArgs _ ⟨us,[]⟩=pure (YbN _ us)) us hl fun _=>rfl;have F5:=ZaL (st:=Zcj) l5 c5 k5;have b5:=F5.binds (ps:=["rows"]) fun _ _ _ _ _ _ us hl=>@len1 (fun us=>bindArgs _ ⟨us,[]⟩=pure (YbN _ us)) us hl fun _=>rfl;have F6:=ZaL (st:=ZeY) l6 c6 k6;have b6:=F6.binds (ps:=["rows"]) fun _ _ _ _ _ _ us hl=>@len1 (fun us=>bindArgs _ ⟨us,[]⟩=pure (YbN _ us)) us hl fun _=>rfl;have F7:=ZaL (st:=ZeX) l7 c7 k7;have b7:=F7.binds (ps:=["taken","at"]) fun _ _ _ _ _ _ us hl=>@len2 (fun us=>bindArgs _ ⟨us,[]⟩=pure (YbN _ us)) us hl fun _ _=>rfl;have F8:=ZaL (st:=sLPh) l8 c8 k8;have b8:=F8.binds (ps:=["p","n"]) fun _ _ _ _ _ _ us hl=>@len2 (fun us=>bindArgs _ ⟨us,[]⟩=pure (YbN _ us)) us hl fun _ _=>rfl;have F9:=ZaL (st:=sLW) l9 c9 k9;have b9:=F9.binds (ps:=["p","counts"]) fun _ _ _ _ _ _ us hl=>@len2 (fun us=>bindArgs _ ⟨us,[]⟩=pure (YbN _ us)) us hl fun _ _=>rfl;have F10:=ZaL (st:=Zf5) l10 c10 k10;have b10:=F10.binds (ps:=["row"]) fun _ _ _ _ _ _ us hl=>@len1 (fun us=>bindArgs _ ⟨us,[]⟩=pure (YbN _ us)) us hl fun _=>rfl;have F11:=ZaL (st:=ZdI) l11 c11 k11;have b11:=F11.binds (ps:=["rows","at"]) fun _ _ _ _ _ _ us hl=>@len2 (fun us=>bindArgs _ ⟨us,[]⟩=pure (YbN _ us)) us hl fun _ _=>rfl;have F12:=ZaL (st:=sThT) l12 c12 k12;have b12:=F12.binds (ps:=["rows"]) fun _ _ _ _ _ _ us hl=>@len1 (fun us=>bindArgs _ ⟨us,[]⟩=pure (YbN _ us)) us hl fun _=>rfl;have F13:=ZaL (st:=sPhT) l13 c13 k13;have b13:=F13.binds (ps:=["reels","phase","merged"]) fun _ _ _ _ _ _ us hl=>@len3 (fun us=>bindArgs _ ⟨us,[]⟩=pure (YbN _ us)) us hl fun _ _ _=>rfl;have F14:=ZaL (st:=ZbK) l14 c14 k14;have b14:=F14.binds (ps:=["p","reels"]) fun _ _ _ _ _ _ us hl=>@len2 (fun us=>bindArgs _ ⟨us,[]⟩=pure (YbN _ us)) us hl fun _ _=>rfl;have F15:=ZaL (st:=Za7) l15 c15 k15;have b15:=F15.binds (ps:=["things","up"]) fun _ _ _ _ _ _ us hl=>@len2 (fun us=>bindArgs _ ⟨us,[]⟩=pure (YbN _ us)) us hl fun _ _=>rfl;have F16:=ZaL (st:=Zf4) l16 c16 k16;have b16:=F16.binds (ps:=["script","k"]) fun _ _ _ _ _ _ us hl=>@len2 (fun us=>bindArgs _ ⟨us,[]⟩=pure (YbN _ us)) us hl fun _ _=>rfl;have F17:=ZaL (st:=Zdf) l17 c17 k17;have b17:=F17.binds (ps:=["pot","many"]) fun _ _ _ _ _ _ us hl=>@len2 (fun us=>bindArgs _ ⟨us,[]⟩=pure (YbN _ us)) us hl fun _ _=>rfl;have F18:=ZaL (st:=Zbq) l18 c18 k18;have b18:=F18.binds (ps:=["p","n"]) fun _ _ _ _ _ _ us hl=>@len2 (fun us=>bindArgs _ ⟨us,[]⟩=pure (YbN _ us)) us hl fun _ _=>rfl;have F19:=ZaL (st:=Ze0) l19 c19 k19;have b19:=F19.binds (ps:=["pot","p","most"]) fun _ _ _ _ _ _ us hl=>@len3 (fun us=>bindArgs _ ⟨us,[]⟩=pure (YbN _ us)) us hl fun _ _ _=>rfl;have F20:=ZaL (st:=ZcL) l20 c20 k20;have b20:=F20.binds (ps:=["p","n"]) fun _ _ _ _ _ _ us hl=>@len2 (fun us=>bindArgs _ ⟨us,[]⟩=pure (YbN _ us)) us hl fun _ _=>rfl;have F21:=ZaL (st:=Zbo) l21 c21 k21;have b21:=F21.binds (ps:=["pot","p","n"]) fun _ _ _ _ _ _ us hl=>@len3 (fun us=>bindArgs _ ⟨us,[]⟩=pure (YbN _ us)) us hl fun _ _ _=>rfl;have F22:=ZaL (st:=Zbp) l22 c22 k22;have b22:=F22.binds (ps:=["p","n","reels"]) fun _ _ _ _ _ _ us hl=>@len3 (fun us=>bindArgs _ ⟨us,[]⟩=pure (YbN _ us)) us hl fun _ _ _=>rfl;have F23:=ZaL (st:=Zck) l23 c23 k23;have b23:=F23.binds (ps:=["told","p"]) fun _ _ _ _ _ _ us hl=>@len2 (fun us=>bindArgs _ ⟨us,[]⟩=pure (YbN _ us)) us hl fun _ _=>rfl;have F24:=ZaL (st:=sLaw) l24 c24 k24;refine⟨YaN "law" "law" (Zap sLaw) (Zam sLaw) (Zac sLaw) .none kV24 dc24 pm24 an24 cd24 ct24,fun s v=>.of_eq rfl,fun base _ _=>?_⟩;have m:=fun {x:Str}{v:Value} (a:YaC K mainGlobals x=some (some v))=>Ye7 X G a;have mLEAST_WAYS:=m y0;have mMOST_WAYS:=m y1;have Cis_whole:Cal l.prog w K mg base 1 "is_whole" ["thing"] Zdx _ _:=⟨Ziy F0 T,m a0,k0,b0⟩
 have Ccheck_ways:Cal l.prog w K mg base 2 "check_ways" ["p"] Zfr _ _:=⟨ZjV F1 T mLEAST_WAYS mMOST_WAYS Cis_whole,m a1,k1,b1⟩
 have Ccheck_level:CalD l.prog w K mg base 2 "check_level" ["n","last"] [.int 300] ZdC _ _:=⟨ZiE F2 T Cis_whole,m a2,k2,⟨_,b2,.cons ⟨_,rfl⟩ (.nil)⟩⟩
 have Cfirst_counts:Cal l.prog w K mg base 1 "first_counts" ["p"] ZdE _ _:=⟨ZiG F3 T,m a3,k3,b3⟩
 have Cnext_counts:Cal l.prog w K mg base 1 "next_counts" ["counts"] (Zfs K) _ _:=⟨ZjX F4 T,m a4,k4,b4⟩
 have Cmerged_row:Cal l.prog w K mg base 1 "merged_row" ["rows"] ZdB _ _:=⟨Zg6 F5 T,m a5,k5,b5⟩
 have Cthings_in:Cal l.prog w K mg base 1 "things_in" ["rows"] ZjB _ _:=⟨Ziz F6 T,m a6,k6,b6⟩
 have Ctaken_at:Cal l.prog w K mg base 1 "taken_at" ["taken","at"] Zjz _ _:=⟨Zk4 F7 T,m a7,k7,b7⟩
 have Clevel_phases:Cal l.prog w K mg base 3 "level_phases" ["p","n"] ZjD _ _:=⟨Zk8 F8 T (Ya7 X G zenumerate) Ccheck_ways Ccheck_level Cfirst_counts Cnext_counts,m a8,k8,b8⟩
 have Clevel_with:Cal l.prog w K mg base 2 "level_with" ["p","counts"] (spLW K) _ _:=⟨Zk7 F9 T Cfirst_counts Cnext_counts,m a9,k9,b9⟩
 have Ccopied_turned:Cal l.prog w K mg base 1 "copied_turned" ["row"] ZgA _ _:=⟨Zj0 F10 T,m a10,k10,b10⟩
 have Cmerged_turned:Cal l.prog w K mg base 2 "merged_turned" ["rows","at"] Zgy _ _:=⟨ZjY F11 T Cmerged_row,m a11,k11,b11⟩
 have Cthings_turned:Cal l.prog w K mg base 2 "things_turned" ["rows"] ZjA _ _:=⟨Zk5 F12 T Cthings_in,m a12,k12,b12⟩
 have Cturned_phase:Cal l.prog w K mg base 3 "turned_phase" ["reels","phase","merged"] ZjC _ _:=⟨Zk6 F13 T Cmerged_turned Ctaken_at Cthings_turned,m a13,k13,b13⟩
 have Cturned_play:Cal l.prog w K mg base 4 "turned_play" ["p","reels"] (ZeV K) _ _:=⟨ZiD F14 T Ccheck_ways Clevel_with Ccopied_turned Clevel_phases Cturned_phase,m a14,k14,b14⟩
 have C_law_sorted:Cal l.prog w K mg base 1 "_law_sorted" ["things","up"] Zdy _ _:=⟨ZiB F15 T,m a15,k15,b15⟩
 have C_law_pot:Cal l.prog w K mg base 1 "_law_pot" ["script","k"] (Zgx K) _ _:=⟨ZjW F16 T,m a16,k16,b16⟩
 have C_law_take:Cal l.prog w K mg base 1 "_law_take" ["pot","many"] ZcJ _ _:=⟨ZiA F17 T,m a17,k17,b17⟩
 have C_law_counts:Cal l.prog w K mg base 1 "_law_counts" ["p","n"] ZbZ _ _:=⟨Zga F18 T,m a18,k18,b18⟩
 have C_law_level:Cal l.prog w K mg base 2 "_law_level" ["pot","p","most"] Zgz _ _:=⟨ZjZ F19 T C_law_counts C_law_take,m a19,k19,b19⟩
 have C_law_read_back:Cal l.prog w K mg base 2 "_law_read_back" ["p","n"] Zdz _ _:=⟨ZiC F20 T C_law_counts,m a20,k20,b20⟩
 have C_law_reels:Cal l.prog w K mg base 3 "_law_reels" ["pot","p","n"] ZcK _ _:=⟨Zf9 F21 T C_law_sorted C_law_take C_law_read_back,m a21,k21,b21⟩
 have C_law_play:Cal l.prog w K mg base 2 "_law_play" ["p","n","reels"] ZdA _ _:=⟨Zg5 F22 T C_law_sorted,m a22,k22,b22⟩
 have C_law_formed:Cal l.prog w K mg base 1 "_law_formed" ["told","p"] ZdD _ _:=⟨Zg7 F23 T,m a23,k23,b23⟩
 exact ZiF F24 T (Ya7 X G zstr) C_law_pot C_law_take C_law_level C_law_reels C_law_play Cturned_play C_law_formed
theorem walk {l:YdE}{q:Program}{loose:List Str}{XP:(Str->Option Value)->Heap->Prop}{YP:World->Heap->Prop}{d:DefRec}{K:Params->Yae} (hn:l.most=some 63) (hdf:d.params.defaults=[])
  (hY:∀ (w:World) (h:Heap),YP w h->(K w.params).In h)
  (F:∀ (w:World) (mg:Str->Option Value) (fa:Addr) (h:Heap),(K w.params).In h->h.Ns mainGlobals mg->mg d.name=some (.ref fa) ->
   ∃ fd:FuncData,(∀ (s:Shared) (u:Value),BindsTo s fd ⟨[u],[]⟩ [("script",u)])/\∀ base:Heap,(K w.params).In base->base.Ns mainGlobals mg->FnOk l.prog w (K w.params) mg base CX0 5 fa fd ["script"] (Zid (K w.params))) :
  Ye8 q loose XP YP l.row.toRowW d [] (fun f vs=>YeR f vs) :=
 L2.walk_of (n:=63) (k:=5) (x:="script") (CX:=fun _=>CX0) (sp:=fun w=>Zid (K w.params)) hn (by decide) hdf ⟨rfl,by decide,by decide,rfl⟩ hY F (fun _ _ a ns hl _ hS=>⟨a,ns,rfl,hS,hl,fun _=>rfl⟩) fun _ _ _ _ _ z=>z
end Fi56
def PySem.W.Fast.tw11227713676761716384 : Unit := ()
def PySem.W.Fast.tw3687955037087202674 : Unit := ()
def PySem.W.Fast.tw5488071864910214585 : Unit := ()
def PySem.W.Fast.tw13395940246890820069 : Unit := ()
def PySem.W.Fast.tw15370010321705277195 : Unit := ()
def PySem.W.Fast.tw2086833565055304725 : Unit := ()
def PySem.W.Fast.tw3747255797143370430 : Unit := ()
def PySem.W.Fast.tw859907121782046667 : Unit := ()
def PySem.W.Fast.tw14380916936820645248 : Unit := ()
def PySem.W.Fast.tw13223864972126339765 : Unit := ()
def PySem.W.Fast.tw16331912843999602142 : Unit := ()
def PySem.W.Fast.tw4456170649983385258 : Unit := ()
def PySem.W.Fast.tw6764842692600004300 : Unit := ()
def PySem.W.Fast.tw16756559867984605287 : Unit := ()
def PySem.W.Fast.tw14979513280687529863 : Unit := ()
def PySem.W.Fast.tw16424322552798921420 : Unit := ()
def PySem.W.Fast.tw9509333784519130558 : Unit := ()
def PySem.W.Fast.tw4232001330920847669 : Unit := ()
def PySem.W.Fast.tw18140416372256579327 : Unit := ()
def PySem.W.Fast.tw14806698108740853692 : Unit := ()
def PySem.W.Fast.tw14814835817509740194 : Unit := ()
def PySem.W.Fast.tw15490651880252761921 : Unit := ()
def PySem.W.Fast.tw6369587223077482665 : Unit := ()
def PySem.W.Fast.tw4204909003296850859 : Unit := ()
def PySem.W.Fast.tw6867192505306912819 : Unit := ()
def PySem.W.Fast.tw12623635427368040919 : Unit := ()
def PySem.W.Fast.tw912844640312068959 : Unit := ()
def PySem.W.Fast.tw5029118991737118435 : Unit := ()
def PySem.W.Fast.tw2294818406054491388 : Unit := ()
def PySem.W.Fast.tw16562509138806419125 : Unit := ()
def PySem.W.Fast.tw4654145666943233886 : Unit := ()
def PySem.W.Fast.tw13717662606622670941 : Unit := ()
def PySem.W.Fast.tw13962687163234714142 : Unit := ()
def PySem.W.Fast.tw4739278747665355317 : Unit := ()
def PySem.W.Fast.tw3247483784396805515 : Unit := ()
def PySem.W.Fast.tw15242164845860734458 : Unit := ()
def PySem.W.Fast.tw3161981461515613551 : Unit := ()
def PySem.W.Fast.tw2017915804031429657 : Unit := ()
def PySem.W.Fast.tw10547445220425111518 : Unit := ()
def PySem.W.Fast.tw16675339490687437619 : Unit := ()
def PySem.W.Fast.tw17793361863243184585 : Unit := ()
def PySem.W.Fast.tw2031747131047557054 : Unit := ()
def PySem.W.Fast.tw11276000774338489117 : Unit := ()
def PySem.W.Fast.tw12146779035967638083 : Unit := ()
def PySem.W.Fast.tw420312550128523614 : Unit := ()
def PySem.W.Fast.tw13036021489234490853 : Unit := ()
def PySem.W.Fast.tw7414326793829396419 : Unit := ()
def PySem.W.Fast.tw1228004423440199575 : Unit := ()
def PySem.W.Fast.tw16499566706328194725 : Unit := ()
def PySem.W.Fast.tw2197384043719729744 : Unit := ()
def PySem.W.Fast.tw13654872642315817412 : Unit := ()
def PySem.W.Fast.tw14317320769657598296 : Unit := ()
def PySem.W.Fast.tw17571755041670021724 : Unit := ()
def PySem.W.Fast.tw1952473246783863693 : Unit := ()
def PySem.W.Fast.tw4924993586093261041 : Unit := ()
def PySem.W.Fast.tw12029272698290831049 : Unit := ()
def PySem.W.Fast.tw9721259468993952143 : Unit := ()
def PySem.W.Fast.tw8381011172989803597 : Unit := ()
def PySem.W.Fast.tw4285017075563422284 : Unit := ()
def PySem.W.Fast.tw12214432473384834738 : Unit := ()
def PySem.W.Fast.tw2585486406523935821 : Unit := ()
def PySem.W.Fast.tw9389158987789396737 : Unit := ()
def PySem.W.Fast.tw8821073170820915611 : Unit := ()
def PySem.W.Fast.tw17906089983044201273 : Unit := ()
def PySem.W.Fast.tw11437305754591200031 : Unit := ()
def PySem.W.Fast.tw16199151350096217436 : Unit := ()
def PySem.W.Fast.tw16632030548354331517 : Unit := ()
def PySem.W.Fast.tw18123868155226383528 : Unit := ()
def PySem.W.Fast.tw8619868213782560656 : Unit := ()
def PySem.W.Fast.tw11348789525726905132 : Unit := ()
def PySem.W.Fast.tw9679139346809384861 : Unit := ()
def PySem.W.Fast.tw2186475070477529096 : Unit := ()
def PySem.W.Fast.tw12148029905044236916 : Unit := ()
def PySem.W.Fast.tw12592624045295648027 : Unit := ()
def PySem.W.Fast.tw11913051687861333078 : Unit := ()
def PySem.W.Fast.tw17814895229850988023 : Unit := ()
def PySem.W.Fast.tw3144107820662360604 : Unit := ()
def PySem.W.Fast.tw12268082667631782211 : Unit := ()
def PySem.W.Fast.tw16633730815897330197 : Unit := ()
def PySem.W.Fast.tw6531718214069858737 : Unit := ()
def PySem.W.Fast.tw15306860009537974465 : Unit := ()
def PySem.W.Fast.tw15392588688791030620 : Unit := ()
def PySem.W.Fast.tw18393900710873467269 : Unit := ()
def PySem.W.Fast.tw10693672616449784537 : Unit := ()
def PySem.W.Fast.tw370481160839891443 : Unit := ()
def PySem.W.Fast.tw1279849987285809908 : Unit := ()
def PySem.W.Fast.tw13117658783178428297 : Unit := ()
def PySem.W.Fast.tw13819614416060859479 : Unit := ()
def PySem.W.Fast.tw2498459440269690002 : Unit := ()
def PySem.W.Fast.tw6974735645670424576 : Unit := ()
def PySem.W.Fast.tw13364198206662177545 : Unit := ()
def PySem.W.Fast.tw10667327389294791424 : Unit := ()
def PySem.W.Fast.tw5820283102049944528 : Unit := ()
def PySem.W.Fast.tw3542149975107521042 : Unit := ()
def PySem.W.Fast.tw10366680148537967895 : Unit := ()
def PySem.W.Fast.tw14730446066633902549 : Unit := ()
def PySem.W.Fast.tw8423098065350875600 : Unit := ()
def PySem.W.Fast.tw9921632765981357973 : Unit := ()
def PySem.W.Fast.tw11124288284686726547 : Unit := ()
def PySem.W.Fast.tw12582652029616007070 : Unit := ()
def PySem.W.Fast.tw8082418370382943087 : Unit := ()
def PySem.W.Fast.tw11961928923861371112 : Unit := ()
def PySem.W.Fast.tw1983382185999505621 : Unit := ()
def PySem.W.Fast.tw2575282345760226082 : Unit := ()
def PySem.W.Fast.tw16674241617255458756 : Unit := ()
def PySem.W.Fast.tw1680532044567289751 : Unit := ()
def PySem.W.Fast.tw5698478530137659399 : Unit := ()
def PySem.W.Fast.tw3434238945968357672 : Unit := ()
def PySem.W.Fast.tw16697252813233546466 : Unit := ()
def PySem.W.Fast.tw6711117173135965818 : Unit := ()
def PySem.W.Fast.tw1377142060246312409 : Unit := ()
def PySem.W.Fast.tw5309425323881481583 : Unit := ()
def PySem.W.Fast.tw18172895278489850167 : Unit := ()
def PySem.W.Fast.tw11184402308413599254 : Unit := ()
def PySem.W.Fast.tw10013300403247818039 : Unit := ()
def PySem.W.Fast.tw12207450544267756813 : Unit := ()
def PySem.W.Fast.tw5984343679854028891 : Unit := ()
def PySem.W.Fast.tw2570552724879515226 : Unit := ()
def PySem.W.Fast.tw3896125087414092583 : Unit := ()
def PySem.W.Fast.tw38929961772654972 : Unit := ()
open PySem PySem.W PyProof.Rows
set_option maxRecDepth 100000 in
set_option maxHeartbeats 0 in
theorem PySem.Challenge.cw_fewreels_k56_turned_rows_played_holds : PySem.Challenge.rw_fewreels_k56_turned_rows_played.Holds := by
  w_on; o_law; k_head; (case hw => w_witness2)
  k_fill
  refine Fi56.walk (l := PySem.Challenge.rw_fewreels_k56_turned_rows_played) rfl rfl (fun w h Y => PySem.W.kIn_of Y) ?F
  case F =>
    intro w mg fa h KX G hmg
    refine' Fi56.all_mk KX G hmg ?a0 ?l0 ?c0 ?k0 ?a1 ?l1 ?c1 ?k1 ?a2 ?l2 ?c2 ?k2 ?d2 ?a3 ?l3 ?c3 ?k3 ?a4 ?l4 ?c4 ?k4 ?a5 ?l5 ?c5 ?k5 ?a6 ?l6 ?c6 ?k6 ?a7 ?l7 ?c7 ?k7 ?a8 ?l8 ?c8 ?k8 ?a9 ?l9 ?c9 ?k9 ?a10 ?l10 ?c10 ?k10 ?a11 ?l11 ?c11 ?k11 ?a12 ?l12 ?c12 ?k12 ?a13 ?l13 ?c13 ?k13 ?a14 ?l14 ?c14 ?k14 ?a15 ?l15 ?c15 ?k15 ?a16 ?l16 ?c16 ?k16 ?a17 ?l17 ?c17 ?k17 ?a18 ?l18 ?c18 ?k18 ?a19 ?l19 ?c19 ?k19 ?a20 ?l20 ?c20 ?k20 ?a21 ?l21 ?c21 ?k21 ?a22 ?l22 ?c22 ?k22 ?a23 ?l23 ?c23 ?k23 ?a24 ?l24 ?c24 ?k24 ?y0 ?y1 ?z0 ?z1 ?z2 ?z3 ?z4 ?z5 ?z6 ?z7 ?z8 ?z9 ?z10 ?z11 ?z12 ?zenumerate ?zstr
    (case a0 => k_is); (case l0 => k_is); (case c0 => k_is); (case k0 => k_is); (case a1 => k_is); (case l1 => k_is)
    (case c1 => k_is); (case k1 => k_is); (case a2 => k_is); (case l2 => k_is); (case c2 => k_is); (case k2 => k_is)
    (case d2 => k_is); (case a3 => k_is); (case l3 => k_is); (case c3 => k_is); (case k3 => k_is); (case a4 => k_is)
    (case l4 => k_is); (case c4 => k_is); (case k4 => k_is); (case a5 => k_is); (case l5 => k_is); (case c5 => k_is)
    (case k5 => k_is); (case a6 => k_is); (case l6 => k_is); (case c6 => k_is); (case k6 => k_is); (case a7 => k_is)
    (case l7 => k_is); (case c7 => k_is); (case k7 => k_is); (case a8 => k_is); (case l8 => k_is); (case c8 => k_is)
    (case k8 => k_is); (case a9 => k_is); (case l9 => k_is); (case c9 => k_is); (case k9 => k_is); (case a10 => k_is)
    (case l10 => k_is); (case c10 => k_is); (case k10 => k_is); (case a11 => k_is); (case l11 => k_is); (case c11 => k_is)
    (case k11 => k_is); (case a12 => k_is); (case l12 => k_is); (case c12 => k_is); (case k12 => k_is); (case a13 => k_is)
    (case l13 => k_is); (case c13 => k_is); (case k13 => k_is); (case a14 => k_is); (case l14 => k_is); (case c14 => k_is)
    (case k14 => k_is); (case a15 => k_is); (case l15 => k_is); (case c15 => k_is); (case k15 => k_is); (case a16 => k_is)
    (case l16 => k_is); (case c16 => k_is); (case k16 => k_is); (case a17 => k_is); (case l17 => k_is); (case c17 => k_is)
    (case k17 => k_is); (case a18 => k_is); (case l18 => k_is); (case c18 => k_is); (case k18 => k_is); (case a19 => k_is)
    (case l19 => k_is); (case c19 => k_is); (case k19 => k_is); (case a20 => k_is); (case l20 => k_is); (case c20 => k_is)
    (case k20 => k_is); (case a21 => k_is); (case l21 => k_is); (case c21 => k_is); (case k21 => k_is); (case a22 => k_is)
    (case l22 => k_is); (case c22 => k_is); (case k22 => k_is); (case a23 => k_is); (case l23 => k_is); (case c23 => k_is)
    (case k23 => k_is); (case a24 => k_is); (case l24 => k_is); (case c24 => k_is); (case k24 => k_is); (case y0 => k_is)
    (case y1 => k_is); (case z0 => k_is); (case z1 => k_is); (case z2 => k_is); (case z3 => k_is); (case z4 => k_is)
    (case z5 => k_is); (case z6 => k_is); (case z7 => k_is); (case z8 => k_is); (case z9 => k_is); (case z10 => k_is)
    (case z11 => k_is); (case z12 => k_is); (case zenumerate => k_is); (case zstr => k_is)
