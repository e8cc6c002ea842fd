import PyProof.Rows.All
import Wide.All
import OpenK.AllK
import Wide.FinOn
import Lean
import PyProof.EqAt
import PyProof.EqKinds
import PyProof.TupleCall
import PyProof.NeKinds
import PyProof.Draws
import PyProof.SumWalkG
import PyProof.ListRange
import PyProof.ZipIter
import PyProof.Rows.SortRev
import KE.IntBitsLaws
import PyProof.ListMulRoad
import PyProof.TupleKey
import PyProof.ReprRoads
import PyProof.ReprLen
import PyProof.CallStr
import PyProof.Rows.RuleIs
import PyProof.StrLawsRepr
import PyProof.Rows.SortShellK
import KE.KSortTup
import PyProof.Rows.SeqMore2
import KE.KRevIter
import PyProof.RulesTry
import PyProof.StationsW
import PyProof.RulesAs
import PyProof.NsDelKeeps
import PyProof.Rows.Own
import PyProof.Rows.Catch
import KE.KTryMore
import KE.KIsNot
import OpenK.KDescr
import PyProof.ExcAttrAll.ValueError
import PyProof.FString
import PyProof.InstStoreFacts
import OpenK.KMake
import KE.KItemsList
import KE.KPairComp
import PyProof.DictWalks
import KE.KDictSum
import PyProof.Rows.TupAdd
import PyProof.FactsAll.range_2
import PyProof.RangeFor
import PyProof.Rows.StrJoin2
import PyProof.Rows.Range3
import PySem.Challenge.RW_fewreels_k59_whole_just_two_ways
open List renaming length_map → Yaa, getElem?_eq_some_iff → Yab, getElem?_eq_getElem → Yae, getElem?_map → Yaf, mem_of_getElem? → Yah, length_append → Yai, replicate → Yak, mem_cons → Yal, range → Yan, mem_cons_of_mem → Yao, mem_append_right → Yaq, mem_append → Yar, getElem?_append_left → Yas, getD_eq_getElem?_getD → Yat, map_cons → Yav, size_toArray → Yaw, getElem?_append_right → Yax, mem_cons_self → YaA, filterMap_cons → YaH, mem_singleton → YaI, sum_cons → YaJ, append_assoc → YaK, length_take → YaL, flatten_cons → YaM, map_append → YaP, take_append_drop → YaQ, take_length → YaR, pairwise_append → YaS, mem_append_left → YaT, length_drop → YaU, mem_map → YaV, map_map → YaW, getElem?_set_ne → YaY, length_cons → Ya3, mem_of_mem_take → Ya4, getElem?_take_of_lt → Ya9, take_add_one → Yba, length_reverse → Ybb, map_congr_left → Ybe, mem_range → Ybf, getElem?_of_mem → Ybg, getElem?_set_self → Ybh, mem_filterMap → Ybi, append_nil → Ybj, length_eq_zero_iff → Ybl, zip → Ybm, mem_reverse → Ybo, lookup_cons → Ybs, take_of_length_le → Ybu, reverse_cons → Ybx, getElem?_range → Yby, length_replicate → YbD, length_filterMap_le → YbE, getElem?_drop → YbF, length_range → YbI, length_flatten → YbJ, length → YbK, flatten_append → YbL, length_eq_one_iff → YbM, getElem?_reverse → YbP, take_zero → YbQ, flatten_replicate_singleton → YbR, mem_of_mem_drop → YbT, length_set → YbU, replicate_succ → YbV, mem_singleton_self → YbW, not_mem_nil → YbY, mem_flatten → YbZ, map_reverse → Yb0, pairwise_cons → Yb3, filterMap_map → Yb4, mem_filter → Yb9, getElem?_eq_none → Yca, getElem_mem → Ycl, all_eq_true → Ycm, reverse_append → Ycp, take_succ_eq_append_getElem → Yct, zipWith → Ycx, reverse_nil → YcC, cons_append → YcD, range_succ → YcG, nodup_cons → YcH, take_left → YcS, mem_or_eq_of_mem_set → YcT, pairwise_map → YcX, map_nil → Yc4, length_singleton → Yc5, filter_eq_self → Yc7, any_cons → Ydd, reverse_perm → Ydj, getElem_take → Ydk, zipIdx_cons → Yds, sum_append → Ydy, of_mem_zip → Ydz, nil_append → YdA, forIn_cons → YdB, pairwise_iff_getElem → YdL, nodup_nil → YdM, drop_eq_getElem_cons → YdN, foldl → YdS, take_nil → YdT, pairwise_singleton → YdU, getElem?_replicate → YdV, flatten_eq_nil_iff → YdW, range_succ_eq_map → Yd2, singleton_append → Yd4, perm_append_comm → Yd5, map_set → Yd6, length_filter_le → Yd7, getElem?_zipWith → Yd8, filterMap_append → Yd9, extract → Yea, reverse_reverse → Yeh, mem_iff_getElem → Yei, map_eq_cons_iff → Yej, length_zipWith → Yel, getElem_of_mem → Yem, mem_replicate → Yet, map_replicate → Yeu, filter_append → Yev, take_reverse → YeC, getElem_drop → YeD, ext_getElem? → YeE, perm_middle → YeI, ext_getElem → YeJ, cons_ne_nil → YeK
open PySem.Heap renaming get?_push_of_some → Yac, lt_size → Yaj, get?_push_size → YaB, size_push → Ybn, get?_none_of_le → Ych, get?_update_self → Ycz, SameBut → YcA, get?_update_ne → YcI, get?_some_iff → YcQ, get?_update_other → Yc1, IsTuple → Yc6, ExtBut → Yc8, get?_push_at → Ydl, IsList → YdD
open PySem.W renaming Frag → Yad, keepIn → Yay, nsIn → Yaz, codeIn → YaD, fnOf → YaE, mg_none_of → Ya5, kia_one → Ybq, findIn → Ycs, kitOne → YcK, methodObj → Yda, instObj → Ydn, OpenLaw → Ydo, lookIn → Ydt, cellsFrom_some → YdK, callWith_K → Yd3, specialIn → Yee, kitx_list → Yef, kitx_dict → Yeg, plainGet → Yek, exmOne → Yex, mg_of → YeG, WalkO → YeH
open Nat renaming lt_of_lt_of_le → Yag, le_refl → Yap, ne_of_lt → YaF, zero_le → YaX, lt_irrefl → Ya8, le_of_lt → Ybc, lt_or_ge → Ybd, le_trans → Ybk, ne_of_gt → Ybp, zero_add → Ybt, lt_succ_self → Yb1, le_succ → Ycw, add_sub_cancel_left → Yc0, eq_zero_or_pos → Ydf, mod_lt → Ydp, lt_succ_of_lt → Ydq, mod_eq_of_lt → Ydu, max_eq_right → Ydv, not_lt_zero → YdI, add_lt_add_left → Yes, lt_or_eq_of_le → Yez, lt_of_le_of_lt → YeA
open Array renaming getElem?_toList → Yam, getD_eq_getD_getElem? → YaZ, toList_append → Ya2, length_toList → Ya7, getElem?_eq_some_iff → YbN, toList_reverse → Ycg, getElem?_eq_getElem → Ycj, toList_push → Ycu, toList_extract → YcE, getElem?_modify → Yc2, getElem?_setIfInBounds_self → Ydb, toList_setIfInBounds → YdF, perm_iff_toList_perm → YdG
open Option.some renaming inj → Yau
open Bool renaming false_ne_true → YaC, false_eq_true → YaO, and_eq_true → Ya6, eq_iff_iff → YcJ, not_true → YcZ
open Or renaming inl → YaG, inr → YcV
open Int renaming toNat_natCast → YaN, eq_ofNat_of_zero_le → YbX, emod_lt_of_pos → Yb8, zero_add → Ycd, le_refl → Ycq, emod_nonneg → Ycr, toNat → Ydh, fdiv_eq_ediv_of_nonneg → YdO
open PySem.Builtin.SmallTypes renaming nextOf → Ya0, ownedTupleIsFree → YbB, ownedTupleHandOut → YcM
open ForInStep renaming yield → Ya1, done → Yce
open PySem.Builtin.Int renaming intBits → Ybr
open PySem renaming mem_of_lookup → Ybv, boot_len → Ybz, passOn → Yd1, call → Yep
open PySem.PassesOwn renaming never → Ybw
open Ne renaming symm → YbA
open PySem.Value renaming ref → YbC, none → YbS, bool → YdJ, str → YdZ, int → Yd0, float → Yed, type → Yeo
open PyProof.Rows renaming callWith_type1 → YbG, slot_tuple_getitem → Yco, envOfC → Ydx
open False renaming elim → YbH
open PySem.Obj renaming mapSeq → YbO, mapFields → Ycf, data_mapFields → Yey
open List.Perm renaming append_left → Yb2, append_right → YcW, trans → Ydg, refl → Yen
open PySem.Builtin.Slice renaming slicePlaces → Yb5, sliceAdjust → YcB, sliceApplied → Yc9
open PySem.NameKind renaming free → Yb6, cell → YeB
open PyProof.Rows.KeyOrd renaming kle_refl → Yb7, kle_of_klt → Ycb, kle_trans → Ycy, kle_antisymm → Yeb
open PySem.Builtin.Tuple renaming tupleExact → Ycc
open PySem.AutoSeq1 renaming wpAny_loadPart' → Yci
open PySem.Shared renaming heap → Yck
open List.Pairwise renaming nil → Ycn
open True renaming intro → Ycv
open PySem.Builtin.List renaming listTooLong → YcF
open Option renaming toList_some → YcL, none → Ydr, getD_none → Yer
open Function renaming comp_def → YcN
open PySem.F renaming type_list_append → YcO, slot_list_append → YcP, plainAttrs_list → YcU
open PySem.Str renaming ofString → YcR, empty → Yde
open PySem.Builtin.ObjectAttr renaming storeInDict → YcY, newKeyGuard → YeF
open PySem.W.Looks renaming here → Yc3
open PyProof.Rows.SortSt renaming mk' → Ydc
open PySem.Builtin.Range renaming rangeSize → Ydi
open Sum renaming inl → Ydm, inr → YdH
open PySem.Heap.IsSliceOf renaming new → Ydw
open PySem.Heap.SameBut renaming update → YdC
open PySem.Calls renaming Name_function_global → YdE
open PySem.Heap.IsTuple renaming push → YdP
open PySem.SeqAt.EqAt renaming str_int → YdQ, int_str → YdR
open PySem.Heap.IsList renaming push → YdX
open PySem.Around renaming under → YdY
open PySem.Code renaming isFrame → Yec, quiet_builtin → Yew
open Prod renaming ext → Yeq
set_option Elab.async false
set_option linter.all false
set_option maxRecDepth 100000
namespace L2
open PySem PySem.Spec PyProof.Rows
abbrev Key:=Sum Int Str
def ZlX:Key->Value->Bool
 | .inl k,v=>Value.isInt k v
 | .inr x,v=>Value.isStrOf x v
def keyH (w:World):Key->Int
 | .inl k=>hashInt k
 | .inr x=>hashStr w x
theorem ZaI:∀ {k:Key}{v:Value},ZlX k v=true->(∃ i t,k=Ydm i/\v=Yd0 i t)∨(∃ x t,k=YdH x/\v=YdZ x t)
 | .inl i,v,h=>by
  obtain⟨t,e⟩:=Value.isInt_shape (k:=i) (v:=v) h;exact .inl ⟨i,t,rfl,e⟩
 | .inr x,v,h=>by
  obtain⟨t,e⟩:=Value.isStrOf_shape (x:=x) (v:=v) h;exact .inr ⟨x,t,rfl,e⟩
theorem ZlW (a b:Int):decide ((Ydm a:Key)=Ydm b)=(a == b):=by
 by_cases e:a=b
 ·subst e;simp
 ·have h:¬ (Ydm a:Key)=Ydm b:=fun q=>e (Sum.inl.inj q);rw[decide_eq_false h];exact (beq_eq_false_iff_ne.mpr e).symm
theorem ZlT (a b:Str):decide ((YdH a:Key)=YdH b)=decide (a=b):=by
 by_cases e:a=b
 ·subst e;simp
 ·have h:¬ (YdH a:Key)=YdH b:=fun q=>e (Sum.inr.inj q);rw[decide_eq_false h,decide_eq_false e]
theorem ZlV (a:Int) (b:Str):decide ((Ydm a:Key)=YdH b)=false:=decide_eq_false (fun q=>nomatch q)
theorem ZlU (a:Str) (b:Int):decide ((YdH a:Key)=Ydm b)=false:=decide_eq_false (fun q=>nomatch q)
def ZfF (prog:Program) (w:World):PySem.KeyKind prog w Key where
 is:=ZlX
 hash:=keyH w
 inj:=fun v a b ha hb=>by
  rcases ZaI ha with ⟨i,t,rfl,rfl⟩ | ⟨x,t,rfl,rfl⟩
  ·rcases ZaI hb with ⟨j,u,rfl,e⟩ | ⟨y,u,rfl,e⟩
   ·injection e with e1 _;rw[e1]
   ·exact nomatch e
  ·rcases ZaI hb with ⟨j,u,rfl,e⟩ | ⟨y,u,rfl,e⟩
   ·exact nomatch e
   ·injection e with e1 _;rw[e1]
 byValue:=fun k v h=>by
  rcases ZaI h with ⟨i,t,rfl,rfl⟩ | ⟨x,t,rfl,rfl⟩ <;> rfl
 pyHash:=fun hv h=>by
  rcases ZaI hv with ⟨i,t,rfl,rfl⟩ | ⟨x,t,rfl,rfl⟩
  ·exact wpAny_pyHash_int h
  ·exact wpAny_pyHash_str h
 eqBool:=fun hu hv h=>by
  rcases ZaI hu with ⟨i,t,rfl,rfl⟩ | ⟨x,t,rfl,rfl⟩
  ·rcases ZaI hv with ⟨j,u,rfl,rfl⟩ | ⟨y,u,rfl,rfl⟩
   ·rw[ZlW] at h;exact wpAny_eqBool_int h
   ·rw[ZlV] at h;exact YdR i t y u _ _ _ _ h
  ·rcases ZaI hv with ⟨j,u,rfl,rfl⟩ | ⟨y,u,rfl,rfl⟩
   ·rw[ZlU] at h;exact YdQ x t j u _ _ _ _ h
   ·rw[ZlT] at h;exact wpAny_eqBool_str h
 «strs»:=fun k x t v h=>by
  rcases ZaI h with ⟨i,u,rfl,e⟩ | ⟨y,u,rfl,e⟩
  ·exact nomatch e
  ·injection e with e1 _;subst e1;cases v <;> rfl
end L2
namespace L2
open PySem PySem.Spec PyProof.Rows
inductive V where
 | non | bl (b:Bool) | int (i:Int) | str (x:Str) | byt (b:Array UInt8) | flt (b:UInt64) | ref (a:Addr) | ty (n:String)
 deriving DecidableEq
def RelV:V->Value->Prop
 | .non,u=>u=YbS
 | .bl b,u=>u=YdJ b
 | .int i,u=>∃ t,u=Yd0 i t
 | .str x,u=>∃ t,u=YdZ x t
 | .byt b,u=>∃ t,u=Value.bytes b t
 | .flt b,u=>∃ t,u=Yed b t
 | .ref a,u=>u=YbC a
 | .ty n,u=>u=Yeo n
abbrev Vals:List V->List Value->Prop:=Paired RelV
theorem Vals.length {xs:List V}{us:List Value} (r:Vals xs us):xs.length=us.length:=Paired.length r
theorem Vals.get:∀ {xs:List V}{us:List Value}{i:Nat}{x:V},Vals xs us->xs[i]?=some x->∃ u,us[i]?=some u/\RelV x u
 | _,_,_,_,.nil,e=>by simp at e
 | _,_,0,_,.cons r _,e=>by simp at e;subst e;exact⟨_,rfl,r⟩
 | _,_,i+1,x,.cons _ t,e=>by
  obtain⟨u,h1,h2⟩:=Vals.get (i:=i) (x:=x) t (by simpa using e);exact⟨u,by simpa using h1,h2⟩
theorem Vals.set {x:V}{u:Value} (r:RelV x u):∀ {xs:List V}{us:List Value} (i:Nat),Vals xs us->Vals (xs.set i x) (us.set i u)
 | _,_,_,.nil=>.nil
 | _,_,0,.cons _ t=>.cons r t
 | _,_,i+1,.cons q t=>.cons q (Vals.set r i t)
theorem Vals.append:∀ {xs ys:List V}{us ws:List Value},Vals xs us->Vals ys ws->Vals (xs++ys) (us++ws)
 | _,_,_,_,.nil,s=>s
 | _,_,_,_,.cons r t,s=>.cons r (Vals.append t s)
theorem Vals.take:∀ {xs:List V}{us:List Value} (n:Nat),Vals xs us->Vals (xs.take n) (us.take n)
 | _,_,0,_=>.nil
 | _,_,_+1,.nil=>.nil
 | _,_,n+1,.cons r t=>.cons r (Vals.take n t)
theorem Vals.drop:∀ {xs:List V}{us:List Value} (n:Nat),Vals xs us->Vals (xs.drop n) (us.drop n)
 | _,_,0,r=>r
 | _,_,_+1,.nil=>.nil
 | _,_,n+1,.cons _ t=>Vals.drop n t
def RelO:Option V->Option Value->Prop
 | some v,some u=>RelV v u
 | none,none=>True
 | _,_=>False
def KV {κ:Type}:List (κ × V)->List (κ × Value)->Prop:=Paired fun (p:κ × V) (q:κ × Value)=>p.1=q.1/\RelV p.2 q.2
def kV:Key->V
 | .inl i=>.int i
 | .inr x=>.str x
inductive HO where
 | lst (xs:List V)
 | tup (xs:List V)
 | dK (kvs:List (Key × V)) | dT (kvs:List (List Key × V))
 | set (S:Int->Bool) (n:Nat)
 | ins (C dx:Addr) (fs:List (Str × V))
 | own (x:Addr)
 | xd (fs:List (Str × V))
 | met (f x:Addr)
 | rng (lo hi:Int)
 | frz (o:Obj) (u:HO)
 | tbl (ps:Array Value)
 | ext (φ:Heap->Prop)
abbrev Hp:=Addr->Option HO
def upd (H:Hp) (a:Addr) (o:HO):Hp:=fun b=>if b=a then some o else H b
theorem Zab {H:Hp}{a:Addr}{o:HO}:upd H a o a=some o:=by unfold upd;rw[if_pos rfl]
theorem upd_ne {H:Hp}{a b:Addr}{o:HO} (h:b≠a):upd H a o b=H b:=by unfold upd;rw[if_neg h]
theorem Zaf {H:Hp}{a b:Addr}{o:HO} (h:H a=some o) (h':H b=none):a≠b:=by
 intro e;subst e;rw[h] at h';cases h'
def IsTupD (h:Heap) (a:Addr) (items:Array Value):Prop:=∃ o,h.get? a=some o/\o.cls=.type "tuple"/\o.dict=none/\∃ n,o.data=.seq items n
theorem IsTupD.tup {h:Heap}{a:Addr}{items:Array Value} (x:IsTupD h a items):IsTup h a items:=let ⟨o,e,c,_,d⟩:=x;⟨o,e,c,d⟩
theorem IsTupD.new (h:Heap) (items:Array Value):IsTupD (h.push { cls:=.type "tuple",data:=.seq items }) h.objs.size items:=⟨_,YaB _ rfl,rfl,rfl,_,rfl⟩
section
variable (P:Program) (w:World)
def ObjOk (H:Hp) (h:Heap) (a:Addr):HO->Prop
 | .lst xs=>xs.length<=sizeLine/\∃ (its:List Value) (n:Nat),Vals xs its/\h.get? a=some { cls:=.type "list",data:=.seq its.toArray n }
 | .tup xs=>xs.length<=sizeLine/\∃ its:List Value,Vals xs its/\IsTupD h a its.toArray
 | .dK kvs=>kvs.length<=sizeLine/\(a == sysModules)=false/\∃ vs,KV kvs vs/\h.DictOf (ZfF P w) a vs
 | .dT kvs=>kvs.length<=sizeLine/\(a == sysModules)=false/\∃ xs:List (List Key × Addr × Value),
   Paired (fun (p:List Key × V) (q:List Key × Addr × Value)=>p.1=q.1/\H q.2.1=some (.tup (p.1.map kV))/\RelV p.2 q.2.2) kvs xs /\
   ∃ o es ep,h.get? a=some o/\o.ExactDict/\o.data=.dict es ep/\es.toList=xs.map (entryOfKey (tupleKind (ZfF P w)))/\(xs.map (·.1)).Nodup
 | .set S n=>h.SetOf (intKind P w) a S n
 | .ins C dx fs=>H dx=some (.own a)/\fs.length<=1000/\dx≠a/\h.get? a=some (Ydn C dx) /\
   ∃ mA,h.Ns1 dx mA/\(∀ f,RelO (fs.lookup f) (mA f))/\PySem.Within mA (fs.map (·.1))
 | .own _=>∃ o,h.get? a=some o
 | .xd fs=>∃ mA,h.Ns1 a mA/\∀ f,RelO (fs.lookup f) (mA f)
 | .rng lo hi=>∃ t u v,h.get? a=some { cls:=.type "range",data:=.fields #[.int lo t,.int hi u,.int 1 v] }
 | .frz o u=>h.get? a=some o/\ObjOk H h a u
 | .tbl ps=>h.get? a=some { cls:=.none,data:=.fields ps }
 | .met f x=>h.get? a=some (Yda (.ref f) (.ref x))
 | .ext φ=>φ h/\(∃ o,h.get? a=some o)/\∀ h1 h2:Heap,φ h1->(∀ o,h1.get? a=some o->h2.get? a=some o)->φ h2
def HOk (H:Hp) (h:Heap):Prop:=∀ a o,H a=some o->ObjOk P w H h a o
end
section
variable {P:Program}{w:World}{H H':Hp}{h h':Heap}{a:Addr}{o:HO}
theorem ObjOk.lt (x:ObjOk P w H h a o):a<h.objs.size:=by
 cases o with
 | lst xs=>obtain⟨_,_,_,_,e⟩:=x;exact Yaj e
 | tup xs=>obtain⟨_,_,_,p⟩:=x;exact p.tup.lt
 | dK kvs=>obtain⟨_,_,_,_,o,_,_,e,_⟩:=x;exact Yaj e
 | dT kvs=>obtain⟨_,_,_,_,o,_,_,e,_⟩:=x;exact Yaj e
 | set S n=>obtain⟨o,_,_,_,e,_⟩:=x;exact Yaj e
 | ins C dx fs=>obtain⟨_,_,_,e,_⟩:=x;exact Yaj e
 | own y=>obtain⟨_,e⟩:=x;exact Yaj e
 | xd fs=>obtain⟨_,⟨_,_,_,e,_⟩,_⟩:=x;exact Yaj e
 | rng lo hi=>obtain⟨_,_,_,e⟩:=x;exact Yaj e
 | frz ob u=>obtain⟨e,_⟩:=x;exact Yaj e
 | tbl ps=>exact Yaj (show h.get? a=some _ from x)
 | met f y=>exact Yaj (show h.get? a=some _ from x)
 | ext φ=>obtain⟨_,⟨_,e⟩,_⟩:=x;exact Yaj e
theorem Paired.mapP {α β:Type}{F G:α->β->Prop}:∀ {l₁:List α}{l₂:List β},Paired F l₁ l₂->(∀ a b,F a b->G a b)->Paired G l₁ l₂
 | _,_,.nil,_=>.nil
 | _,_,.cons r t,f=>.cons (f _ _ r) (Paired.mapP t f)
theorem ObjOk.stay (x:ObjOk P w H h a o) (k:∀ b u,(b=a∨H b=some (.own a))->h.get? b=some u->h'.get? b=some u)
  (ho:∀ b,H b=some (.own a)->H' b=some (.own a)) (ht:∀ b xs,H b=some (.tup xs)->H' b=some (.tup xs)):ObjOk P w H' h' a o:=by
 induction o with
 | lst xs=>obtain⟨z,its,n,r,e⟩:=x;exact⟨z,its,n,r,k _ _ (.inl rfl) e⟩
 | tup xs=>obtain⟨z,its,r,ob,e,c⟩:=x;exact⟨z,its,r,ob,k _ _ (.inl rfl) e,c⟩
 | dK kvs=>obtain⟨z,y,vs,r,ob,es,ep,e,c⟩:=x;exact⟨z,y,vs,r,ob,es,ep,k _ _ (.inl rfl) e,c⟩
 | dT kvs=>
  obtain⟨z,y,xs,r,ob,es,ep,e,c⟩:=x;exact⟨z,y,xs,Paired.mapP r fun p q z=>⟨z.1,ht _ _ z.2.1,z.2.2⟩,ob,es,ep,k _ _ (.inl rfl) e,c⟩
 | set S n=>obtain⟨ob,es,ep,t,e,c⟩:=x;exact⟨ob,es,ep,t,k _ _ (.inl rfl) e,c⟩
 | ins C dx fs=>
  obtain⟨d,z,ne,e,mA,⟨od,es,ep,e2,c⟩,r⟩:=x;exact⟨ho _ d,z,ne,k _ _ (.inl rfl) e,mA,⟨od,es,ep,k _ _ (.inr d) e2,c⟩,r⟩
 | own y=>obtain⟨ob,e⟩:=x;exact⟨ob,k _ _ (.inl rfl) e⟩
 | xd fs=>obtain⟨mA,⟨od,es,ep,e,c⟩,r⟩:=x;exact⟨mA,⟨od,es,ep,k _ _ (.inl rfl) e,c⟩,r⟩
 | rng lo hi=>obtain⟨t,u,v,e⟩:=x;exact⟨t,u,v,k _ _ (.inl rfl) e⟩
 | frz ob u ih=>obtain⟨e,q⟩:=x;exact⟨k _ _ (.inl rfl) e,ih q⟩
 | tbl ps=>
  have e:h.get? a=some { cls:=.none,data:=.fields ps }:=x;show h'.get? a=some { cls:=.none,data:=.fields ps };exact k a _ (.inl rfl) e
 | met f y=>
  have e:h.get? a=some (Yda (.ref f) (.ref y)):=x;show h'.get? a=some (Yda (.ref f) (.ref y));exact k a _ (.inl rfl) e
 | ext φ=>obtain⟨p,⟨o,e⟩,st⟩:=x;exact⟨st _ _ p fun o q=>k _ _ (.inl rfl) q,⟨o,k _ _ (.inl rfl) e⟩,st⟩
theorem HOk.lt (x:HOk P w H h) (e:H a=some o):a<h.objs.size:=(x a o e).lt
theorem HOk.fresh (x:HOk P w H h) (e:h.objs.size<=a):H a=none:=by
 cases q:H a with
 | none=>rfl
 | some u=>exact absurd (Yag (x.lt q) e) (Ya8 _)
theorem HOk.kept (x:HOk P w H h) (k:∀ b u,h.get? b=some u->h'.get? b=some u):HOk P w H h':=fun a o e=>
 (x a o e).stay (fun b u _ q=>k b u q) (fun _ q=>q) fun _ _ q=>q
theorem HOk.laid (x:HOk P w H h) (k:∀ b u,h.get? b=some u->h'.get? b=some u) (hp:h.objs.size<=a) (new:ObjOk P w (upd H a o) h' a o):HOk P w (upd H a o) h':=fun b u e=>by
 have hn:=x.fresh hp;by_cases hb:b=a
 ·subst hb;rw[Zab] at e;cases e;exact new
 ·rw[upd_ne hb] at e;exact (x b u e).stay (fun c v _ q=>k c v q) (fun c q=>by rw[upd_ne (Zaf q hn)];exact q) fun c xs q=>by rw[upd_ne (Zaf q hn)];exact q
end
def Rd (H:Hp) (a:Addr) (u:HO):Prop:=H a=some u∨∃ o,H a=some (.frz o u)
theorem Rd.ok {P:Program}{w:World}{H:Hp}{h:Heap}{a:Addr}{u:HO} (r:Rd H a u) (x:HOk P w H h):ObjOk P w H h a u:=by
 rcases r with r | ⟨o,r⟩
 ·exact x a u r
 ·obtain⟨_,q⟩:=x a _ r;exact q
def Mut:Option HO->Prop
 | some (.lst _)=>True
 | some (.dK _)=>True
 | some (.dT _)=>True
 | some (.set _ _)=>True
 | some (.ins _ _ _)=>True
 | some (.ext _)=>True
 | _=>False
section
variable {P:Program}{w:World}{H:Hp}{h h':Heap}{x e:Addr}{o':HO}
theorem HOk.write (ok:HOk P w H h) (mu:Mut (H x)) (he:e=x∨H e=some (.own x)) (k:∀ b u,b≠e->h.get? b=some u->h'.get? b=some u) (heo:∃ u,h'.get? e=some u)
  (new:ObjOk P w (upd H x o') h' x o'):HOk P w (upd H x o') h':=fun b u q=>by
 have nown:∀ c y,H c=some (.own y)->c≠x:=fun c y r z=>by subst z;rw[r] at mu;exact mu
 have ntup:∀ c xs,H c=some (.tup xs)->c≠x:=fun c xs r z=>by subst z;rw[r] at mu;exact mu
 by_cases hb:b=x
 ·subst hb;rw[Zab] at q;cases q;exact new
 ·rw[upd_ne hb] at q;by_cases hbe:b=e
  ·have q':H b=some (.own x):=by
    rcases he with z | z
    ·exact absurd (hbe.trans z) hb
    ·rw[hbe];exact z
   rw[q] at q';cases q';obtain⟨v,hv⟩:=heo;exact⟨v,by rw[hbe];exact hv⟩
  ·refine (ok b u q).stay (fun c v hc r=>k c v ?_ r) (fun c r=>by rw[upd_ne (nown c b r)];exact r) fun c xs r=>by rw[upd_ne (ntup c xs r)];exact r
   rcases hc with rfl | hc
   ·exact hbe
   ·rintro rfl;rcases he with z | z
    ·exact nown c b hc z
    ·rw[hc] at z;cases z;exact hb rfl
end
structure Un (fs ex:List Addr) (H H':Hp) (h h':Heap):Prop where
 keep:∀ b o,h.get? b=some o->H b=none->b ∉ fs->b ∉ ex->h'.get? b=some o
 slot:∀ b o,h.get? b=some o->H b=none->b∈fs->b ∉ ex->∃ sl,h'.get? b=some { o with slots:=sl }
 free:∀ b o,h.get? b=some o->H b=none->b ∉ ex->H' b=none
 there:∀ b o,h.get? b=some o->b ∉ ex->∃ o',h'.get? b=some o'
 tups:∀ b xs,H b=some (.tup xs)->H' b=some (.tup xs)
 frzs:∀ b o u,H b=some (.frz o u)->H' b=some (.frz o u)
 tbls:∀ b ps,H b=some (.tbl ps)->∃ more,H' b=some (.tbl (ps++more))
section
variable {fs fs' ex ex':List Addr}{H H1 H2:Hp}{h h1 h2 h':Heap}{a x e:Addr}{o:HO}
theorem Un.any (u:Un fs ex H H1 h h1) {b:Addr}{ob:Obj} (q:h.get? b=some ob) (n:H b=none) (hx:b ∉ ex):∃ sl,h1.get? b=some { ob with slots:=sl }:=by
 by_cases hb:b∈fs
 ·exact u.slot b ob q n hb hx
 ·exact⟨ob.slots,u.keep b ob q n hb hx⟩
theorem Un.kept (k:∀ b u,h.get? b=some u->h'.get? b=some u):Un fs ex H H h h' :=
 ⟨fun b ob q _ _ _=>k b ob q,fun b ob q _ _ _=>⟨ob.slots,k b ob q⟩,fun _ _ _ n _=>n,fun b ob q _=>⟨ob,k b ob q⟩,fun _ _ q=>q,fun _ _ _ q=>q,fun _ ps q=>⟨#[],by rw[q];simp⟩⟩
theorem Un.refl:Un fs ex H H h h:=Un.kept fun _ _ q=>q
theorem Un.laid (k:∀ b u,h.get? b=some u->h'.get? b=some u) (hp:h.objs.size<=a) (hn:H a=none):Un fs ex H (upd H a o) h h' where
 keep:=fun b u q _ _ _=>k b u q
 slot:=fun b u q _ _ _=>⟨u.slots,k b u q⟩
 free:=fun b u q n _=>by rw[upd_ne (YaF (Yag (Yaj q) hp))];exact n
 there:=fun b u q _=>⟨u,k b u q⟩
 tups:=fun b xs q=>by rw[upd_ne (Zaf q hn)];exact q
 frzs:=fun b u xs q=>by rw[upd_ne (Zaf q hn)];exact q
 tbls:=fun b ps q=>⟨#[],by rw[upd_ne (Zaf q hn),q];simp⟩
theorem Un.write (mu:Mut (H x)) (he:e=x∨H e=some (.own x)) (k:∀ b u,b≠e->h.get? b=some u->h'.get? b=some u) (heo:∃ u,h'.get? e=some u):Un fs ex H (upd H x o) h h':=by
 have hx:∀ b,H b=none->b≠x:=fun b n z=>by subst z;rw[n] at mu;exact mu
 have hb:∀ b,H b=none->b≠e:=fun b n z=>by
  subst z;rcases he with r | r
  ·exact hx b n r
  ·rw[n] at r;cases r
 have hm:∀ b u,H b=some u->¬ Mut (some u)->b≠x:=fun b u q nm z=>by subst z;rw[q] at mu;exact nm mu
 refine⟨fun b u q n _ _=>k b u (hb b n) q,fun b u q n _ _=>⟨u.slots,k b u (hb b n) q⟩,fun b u q n _=>by rw[upd_ne (hx b n)];exact n,fun b u q _=>?_,
  fun b xs q=>by rw[upd_ne (hm b _ q fun z=>z)];exact q,fun b u xs q=>by rw[upd_ne (hm b _ q fun z=>z)];exact q,fun b ps q=>⟨#[],by rw[upd_ne (hm b _ q fun z=>z),q];simp⟩⟩
 by_cases hbe:b=e
 ·subst hbe;exact heo
 ·exact⟨u,k b u hbe q⟩
end
def trk (h:Heap) (H:Hp):List Addr:=(Yan h.objs.size).filter fun a=>(H a).isSome
def hidT (h:Heap) (H:Hp):Heap:=PySem.W.hideAll h (trk h H)
theorem Zh8 (h:Heap) (H:Hp):(hidT h H).objs.size=h.objs.size:=PySem.W.hideAll_size _ _
theorem Zjs {h:Heap}{H:Hp}{b:Addr}{o:Obj} (e:h.get? b=some o) (n:H b=none):(hidT h H).get? b=some o :=
 PySem.W.hideAll_get _ e fun hm=>by
  have q:(H b).isSome=true:=(Yb9.mp hm).2
  rw[n] at q;simp at q
theorem ZkH {h:Heap}{H:Hp}{b:Addr}{o:Obj} (e:(hidT h H).get? b=some o):h.get? b=some o/\H b=none:=by
 have e':h.get? b=some o:=PySem.W.of_hideAll (trk h H) e;refine⟨e',?_⟩
 cases q:H b with
 | none=>rfl
 | some x=>
  have hm:b∈trk h H:=Yb9.mpr ⟨Ybf.mpr (Yaj e'),by simp[q]⟩;have z:(hidT h H).get? b=none:=PySem.W.hideAll_none (trk h H) hm;rw[z] at e;cases e
def Zk5 (g h:Heap) (L:Addr):List (Addr × Obj):=(Yan h.objs.size).filterMap fun a=>if a=L∨(g.get? a).isSome=true then none else (h.get? a).map fun o=>(a,o)
def rest (g h:Heap) (L d:Addr):List (Addr × Obj):=(Zk5 g h L).filter fun p=>decide (p.1≠d)
end L2
namespace L2
open PySem PySem.Spec PyProof.Rows
structure Mod (K:Yad) (mg:Str->Option Value) (base:Heap):Prop where
 kin:K.In base
 glob:base.Ns mainGlobals mg
 blt:∃ mb,base.Ns builtinsNs mb/\∀ x:Str,x≠"__name__"->mb x=bootBuiltins x
 nolimit:base.NoLimit
structure Cx where
 prog:Program
 w:World
 K:Yad
 mg:Str->Option Value
 base:Heap
 A:Around
 N:List Str
 s₀:Shared
 H₀:Hp
 env:Env
 outer:List Env
 stack:List Env
 ex:List Addr
 fn:Str->Bool
 calm:Bool
 pn:List (Addr × Obj)
 xe:Value->Shared->Prop
def frs (l:List Env):List Addr:=l.filterMap (·.frame)
abbrev Cx.fs (X:Cx):List Addr:=frs X.outer
def Vis (sc:Scope) (x:Str):Prop:=sc.names.lookup x=some .local ∨ sc.names.lookup x=some .cell∨sc.names.lookup x=some .free
def Loc (sc:Scope) (x:Str):Prop:=sc.names.lookup x=some .local ∨ sc.names.lookup x=some .cell
def Look (env:Env) (h:Heap) (m:Str->Option Value) (x:Str) (u:Value):Prop :=
 (env.kindOf x=some .local /\ m x=some u)∨((env.kindOf x=some .cell∨env.kindOf x=some .free)/\∃ c,env.cells.lookup x=some c/\h.IsCell c (some u))
structure Cx.Ok (X:Cx):Prop where
 mod:Mod X.K X.mg X.base
 kind:X.env.scope.kind=.function
 glob:X.env.globals=mainGlobals
 blt:X.env.builtins=builtinsNs
 above:X.s₀.heap.objs.size<=X.env.locals
 inj:∀ x y c,X.env.cells.lookup x=some c->X.env.cells.lookup y=some c->x=y
 has:∀ x,(X.env.kindOf x=some .cell∨X.env.kindOf x=some .free)->∃ c,X.env.cells.lookup x=some c
 cab:∀ x c,X.fn x=true->X.env.cells.lookup x=some c->X.s₀.heap.objs.size<=c
 hd:X.calm=true->X.A.handled=none
 frames:X.A.frames=some X.stack
 stk:X.stack=X.outer∨(X.stack=X.env::X.outer/\X.env.frame=some X.env.locals)
 exf:∀ b∈X.ex,b≠X.env.locals/\∀ x c,X.env.cells.lookup x=some c->c≠b
 bs:∀ b o,X.base.get? b=some o->X.s₀.heap.get? b=some o/\X.H₀ b=none
 bsz:X.base.objs.size<=X.s₀.heap.objs.size
 noex:∀ b o,X.base.get? b=some o->b ∉ X.ex
 exfs:∀ b∈X.ex,b ∉ X.fs
 funs:X.s₀.heap.FunFrames X.base X.outer
 frf:∀ b∈X.fs,X.H₀ b=none
structure Inv (X:Cx) (pins:List (Addr × Obj)) (σ:List (Option V)) (H:Hp) (s:Shared):Prop where
 ok:X.Ok
 os:s.os=X.s₀.os
 bare:AllBare s.gens
 base:Un X.fs X.ex X.H₀ H X.s₀.heap s.heap
 loc:∃ m,s.heap.Ns X.env.locals m/\∀ (i:Nat) (x:Str) (v:V),X.N[i]?=some x->σ[i]?=some (some v)->Vis X.env.scope x->∃ u,RelV v u/\Look X.env s.heap m x u
 cell:∀ x c,X.env.cells.lookup x=some c->∃ v,s.heap.IsCell c v
 free:H X.env.locals=none
 freeC:∀ x c,X.env.cells.lookup x=some c->H c=none
 pin:∀ p∈X.pn++pins,s.heap.get? p.1=some p.2/\H p.1=none/\p.1≠X.env.locals/\p.1 ∉ X.fs/\∀ v,p.2.data≠.cell v
 hok:HOk X.prog X.w H s.heap
 len:σ.length=X.N.length
section
variable {X:Cx}{pins:List (Addr × Obj)}{σ:List (Option V)}{H H':Hp}{s:Shared}{h':Heap}
theorem Cx.Ok.nofr (ok:X.Ok) {b:Addr}{o:Obj} (e:X.base.get? b=some o):b ∉ X.fs:=fun hb=>by
 have:=(ok.funs.mem hb).1
 rw[e] at this;cases this
theorem Inv.bs (I:Inv X pins σ H s):∀ b o,X.base.get? b=some o->s.heap.get? b=some o/\H b=none:=fun b o e=>
 ⟨I.base.keep b o (I.ok.bs b o e).1 (I.ok.bs b o e).2 (I.ok.nofr e) (I.ok.noex b o e),I.base.free b o (I.ok.bs b o e).1 (I.ok.bs b o e).2 (I.ok.noex b o e)⟩
theorem Inv.bk (I:Inv X pins σ H s):∀ b o,X.base.get? b=some o->s.heap.get? b=some o:=fun b o e=>(I.bs b o e).1
theorem Inv.mod (I:Inv X pins σ H s):Mod X.K X.mg X.base:=I.ok.mod
theorem Inv.kIn (I:Inv X pins σ H s):X.K.In s.heap:=I.ok.mod.kin.keeps I.bk
theorem Inv.lt (I:Inv X pins σ H s):X.env.locals<s.heap.objs.size:=let ⟨_,hn,_⟩:=I.loc;hn.lt
theorem Inv.sz (I:Inv X pins σ H s):X.s₀.heap.objs.size<=s.heap.objs.size:=Ybk I.ok.above (Ybc I.lt)
theorem Inv.nofs (I:Inv X pins σ H s) {a:Addr} (h:s.heap.objs.size<=a):a ∉ X.fs:=fun hb=>by
 obtain⟨_,o,ho,_⟩:=I.ok.funs.mem hb;exact absurd (Yag (Yaj ho) (Ybk I.sz h)) (Ya8 _)
theorem Inv.cne (I:Inv X pins σ H s):∀ x c,X.env.cells.lookup x=some c->c≠X.env.locals:=fun x c e z=>by
 obtain⟨v,o,ho,hd⟩:=I.cell x c e;obtain⟨m,⟨o',es,ep,ho',hd',_⟩,_⟩:=I.loc;rw[z,ho'] at ho;cases ho;rw[hd'] at hd;cases hd
theorem Inv.funs (I:Inv X pins σ H s):s.heap.FunFrames X.base X.outer:=by
 have all:∀ (l:List Env),(∀ b∈frs l,b∈X.fs)->X.s₀.heap.FunFrames X.base l->s.heap.FunFrames X.base l:=by
  intro l
  induction l with
  | nil=>intro _ _;trivial
  | cons env r ih=>
   intro hs hl;obtain⟨hk,⟨L,o,hf,hn,ho,hd⟩,hr⟩:=hl;have hL:L∈X.fs:=hs L (by unfold frs;rw[YaH,hf];exact YaA);obtain⟨sl,e⟩:=I.base.slot L o ho (I.ok.frf L hL) hL fun z=>I.ok.exfs L z hL;exact⟨hk,⟨L,_,hf,hn,e,hd⟩,ih (fun b hb=>hs b (by unfold frs;rw[YaH,hf];exact Yao _ hb)) hr⟩
 exact all X.outer (fun _ hb=>hb) I.ok.funs
theorem Inv.stack (I:Inv X pins σ H s):s.heap.FunFrames X.base X.stack:=by
 rcases I.ok.stk with e | ⟨e,hf⟩
 ·rw[e];exact I.funs
 ·rw[e];obtain⟨m,hn,_⟩:=I.loc;refine .cons (by rw[I.ok.kind];decide) hf hn ?_ I.funs;exact Ych (Ybk I.ok.bsz I.ok.above)
theorem Inv.stkSub (I:Inv X pins σ H s):∀ b∈frs X.stack,b∈X.env.locals::X.fs:=fun b hb=>by
 rcases I.ok.stk with e | ⟨e,hf⟩
 ·rw[e] at hb;exact Yao _ hb
 ·rw[e] at hb;unfold frs at hb;rw[YaH,hf] at hb;exact hb
theorem Inv.stkFree (I:Inv X pins σ H s):∀ b∈frs X.stack,H b=none:=fun b hb=>by
 rcases Yal.mp (I.stkSub b hb) with e | hb
 ·rw[e];exact I.free
 ·obtain⟨_,o,ho,_⟩:=I.ok.funs.mem hb;exact I.base.free b o ho (I.ok.frf b hb) fun z=>I.ok.exfs b z hb
theorem Inv.step {g':Array GenState}{t':Nat}{d':Drawn}{ch:List Addr} (I:Inv X pins σ H s)
  (hch:∀ b∈ch,(b∈X.ex∨X.s₀.heap.objs.size<=b)/\b≠X.env.locals/\(∀ x c,X.env.cells.lookup x=some c->c≠b)/\∀ p∈X.pn++pins,p.1≠b)
  (keep:∀ b o,b≠X.env.locals->b ∉ X.fs->b ∉ ch->s.heap.get? b=some o->H b=none->h'.get? b=some o)
  (slot:∀ b o,b≠X.env.locals->b∈X.fs->b ∉ ch->s.heap.get? b=some o->H b=none->∃ sl,h'.get? b=some { o with slots:=sl }) (free:∀ b o,b ∉ ch->s.heap.get? b=some o->H b=none->H' b=none)
  (there:∀ b o,b ∉ ch->s.heap.get? b=some o->∃ o',h'.get? b=some o')
  (tups:∀ b xs,H b=some (.tup xs)->H' b=some (.tup xs)) (frzs:∀ b o u,H b=some (.frz o u)->H' b=some (.frz o u)) (tbls:∀ b ps,H b=some (.tbl ps)->∃ more,H' b=some (.tbl (ps++more)))
  (ns:∀ m,s.heap.Ns X.env.locals m->h'.Ns X.env.locals m) (hok:HOk X.prog X.w H' h') (hg:AllBare g') :
  Inv X pins σ H' { s with heap:=h',gens:=g',drawn:=d',toks:=t' }:=by
 have neL:∀ b o,X.s₀.heap.get? b=some o->b≠X.env.locals:=fun b o e=>YaF (Yag (Yaj e) I.ok.above);have neC:∀ b o,X.s₀.heap.get? b=some o->b ∉ X.ex->b ∉ ch:=fun b o e hx hb=>by
  rcases (hch b hb).1 with z | z
  ·exact hx z
  ·exact absurd (Yag (Yaj e) z) (Ya8 _)
 have cellK:∀ x c,X.env.cells.lookup x=some c->∀ v,s.heap.IsCell c v->h'.IsCell c v:=fun x c e v ⟨o,ho,hd⟩=>by
  have nch:c ∉ ch:=fun z=>(hch c z).2.2.1 x c e rfl;by_cases hc:c∈X.fs
  ·obtain⟨sl,q⟩:=slot c o (I.cne x c e) hc nch ho (I.freeC x c e);exact⟨_,q,hd⟩
  ·exact⟨o,keep c o (I.cne x c e) hc nch ho (I.freeC x c e),hd⟩
 refine⟨I.ok,I.os,hg,⟨fun b o e n hb hx=>?_,fun b o e n hb hx=>?_,fun b o e n hx=>?_,fun b o e hx=>?_,fun b xs e=>tups b xs (I.base.tups b xs e),fun b o xs e=>frzs b o xs (I.base.frzs b o xs e),fun b ps e=>?_⟩,?_,fun x c e=>?_,?_,fun x c e=>?_,fun p hp=>?_,hok,I.len⟩
 ·exact keep b o (neL b o e) hb (neC b o e hx) (I.base.keep b o e n hb hx) (I.base.free b o e n hx)
 ·obtain⟨sl,e1⟩:=I.base.slot b o e n hb hx;obtain⟨sl',e2⟩:=slot b _ (neL b o e) hb (neC b o e hx) e1 (I.base.free b o e n hx);exact⟨sl',e2⟩
 ·obtain⟨o',e1⟩:=I.base.there b o e hx;exact free b o' (neC b o e hx) e1 (I.base.free b o e n hx)
 ·obtain⟨o',e1⟩:=I.base.there b o e hx;exact there b o' (neC b o e hx) e1
 ·obtain⟨m1,e1⟩:=I.base.tbls b ps e;obtain⟨m2,e2⟩:=tbls b _ e1;exact⟨m1++m2,by rw[e2,Array.append_assoc]⟩
 ·obtain⟨m,hn,hl⟩:=I.loc;refine⟨m,ns m hn,fun i x v e1 e2 e3=>?_⟩;obtain⟨u,r,l⟩:=hl i x v e1 e2 e3;refine⟨u,r,?_⟩;rcases l with l | ⟨k,c,e,z⟩
  ·exact .inl l
  ·exact .inr ⟨k,c,e,cellK x c e _ z⟩
 ·obtain⟨v,z⟩:=I.cell x c e;exact⟨v,cellK x c e v z⟩
 ·obtain⟨m,⟨o,_,_,ho,_⟩,_⟩:=I.loc;exact free _ o (fun z=>(hch _ z).2.1 rfl) ho I.free
 ·obtain⟨v,o,ho,hd⟩:=I.cell x c e;exact free c o (fun z=>(hch c z).2.2.1 x c e rfl) ho (I.freeC x c e)
 ·obtain⟨e,n,ne,nf,d⟩:=I.pin p hp;have nch:p.1 ∉ ch:=fun z=>(hch p.1 z).2.2.2 p hp rfl;exact⟨keep p.1 p.2 ne nf nch e n,free p.1 p.2 nch e n,ne,nf,d⟩
theorem Inv.un {t':Nat} (I:Inv X pins σ H s) (u:Un X.fs [] H H' s.heap h') (hok:HOk X.prog X.w H' h'):Inv X pins σ H' { s with heap:=h',toks:=t' }:=by
 obtain⟨m,⟨o,es,ep,ho,r⟩,_⟩:=id I.loc;obtain⟨sl,hL⟩:=u.any ho I.free (by simp);exact I.step (g':=s.gens) (d':=s.drawn) (ch:=[]) (fun _ z=>nomatch z) (fun b o _ hb _ e n=>u.keep b o e n hb (by simp)) (fun b o _ hb _ e n=>u.slot b o e n hb (by simp)) (fun b o _ e n=>u.free b o e n (by simp)) (fun b o _ e=>u.there b o e (by simp)) u.tups u.frzs u.tbls (fun m' hm=>by
  obtain⟨o',es',ep',ho',r'⟩:=hm;rw[ho] at ho';cases ho';exact⟨_,es',ep',hL,r'⟩) hok I.bare
theorem Inv.call {g':Array GenState}{t':Nat}{d':Drawn}{ch:List Addr} (I:Inv X pins σ H s) (u:Un (frs X.stack) ch H H' s.heap h') (hok:HOk X.prog X.w H' h') (hg:AllBare g')
  (hch:∀ b∈ch,(b∈X.ex∨X.s₀.heap.objs.size<=b)/\b≠X.env.locals/\(∀ x c,X.env.cells.lookup x=some c->c≠b)/\∀ p∈X.pn++pins,p.1≠b) :
  Inv X pins σ H' { s with heap:=h',gens:=g',drawn:=d',toks:=t' }:=by
 obtain⟨m,⟨o,es,ep,ho,r⟩,_⟩:=id I.loc;obtain⟨sl,hL⟩:=u.any ho I.free fun z=>(hch _ z).2.1 rfl;exact I.step (ch:=ch) hch (fun b o hL hb hc e n=>u.keep b o e n (fun z=>(Yal.mp (I.stkSub b z)).elim hL hb) hc) (fun b o _ _ hc e n=>u.any e n hc) (fun b o hc e n=>u.free b o e n hc) (fun b o hc e=>u.there b o e hc) u.tups u.frzs u.tbls (fun m' hm=>by
  obtain⟨o',es',ep',ho',r'⟩:=hm;rw[ho] at ho';cases ho';exact⟨_,es',ep',hL,r'⟩) hok hg
theorem Inv.turned {t':Nat}{it:Addr} (I:Inv X pins σ H s) (k:∀ b o,b≠it->s.heap.get? b=some o->h'.get? b=some o) (hn:H it=none) (hL:it≠X.env.locals)
  (h1:it∈X.ex∨X.s₀.heap.objs.size<=it) (h2:∀ x c,X.env.cells.lookup x=some c->c≠it) (h3:∀ p∈X.pn++pins,p.1≠it):Inv X pins σ H { s with heap:=h',toks:=t' }:=by
 have nit:∀ b u,H b=some u->b≠it:=fun b u e z=>by rw[z,hn] at e;cases e
 refine I.step (g':=s.gens) (d':=s.drawn) (ch:=[it]) (fun b hb=>?_) (fun b o _ _ hc e _=>k b o (fun z=>hc (by simp[z])) e) (fun b o _ _ hc e _=>⟨o.slots,k b o (fun z=>hc (by simp[z])) e⟩) (fun _ _ _ _ n=>n)
  (fun b o hc e=>⟨o,k b o (fun z=>hc (by simp[z])) e⟩) (fun _ _ e=>e) (fun _ _ _ e=>e) (fun b ps e=>⟨#[],by rw[e];simp⟩) (fun m hm=>?_) (fun b u e=>?_) I.bare
 ·have e:b=it:=by simpa using hb
  subst e;exact⟨h1,hL,h2,h3⟩
 ·obtain⟨o,es,ep,ho,r⟩:=hm;exact⟨o,es,ep,k _ o (YbA hL) ho,r⟩
 ·refine (I.hok b u e).stay (fun c v hc q=>k c v ?_ q) (fun _ q=>q) fun _ _ q=>q;rcases hc with z | z
  ·rw[z];exact nit b u e
  ·exact nit c _ z
theorem Inv.tok (I:Inv X pins σ H s) (t:Nat):Inv X pins σ H { s with toks:=t }:=I.un (h':=s.heap) (t':=t) Un.refl I.hok
theorem Inv.kept {t':Nat} (I:Inv X pins σ H s) (k:∀ b u,s.heap.get? b=some u->h'.get? b=some u):Inv X pins σ H { s with heap:=h',toks:=t' }:=I.un (Un.kept k) (I.hok.kept k)
theorem Inv.laid {a:Addr}{o:HO}{t':Nat} (I:Inv X pins σ H s) (k:∀ b u,s.heap.get? b=some u->h'.get? b=some u) (hp:s.heap.objs.size<=a) (new:ObjOk X.prog X.w (upd H a o) h' a o) :
  Inv X pins σ (upd H a o) { s with heap:=h',toks:=t' }:=I.un (Un.laid k hp (I.hok.fresh hp)) (I.hok.laid k hp new)
theorem Inv.write {x e:Addr}{o:HO}{t':Nat} (I:Inv X pins σ H s) (mu:Mut (H x)) (he:e=x∨H e=some (.own x)) (k:∀ b u,b≠e->s.heap.get? b=some u->h'.get? b=some u) (heo:∃ u,h'.get? e=some u)
  (new:ObjOk X.prog X.w (upd H x o) h' x o):Inv X pins σ (upd H x o) { s with heap:=h',toks:=t' }:=I.un (Un.write mu he k heo) (I.hok.write mu he k heo new)
theorem Inv.weak {σ':List (Option V)} (I:Inv X pins σ H s) (hl:σ'.length=σ.length) (w:∀ (i:Nat) v,σ'[i]?=some (some v)->σ[i]?=some (some v)):Inv X pins σ' H s :=
 ⟨I.ok,I.os,I.bare,I.base,let ⟨m,hn,hl'⟩:=I.loc;⟨m,hn,fun i x v e1 e2 e3=>hl' i x v e1 (w i v e2) e3⟩,I.cell,I.free,I.freeC,I.pin,I.hok,hl.trans I.len⟩
theorem Inv.pins_of {pins':List (Addr × Obj)} (I:Inv X pins σ H s) (h:∀ p∈pins',s.heap.get? p.1=some p.2/\H p.1=none/\p.1≠X.env.locals/\p.1 ∉ X.fs/\∀ v,p.2.data≠.cell v):Inv X pins' σ H s :=
 ⟨I.ok,I.os,I.bare,I.base,I.loc,I.cell,I.free,I.freeC,fun p hp=>(Yar.mp hp).elim (fun z=>I.pin p (YaT _ z)) (h p),I.hok,I.len⟩
theorem Zei {N:List Str} (hN:N.Nodup) {i j:Nat}{x:Str} (a:N[i]?=some x) (b:N[j]?=some x):i=j:=by
 obtain⟨h1,e1⟩:=Yab.mp a;obtain⟨h2,e2⟩:=Yab.mp b;exact (List.getElem_inj hN).mp (e1.trans e2.symm)
theorem ZcY {M:Model}{A:Around}{E:Value->Shared->Prop}{i:Nat}{x:Str}{v:V}{u:Value}{Q:Unit->Shared->Prop} (I:Inv X pins σ H s) (hN:X.N.Nodup) (hi:X.N[i]?=some x) (hx:Loc X.env.scope x) (r:RelV v u)
  (h:∀ s',Inv X pins (σ.set i (some v)) H s'->(∃ a,YcA a s.heap s'.heap/\(a=X.env.locals∨X.env.cells.lookup x=some a))->Q () s') (hf:X.fn x=true∨X.env.scope.names.lookup x=some .local:=by first | exact .inl rfl | exact .inr rfl | assumption):wpAny M A (storeName X.env x u) Q E s:=by
 obtain⟨m,hn,hl⟩:=id I.loc;have hcls:(X.env.scope.kind == .class || (X.env.scope.kind == .module && X.env.locals != X.env.globals))=false:=by rw[I.ok.kind];rfl
 have hiσ:i<σ.length:=by rw[I.len];exact (Yab.mp hi).1
 have cne:=I.cne;have tracked:∀ {a:Addr}{h':Heap},(∃ o,s.heap.get? a=some o/\H a=none)->YcA a s.heap h'->HOk X.prog X.w H h':=fun {a h'} ha hs b ob e=>by
  obtain⟨_,_,hfree⟩:=ha;refine (I.hok b ob e).stay (fun c w' hc q=>(hs.2 c ?_).trans q) (fun _ q=>q) fun _ _ q=>q;rintro rfl;rcases hc with rfl | hc
  ·rw[hfree] at e;cases e
  ·rw[hfree] at hc;cases hc
 rcases hx with hk | hk
 ·refine wpAny_storeName_local hk hn (fun h' hn' hs=>?_) hcls;obtain⟨oL,_,_,hoL,_⟩:=id hn;refine h _ ⟨I.ok,I.os,I.bare,⟨fun b o e n hb hx=>?_,fun b o e n hb hx=>?_,I.base.free,fun b o e hx=>?_,I.base.tups,I.base.frzs,I.base.tbls⟩,⟨_,hn',fun j y v' e1 e2 e3=>?_⟩,fun y c e=>?_,I.free,I.freeC,fun p hp=>?_,tracked ⟨oL,hoL,I.free⟩ hs,by simpa using I.len⟩ ⟨_,hs,.inl rfl⟩
  ·exact (hs.2 b (YaF (Yag (Yaj e) I.ok.above))).trans (I.base.keep b o e n hb hx)
  ·obtain⟨sl,e1⟩:=I.base.slot b o e n hb hx;exact⟨sl,(hs.2 b (YaF (Yag (Yaj e) I.ok.above))).trans e1⟩
  ·obtain⟨o',e1⟩:=I.base.there b o e hx;exact⟨o',(hs.2 b (YaF (Yag (Yaj e) I.ok.above))).trans e1⟩
  ·by_cases hj:j=i
   ·subst hj;rw[hi] at e1;cases e1;rw[Ybh hiσ] at e2;cases e2;exact⟨u,r,.inl ⟨hk,by simp⟩⟩
   ·rw[YaY (YbA hj)] at e2;obtain⟨u',r',q⟩:=hl j y v' e1 e2 e3;refine⟨u',r',?_⟩;rcases q with ⟨k,e⟩ | ⟨k,c,e,z⟩
    ·refine .inl ⟨k,?_⟩;have:y≠x:=fun e=>hj (Zei hN e1 (e ▸ hi));simp[this,e]
    ·exact .inr ⟨k,c,e,z.sameBut hs (cne y c e)⟩
  ·obtain⟨w',z⟩:=I.cell y c e;exact⟨w',z.sameBut hs (cne y c e)⟩
  ·obtain⟨e,n,ne,nf,d⟩:=I.pin p hp;exact⟨(hs.2 p.1 ne).trans e,n,ne,nf,d⟩
 ·have hfn:X.fn x=true:=by
   rcases hf with z | z
   ·exact z
   ·rw[z] at hk;cases hk
  obtain⟨c,hc⟩:=I.ok.has x (.inl hk);obtain⟨w',z⟩:=I.cell x c hc;refine wpAny_storeName_cell I.ok.kind hk hc z (fun h' hc' hs=>?_);obtain⟨oc,hoc,hocd⟩:=id z;refine h { s with heap:=h' } ⟨I.ok,I.os,I.bare,⟨fun b o e n hb hx=>?_,fun b o e n hb hx=>?_,I.base.free,fun b o e hx=>?_,I.base.tups,I.base.frzs,I.base.tbls⟩,⟨m,hn.sameBut hs (YbA (cne x c hc)),fun j y v' e1 e2 e3=>?_⟩,fun y c' e=>?_,I.free,I.freeC,fun p hp=>?_,tracked ⟨oc,hoc,I.freeC x c hc⟩ hs,by simpa using I.len⟩ ⟨c,hs,.inr hc⟩
  ·exact (hs.2 b (YaF (Yag (Yaj e) (I.ok.cab x c hfn hc)))).trans (I.base.keep b o e n hb hx)
  ·obtain⟨sl,e1⟩:=I.base.slot b o e n hb hx;exact⟨sl,(hs.2 b (YaF (Yag (Yaj e) (I.ok.cab x c hfn hc)))).trans e1⟩
  ·obtain⟨o',e1⟩:=I.base.there b o e hx;exact⟨o',(hs.2 b (YaF (Yag (Yaj e) (I.ok.cab x c hfn hc)))).trans e1⟩
  ·by_cases hj:j=i
   ·subst hj;rw[hi] at e1;cases e1;rw[Ybh hiσ] at e2;cases e2;exact⟨u,r,.inr ⟨.inl hk,c,hc,hc'⟩⟩
   ·rw[YaY (YbA hj)] at e2;obtain⟨u',r',q⟩:=hl j y v' e1 e2 e3;refine⟨u',r',?_⟩;rcases q with q | ⟨k,c',e,z'⟩
    ·exact .inl q
    ·refine .inr ⟨k,c',e,z'.sameBut hs ?_⟩;rintro rfl;exact hj (Zei hN e1 (I.ok.inj _ _ _ e hc ▸ hi))
  ·by_cases hcc:c'=c
   ·subst hcc;exact⟨_,hc'⟩
   ·obtain⟨w2,z2⟩:=I.cell y c' e;exact⟨w2,z2.sameBut hs hcc⟩
  ·obtain⟨e,n,ne,nf,d⟩:=I.pin p hp;refine⟨(hs.2 p.1 ?_).trans e,n,ne,nf,d⟩;intro q;rw[q,hoc] at e;have q':oc=p.2:=Yau e;exact d w' (by rw[<- q'];exact hocd)
theorem ZcL {M:Model}{A:Around}{E:Value->Shared->Prop}{i:Nat}{x:Str}{v:V}{u:Value}{Q:Unit->Shared->Prop} (I:Inv X pins σ H s) (hN:X.N.Nodup) (hi:X.N[i]?=some x) (hx:Loc X.env.scope x) (r:RelV v u)
  (h:∀ s',Inv X pins (σ.set i (some v)) H s'->Q () s') (hf:X.fn x=true∨X.env.scope.names.lookup x=some .local:=by first | exact .inl rfl | exact .inr rfl | assumption):wpAny M A (storeName X.env x u) Q E s :=
 ZcY I hN hi hx r (fun s' I' _=>h s' I') hf
theorem Inv.call' {s':Shared}{ch:List Addr} (I:Inv X pins σ H s) (ho:s'.os=s.os) (u:Un (frs X.stack) ch H H' s.heap s'.heap) (hok:HOk X.prog X.w H' s'.heap) (hg:AllBare s'.gens)
  (hch:∀ b∈ch,(b∈X.ex∨X.s₀.heap.objs.size<=b)/\b≠X.env.locals/\(∀ x c,X.env.cells.lookup x=some c->c≠b)/\∀ p∈X.pn++pins,p.1≠b):Inv X pins σ H' s':=by
 obtain⟨h',g',d',t',o'⟩:=s';have e:o'=s.os:=ho;subst e;exact I.call (g':=g') (t':=t') (d':=d') u hok hg hch
end
abbrev XK:=Value->Option Addr->Hp->Prop
abbrev St:=List (Option V)
abbrev VK:=V->Hp->Prop
abbrev TE:=St->Hp->VK->Prop
abbrev TT:=St->Hp->(Bool->Hp->Prop)->Prop
abbrev TA:=St->Hp->(List V->Hp->Prop)->Prop
structure Ends where
 nx:St->Hp->Prop
 rt:VK
 bk:St->Hp->Prop:=fun _ _=>False
 ct:St->Hp->Prop:=fun _ _=>False
abbrev TS:=Ends->St->Hp->Prop
def EP (X:Cx) (pins:List (Addr × Obj)) (σ:St) (Q:VK) (u:Value) (s':Shared):Prop:=∃ v H',Inv X pins σ H' s'/\RelV v u/\Q v H'
def TP (X:Cx) (pins:List (Addr × Obj)) (σ:St) (Q:Bool->Hp->Prop) (b:Bool) (s':Shared):Prop:=∃ H',Inv X pins σ H' s'/\Q b H'
def AP (X:Cx) (pins:List (Addr × Obj)) (σ:St) (Q:List V->Hp->Prop) (us:List Value) (s':Shared):Prop:=∃ vs H',Inv X pins σ H' s'/\Vals vs us/\Q vs H'
def SP (X:Cx) (pins:List (Addr × Obj)) (D:Ends) (f:Flow) (s':Shared):Prop :=
 match f with
 | .next=>∃ σ' H',Inv X pins σ' H' s'/\D.nx σ' H'
 | .brk=>∃ σ' H',Inv X pins σ' H' s'/\D.bk σ' H'
 | .cont=>∃ σ' H',Inv X pins σ' H' s'/\D.ct σ' H'
 | .ret u=>∃ v σ' H',Inv X pins σ' H' s'/\RelV v u/\D.rt v H'
def PE (X:Cx) (e:Expr) (t:TE):Prop :=
 ∀ (pins:List (Addr × Obj)) (s:Shared) (σ:St) (H:Hp) (Q:VK),Inv X pins σ H s->t σ H Q->wpAny (model X.prog X.w) X.A (eval e X.env) (EP X pins σ Q) X.xe s
def PT (X:Cx) (e:Expr) (t:TT):Prop :=
 ∀ (pins:List (Addr × Obj)) (s:Shared) (σ:St) (H:Hp) (Q:Bool->Hp->Prop),Inv X pins σ H s->t σ H Q->wpAny (model X.prog X.w) X.A (isTrue e X.env (eval e X.env)) (TP X pins σ Q) X.xe s
def PW (X:Cx) (e:Expr) (t:TT):Prop :=
 ∀ (whole:Sem Value) (pins:List (Addr × Obj)) (s:Shared) (σ:St) (H:Hp) (Q:Bool->Hp->Prop),Inv X pins σ H s->t σ H Q->wpAny (model X.prog X.w) X.A (isTrue e X.env whole) (TP X pins σ Q) X.xe s
theorem PW.pt {X:Cx}{e:Expr}{t:TT} (h:PW X e t):PT X e t:=h _
def PA (X:Cx) (es:List Expr) (t:TA):Prop :=
 ∀ (pos:Pos) (pins:List (Addr × Obj)) (s:Shared) (σ:St) (H:Hp) (Q:List V->Hp->Prop),Inv X pins σ H s->t σ H Q->wpAny (model X.prog X.w) X.A (spliced (backTo pos (starEach es X.env))) (AP X pins σ Q) X.xe s
def PS (X:Cx) (st:Stmt) (t:TS):Prop :=
 ∀ (pins:List (Addr × Obj)) (s:Shared) (σ:St) (H:Hp) (D:Ends),Inv X pins σ H s->t D σ H->wpAny (model X.prog X.w) X.A (exec st X.env) (SP X pins D) X.xe s
def PSs (X:Cx) (st:List Stmt) (t:TS):Prop :=
 ∀ (pins:List (Addr × Obj)) (s:Shared) (σ:St) (H:Hp) (D:Ends),Inv X pins σ H s->t D σ H->wpAny (model X.prog X.w) X.A (execs st X.env) (SP X pins D) X.xe s
theorem thn {α:Type}{t:Sem α}{Q Q':α->Shared->Prop}{M:Model}{A:Around}{E:Value->Shared->Prop}{s:Shared} (h:wpAny M A t Q E s) (hQ:∀ a s,Q a s->Q' a s):wpAny M A t Q' E s:=wpAny_mono h hQ fun _ _ x=>x
end L2
namespace L2
open PySem PySem.Spec PyProof.Rows
section
variable {X:Cx}
def tVar (i:Nat):TE:=fun σ H Q=>∃ v,σ[i]?=some (some v)/\Q v H
def tC (v:V):TE:=fun _ H Q=>Q v H
theorem Zlz {i:Nat}{x:Str}{pos:Pos} (hN:X.N[i]?=some x) (hv:Vis X.env.scope x) (hd:(x == ("__debug__":Str))=false:=by decide) (hcd:(x == ("__classdict__":Str))=false:=by decide):PE X (.Name x pos) (tVar i):=by
 intro pins s σ H Q I h;obtain⟨v,e,h⟩:=h;obtain⟨m,hn,hl⟩:=I.loc;obtain⟨u,r,l⟩:=hl i x v hN e hv;have fin:EP X pins σ Q u s:=⟨v,H,I,r,h⟩
 rcases l with ⟨hk,hm⟩ | ⟨hk,c,hc,hcell⟩
 ·exact wpAny_Name (wpAny_loadName_local I.ok.kind hk hn hm fin) hd
 ·rcases hk with hk | hk
  ·exact wpAny_Name (wpAny_loadName_cell I.ok.kind hk hc hcell fin) hd
  ·exact wpAny_Name (wpAny_loadName_free I.ok.kind hk hc hcell fin hcd) hd
theorem Zag {i j pos}:PE X (.Constant (.int i) j pos) (tC (.int i)):=fun _ _ _ H _ I h=>wpAny_Constant_int ⟨.int i,H,I.tok _,⟨_,rfl⟩,h⟩
theorem Zee {b j pos}:PE X (.Constant (.bool b) j pos) (tC (.bl b)):=fun _ _ _ H _ I h=>Constant_bool ⟨.bl b,H,I,rfl,h⟩
theorem Zga {j pos}:PE X (.Constant .none j pos) (tC .non):=fun _ _ _ H _ I h=>Constant_none ⟨.non,H,I,rfl,h⟩
def Gl (X:Cx) (x:Str):Prop:=X.env.kindOf x=some .globalImplicit
theorem Zek {E:Value->Shared->Prop}{pins:List (Addr × Obj)}{s:Shared}{σ:St}{H:Hp}{x:Str}{u:Value}{pos:Pos}{Q:Value->Shared->Prop} (I:Inv X pins σ H s) (hg:Gl X x) (hm:X.mg x=some u) (h:Q u s)
  (hd:(x == ("__debug__":Str))=false:=by decide):wpAny (model X.prog X.w) X.A (eval (.Name x pos) X.env) Q E s :=
 YdE I.ok.kind hg (Calls.loadGlobal_global (by rw[I.ok.glob];exact I.mod.glob.keeps I.bk) hm h) hd
theorem Zc8 {E:Value->Shared->Prop}{pins:List (Addr × Obj)}{s:Shared}{σ:St}{H:Hp}{x:Str}{u:Value}{pos:Pos}{Q:Value->Shared->Prop} (I:Inv X pins σ H s) (hg:Gl X x) (hm:X.mg x=none) (hv:bootBuiltins x=some u) (h:Q u s)
  (hn:x≠"__name__":=by decide) (hd:(x == ("__debug__":Str))=false:=by decide):wpAny (model X.prog X.w) X.A (eval (.Name x pos) X.env) Q E s:=by
 obtain⟨mb,h1,h2⟩:=I.mod.blt;exact YdE I.ok.kind hg (Calls.loadGlobal_builtin (by rw[I.ok.glob];exact I.mod.glob.keeps I.bk) hm (by rw[I.ok.blt];exact h1.keeps I.bk) ((h2 x hn).trans hv) h) hd
theorem Zkt {x:Str}{v:V}{u:Value}{pos:Pos} (hg:Gl X x) (hm:X.mg x=some u) (r:RelV v u) (hd:(x == ("__debug__":Str))=false:=by decide):PE X (.Name x pos) (tC v) :=
 fun _ _ _ H _ I h=>Zek I hg hm ⟨v,H,I,r,h⟩ hd
theorem Zkv {x:Str}{v:V}{u:Value}{pos:Pos} (hg:Gl X x) (hm:X.mg x=none) (hv:bootBuiltins x=some u) (r:RelV v u) (hn:x≠"__name__":=by decide) (hd:(x == ("__debug__":Str))=false:=by decide):PE X (.Name x pos) (tC v) :=
 fun _ _ _ H _ I h=>Zc8 I hg hm hv ⟨v,H,I,r,h⟩ hn hd
variable {a b:Expr}{ta tb:TE}{pos:Pos}
def PC (X:Cx) (op:CmpOp) (a b:Expr) (t:TE):Prop :=
 ∀ (pins:List (Addr × Obj)) (s:Shared) (σ:St) (H:Hp) (Q:VK),Inv X pins σ H s->t σ H Q ->
  wpAny (model X.prog X.w) X.A (eval a X.env) (fun v s₁=>wpAny (model X.prog X.w) X.A (eval b X.env) (fun u s₂=>wpAny (model X.prog X.w) X.A (compareOp op v u) (EP X pins σ Q) X.xe s₂) X.xe s₁) X.xe s
theorem Zjn (b:Expr) {op:CmpOp} (h:op≠.In) (h2:op≠.NotIn):behindInMarks op b=false:=by
 have e1:(op == CmpOp.In)=false:=by cases op <;> first | rfl | exact absurd rfl h
 have e2:(op == CmpOp.NotIn)=false:=by cases op <;> first | rfl | exact absurd rfl h2
 cases b <;> simp[behindInMarks,e1,e2]
def tIsN (ta:TE):TE:=fun σ H Q=>ta σ H fun x H1=>Q (.bl (decide (x=.non))) H1
def Zmj (ta:TE):TE:=fun σ H Q=>ta σ H fun x H1=>Q (.bl (!decide (x=.non))) H1
theorem RelV.none_iff {x:V}{v:Value} (r:RelV x v):(v == YbS)=decide (x=.non):=by
 cases x with
 | non=>cases r;rfl
 | bl _=>cases r;rfl
 | int _=>obtain⟨t,rfl⟩:=r;rfl
 | str _=>obtain⟨t,rfl⟩:=r;rfl
 | byt _=>obtain⟨t,rfl⟩:=r;rfl
 | flt _=>obtain⟨t,rfl⟩:=r;rfl
 | ref _=>cases r;rfl
 | ty _=>cases r;rfl
theorem ZlD {j pos'} (ha:PE X a ta):PC X .Is a (.Constant .none j pos') (tIsN ta):=by
 intro pins s σ H Q I h;refine thn (ha pins s σ H _ I h) fun v s1 ⟨x,H1,I1,r1,q1⟩=>?_;exact Constant_none (is_none_gen ⟨.bl _,H1,I1,by rw[r1.none_iff];rfl,q1⟩)
theorem Zef {j pos'} (ha:PE X a ta):PC X .IsNot a (.Constant .none j pos') (Zmj ta):=by
 intro pins s σ H Q I h;refine thn (ha pins s σ H _ I h) fun v s1 ⟨x,H1,I1,r1,q1⟩=>?_;exact Constant_none (isnot_none_gen ⟨.bl _,H1,I1,by rw[r1.none_iff];rfl,q1⟩)
def tB (t:TE):TT:=fun σ H Q=>t σ H fun x H1=>∃ c,x=.bl c/\Q c H1
theorem ZeO {op:CmpOp}{t:TE} (h:PC X op a b t) (h1:behindInMarks op b=false:=by first | exact Zjn _ (by decide) (by decide) | rfl):PT X (.Compare a [op] [b] pos) (tB t):=by
 intro pins s σ H Q I hw;refine wpAny_isTrue_Compare1 (thn (h pins s σ H _ I hw) fun v s1 h1=>thn h1 fun u s2 h2=>thn h2 fun c s3 ⟨x,H1,I1,r1,q1⟩=>?_) h1;obtain⟨d,rfl,q⟩:=q1;cases r1;exact wpAny_truthy_bool ⟨H1,I1,q⟩
theorem Zc2 {e:Expr}{t:TE} (h:PE X e t) (he:∀ whole,isTrue e X.env whole=(do let v <- whole;standAt e.pos;holding [v] (truthy v)):=by intro _;rfl):PT X e (tB t):=by
 intro pins s σ H Q I hw;refine isTrue_plain (thn (h pins s σ H _ I hw) fun v s1 ⟨x,H1,I1,r1,q1⟩=>?_) (he _);obtain⟨d,rfl,q⟩:=q1;cases r1;exact wpAny_truthy_bool ⟨H1,I1,q⟩
variable {tA tB':TT}{rest:List Expr}
def tAnd (t u:TT):TT:=fun σ H Q=>t σ H fun c H1=>if c=true then u σ H1 Q else Q false H1
def tOr (t u:TT):TT:=fun σ H Q=>t σ H fun c H1=>if c=true then Q true H1 else u σ H1 Q
def tNot (t:TT):TT:=fun σ H Q=>t σ H fun c H1=>Q (!c) H1
theorem ZfA (ha:PT X a tA):PW X (.BoolOp .And [a] pos) tA:=by
 intro wh pins s σ H Q I h;refine isTrue_and (thn (ha pins s σ H Q I h) fun c s1 e=>?_)
 cases c with
 | true=>exact isTrue_and_nil e
 | false=>exact e
theorem Zf6 (ha:PT X a tA):PW X (.BoolOp .Or [a] pos) tA:=by
 intro wh pins s σ H Q I h;refine isTrue_or (thn (ha pins s σ H Q I h) fun c s1 e=>?_)
 cases c with
 | false=>exact isTrue_or_nil e
 | true=>exact e
theorem Zhu (ha:PT X a tA) (hb:PW X (.BoolOp .And (b::rest) pos) tB'):PW X (.BoolOp .And (a::b::rest) pos) (tAnd tA tB'):=by
 intro wh pins s σ H Q I h;refine isTrue_and (thn (ha pins s σ H _ I h) fun c s1 ⟨H1,I1,q1⟩=>?_)
 cases c with
 | true=>exact hb wh pins s1 σ H1 Q I1 q1
 | false=>exact⟨H1,I1,q1⟩
theorem Zi0 (ha:PT X a tA) (hb:PW X (.BoolOp .Or (b::rest) pos) tB'):PW X (.BoolOp .Or (a::b::rest) pos) (tOr tA tB'):=by
 intro wh pins s σ H Q I h;refine isTrue_or (thn (ha pins s σ H _ I h) fun c s1 ⟨H1,I1,q1⟩=>?_)
 cases c with
 | true=>exact⟨H1,I1,q1⟩
 | false=>exact hb wh pins s1 σ H1 Q I1 q1
theorem Zc3 (ha:PT X a tA):PT X (.UnaryOp .Not a pos) (tNot tA):=by
 intro pins s σ H Q I h;exact isTrue_not (ha pins s σ H (fun c H1=>Q (!c) H1) I h)
def Zml (ta tb:TE):TE:=fun σ H Q=>ta σ H fun x H1=>∃ c,x=.bl c/\if c=true then tb σ H1 Q else Q (.bl false) H1
def Zmi (ta:TE):TE:=fun σ H Q=>ta σ H fun x H1=>∃ c,x=.bl c/\Q (.bl (!c)) H1
theorem ZlA {op}{t:TE} (h:PE X a t):PE X (.BoolOp op [a] pos) t:=fun pins s σ H Q I hw=>BoolOp_one (h pins s σ H Q I hw)
theorem ZlC (ha:PE X a ta) (hb:PE X (.BoolOp .And (b::rest) pos) tb):PE X (.BoolOp .And (a::b::rest) pos) (Zml ta tb):=by
 intro pins s σ H Q I h;refine BoolOp_and (thn (ha pins s σ H _ I h) fun v s1 ⟨x,H1,I1,r1,q1⟩=>?_);obtain⟨c,rfl,q1⟩:=q1;cases r1;refine wpAny_truthy_bool ?_
 cases c with
 | true=>exact hb pins s1 σ H1 Q I1 q1
 | false=>exact⟨.bl false,H1,I1,rfl,q1⟩
theorem ZlB (ha:PE X a ta):PE X (.UnaryOp .Not a pos) (Zmi ta):=by
 intro pins s σ H Q I h;refine UnaryOp_ (thn (ha pins s σ H _ I h) fun v s1 ⟨x,H1,I1,r1,q1⟩=>?_);obtain⟨c,rfl,q1⟩:=q1;cases r1;exact not_of (wpAny_truthy_bool ⟨.bl (!c),H1,I1,rfl,q1⟩)
def tIf (t:TT) (ta tb:TE):TE:=fun σ H Q=>t σ H fun c H1=>if c=true then ta σ H1 Q else tb σ H1 Q
theorem Zgb {c:Expr} (hc:PT X c tA) (ha:PE X a ta) (hb:PE X b tb):PE X (.IfExp c a b pos) (tIf tA ta tb):=by
 intro pins s σ H Q I h;refine wpAny_IfExp (thn (hc pins s σ H _ I h) fun d s1 ⟨H1,I1,q1⟩=>?_)
 cases d with
 | true=>exact ha pins s1 σ H1 Q I1 q1
 | false=>exact hb pins s1 σ H1 Q I1 q1
end
end L2
namespace L2
open PySem PySem.Spec PyProof.Rows
def SqL (K:Yad) (H:Hp) (a:Addr) (xs:List V):Prop :=
 Rd H a (.lst xs) ∨
  ∃ (o:Obj) (its:Array Value) (n:Nat),K.lookup a=some o/\o.cls=.type "list"/\o.dict=none/\o.data=.seq its n/\its.size<=sizeLine/\Vals xs its.toList
def SqT (K:Yad) (H:Hp) (a:Addr) (xs:List V):Prop :=
 Rd H a (.tup xs) ∨
  ∃ (o:Obj) (its:Array Value) (n:Nat),K.lookup a=some o/\o.cls=.type "tuple"/\o.data=.seq its n/\its.size<=sizeLine/\Vals xs its.toList
def absV:Value->Option V
 | .none=>some .non
 | .bool b=>some (.bl b)
 | .int i _=>some (.int i)
 | .str x _=>some (.str x)
 | .bytes b _=>some (.byt b)
 | .float b _=>some (.flt b)
 | .ref a=>some (.ref a)
 | .type n=>some (.ty n)
 | _=>none
theorem RelV.abs {x:V}{u:Value} (r:RelV x u):absV u=some x:=by
 cases x with
 | non=>cases r;rfl
 | bl _=>cases r;rfl
 | int _=>obtain⟨t,rfl⟩:=r;rfl
 | str _=>obtain⟨t,rfl⟩:=r;rfl
 | byt _=>obtain⟨t,rfl⟩:=r;rfl
 | flt _=>obtain⟨t,rfl⟩:=r;rfl
 | ref _=>cases r;rfl
 | ty _=>cases r;rfl
theorem RelV.inj {x y:V}{u:Value} (r:RelV x u) (q:RelV y u):x=y:=Yau (r.abs.symm.trans q.abs)
theorem Vals.inj:∀ {xs ys:List V}{us:List Value},Vals xs us->Vals ys us->xs=ys
 | _,_,_,.nil,.nil=>rfl
 | _,_,_,.cons r t,.cons r' t'=>by rw[r.inj r',Vals.inj t t']
section
variable {X:Cx}{pins:List (Addr × Obj)}{σ:St}{H:Hp}{s:Shared}{a:Addr}{xs ys:List V}
theorem SqL.of {K:Yad} (h:H a=some (.lst xs)):SqL K H a xs:=.inl (.inl h)
theorem SqT.of {K:Yad} (h:H a=some (.tup xs)):SqT K H a xs:=.inl (.inl h)
theorem Inv.list (I:Inv X pins σ H s) (h:SqL X.K H a xs):∃ its:List Value,Vals xs its/\PlainL s.heap a its.toArray/\xs.length<=sizeLine:=by
 rcases h with h | ⟨o,its,n,hk,hc,hd,hs,hz,r⟩
 ·obtain⟨z,its,n,r,e⟩:=h.ok I.hok;exact⟨its,r,⟨_,n,e,rfl,rfl,rfl⟩,z⟩
 ·refine⟨its.toList,r,⟨o,n,I.kIn a o hk,hc,hd,by simpa using hs⟩,?_⟩;have e:=r.length;simp only[Ya7] at e;omega
theorem Inv.tuple (I:Inv X pins σ H s) (h:SqT X.K H a xs):∃ its:List Value,Vals xs its/\IsTup s.heap a its.toArray/\xs.length<=sizeLine:=by
 rcases h with h | ⟨o,its,n,hk,hc,hs,hz,r⟩
 ·obtain⟨z,its,r,p⟩:=h.ok I.hok;exact⟨its,r,p.tup,z⟩
 ·refine⟨its.toList,r,⟨o,I.kIn a o hk,hc,n,by simpa using hs⟩,?_⟩;have e:=r.length;simp only[Ya7] at e;omega
theorem Inv.list_inj (I:Inv X pins σ H s) (h:SqL X.K H a xs) (h':SqL X.K H a ys):xs=ys:=by
 obtain⟨its,r,⟨o,n,e,_,_,d⟩,_⟩:=I.list h;obtain⟨its',r',⟨o',n',e',_,_,d'⟩,_⟩:=I.list h';rw[e] at e';cases e';rw[d] at d';injection d' with d1 _;have:its=its':=by simpa using congrArg Array.toList d1
 subst this;exact r.inj r'
theorem Inv.tuple_inj (I:Inv X pins σ H s) (h:SqT X.K H a xs) (h':SqT X.K H a ys):xs=ys:=by
 obtain⟨its,r,⟨o,e,_,n,d⟩,_⟩:=I.tuple h;obtain⟨its',r',⟨o',e',_,n',d'⟩,_⟩:=I.tuple h';rw[e] at e';cases e';rw[d] at d';injection d' with d1 _;have:its=its':=by simpa using congrArg Array.toList d1
 subst this;exact r.inj r'
end
abbrev Cx.wish (X:Cx) (E:Value->Shared->Prop):Cx:={ X with xe:=E }
abbrev Cx.nox (X:Cx):Cx:=X.wish fun _ _=>False
theorem Cx.Ok.wish {X:Cx} (ok:X.Ok) (E:Value->Shared->Prop):(X.wish E).Ok :=
 ⟨ok.mod,ok.kind,ok.glob,ok.blt,ok.above,ok.inj,ok.has,ok.cab,ok.hd,ok.frames,ok.stk,ok.exf,ok.bs,ok.bsz,ok.noex,ok.exfs,ok.funs,ok.frf⟩
theorem Cx.Ok.unwish {X:Cx}{E:Value->Shared->Prop} (ok:(X.wish E).Ok):X.Ok :=
 ⟨ok.mod,ok.kind,ok.glob,ok.blt,ok.above,ok.inj,ok.has,ok.cab,ok.hd,ok.frames,ok.stk,ok.exf,ok.bs,ok.bsz,ok.noex,ok.exfs,ok.funs,ok.frf⟩
section
variable {X:Cx}{pins:List (Addr × Obj)}{σ:St}{H:Hp}{s:Shared}{E:Value->Shared->Prop}
theorem Inv.wish (I:Inv X pins σ H s) (E:Value->Shared->Prop):Inv (X.wish E) pins σ H s:=⟨I.ok.wish E,I.os,I.bare,I.base,I.loc,I.cell,I.free,I.freeC,I.pin,I.hok,I.len⟩
theorem Inv.unwish (I:Inv (X.wish E) pins σ H s):Inv X pins σ H s:=⟨I.ok.unwish,I.os,I.bare,I.base,I.loc,I.cell,I.free,I.freeC,I.pin,I.hok,I.len⟩
theorem SP.unwish {D:Ends}{f:Flow}{s':Shared} (h:SP (X.wish E) pins D f s'):SP X pins D f s':=by
 cases f with
 | next=>obtain⟨σ',H',I,q⟩:=h;exact⟨σ',H',I.unwish,q⟩
 | brk=>obtain⟨σ',H',I,q⟩:=h;exact⟨σ',H',I.unwish,q⟩
 | cont=>obtain⟨σ',H',I,q⟩:=h;exact⟨σ',H',I.unwish,q⟩
 | ret u=>obtain⟨v,σ',H',I,r,q⟩:=h;exact⟨v,σ',H',I.unwish,r,q⟩
theorem PSs.nox {st:List Stmt}{t:TS} (h:PSs X.nox st t):PSs X st t:=fun pins s σ H D I hw=>
 wpAny_mono (h pins s σ H D (I.wish _) hw) (fun _ _ q=>q.unwish) fun _ _ z=>YbH z
end
section
variable {X:Cx}{st:Stmt}{rest:List Stmt}{t u:TS}{e:Expr}{te:TE}{pos:Pos}
def Zlh:TS:=fun D σ H=>D.nx σ H
def tSeq (t u:TS):TS:=fun D σ H=>t { D with nx:=u D } σ H
theorem Zcu:PSs X [] Zlh:=fun _ _ σ H _ I h=>wpAny_execs_nil ⟨σ,H,I,h⟩
theorem Zar (h1:PS X st t) (h2:PSs X rest u):PSs X (st::rest) (tSeq t u):=by
 intro pins s σ H D I h;refine wpAny_execs_cons (thn (h1 pins s σ H { D with nx:=u D } I h) fun f s1 q=>?_)
 cases f with
 | next=>
  obtain⟨σ',H',I',q⟩:=q;exact h2 pins s1 σ' H' D I' q
 | ret v=>exact q
 | brk=>exact q
 | cont=>exact q
theorem Zax (h1:PS X st t):PSs X [st] t:=by
 intro pins s σ H D I h;refine wpAny_execs_cons (thn (h1 pins s σ H D I h) fun f s1 q=>?_)
 cases f with
 | next=>exact wpAny_execs_nil q
 | ret v=>exact q
 | brk=>exact q
 | cont=>exact q
theorem Inv.quiet {pins:List (Addr × Obj)}{σ:St}{H:Hp}{s:Shared} (I:Inv X pins σ H s):interactive X.env=false:=by simp[interactive,I.ok.kind]
def Zmk (te:TE):TS:=fun D σ H=>te σ H fun _ H1=>D.nx σ H1
theorem Za5 (he:PE X e te) (hs:swapsWith e none pos.line X.env=pure false:=by rfl):PS X (.Expr e pos) (Zmk te):=by
 intro pins s σ H D I h;exact wpAny_Expr_any (thn (he pins s σ H _ I h) fun v s1 ⟨x,H1,I1,r1,q1⟩=>⟨σ,H1,I1,q1⟩) I.quiet hs
def tRet (te:TE):TS:=fun D σ H=>te σ H D.rt
theorem Zay (he:PE X e te):PS X (.Return (some e) pos) (tRet te):=by
 intro pins s σ H D I h;exact wpAny_Return_some (thn (he pins s σ H _ I h) fun v s1 ⟨x,H1,I1,r1,q1⟩=>⟨x,σ,H1,I1,r1,q1⟩)
def tIfS (c:TT) (t u:TS):TS:=fun D σ H=>c σ H fun b H1=>if b=true then t D σ H1 else u D σ H1
theorem ZgJ {c:Expr}{a b:List Stmt}{tc:TT} (hc:PT X c tc) (ha:PSs X a t) (hb:PSs X b u):PS X (.If c a b pos) (tIfS tc t u):=by
 intro pins s σ H D I h;refine wpAny_If (thn (hc pins s σ H _ I h) fun d s1 ⟨H1,I1,q1⟩=>?_)
 cases d with
 | true=>exact ha pins s1 σ H1 D I1 q1
 | false=>exact hb pins s1 σ H1 D I1 q1
def Zli:TS:=fun _ _ _=>False
theorem ZaU {sts:List Stmt}:PSs X sts Zli:=fun _ _ _ _ _ _ h=>h.elim
end
abbrev TG:=V->St->Hp->(St->Hp->Prop)->Prop
abbrev TGs:=List V->St->Hp->(St->Hp->Prop)->Prop
def PG (X:Cx) (target:Expr) (t:TG):Prop :=
 ∀ (pins:List (Addr × Obj)) (s:Shared) (σ:St) (H:Hp) (v:V) (u:Value) (Q:St->Hp->Prop),Inv X pins σ H s->RelV v u->t v σ H Q ->
  wpAny (model X.prog X.w) X.A (assign target X.env u) (fun _ s'=>∃ σ' H',Inv X pins σ' H' s'/\Q σ' H') X.xe s
def PGs (X:Cx) (ts:List Expr) (t:TGs):Prop :=
 ∀ (pins:List (Addr × Obj)) (s:Shared) (σ:St) (H:Hp) (vs:List V) (us:List Value) (Q:St->Hp->Prop),Inv X pins σ H s->Vals vs us->t vs σ H Q ->
  wpAny (model X.prog X.w) X.A (assignInOrder ((assignEach ts X.env).map (·.2)) us) (fun _ s'=>∃ σ' H',Inv X pins σ' H' s'/\Q σ' H') X.xe s
abbrev TSet:=V->V->V->Hp->(Hp->Prop)->Prop
def PSet (X:Cx) (t:TSet):Prop :=
 ∀ (pins:List (Addr × Obj)) (s:Shared) (σ:St) (H:Hp) (o i v:V) (ov iv u:Value) (Q:Hp->Prop),Inv X pins σ H s->RelV o ov->RelV i iv->RelV v u->t o i v H Q ->
  wpAny (model X.prog X.w) X.A (setItem ov iv u) (fun _ s'=>∃ H',Inv X pins σ H' s'/\Q H') X.xe s
abbrev TIp:=V->V->Hp->VK->Prop
def PIp (X:Cx) (op:Operator) (t:TIp):Prop :=
 ∀ (pins:List (Addr × Obj)) (s:Shared) (σ:St) (H:Hp) (x y:V) (v u:Value) (Q:VK),Inv X pins σ H s->RelV x v->RelV y u->t x y H Q ->
  wpAny (model X.prog X.w) X.A (inplaceOp op v u) (EP X pins σ Q) X.xe s
section
variable {X:Cx}{pos:Pos}
def Zdd (i:Nat):TG:=fun v σ H Q=>Q (σ.set i (some v)) H
theorem Zah {i:Nat}{x:Str} (hN:X.N.Nodup) (hi:X.N[i]?=some x) (hx:Loc X.env.scope x) (hf:X.fn x=true∨X.env.scope.names.lookup x=some .local:=by first | exact .inl rfl | exact .inr rfl | assumption):PG X (.Name x pos) (Zdd i):=by
 intro pins s σ H v u Q I r h;exact wpAny_assign_Name (ZcL I hN hi hx r (fun s' I'=>⟨_,H,I',h⟩) hf)
def gNil:TGs:=fun vs σ H Q=>vs=[]/\Q σ H
def ZkQ (t:TG) (u:TGs):TGs:=fun vs σ H Q=>∃ v r,vs=v::r/\t v σ H fun σ' H'=>u r σ' H' Q
theorem ZaX:PGs X [] gNil:=by
 intro pins s σ H vs us Q I r h;obtain⟨e,h⟩:=h;subst e;cases r;exact assignInOrder_nil ⟨σ,H,I,h⟩
theorem Zau {e:Expr}{es:List Expr}{t:TG}{u:TGs} (h1:PG X e t) (h2:PGs X es u)
  (hs:(assignEach (e::es) X.env).map (·.2)=assign e X.env::(assignEach es X.env).map (·.2):=by rfl):PGs X (e::es) (ZkQ t u):=by
 intro pins s σ H vs us Q I r h;obtain⟨v,vr,e1,h⟩:=h;subst e1
 cases r with
 | cons r rr=>
  rw[hs];refine assignInOrder_cons (thn (h1 pins s σ H _ _ _ I r h) fun _ s1 ⟨σ1,H1,I1,q1⟩=>?_);exact h2 pins s1 σ1 H1 _ _ Q I1 rr q1
def gTup (K:Yad) (n:Nat) (t:TGs):TG:=fun v σ H Q=>∃ a xs,v=.ref a/\SqT K H a xs/\xs.length=n/\t xs σ H Q
theorem ZdJ {es:List Expr}{k:Nat}{t:TGs}{n:Nat} (hc:X.calm=true) (h:PGs X es t)
  (hn:(assignEach es X.env).length=n:=by rfl) (hst:(assignEach es X.env).findIdx? (·.1)=none:=by rfl):PG X (.Tuple es k pos) (gTup X.K n t):=by
 intro pins s σ H v u Q I r hw;obtain⟨a,xs,e1,hq,hl,hw⟩:=hw;subst e1;cases r;obtain⟨its,rv,ht,hz⟩:=I.tuple hq;refine assign_Tuple_tuple (I.ok.hd hc) ht (by simp[hn,<- hl,rv.length]) hst fun h' hx=>?_;have I1:Inv X pins σ H { s with heap:=h' }:=I.kept (t':=s.toks) fun b o e=>hx b o (YaF (Yaj e)) e;exact h pins _ σ H xs _ Q I1 (by simpa using rv) hw
def gSub (to ti:TE) (t:TSet):TG:=fun v σ H Q=>to σ H fun o H1=>ti σ H1 fun i H2=>t o i v H2 fun H3=>Q σ H3
theorem Zf9 {o i:Expr}{to ti:TE}{t:TSet} (ho:PE X o to) (hi:PE X i ti) (hs:PSet X t)
  (ha:∀ v,assign (.Subscript o i pos) X.env v=(do
   let ov <- holding [v] (eval o X.env)
   let iv <- holding [v,ov] (eval i X.env)
   standAt pos
   holding [v,ov,iv] (setItem ov iv v)
   release [v,ov,iv] []):=by intro _;rfl):PG X (.Subscript o i pos) (gSub to ti t):=by
 intro pins s σ H v u Q I r h;rw[ha];refine wpAny_bind (wpAny_holding (thn (ho pins s σ H _ I h) fun ov s1 ⟨x,H1,I1,r1,q1⟩=>?_));refine wpAny_bind (wpAny_holding (thn (hi pins s1 σ H1 _ I1 q1) fun iv s2 ⟨y,H2,I2,r2,q2⟩=>?_));refine wpAny_bind (wpAny_standAt (wpAny_bind (wpAny_holding (thn (hs pins s2 σ H2 x y v ov iv u _ I2 r1 r2 r q2) fun _ s3 ⟨H3,I3,q3⟩=>?_))));exact wpAny_release ⟨σ,H3,I3,q3⟩
def tAsg (te:TE) (g:TG):TS:=fun D σ H=>te σ H fun x H1=>g x σ H1 D.nx
theorem Zch {tg e:Expr}{te:TE}{g:TG} (he:PE X e te) (hg:PG X tg g) (hs:swapsWithSole [tg] e pos.line X.env=pure false:=by rfl) (hw:swappedStores [tg] e X.env=pure none:=by rfl)
  (h1:(assignEach [tg] X.env).map (·.2)=[assign tg X.env]:=by rfl):PS X (.Assign [tg] e pos) (tAsg te g):=by
 intro pins s σ H D I h;refine wpAny_Assign_stores (thn (he pins s σ H _ I h) fun v s1 ⟨x,H1,I1,r1,q1⟩=>?_) hs hw;rw[h1];exact thn (hg pins s1 σ H1 x v _ I1 r1 q1) fun _ s2 q=>q
theorem Zap {i:Nat}{x:Str}{e:Expr}{te:TE}{pos':Pos} (hN:X.N.Nodup) (hi:X.N[i]?=some x) (hx:Loc X.env.scope x) (he:PE X e te) (hs:swapsWith e (some (.Name x pos')) pos.line X.env=pure false:=by rfl) (hf:X.fn x=true∨X.env.scope.names.lookup x=some .local:=by first | exact .inl rfl | exact .inr rfl | assumption) :
  PS X (.Assign [.Name x pos'] e pos) (tAsg te (Zdd i)):=by
 intro pins s σ H D I h;refine wpAny_Assign_Name (thn (he pins s σ H _ I h) fun v s1 ⟨y,H1,I1,r1,q1⟩=>?_) hs;exact ZcL I1 hN hi hx r1 (fun s2 I2=>⟨_,H1,I2,q1⟩) hf
def tAug (i:Nat) (te:TE) (ti:TIp):TS:=fun D σ H=>∃ x,σ[i]?=some (some x)/\te σ H fun y H1=>ti x y H1 fun z H2=>D.nx (σ.set i (some z)) H2
theorem Zhy {i:Nat}{x:Str}{e:Expr}{te:TE}{op:Operator}{ti:TIp}{pos':Pos} (hN:X.N.Nodup) (hi:X.N[i]?=some x) (hx:Loc X.env.scope x) (he:PE X e te) (ho:PIp X op ti) (hf:X.fn x=true∨X.env.scope.names.lookup x=some .local:=by first | exact .inl rfl | exact .inr rfl | assumption) :
  PS X (.AugAssign (.Name x pos') op e pos) (tAug i te ti):=by
 intro pins s σ H D I h;obtain⟨v,e1,h⟩:=h;obtain⟨m,hn,hl⟩:=I.loc;have vis:Vis X.env.scope x:=by rcases hx with k | k;exact .inl k;exact .inr (.inl k)
 obtain⟨u,r,l⟩:=hl i x v hi e1 vis;refine wpAny_AugAssign_Name ?_;have go:wpAny (model X.prog X.w) X.A (eval e X.env) (fun w s₂=>wpAny (model X.prog X.w) X.A (inplaceOp op u w) (fun r s₃=>wpAny (model X.prog X.w) X.A (storeName X.env x r) (fun _=>SP X pins D .next) X.xe s₃) X.xe s₂) X.xe s:=by
  refine thn (he pins s σ H _ I h) fun w s1 ⟨y,H1,I1,r1,q1⟩=>?_;refine thn (ho pins s1 σ H1 v y u w _ I1 r r1 q1) fun z s2 ⟨zv,H2,I2,r2,q2⟩=>?_;exact ZcL I2 hN hi hx r2 (fun s3 I3=>⟨_,H2,I3,q2⟩) hf
 rcases l with ⟨hk,hm⟩ | ⟨hk,c,hc,hcell⟩
 ·exact wpAny_loadName_local I.ok.kind hk hn hm go
 ·rcases hk with hk | hk
  ·exact wpAny_loadName_cell I.ok.kind hk hc hcell go
  ·rcases hx with k | k
   ·have:X.env.scope.names.lookup x=some .free:=hk;rw[k] at this;cases this
   ·have:X.env.scope.names.lookup x=some .free:=hk;rw[k] at this;cases this
def ipI (f:Int->Int->Int):TIp:=fun x y H Q=>∃ i j,x=.int i/\y=.int j/\Q (.int (f i j)) H
theorem Zh3:PIp X .Add (ipI fun i j=>i+j):=by
 intro pins s σ H x y v u Q I r1 r2 h;obtain⟨i,j,e1,e2,q⟩:=h;subst e1;subst e2;obtain⟨t,rfl⟩:=r1;obtain⟨t',rfl⟩:=r2;exact iadd_int ⟨.int _,H,I.tok _,⟨_,rfl⟩,q⟩
end
section
variable {X:Cx}{pos:Pos}
def Zle (c:TT) (tb:TS):TS:=fun D σ H=>∃ W:Nat->St->Hp->Prop,(∃ m,W m σ H)/\∀ m σ H,W m σ H ->
 c σ H fun b H1=>if b=true then ∃ N:St->Hp->Prop,(∀ σ' H',N σ' H'->∃ m',m'<m/\W m' σ' H')/\tb { D with nx:=N,ct:=N,bk:=D.nx } σ H1 else D.nx σ H1
theorem Zi1 {c:Expr}{body:List Stmt}{tc:TT}{tb:TS} (hp:PassesOwn (model X.prog X.w) X.A X.env X.xe) (hc:PT X c tc) (hb:PSs X body tb):PS X (.While c body [] pos) (Zle tc tb):=by
 intro pins s σ H D I h;obtain⟨W,⟨m0,w0⟩,turn⟩:=h;refine wpAny_While (codeAny_whileLoop (fun n s'=>∃ σ' H',Inv X pins σ' H' s'/\W n σ' H') ?_ m0 ⟨σ,H,I,w0⟩);rintro n s1 ⟨σ1,H1,I1,w1⟩;refine wpAny_passesOwn hp (thn (hc pins s1 σ1 H1 _ I1 (turn n σ1 H1 w1)) fun b s2 ⟨H2,I2,q2⟩=>?_)
 cases b with
 | true=>
  obtain⟨N,hN,q2⟩:=q2;rw[if_pos rfl];refine wpAny_passesOwn hp (thn (hb pins s2 σ1 H2 _ I2 q2) fun f s3 q3=>?_)
  cases f with
  | next=>
   obtain⟨σ3,H3,I3,n3⟩:=q3;obtain⟨m',hm,w3⟩:=hN σ3 H3 n3;exact⟨m',hm,σ3,H3,I3,w3⟩
  | cont=>
   obtain⟨σ3,H3,I3,n3⟩:=q3;obtain⟨m',hm,w3⟩:=hN σ3 H3 n3;exact⟨m',hm,σ3,H3,I3,w3⟩
  | brk=>exact q3
  | ret v=>exact q3
 | false=>
  rw[if_neg YaC];exact wpAny_execs_nil ⟨σ1,H2,I2,q2⟩
end
structure It where
 go:Nat->Hp->Prop
 yld:Nat->Hp->V->Hp->Prop
 stop:Nat->Hp->Prop
def FpOk (X:Cx) (pins:List (Addr × Obj)) (H:Hp) (b:Addr):Prop :=
 H b=none/\b≠X.env.locals/\b ∉ X.fs/\(b∈X.ex∨X.s₀.heap.objs.size<=b)/\(∀ x c,X.env.cells.lookup x=some c->c≠b)/\∀ p∈X.pn++pins,p.1≠b
theorem Inv.fpOk {X:Cx}{pins:List (Addr × Obj)}{σ:St}{H H':Hp}{s:Shared}{b:Addr} (I:Inv X pins σ H s) (hb:s.heap.objs.size<=b) (hn:H' b=none):FpOk X pins H' b:=by
 refine⟨hn,Ybp (Yag I.lt hb),I.nofs hb,.inr (Ybk I.sz hb),fun x c e z=>?_,fun p hp z=>?_⟩
 ·obtain⟨v,q⟩:=I.cell x c e;exact absurd (Yag q.lt (by rw[z];exact hb)) (Ya8 _)
 ·exact absurd (Yag (Yaj (I.pin p hp).1) (by rw[z];exact hb)) (Ya8 _)
structure Turn (P:Program) (w:World) (K:Yad) (tg:Expr) (J:It) (fp:List Addr) (it:Addr) (tn:Nat->Heap->Prop):Prop where
 mem:it∈fp
 obj:∀ i h,tn i h->∀ b∈fp,∃ o,h.get? b=some o/\∀ v,o.data≠.cell v
 keep:∀ i h h',tn i h->(∀ b∈fp,∀ o,h.get? b=some o->h'.get? b=some o)->tn i h'
 item:∀ (X:Cx),X.prog=P->X.w=w->X.K=K->X.calm=true->∀ (i:Nat) (pins:List (Addr × Obj)) (s:Shared) (σ:St) (H:Hp) (E:Value->Shared->Prop),Inv X pins σ H s->(∀ b∈fp,FpOk X pins H b)->tn i s.heap->J.go i H ->
  wpAny (model P w) X.A (pyNext (.ref it)) (fun r s1=>∃ u,r=some u /\
   wpAny (model P w) X.A (letOwnedTupleGo tg (.ref it) u) (fun _ s2=>∃ x H',Inv X pins σ H' s2/\RelV x u/\J.yld i H x H'/\tn (i+1) s2.heap/\∀ b∈fp,H' b=none) E s1) E s
 done:∀ (X:Cx),X.prog=P->X.w=w->X.K=K->X.calm=true->∀ (i:Nat) (pins:List (Addr × Obj)) (s:Shared) (σ:St) (H:Hp) (E:Value->Shared->Prop),Inv X pins σ H s->(∀ b∈fp,FpOk X pins H b)->tn i s.heap->J.stop i H ->
  wpAny (model P w) X.A (pyNext (.ref it)) (fun r s1=>r=none/\Inv X pins σ H s1) E s
 self:∀ (A:Around) (i:Nat) (s:Shared) (Q:Value->Shared->Prop) (E:Value->Shared->Prop),tn i s.heap->Q (.ref it) s->wpAny (model P w) A (pyIter (.ref it)) Q E s
abbrev TI:=St->Hp->(It->Hp->Prop)->Prop
def PIE (X:Cx) (pins:List (Addr × Obj)) (σ:St) (tg:Expr) (R:It->Hp->Prop) (itv:Value) (s2:Shared):Prop :=
 ∃ (it:Addr) (fp:List Addr) (tn:Nat->Heap->Prop) (J:It) (H':Hp),itv=.ref it/\Inv X pins σ H' s2/\Turn X.prog X.w X.K tg J fp it tn/\tn 0 s2.heap/\(∀ b∈fp,FpOk X pins H' b)/\R J H'
def PI (X:Cx) (tg iter:Expr) (wi:TI):Prop :=
 ∀ (pins:List (Addr × Obj)) (s:Shared) (σ:St) (H:Hp) (R:It->Hp->Prop),Inv X pins σ H s->wi σ H R ->
  wpAny (model X.prog X.w) X.A (eval iter X.env) (fun v s1=>wpAny (model X.prog X.w) X.A (pyIter v) (PIE X pins σ tg R) X.xe s1) X.xe s
theorem ZkO {M:Model}{A:Around}{E:Value->Shared->Prop}{s:Shared}{tg:Expr}{it:Addr}{u:Value}{o:Obj}{n:String}{vs:Array Value}{Q:Unit->Shared->Prop} (ho:s.heap.get? it=some o) (hc:o.cls=.type n) (hd:o.data=.fields vs)
    (hn:["enumerate","zip","dict_itemiterator","dict_reverseitemiterator","odict_iterator","itertools.zip_longest","itertools.pairwise"].contains n=false) (hQ:Q () s):wpAny M A (letOwnedTupleGo tg (.ref it) u) Q E s:=by
  unfold letOwnedTupleGo;cases tg <;> first
    | exact wpAny_pure hQ
    | (cases u <;> first
        | exact wpAny_pure hQ
        | (refine wpAny_bind (wpAny_load ho ?_)
           rw[hc,hd];show wpAny M A (if (["enumerate","zip","dict_itemiterator","dict_reverseitemiterator","odict_iterator","itertools.zip_longest","itertools.pairwise"].contains n && vs[0]? == some (rawInt _))=true then _ else _) Q E s;rw[if_neg (by intro h;rw[hn,Bool.false_and] at h;cases h)];exact wpAny_pure hQ))
def Itl (K:Yad) (a:Addr):It :=
 ⟨fun i H=>∃ xs x,SqL K H a xs/\xs[i]?=some x,fun i H x H'=>H'=H/\∀ xs,SqL K H a xs->xs[i]?=some x,fun i H=>∃ xs,SqL K H a xs/\xs.length<=i⟩
def Itt (K:Yad) (a:Addr):It :=
 ⟨fun i H=>∃ xs x,SqT K H a xs/\xs[i]?=some x,fun i H x H'=>H'=H/\∀ xs,SqT K H a xs->xs[i]?=some x,fun i H=>∃ xs,SqT K H a xs/\xs.length<=i⟩
def Itr (lo:Int) (n:Nat):It:=⟨fun i _=>i<n,fun i H x H'=>H'=H/\x=.int (lo+i),fun i _=>n<=i⟩
theorem ZeI {P:Program}{w:World}{K:Yad}{tg:Expr} (a it:Addr):Turn P w K tg (Itl K a) [it] it (fun i h=>h.IsListIter it a i) where
 mem:=by simp
 obj:=fun i h st b hb=>by
  have e:b=it:=by simpa using hb
  subst e;obtain⟨o,e,c,d⟩:=st;exact⟨o,e,fun v z=>by rw[d] at z;cases z⟩
 keep:=fun i h h' st k=>st.at fun o e=>k it (by simp) o e
 item:=by
  intro X hP hw hK hc i pins s σ H E I hf st hg;subst hP hw hK;obtain⟨xs,x,hq,hx⟩:=hg;obtain⟨its,rv,p,hz⟩:=I.list hq;obtain⟨u,hu,ru⟩:=rv.get hx;obtain⟨f0,f1,f2,f3,f4,f5⟩:=hf it (by simp);refine wpAny_pyNext_list_item st p.isList (x:=u) (by simpa using hu) fun h' st' sb=>?_;have I1:Inv X pins σ H { s with heap:=h' }:=I.turned (t':=s.toks) (fun b o hb e=>(sb.2 b hb).trans e) f0 f1 f3 f4 f5;obtain⟨o,e,c,d⟩:=id st';exact⟨u,rfl,ZkO (s:={ s with heap:=h' }) e c d (by decide) ⟨x,H,I1,ru,⟨rfl,fun ys hy=>by rw[I.list_inj hy hq];exact hx⟩,st',fun b hb=>(hf b hb).1⟩⟩
 done:=by
  intro X hP hw hK hc i pins s σ H E I hf st hg;subst hP hw hK;obtain⟨xs,hq,hx⟩:=hg;obtain⟨its,rv,p,hz⟩:=I.list hq;obtain⟨f0,f1,f2,f3,f4,f5⟩:=hf it (by simp);have hl:=rv.length;exact wpAny_pyNext_list_end (I.ok.hd hc) st p.isList (by simp;(clear f3 f2 f1 hz;omega)) fun h' eb=>⟨rfl,I.turned (t':=s.toks) (fun b o hb e=>eb b o hb e) f0 f1 f3 f4 f5⟩
 self:=fun _ _ _ _ _ st h=>wpAny_pyIter_listiter st h
theorem Zdz {P:Program}{w:World}{K:Yad}{tg:Expr} (a it:Addr):Turn P w K tg (Itt K a) [it] it (fun i h=>h.IsTupleIter it a i) where
 mem:=by simp
 obj:=fun i h st b hb=>by
  have e:b=it:=by simpa using hb
  subst e;obtain⟨o,e,c,d⟩:=st;exact⟨o,e,fun v z=>by rw[d] at z;cases z⟩
 keep:=fun i h h' st k=>st.at fun o e=>k it (by simp) o e
 item:=by
  intro X hP hw hK hc i pins s σ H E I hf st hg;subst hP hw hK;obtain⟨xs,x,hq,hx⟩:=hg;obtain⟨its,rv,p,hz⟩:=I.tuple hq;obtain⟨u,hu,ru⟩:=rv.get hx;obtain⟨f0,f1,f2,f3,f4,f5⟩:=hf it (by simp);refine wpAny_pyNext_tuple_item st (show s.heap.IsTuple a its.toArray from p) (x:=u) (by simpa using hu) fun h' st' sb=>?_;have I1:Inv X pins σ H { s with heap:=h' }:=I.turned (t':=s.toks) (fun b o hb e=>(sb.2 b hb).trans e) f0 f1 f3 f4 f5;obtain⟨o,e,c,d⟩:=id st';exact⟨u,rfl,ZkO (s:={ s with heap:=h' }) e c d (by decide) ⟨x,H,I1,ru,⟨rfl,fun ys hy=>by rw[I.tuple_inj hy hq];exact hx⟩,st',fun b hb=>(hf b hb).1⟩⟩
 done:=by
  intro X hP hw hK hc i pins s σ H E I hf st hg;subst hP hw hK;obtain⟨xs,hq,hx⟩:=hg;obtain⟨its,rv,p,hz⟩:=I.tuple hq;obtain⟨f0,f1,f2,f3,f4,f5⟩:=hf it (by simp);have hl:=rv.length;exact wpAny_pyNext_tuple_end (I.ok.hd hc) st (show s.heap.IsTuple a its.toArray from p) (by simp;(clear f3 f2 f1 hz;omega)) fun h' eb=>⟨rfl,I.turned (t':=s.toks) (fun b o hb e=>eb b o hb e) f0 f1 f3 f4 f5⟩
 self:=fun _ _ _ _ _ st h=>wpAny_pyIter_tupleiter st h
theorem Zgw {P:Program}{w:World}{K:Yad}{tg:Expr} (it:Addr) (lo:Int) (n:Nat):Turn P w K tg (Itr lo n) [it] it (fun i h=>IsRangeIter h it (lo+(i:Nat)*1) ((n:Int) - (i:Nat)) 1) where
 mem:=by simp
 obj:=fun i h st b hb=>by
  have e:b=it:=by simpa using hb
  subst e;exact⟨_,st,fun v z=>by
   have z':Data.fields _=Data.cell v:=z;cases z'⟩
 keep:=fun i h h' st k=>k it (by simp) _ st
 item:=by
  intro X hP hw hK hc i pins s σ H E I hf st hg;subst hP hw hK;obtain⟨f0,f1,f2,f3,f4,f5⟩:=hf it (by simp);have W:=Walks.range (prog:=X.prog) (w:=X.w) (I.ok.hd hc) it lo 1 n;refine W.item i s _ _ hg st fun v h' tk hv st' kk=>?_;obtain⟨t,rfl⟩:=hv;have I1:Inv X pins σ H { s with heap:=h',toks:=tk }:=I.turned (fun b o hb e=>kk b o (by simpa using hb) e) f0 f1 f3 f4 f5;refine⟨_,rfl,ZkO (s:={ s with heap:=h',toks:=tk }) (n:="range_iterator") st' rfl rfl (by decide) ⟨.int (lo+i),H,I1,⟨t,?_⟩,⟨rfl,rfl⟩,st',fun b hb=>(hf b hb).1⟩⟩;rw[Int.mul_one]
 done:=by
  intro X hP hw hK hc i pins s σ H E I hf st hg;subst hP hw hK;obtain⟨f0,f1,f2,f3,f4,f5⟩:=hf it (by simp);exact wpAny_pyNext_range_end (I.ok.hd hc) st (by have:n<=i:=hg;(clear f3 f2 f1;omega)) fun h' eb=>⟨rfl,I.turned (t':=s.toks) (fun b o hb e=>eb b o hb e) f0 f1 f3 f4 f5⟩
 self:=fun _ _ _ _ _ st h=>wpAny_pyIter_rangeiter st h
end L2
namespace L2
open PySem PySem.Spec PyProof.Rows
section
variable {X:Cx}{tg:Expr}
def ZlZ (K:Yad) (tl:TE):TI:=fun σ H R=>tl σ H fun x H1=>∃ a,x=.ref a/\(∃ xs,SqL K H1 a xs)/\R (Itl K a) H1
def iTup (K:Yad) (tl:TE):TI:=fun σ H R=>tl σ H fun x H1=>∃ a,x=.ref a/\(∃ xs,SqT K H1 a xs)/\R (Itt K a) H1
theorem Za7 {l:Expr}{tl:TE} (hl:PE X l tl):PI X tg l (ZlZ X.K tl):=by
 intro pins s σ H R I h;refine thn (hl pins s σ H _ I h) fun v s1 ⟨x,H1,I1,r1,q1⟩=>?_;obtain⟨a,e,⟨xs,hq⟩,q⟩:=q1;subst e;cases r1;obtain⟨its,rv,p,hz⟩:=I1.list hq;refine wpAny_pyIter_list p.isList ?_;refine⟨s1.heap.objs.size,[s1.heap.objs.size],_,_,H1,rfl,I1.kept (t':=s1.toks) fun b o e=>Yac _ e,ZeI a _,⟨_,YaB _ rfl,rfl,rfl⟩,fun b hb=>?_,q⟩;have e:b=s1.heap.objs.size:=by simpa using hb
 subst e;exact I1.fpOk (Yap _) (I1.hok.fresh (Yap _))
theorem Zly {l:Expr}{tl:TE} (hl:PE X l tl):PI X tg l (iTup X.K tl):=by
 intro pins s σ H R I h;refine thn (hl pins s σ H _ I h) fun v s1 ⟨x,H1,I1,r1,q1⟩=>?_;obtain⟨a,e,⟨xs,hq⟩,q⟩:=q1;subst e;cases r1;obtain⟨its,rv,p,hz⟩:=I1.tuple hq;refine wpAny_pyIter_tuple (show s1.heap.IsTuple a its.toArray from p) ?_;refine⟨s1.heap.objs.size,[s1.heap.objs.size],_,_,H1,rfl,I1.kept (t':=s1.toks) fun b o e=>Yac _ e,Zdz a _,⟨_,YaB _ rfl,rfl,rfl⟩,fun b hb=>?_,q⟩;have e:b=s1.heap.objs.size:=by simpa using hb
 subst e;exact I1.fpOk (Yap _) (I1.hok.fresh (Yap _))
theorem Zf5 {pins:List (Addr × Obj)}{σ:St}{H:Hp}{s:Shared}{R:It->Hp->Prop}{E:Value->Shared->Prop}{lo hi:Int}{t u v:Tok}{tk:Nat} (I:Inv X pins σ H s) (h1:-(2 ^ 62)<=lo) (h2:lo<2 ^ 62) (h3:-(2 ^ 62)<=hi) (h4:hi<2 ^ 62)
  (q:R (Itr lo (hi - lo).toNat) H):wpAny (model X.prog X.w) X.A (pyIter (.ref s.heap.objs.size)) (PIE X pins σ tg R) E { s with heap:=s.heap.push { cls:=.type "range",data:=.fields #[.int lo t,.int hi u,.int 1 v] },toks:=tk }:=by
 refine wpAny_pyIter_range (IsRange.new ..) (small_one h1 h2 h3 h4) ?_;have I1:Inv X pins σ H { s with heap:=s.heap.push { cls:=.type "range",data:=.fields #[.int lo t,.int hi u,.int 1 v] },toks:=tk }:=I.kept fun b o e=>Yac _ e;refine⟨(s.heap.push { cls:=.type "range",data:=.fields #[.int lo t,.int hi u,.int 1 v] }).objs.size,[(s.heap.push { cls:=.type "range",data:=.fields #[.int lo t,.int hi u,.int 1 v] }).objs.size],_,_,H,rfl,
  I1.kept (t':=tk) fun b o e=>Yac _ e,Zgw _ lo (hi - lo).toNat,?_,fun b hb=>?_,q⟩
 ·have e1:lo+((0:Nat):Int)*1=lo:=by simp
  have e2:(((hi - lo).toNat:Nat):Int) - ((0:Nat):Int)=Ydi lo hi 1:=by rw[rangeSize_one];split <;> (clear e1 h4 h3 h2 h1;omega)
  show IsRangeIter _ _ (lo+((0:Nat):Int)*1) ((((hi - lo).toNat:Nat):Int) - ((0:Nat):Int)) 1;rw[e1,e2];exact YaB _ rfl
 ·have e:b=(s.heap.push { cls:=.type "range",data:=.fields #[.int lo t,.int hi u,.int 1 v] }).objs.size:=by simpa using hb
  subst e;exact I1.fpOk (Yap _) (I1.hok.fresh (Yap _))
def ZmG (ta:TA):TI:=fun σ H R=>ta σ H fun vs H1=>∃ j:Int,vs=[.int j]/\-(2 ^ 62)<=j/\j<2 ^ 62/\R (Itr 0 j.toNat) H1
def ZmF (ta:TA):TI:=fun σ H R=>ta σ H fun vs H1=>∃ i j:Int,vs=[.int i,.int j]/\(-(2 ^ 62)<=i/\i<2 ^ 62/\-(2 ^ 62)<=j/\j<2 ^ 62)/\R (Itr i (j - i).toNat) H1
theorem ZaL {a:Expr}{ta:TA}{p pos:Pos} (hg:Gl X "range") (hm:X.mg "range"=none) (ha:PA X [a] ta) (hs:starEach [a] X.env=[(false,eval a X.env)]:=by rfl):PI X tg (.Call (.Name "range" p) [a] [] pos) (ZmG ta):=by
 intro pins s σ H R I h;refine Call_ (Zc8 I hg hm boot_range (YbG (thn (ha pos pins s σ H _ I h) fun us s1 ⟨vs,H1,I1,r1,q1⟩=>?_) hs rfl));obtain⟨j,e,q1,q2,q⟩:=q1;subst e
 cases r1 with
 | cons r rr=>
  cases rr;obtain⟨t,rfl⟩:=r;exact call_range_1 (Zf5 I1 (by (clear q2 q1;omega)) (by (clear q2 q1;omega)) q1 q2 (by simpa using q))
theorem ZhB {a b:Expr}{ta:TA}{p pos:Pos} (hg:Gl X "range") (hm:X.mg "range"=none) (ha:PA X [a,b] ta) (hs:starEach [a,b] X.env=[(false,eval a X.env),(false,eval b X.env)]:=by rfl) (hs2:starEach [b] X.env=[(false,eval b X.env)]:=by rfl) :
  PI X tg (.Call (.Name "range" p) [a,b] [] pos) (ZmF ta):=by
 intro pins s σ H R I h;refine Call_ (Zc8 I hg hm boot_range (YbG (thn (ha pos pins s σ H _ I h) fun us s1 ⟨vs,H1,I1,r1,q1⟩=>?_) (by rw[hs,hs2]) (by rw[hs2];rfl)));obtain⟨i,j,e,⟨q1,q2,q3,q4⟩,q⟩:=q1;subst e
 cases r1 with
 | cons r rr=>
  cases rr with
  | cons r' rr=>
   cases rr;obtain⟨t,rfl⟩:=r;obtain⟨t',rfl⟩:=r';exact call_range_2 (Zf5 I1 q1 q2 q3 q4 q)
def tFor (wi:TI) (g:TG) (tb:TS):TS:=fun D σ H=>wi σ H fun J H1=>∃ W:Nat->Nat->St->Hp->Prop,(∃ m,W 0 m σ H1)/\∀ i m σ H,W i m σ H ->
 (J.stop i H/\D.nx σ H)∨(J.go i H/\∃ N:St->Hp->Prop,(∀ σ' H',N σ' H'->∃ m',m'<m/\W (i+1) m' σ' H')/\∀ x H',J.yld i H x H'->g x σ H' fun σ2 H2=>tb { D with nx:=N,ct:=N,bk:=D.nx } σ2 H2)
def ZcF (fp:List Addr) (h:Heap):List (Addr × Obj):=fp.filterMap fun b=>(h.get? b).map fun o=>(b,o)
theorem ZaJ {fp:List Addr}{h:Heap}{b:Addr}{o:Obj} (hb:b∈fp) (e:h.get? b=some o):(b,o)∈ZcF fp h:=Ybi.mpr ⟨b,hb,by rw[e];rfl⟩
theorem ZhR {fp:List Addr}{h:Heap}{p:Addr × Obj} (hp:p∈ZcF fp h):p.1∈fp/\h.get? p.1=some p.2:=by
 obtain⟨b,hb,e⟩:=Ybi.mp hp
 cases q:h.get? b with
 | none=>rw[q] at e;cases e
 | some o=>
  rw[q] at e;have e':(b,o)=p:=Yau e;subst e';exact⟨hb,q⟩
theorem Inv.pinned {pins:List (Addr × Obj)}{σ:St}{H:Hp}{s:Shared}{fp:List Addr} (I:Inv X pins σ H s) (hf:∀ b∈fp,FpOk X pins H b) (ho:∀ b∈fp,∃ o,s.heap.get? b=some o/\∀ v,o.data≠.cell v):Inv X (pins++ZcF fp s.heap) σ H s :=
 I.pins_of fun p hp=>(Yar.mp hp).elim (fun z=>I.pin p (Yaq _ z)) fun z=>by
  obtain⟨hb,e⟩:=ZhR z;obtain⟨f0,f1,f2,_⟩:=hf p.1 hb;obtain⟨o,e',d⟩:=ho p.1 hb;rw[e] at e';cases e';exact⟨e,f0,f1,f2,d⟩
theorem Inv.unpinned {pins pl:List (Addr × Obj)}{σ:St}{H:Hp}{s:Shared} (I:Inv X (pins++pl) σ H s):Inv X pins σ H s:=I.pins_of fun p hp=>I.pin p (Yaq _ (YaT _ hp))
theorem ZbS {iter:Expr}{body:List Stmt}{wi:TI}{g:TG}{tb:TS}{pos:Pos} (hp:PassesOwn (model X.prog X.w) X.A X.env X.xe) (hc:X.calm=true) (hi:PI X tg iter wi) (hg:PG X tg g) (hb:PSs X body tb)
  (hs:∀ x,foldedSetIterable iter X.env x=pure x:=by intro _;rfl):PS X (.For tg iter body [] pos) (tFor wi g tb):=by
 intro pins s σ H D I h;refine wpAny_For (thn (hi pins s σ H _ I h) fun v s1 h1=>thn h1 fun itv s2 h2=>?_) hs;obtain⟨it,fp,tn,J,H2,e,I2,T,st2,f2,W,⟨m0,w0⟩,turn⟩:=h2;subst e;have stat:∀ {H':Hp},(∀ b∈fp,H' b=none)->∀ b∈fp,FpOk X pins H' b:=fun hn b hb=>⟨hn b hb,(f2 b hb).2⟩
 refine codeAny_forLoop_any (fun n s'=>∃ i σ' H',Inv X pins σ' H' s'/\tn i s'.heap/\(∀ b∈fp,H' b=none)/\W i n σ' H') ?_ m0 ⟨0,σ,H2,I2,st2,fun b hb=>(f2 b hb).1,w0⟩;rintro n s3 ⟨i,σ3,H3,I3,st3,fr3,w3⟩;rcases turn i n σ3 H3 w3 with ⟨stop,qn⟩ | ⟨go,N,hN,step⟩
 ·refine wpAny_passesOwn hp (thn (T.done X rfl rfl rfl hc i pins s3 σ3 H3 X.xe I3 (stat fr3) st3 stop) fun r s4 ⟨hr,I4⟩=>?_);subst hr;exact wpAny_execs_nil ⟨σ3,H3,I4,qn⟩
 ·refine wpAny_passesOwn hp (thn (T.item X rfl rfl rfl hc i pins s3 σ3 H3 X.xe I3 (stat fr3) st3 go) fun r s4 ⟨u,hr,h4⟩=>?_);subst hr;refine wpAny_passesOwn hp (thn h4 fun _ s5 ⟨x,H5,I5,r5,y5,st5,fr5⟩=>?_);have I5':=I5.pinned (stat fr5) (T.obj _ _ st5);refine wpAny_passesOwn hp (thn (hg _ s5 σ3 H5 x u _ I5' r5 (step x H5 y5)) fun _ s6 ⟨σ6,H6,I6,q6⟩=>?_);refine wpAny_passesOwn hp (thn (hb _ s6 σ6 H6 _ I6 q6) fun f s7 q7=>?_);have again:∀ {σ7:St}{H7:Hp},Inv X (pins++ZcF fp s5.heap) σ7 H7 s7->N σ7 H7->∃ m,m<n/\∃ i σ' H',Inv X pins σ' H' s7/\tn i s7.heap/\(∀ b∈fp,H' b=none)/\W i m σ' H':=fun {σ7 H7} I7 n7=>by
   obtain⟨m',hm,w7⟩:=hN σ7 H7 n7;refine⟨m',hm,i+1,σ7,H7,I7.unpinned,T.keep _ _ _ st5 fun b hb o e=>(I7.pin (b,o) (Yaq _ (Yaq _ (ZaJ hb e)))).1,fun b hb=>?_,w7⟩;obtain⟨o,e,d⟩:=T.obj _ _ st5 b hb;exact (I7.pin (b,o) (Yaq _ (Yaq _ (ZaJ hb e)))).2.1
  cases f with
  | next=>obtain⟨σ7,H7,I7,n7⟩:=q7;exact again I7 n7
  | cont=>obtain⟨σ7,H7,I7,n7⟩:=q7;exact again I7 n7
  | brk=>obtain⟨σ7,H7,I7,q7⟩:=q7;exact⟨σ7,H7,I7.unpinned,q7⟩
  | ret v=>obtain⟨x7,σ7,H7,I7,r7,q7⟩:=q7;exact⟨x7,σ7,H7,I7.unpinned,r7,q7⟩
end
theorem Zcl {K:Yad}{a:Addr}{xs:List V}{g:TG}{tb:TS}{D:Ends}{σ:St}{H:Hp} (Pv:Nat->St->Hp->Prop) (h0:Pv 0 σ H) (hl:∀ i σ H,i<=xs.length->Pv i σ H->SqL K H a xs)
  (hs:∀ i x σ H,xs[i]?=some x->Pv i σ H->g x σ H fun σ2 H2=>tb { D with nx:=Pv (i+1),ct:=Pv (i+1),bk:=D.nx } σ2 H2) (hd:∀ σ H,Pv xs.length σ H->D.nx σ H) :
  ∃ W:Nat->Nat->St->Hp->Prop,(∃ m,W 0 m σ H)/\∀ i m σ H,W i m σ H ->
   ((Itl K a).stop i H/\D.nx σ H)∨((Itl K a).go i H/\∃ N:St->Hp->Prop,(∀ σ' H',N σ' H'->∃ m',m'<m/\W (i+1) m' σ' H')/\∀ x H',(Itl K a).yld i H x H'->g x σ H' fun σ2 H2=>tb { D with nx:=N,ct:=N,bk:=D.nx } σ2 H2):=by
 refine⟨fun i m σ H=>m=xs.length - i/\i<=xs.length/\Pv i σ H,⟨xs.length,by simp,YaX _,h0⟩,?_⟩;rintro i m σ H ⟨rfl,hi,p⟩;have q:=hl i σ H hi p;by_cases hlt:i<xs.length
 ·refine .inr ⟨⟨xs,xs[i],q,by simp[hlt]⟩,Pv (i+1),fun σ' H' p'=>⟨xs.length - (i+1),by (clear hi;omega),rfl,hlt,p'⟩,fun x H' y=>?_⟩;obtain⟨e,y⟩:=y;subst e;exact hs i x σ _ (y xs q) p
 ·have e:i=xs.length:=by omega
  subst e;exact .inl ⟨⟨xs,q,Yap _⟩,hd σ H p⟩
theorem ZbC {lo:Int}{n:Nat}{g:TG}{tb:TS}{D:Ends}{σ:St}{H:Hp} (Pv:Nat->St->Hp->Prop) (h0:Pv 0 σ H)
  (hs:∀ i σ H,i<n->Pv i σ H->g (.int (lo+i)) σ H fun σ2 H2=>tb { D with nx:=Pv (i+1),ct:=Pv (i+1),bk:=D.nx } σ2 H2) (hd:∀ σ H,Pv n σ H->D.nx σ H) :
  ∃ W:Nat->Nat->St->Hp->Prop,(∃ m,W 0 m σ H)/\∀ i m σ H,W i m σ H ->
   ((Itr lo n).stop i H/\D.nx σ H)∨((Itr lo n).go i H/\∃ N:St->Hp->Prop,(∀ σ' H',N σ' H'->∃ m',m'<m/\W (i+1) m' σ' H')/\∀ x H',(Itr lo n).yld i H x H'->g x σ H' fun σ2 H2=>tb { D with nx:=N,ct:=N,bk:=D.nx } σ2 H2):=by
 refine⟨fun i m σ H=>m=n - i/\i<=n/\Pv i σ H,⟨n,by simp,YaX _,h0⟩,?_⟩;rintro i m σ H ⟨rfl,hi,p⟩;by_cases hlt:i<n
 ·refine .inr ⟨hlt,Pv (i+1),fun σ' H' p'=>⟨n - (i+1),by (clear hi;omega),rfl,hlt,p'⟩,fun x H' y=>?_⟩;obtain⟨e,y⟩:=y;subst e y;exact hs i σ _ hlt p
 ·have e:i=n:=by omega
  subst e;exact .inl ⟨Yap _,hd σ H p⟩
end L2
namespace L2
open PySem PySem.Spec PyProof.Rows
abbrev R2:=V->V->Hp->VK->Prop
def OpR (X:Cx) (f:Value->Value->Sem Value) (r:R2):Prop :=
 ∀ (pins:List (Addr × Obj)) (s:Shared) (σ:St) (H:Hp) (x y:V) (v u:Value) (Q:VK),Inv X pins σ H s->RelV x v->RelV y u->r x y H Q ->
  wpAny (model X.prog X.w) X.A (f v u) (EP X pins σ Q) X.xe s
def UnR (X:Cx) (f:Value->Sem Value) (r:V->Hp->VK->Prop):Prop :=
 ∀ (pins:List (Addr × Obj)) (s:Shared) (σ:St) (H:Hp) (x:V) (v:Value) (Q:VK),Inv X pins σ H s->RelV x v->r x H Q ->
  wpAny (model X.prog X.w) X.A (f v) (EP X pins σ Q) X.xe s
def Zca (X:Cx) (f:Value) (r:List V->Hp->VK->Prop):Prop :=
 ∀ (pins:List (Addr × Obj)) (s:Shared) (σ:St) (H:Hp) (xs:List V) (us:List Value) (Q:VK),Inv X pins σ H s->Vals xs us->r xs H Q ->
  wpAny (model X.prog X.w) X.A (call f us) (EP X pins σ Q) X.xe s
def TruR (X:Cx) (r:V->Hp->(Bool->Hp->Prop)->Prop):Prop :=
 ∀ (pins:List (Addr × Obj)) (s:Shared) (σ:St) (H:Hp) (x:V) (v:Value) (Q:Bool->Hp->Prop),Inv X pins σ H s->RelV x v->r x H Q ->
  wpAny (model X.prog X.w) X.A (truthy v) (TP X pins σ Q) X.xe s
def tOp (r:R2) (ta tb:TE):TE:=fun σ H Q=>ta σ H fun x H1=>tb σ H1 fun y H2=>r x y H2 Q
def tUn (r:V->Hp->VK->Prop) (ta:TE):TE:=fun σ H Q=>ta σ H fun x H1=>r x H1 Q
def rI (C:Int->Int->Prop) (g:Int->Int->V):R2:=fun x y H Q=>∃ i j,x=.int i/\y=.int j/\C i j/\Q (g i j) H
def rI0 (g:Int->Int->V):R2:=fun x y H Q=>∃ i j,x=.int i/\y=.int j/\Q (g i j) H
def rU (g:Int->V):V->Hp->VK->Prop:=fun x H Q=>∃ i,x=.int i/\Q (g i) H
section
variable {X:Cx}{a b c:Expr}{ta tb tc:TE}{pos:Pos}
theorem binT (ha:PE X a ta) (hb:PE X b tb) {pins:List (Addr × Obj)}{s:Shared}{σ:St}{H:Hp}{R:V->V->Hp->Prop} (I:Inv X pins σ H s)
  (h:ta σ H fun x H1=>tb σ H1 fun y H2=>R x y H2) {Q:Value->Shared->Prop}{f:Value->Value->Sem Value}
  (hf:∀ v u s2 x y H2,Inv X pins σ H2 s2->RelV x v->RelV y u->R x y H2->wpAny (model X.prog X.w) X.A (f v u) Q X.xe s2) :
  wpAny (model X.prog X.w) X.A (eval a X.env) (fun v s₁=>wpAny (model X.prog X.w) X.A (eval b X.env) (fun u s₂=>wpAny (model X.prog X.w) X.A (f v u) Q X.xe s₂) X.xe s₁) X.xe s:=by
 refine thn (ha pins s σ H _ I h) fun v s1 ⟨x,H1,I1,r1,q1⟩=>?_;refine thn (hb pins s1 σ H1 _ I1 q1) fun u s2 ⟨y,H2,I2,r2,q2⟩=>?_;exact hf v u s2 x y H2 I2 r1 r2 q2
theorem Zav {op:Operator}{r:R2} (ho:OpR X (binaryOp op) r) (ha:PE X a ta) (hb:PE X b tb):PE X (.BinOp a op b pos) (tOp r ta tb):=by
 intro pins s σ H Q I h;exact wpAny_BinOp (binT ha hb I h fun v u s2 x y H2 I2 rx ry q=>ho pins s2 σ H2 x y v u Q I2 rx ry q)
theorem ZfB {op:UnaryOp}{r:V->Hp->VK->Prop} (ho:UnR X (unaryOp op) r) (ha:PE X a ta):PE X (.UnaryOp op a pos) (tUn r ta):=by
 intro pins s σ H Q I h;exact UnaryOp_ (thn (ha pins s σ H _ I h) fun v s1 ⟨x,H1,I1,r1,q1⟩=>ho pins s1 σ H1 x v Q I1 r1 q1)
theorem opI {f:Value->Value->Sem Value}{C:Int->Int->Prop}{g:Int->Int->Int}
  (rule:∀ (i j:Int) (t u:Tok) (s:Shared) (Q:Value->Shared->Prop) (E:Value->Shared->Prop),C i j->Q (.int (g i j) s.toks) { s with toks:=s.toks+1 }->wpAny (model X.prog X.w) X.A (f (.int i t) (.int j u)) Q E s) :
  OpR X f (rI C fun i j=>.int (g i j)):=by
 intro pins s σ H x y v u Q I rx ry h;obtain⟨i,j,rfl,rfl,hc,q⟩:=h;obtain⟨t,rfl⟩:=rx;obtain⟨t',rfl⟩:=ry;exact rule i j t t' s _ _ hc ⟨.int (g i j),H,I.tok _,⟨_,rfl⟩,q⟩
theorem opI0 {f:Value->Value->Sem Value}{g:Int->Int->Int}
  (rule:∀ (i j:Int) (t u:Tok) (s:Shared) (Q:Value->Shared->Prop) (E:Value->Shared->Prop),Q (.int (g i j) s.toks) { s with toks:=s.toks+1 }->wpAny (model X.prog X.w) X.A (f (.int i t) (.int j u)) Q E s) :
  OpR X f (rI0 fun i j=>.int (g i j)):=by
 intro pins s σ H x y v u Q I rx ry h;obtain⟨i,j,rfl,rfl,q⟩:=h;obtain⟨t,rfl⟩:=rx;obtain⟨t',rfl⟩:=ry;exact rule i j t t' s _ _ ⟨.int (g i j),H,I.tok _,⟨_,rfl⟩,q⟩
theorem opB0 {f:Value->Value->Sem Value}{g:Int->Int->Bool}
  (rule:∀ (i j:Int) (t u:Tok) (s:Shared) (Q:Value->Shared->Prop) (E:Value->Shared->Prop),Q (.bool (g i j)) s->wpAny (model X.prog X.w) X.A (f (.int i t) (.int j u)) Q E s) :
  OpR X f (rI0 fun i j=>.bl (g i j)):=by
 intro pins s σ H x y v u Q I rx ry h;obtain⟨i,j,rfl,rfl,q⟩:=h;obtain⟨t,rfl⟩:=rx;obtain⟨t',rfl⟩:=ry;exact rule i j t t' s _ _ ⟨.bl (g i j),H,I,rfl,q⟩
def CDiv (i j:Int):Prop:=0<j/\j<1073741824
def CPow (i j:Int):Prop:=0<=j/\j<=1000000/\i.natAbs<2 ^ 64
def CMul (i j:Int):Prop:=(-(2 ^ 64)<i/\i<2 ^ 64)∨(-(2 ^ 64)<j/\j<2 ^ 64)
theorem CMul.ok {i j:Int} (h:CMul i j):IntMulOk i j:=by
 rcases h with ⟨h1,h2⟩ | ⟨h1,h2⟩
 ·exact .of_left (intBits_le_64 h1 h2)
 ·exact .of_right (intBits_le_64 h1 h2)
theorem ZaV:OpR X (binaryOp .Add) (rI0 fun i j=>.int (i+j)):=opI0 fun _ _ _ _ _ _ _ q=>add_int q
theorem Zc6:OpR X (binaryOp .Sub) (rI0 fun i j=>.int (i - j)):=opI0 fun _ _ _ _ _ _ _ q=>sub_int q
theorem ZjR:OpR X (binaryOp .Mult) (rI CMul fun i j=>.int (i*j)):=opI fun _ _ _ _ _ _ _ hc q=>mul_int q hc.ok
theorem Zky:OpR X (binaryOp .FloorDiv) (rI CDiv fun i j=>.int (i / j)):=opI fun i j _ _ _ _ _ hc q=>by
 have h1:(0:Int)<j:=hc.1;have h2:j<1073741824:=hc.2;exact floordiv_int (by (clear h2;omega)) (by rw[YdO i (by (clear h2;omega))];exact q) (.inl (PyProof.noPylong_small (by omega)))
theorem ZbT:OpR X (binaryOp .Mod) (rI (fun _ j=>0<j) fun i j=>.int (i % j)):=opI fun i j _ _ _ _ _ hc q=>by
 have h1:(0:Int)<j:=hc;exact mod_int' (by (clear h1;omega)) (by rw[Int.fmod_eq_emod_of_nonneg i (by (clear h1;omega))];exact q)
theorem ZdK:OpR X (binaryOp .Pow) (rI CPow fun i j=>.int (i ^ j.toNat)):=opI fun _ _ _ _ _ _ _ hc q=>pow_int_small hc.1 hc.2.1 hc.2.2 q
theorem unI {f:Value->Sem Value}{g:Int->Int}
  (rule:∀ (i:Int) (t:Tok) (s:Shared) (Q:Value->Shared->Prop) (E:Value->Shared->Prop),Q (.int (g i) s.toks) { s with toks:=s.toks+1 }->wpAny (model X.prog X.w) X.A (f (.int i t)) Q E s) :
  UnR X f (rU fun i=>.int (g i)):=by
 intro pins s σ H x v Q I rx h;obtain⟨i,rfl,q⟩:=h;obtain⟨t,rfl⟩:=rx;exact rule i t s _ _ ⟨.int (g i),H,I.tok _,⟨_,rfl⟩,q⟩
theorem ZcX:UnR X (unaryOp .USub) (rU fun i=>.int (-i)):=unI fun _ _ _ _ _ q=>neg_int q
end
def scal:V->V->Bool
 | .non,.non=>true | .non,.int _=>true | .int _,.non=>true | .non,.bl _=>true | .bl _,.non=>true | .non,.str _=>true | .str _,.non=>true
 | .int _,.int _=>true | .bl _,.bl _=>true | .str _,.str _=>true | .byt _,.byt _=>true
 | .int _,.str _=>true | .str _,.int _=>true | .bl _,.str _=>true | .str _,.bl _=>true
 | _,_=>false
def rEq:R2:=fun x y H Q=>scal x y=true/\Q (.bl (decide (x=y))) H
def rNe:R2:=fun x y H Q=>scal x y=true/\Q (.bl (!decide (x=y))) H
theorem Zin {i j:Int}:decide (V.int i=V.int j)=(i == j):=by
 rw[YcJ];simp
theorem Zip {i j:Bool}:decide (V.bl i=V.bl j)=(i == j):=by
 rw[YcJ];simp
theorem Zim {i j:Str}:decide (V.str i=V.str j)=(i == j):=by
 rw[YcJ];simp
theorem Zio {i j:Array UInt8}:decide (V.byt i=V.byt j)=(i.toList == j.toList):=by
 rw[YcJ];cases i;cases j;simp
section
variable {X:Cx}{a b c:Expr}{ta tb tc:TE}{pos:Pos}
theorem ZaB {pins:List (Addr × Obj)}{σ:St}{H:Hp}{s:Shared}{Q:VK}{k k':Bool} (I:Inv X pins σ H s) (q:Q (.bl k) H) (e:k=k'):EP X pins σ Q (.bool k') s:=by
 subst e;exact⟨.bl k,H,I,rfl,q⟩
theorem ZlI:OpR X (compareOp .Eq) rEq:=by
 intro pins s σ H x y v u Q I rx ry h;obtain⟨hs,q⟩:=h
 cases x with
 | non=>
  cases rx
  cases y with
  | non=>cases ry;exact PySem.EqNone.eq_none_none (ZaB I q (by simp))
  | bl j=>cases ry;exact PySem.EqNone.eq_none_bool (ZaB I q (by simp))
  | int j=>obtain⟨t',rfl⟩:=ry;exact PySem.EqNone.eq_none_int (ZaB I q (by simp))
  | str j=>obtain⟨t',rfl⟩:=ry;exact PySem.EqNone.eq_none_str (ZaB I q (by simp))
  | _=>exact absurd (show false=true from hs) YaC
 | bl i=>
  cases rx
  cases y with
  | non=>cases ry;exact PySem.EqNone.eq_bool_none (ZaB I q (by simp))
  | bl j=>cases ry;exact eq_bool (ZaB I q Zip)
  | str j=>obtain⟨t',rfl⟩:=ry;exact PySem.EqMixed.eq_bool_str (ZaB I q (by simp))
  | _=>exact absurd (show false=true from hs) YaC
 | int i=>
  obtain⟨t,rfl⟩:=rx
  cases y with
  | non=>cases ry;exact PySem.EqNone.eq_int_none (ZaB I q (by simp))
  | int j=>obtain⟨t',rfl⟩:=ry;exact eq_int (ZaB I q Zin)
  | str j=>obtain⟨t',rfl⟩:=ry;exact PySem.EqMixed.eq_int_str (ZaB I q (by simp))
  | _=>exact absurd (show false=true from hs) YaC
 | str i=>
  obtain⟨t,rfl⟩:=rx
  cases y with
  | non=>cases ry;exact PySem.EqNone.eq_str_none (ZaB I q (by simp))
  | bl j=>cases ry;exact PySem.EqMixed.eq_str_bool (ZaB I q (by simp))
  | int j=>obtain⟨t',rfl⟩:=ry;exact PySem.EqMixed.eq_str_int (ZaB I q (by simp))
  | str j=>obtain⟨t',rfl⟩:=ry;exact eq_str (ZaB I q Zim)
  | _=>exact absurd (show false=true from hs) YaC
 | byt i=>
  obtain⟨t,rfl⟩:=rx
  cases y with
  | byt j=>obtain⟨t',rfl⟩:=ry;exact PySem.W.eq_bytes (ZaB I q Zio)
  | _=>exact absurd (show false=true from hs) YaC
 | _=>cases y <;> exact absurd (show false=true from hs) YaC
theorem Zkx:OpR X (compareOp .NotEq) rNe:=by
 intro pins s σ H x y v u Q I rx ry h;obtain⟨hs,q⟩:=h
 cases x with
 | non=>
  cases rx
  cases y with
  | non=>cases ry;exact PySem.EqNone.ne_none_none (ZaB I q (by simp))
  | bl j=>cases ry;exact PySem.EqNone.ne_none_bool (ZaB I q (by simp))
  | int j=>obtain⟨t',rfl⟩:=ry;exact PySem.EqNone.ne_none_int (ZaB I q (by simp))
  | str j=>obtain⟨t',rfl⟩:=ry;exact PySem.EqNone.ne_none_str (ZaB I q (by simp))
  | _=>exact absurd (show false=true from hs) YaC
 | bl i=>
  cases rx
  cases y with
  | non=>cases ry;exact PySem.EqNone.ne_bool_none (ZaB I q (by simp))
  | bl j=>cases ry;exact ne_bool (ZaB I q (congrArg not Zip))
  | str j=>obtain⟨t',rfl⟩:=ry;exact PySem.EqMixed.ne_bool_str (ZaB I q (by simp))
  | _=>exact absurd (show false=true from hs) YaC
 | int i=>
  obtain⟨t,rfl⟩:=rx
  cases y with
  | non=>cases ry;exact PySem.EqNone.ne_int_none (ZaB I q (by simp))
  | int j=>obtain⟨t',rfl⟩:=ry;exact ne_int (ZaB I q (congrArg not Zin))
  | str j=>obtain⟨t',rfl⟩:=ry;exact PySem.EqMixed.ne_int_str (ZaB I q (by simp))
  | _=>exact absurd (show false=true from hs) YaC
 | str i=>
  obtain⟨t,rfl⟩:=rx
  cases y with
  | non=>cases ry;exact PySem.EqNone.ne_str_none (ZaB I q (by simp))
  | bl j=>cases ry;exact PySem.EqMixed.ne_str_bool (ZaB I q (by simp))
  | int j=>obtain⟨t',rfl⟩:=ry;exact PySem.EqMixed.ne_str_int (ZaB I q (by simp))
  | str j=>obtain⟨t',rfl⟩:=ry;exact ne_str (ZaB I q (congrArg not Zim))
  | _=>exact absurd (show false=true from hs) YaC
 | byt i=>
  obtain⟨t,rfl⟩:=rx
  cases y with
  | byt j=>obtain⟨t',rfl⟩:=ry;exact PySem.W.ne_bytes (ZaB I q (congrArg not Zio))
  | _=>exact absurd (show false=true from hs) YaC
 | _=>cases y <;> exact absurd (show false=true from hs) YaC
theorem ZgL:OpR X (compareOp .Lt) (rI0 fun i j=>.bl (decide (i<j))):=opB0 fun _ _ _ _ _ _ _ q=>lt_int q
theorem ZhH:OpR X (compareOp .LtE) (rI0 fun i j=>.bl (decide (i<=j))):=opB0 fun _ _ _ _ _ _ _ q=>le_int q
theorem ZlH:OpR X (compareOp .Gt) (rI0 fun i j=>.bl (decide (j<i))):=opB0 fun _ _ _ _ _ _ _ q=>gt_int q
theorem Za9 (b:Expr) {op:CmpOp} (h:op≠.In:=by decide) (h2:op≠.NotIn:=by decide):behindInMarks op b=false:=by
 have e1:(op == CmpOp.In)=false:=by cases op <;> first | rfl | exact absurd rfl h
 have e2:(op == CmpOp.NotIn)=false:=by cases op <;> first | rfl | exact absurd rfl h2
 cases b <;> simp[behindInMarks,e1,e2]
theorem Zed {op:CmpOp}{r:R2} (ho:OpR X (compareOp op) r) (ha:PE X a ta) (hb:PE X b tb) (hm:behindInMarks op b=false):PE X (.Compare a [op] [b] pos) (tOp r ta tb):=by
 intro pins s σ H Q I h;exact wpAny_Compare1 (binT ha hb I h fun v u s2 x y H2 I2 rx ry q=>ho pins s2 σ H2 x y v u Q I2 rx ry q) hm
def Zlf (t:TE):TT:=fun σ H Q=>t σ H fun x H'=>∃ k,x=.bl k/\Q k H'
theorem ZaK {op:CmpOp}{r:R2} (ho:OpR X (compareOp op) r) (ha:PE X a ta) (hb:PE X b tb) (hm:behindInMarks op b=false):PT X (.Compare a [op] [b] pos) (Zlf (tOp r ta tb)):=by
 intro pins s σ H Q I h;refine wpAny_isTrue_Compare1 (thn (ha pins s σ H _ I h) fun v s1 ⟨x,H1,I1,r1,q1⟩=>thn (hb pins s1 σ H1 _ I1 q1) fun u s2 ⟨y,H2,I2,r2,q2⟩=>
  thn (ho pins s2 σ H2 x y v u _ I2 r1 r2 q2) fun c s3 ⟨z,H3,I3,r3,k,e,q3⟩=>?_) hm
 subst e;cases r3;exact wpAny_truthy_bool ⟨H3,I3,q3⟩
def Zlk (r r':R2) (ta tb tc:TE):TE:=fun σ H Q=>ta σ H fun x H1=>tb σ H1 fun y H2=>r x y H2 fun z H3=>∃ k,z=.bl k /\
 (if k=true then tc σ H3 fun w' H4=>r' y w' H4 Q else Q (.bl false) H3)
theorem Zd9 {op op':CmpOp}{r r':R2} (ho:OpR X (compareOp op) r) (ho':OpR X (compareOp op') r') (ha:PE X a ta) (hb:PE X b tb) (hc:PE X c tc)
  (hm:lastMarks [op,op'] [b,c]=false:=by with_unfolding_all rfl):PT X (.Compare a [op,op'] [b,c] pos) (Zlf (Zlk r r' ta tb tc)):=by
 intro pins s σ H Q I h;refine isTrue_chain (thn (ha pins s σ H _ I h) fun v s1 ⟨x,H1,I1,r1,q1⟩=>test_link (thn (hb pins s1 σ H1 _ I1 q1) fun u s2 ⟨y,H2,I2,r2,q2⟩=>
  thn (ho pins s2 σ H2 x y v u _ I2 r1 r2 q2) fun d s3 ⟨z,H3,I3,r3,k,e,q3⟩=>?_)) hm
 subst e;cases r3;refine wpAny_truthy_bool ?_
 cases k with
 | false=>
  obtain⟨k',e',q'⟩:=q3;cases e';exact ite_ff ⟨H3,I3,q'⟩
 | true=>
  refine ite_tt (test_last (thn (hc pins s3 σ H3 _ I3 q3) fun w' s4 ⟨z',H4,I4,r4,q4⟩=>thn (ho' pins s4 σ H4 y z' u w' _ I4 r2 r4 q4) fun d' s5 ⟨z2,H5,I5,r5,k2,e2,q5⟩=>?_));subst e2;cases r5;exact wpAny_truthy_bool ⟨H5,I5,q5⟩
def TruV (K:Yad) (x:V) (H:Hp) (k:Bool):Prop :=
 match x with
 | .non=>k=false
 | .bl b=>k=b
 | .int i=>k=(i != 0)
 | .str y=>y.length<=sizeLine/\k=((y.length:Int) != 0)
 | .byt y=>y.size<=sizeLine/\k=((y.size:Int) != 0)
 | .ref p=>(∃ xs,SqL K H p xs/\k = !xs.isEmpty)∨(∃ xs,SqT K H p xs/\k = !xs.isEmpty)∨∃ kvs,H p=some (.dK kvs)/\k = !kvs.isEmpty
 | _=>False
theorem ZgR {κ:Type}{kvs:List (κ × V)}{vs:List (κ × Value)} (r:KV kvs vs):(!vs.isEmpty) = !kvs.isEmpty:=by
 cases r <;> rfl
theorem ZdN {xs:List V}{its:List Value} (r:Vals xs its):(!its.toArray.isEmpty) = !xs.isEmpty:=by
 cases r <;> simp
theorem ZeV:(sizeLine:Nat)<2 ^ 63:=by rw[sizeLine_eq];decide
theorem Zlc:TruR X (fun x H Q=>∃ k,TruV X.K x H k/\Q k H):=by
 intro pins s σ H x v Q I rx h;obtain⟨k,e,q⟩:=h;have hl:=ZeV;have hs:sizeLine=16777216:=sizeLine_eq
 cases x with
 | non=>
  cases rx;have e':k=false:=e;subst e';exact truthy_none ⟨H,I,q⟩
 | bl b=>
  cases rx;have e':k=b:=e;subst e';exact wpAny_truthy_bool ⟨H,I,q⟩
 | int i=>
  obtain⟨t,rfl⟩:=rx;have e':k=(i != 0):=e;subst e';exact PySem.P.truthy_int ⟨H,I,q⟩
 | str y=>
  obtain⟨t,rfl⟩:=rx;obtain⟨hy,e'⟩:y.length<=sizeLine/\k=((y.length:Int) != 0):=e;subst e';exact PySem.P.truthy_str (by (clear hs;omega)) ⟨H,I.tok _,q⟩
 | byt y=>
  obtain⟨t,rfl⟩:=rx;obtain⟨hy,e'⟩:y.size<=sizeLine/\k=((y.size:Int) != 0):=e;subst e';exact PySem.W.truthy_bytes (by (clear hl;omega)) ⟨H,I.tok _,q⟩
 | ref p=>
  cases rx;have e':(∃ xs,SqL X.K H p xs/\k = !xs.isEmpty)∨(∃ xs,SqT X.K H p xs/\k = !xs.isEmpty)∨∃ kvs,H p=some (.dK kvs)/\k = !kvs.isEmpty:=e;rcases e' with ⟨xs,hx,e'⟩ | ⟨xs,hx,e'⟩ | ⟨kvs,hx,e'⟩
  ·subst e';obtain⟨its,r,pl,hz⟩:=I.list hx;have hlen:=r.length;exact wpAny_truthy_list pl.isList (by simp only[Yaw];(clear hs;omega)) ⟨H,I.tok _,by rw[ZdN r];exact q⟩
  ·subst e';obtain⟨its,r,pl,hz⟩:=I.tuple hx;have hlen:=r.length;exact truthy_tuple pl (by simp only[Yaw];(clear hs;omega)) ⟨H,I.tok _,by rw[ZdN r];exact q⟩
  ·subst e';obtain⟨hz,hS,vs,r,m⟩:kvs.length<=sizeLine/\(p == sysModules)=false/\∃ vs,KV kvs vs/\s.heap.DictOf (ZfF X.prog X.w) p vs:=I.hok p _ hx;have hlen:kvs.length=vs.length:=Paired.length r;exact wpAny_truthy_dict hS m (by (clear hs;omega)) ⟨H,I.tok _,by rw[ZgR r];exact q⟩
 | _=>exact (show False from e).elim
theorem Zf7 (ha:PE X a ta) (he:∀ whole,isTrue a X.env whole=(do let v <- whole;standAt a.pos;holding [v] (truthy v))) :
  PT X a (fun σ H Q=>ta σ H fun x H'=>∃ k,TruV X.K x H' k/\Q k H'):=by
 intro pins s σ H Q I h;exact isTrue_plain (thn (ha pins s σ H _ I h) fun v s1 ⟨x,H1,I1,r1,q1⟩=>Zlc pins s1 σ H1 x v Q I1 r1 q1) (he _)
theorem ZdV {x:V}{us:List Value} (r:Vals [x] us):∃ u,us=[u]/\RelV x u:=by
 cases r with
 | cons r1 r2=>cases r2;exact⟨_,rfl,r1⟩
theorem ZiJ {x y:V}{us:List Value} (r:Vals [x,y] us):∃ u w',us=[u,w']/\RelV x u/\RelV y w':=by
 cases r with
 | cons r1 r2=>
  cases r2 with
  | cons r3 r4=>cases r4;exact⟨_,_,rfl,r1,r3⟩
theorem Zcn (hc:X.calm=true):Zca X (.builtin "max") (fun xs H Q=>∃ i j,xs=[.int i,.int j]/\Q (.int (if j > i then j else i)) H):=by
 intro pins s σ H xs us Q I r h;obtain⟨i,j,rfl,q⟩:=h;obtain⟨u,w',rfl,⟨t,rfl⟩,⟨t',rfl⟩⟩:=ZiJ r;refine max_two_ints (I.ok.hd hc) fun h' tk k=>⟨_,H,I.kept k,?_,q⟩
 by_cases hj:j > i
 ·rw[if_pos hj,if_pos hj];exact⟨_,rfl⟩
 ·rw[if_neg hj,if_neg hj];exact⟨_,rfl⟩
theorem Ziz (hc:X.calm=true):Zca X (.builtin "min") (fun xs H Q=>∃ i j,xs=[.int i,.int j]/\Q (.int (if j<i then j else i)) H):=by
 intro pins s σ H xs us Q I r h;obtain⟨i,j,rfl,q⟩:=h;obtain⟨u,w',rfl,⟨t,rfl⟩,⟨t',rfl⟩⟩:=ZiJ r;refine min_two_ints (I.ok.hd hc) fun h' tk k=>⟨_,H,I.kept k,?_,q⟩
 by_cases hj:j<i
 ·rw[if_pos hj,if_pos hj];exact⟨_,rfl⟩
 ·rw[if_neg hj,if_neg hj];exact⟨_,rfl⟩
end
end L2
namespace L2
open PySem PySem.Spec PyProof.Rows
structure ObjM (h:Heap) (x dx C:Addr) (mA:Str->Option Value):Prop where
 obj:h.get? x=some (Ydn C dx)
 ns:h.Ns1 dx mA
 ne:dx≠x
theorem ZeU {h:Heap}{dx:Addr}{mA:Str->Option Value} (n:h.Ns1 dx mA):∃ od,h.get? dx=some od/\∀ name,Ydt name od=some (mA name):=by
 obtain⟨o,es,ep,ho,hd,hk,_,hm⟩:=n;refine⟨o,ho,fun name=>?_⟩;have e:=hm name;unfold nsFind findBy at e;rw[<- Array.find?_toList] at e;unfold Ydt;rw[hd];dsimp only;split
 ·rename_i y q;rw[q] at e;exact congrArg some e
 ·rename_i q;rw[q] at e;have a:es.toList.any (·.refKey)=false:=by
   rw[List.any_eq_false];intro y hy;obtain⟨z,t,hkey⟩:=hk y (Array.mem_toList_iff.mp hy);simp[DictEntry.refKey,hkey]
  have a':¬ es.toList.any (·.refKey)=true:=by rw[a];exact YaC
  rw[if_neg a'];exact congrArg some e
theorem ObjM.look {h:Heap}{x dx C:Addr}{mA:Str->Option Value} (I:ObjM h x dx C mA):∃ od,PySem.W.InstAt h x (Ydn C dx) C (some od)/\∀ name,Ydt name od=some (mA name) :=
 let ⟨od,ho,hl⟩:=ZeU I.ns
 ⟨od,⟨I.obj,rfl,rfl,ho⟩,hl⟩
section
variable {prog:Program}{w:World}{A:Around}{E:Value->Shared->Prop}{s:Shared}{K:Yad}{x dx C f:Addr}{mA:Str->Option Value}{name:Str}{v:Value}
end
theorem RelO.some_of {v:V}{o:Option Value} (r:RelO (some v) o):∃ u,o=some u/\RelV v u:=by
 cases o with
 | none=>exact (show False from r).elim
 | some u=>exact⟨u,rfl,r⟩
theorem Zh9 {v:V}{u:Value} (r:RelV v u):PySem.W.handedIn u=true:=by
 cases v with
 | non=>cases (show u=YbS from r);rfl
 | bl b=>cases (show u=YdJ b from r);rfl
 | int i=>obtain⟨t,e⟩:=(show ∃ t,u=Yd0 i t from r);cases e;rfl
 | str x=>obtain⟨t,e⟩:=(show ∃ t,u=YdZ x t from r);cases e;rfl
 | byt b=>obtain⟨t,e⟩:=(show ∃ t,u=Value.bytes b t from r);cases e;rfl
 | flt b=>obtain⟨t,e⟩:=(show ∃ t,u=Yed b t from r);cases e;rfl
 | ref a=>cases (show u=YbC a from r);rfl
 | ty n=>cases (show u=Yeo n from r);rfl
section
variable {P:Program}{w:World}{H H':Hp}{h h':Heap}{a C dx:Addr}{fs fs':List (Str × V)}
theorem ZkN (hok:HOk P w H h) (e:H a=some (.ins C dx fs)):∃ mA,ObjM h a dx C mA/\(∀ f,RelO (fs.lookup f) (mA f))/\PySem.Within mA (fs.map (·.1))/\fs.length<=1000/\H dx=some (.own a):=by
 obtain⟨d,z,ne,ob,mA,n,r,q⟩:=(show ObjOk P w H h a (.ins C dx fs) from hok a _ e)
 exact⟨mA,⟨ob,n,ne⟩,r,q,z,d⟩
end
structure Cls (K:Yad) (C:Addr):Prop where
 pg:Yek K C Yde=true
 hd:PySem.W.hasDictIn K C=true
 po:PySem.W.plainOver K C=true
 sa:Ycs K (.ref C) "__setattr__"=some (some (.builtin "object.__setattr__"))
theorem Cls.get {K:Yad}{C:Addr} (c:Cls K C) (f:Str):Yek K C f=true:=c.pg
structure Con (K:Yad) (C:Addr) (f:Str) (v:V) (u:Value):Prop where
 at_:Ycs K (.ref C) f=some (some u)
 rel:RelV v u
 get:Yee K u "__get__"=some none
 cp:PySem.W.copiedNames.contains f=false
structure Meth (K:Yad) (C:Addr) (m:Str) (f:Addr):Prop where
 at_:Ycs K (.ref C) m=some (some (.ref f))
 fn:PySem.W.isFn K (.ref f)=true
 kp:Yay K (.ref f)=true
section
variable {X:Cx}{pins:List (Addr × Obj)}{σ:St}{H:Hp}{s:Shared}{a C dx:Addr}{fs:List (Str × V)}{f:Str}{v:V}{A:Around}{E:Value->Shared->Prop}
theorem Zk3 {prog:Program}{w:World}{env:Env}{e:Expr}{f:Str}{pos:Pos}{s:Shared}{Q:Value->Shared->Prop} (hb:attributeBase e f env (eval e env)=eval e env)
  (h:wpAny (model prog w) A (eval e env) (fun o s₁=>wpAny (model prog w) A (getAttr o f true) Q E s₁) E s):wpAny (model prog w) A (eval (.Attribute e f pos) env) Q E s :=
 Attribute_any_ h (by rw[arm_eval_Attribute,hb])
end
section
variable {X:Cx}{o e value:Expr}{f:Str}{pos pos' tpos:Pos}{ta tv:TE}
end
section
variable {X:Cx}{pins:List (Addr × Obj)}{σ:St}{H:Hp}{s:Shared}{A:Around}{E:Value->Shared->Prop}{Q:Value->Shared->Prop}{c:Value}{b:Bool}
inductive TyOf (K:Yad) (H:Hp):V->Value->Prop where
 | non:TyOf K H .non (.type "NoneType")
 | bl (x:Bool):TyOf K H (.bl x) (.type "bool")
 | int (i:Int):TyOf K H (.int i) (.type "int")
 | str (x:Str):TyOf K H (.str x) (.type "str")
 | flt (x:UInt64):TyOf K H (.flt x) (.type "float")
 | lst {a:Addr}{xs:List V} (e:H a=some (.lst xs)):TyOf K H (.ref a) (.type "list")
 | frz {a:Addr}{o:Obj}{xs:List V} (e:H a=some (.frz o (.lst xs))):TyOf K H (.ref a) (.type "list")
 | tup {a:Addr}{xs:List V} (e:H a=some (.tup xs)):TyOf K H (.ref a) (.type "tuple")
 | dK {a:Addr}{kvs:List (Key × V)} (e:H a=some (.dK kvs)):TyOf K H (.ref a) (.type "dict")
 | dT {a:Addr}{kvs:List (List Key × V)} (e:H a=some (.dT kvs)):TyOf K H (.ref a) (.type "dict")
 | ins {a C dx:Addr}{fs:List (Str × V)} (e:H a=some (.ins C dx fs)) (cl:Cls K C) (ha:Ycs K (.ref C) "__class__"=some (some (.builtin "object.__class__")))
   (hn:Yee K (.builtin "object.__class__") "__get__"=some (some (.builtin "getset_descriptor.__get__"))) (htk:PySem.W.takesIn K (.builtin "object.__class__")=some true)
   (hm:PySem.W.mroIn K C (.type "object")=some true):TyOf K H (.ref a) (.ref C)
theorem Zh2 {x:V}{u t:Value} (I:Inv X pins σ H s) (rx:RelV x u) (ty:TyOf X.K H x t) (e:YcK X.K t c=some b) (h:∀ tk,Q (.bool b) { s with toks:=tk }) :
  wpAny (model X.prog X.w) A (call (.builtin "isinstance") [u,c]) Q E s:=by
 cases ty with
 | non=>cases (show u=YbS from rx);exact Ybq PySem.W.kitx_none I.kIn Ycv e (fun z=>nomatch z) h
 | bl y=>cases (show u=YdJ y from rx);exact Ybq PySem.W.kitx_bool I.kIn Ycv e (fun z=>nomatch z) h
 | int i=>obtain⟨t,q⟩:=(show ∃ t,u=Yd0 i t from rx);cases q;exact Ybq PySem.W.kitx_int I.kIn Ycv e (fun z=>nomatch z) h
 | str y=>obtain⟨t,q⟩:=(show ∃ t,u=YdZ y t from rx);cases q;exact Ybq PySem.W.kitx_str I.kIn Ycv e (fun z=>nomatch z) h
 | flt y=>obtain⟨t,q⟩:=(show ∃ t,u=Yed y t from rx);cases q;exact Ybq PySem.W.kitx_float I.kIn Ycv e (fun z=>nomatch z) h
 | @lst a xs ea=>
  cases (show u=YbC a from rx);obtain⟨_,_,n,_,h1⟩:=(show ObjOk X.prog X.w H s.heap a (.lst xs) from I.hok a _ ea)
  exact Ybq Yef I.kIn ⟨_,h1,rfl⟩ e (fun z=>nomatch z) h
 | @frz a ob xs ea=>
  cases (show u=YbC a from rx);obtain⟨_,_,_,n,_,h1⟩:=(show ObjOk X.prog X.w H s.heap a (.frz ob (.lst xs)) from I.hok a _ ea)
  exact Ybq Yef I.kIn ⟨_,h1,rfl⟩ e (fun z=>nomatch z) h
 | @tup a xs ea=>
  cases (show u=YbC a from rx);obtain⟨_,_,_,p⟩:=(show ObjOk X.prog X.w H s.heap a (.tup xs) from I.hok a _ ea)
  obtain⟨o,h1,h2,_⟩:=p;exact Ybq PySem.W.kitx_tuple I.kIn ⟨o,h1,h2⟩ e (fun z=>nomatch z) h
 | @dK a kvs ea=>
  cases (show u=YbC a from rx);obtain⟨_,_,vs,_,p⟩:=(show ObjOk X.prog X.w H s.heap a (.dK kvs) from I.hok a _ ea)
  obtain⟨o,es,ep,h1,h2,_⟩:=p;exact Ybq Yeg I.kIn ⟨o,h1,h2.1⟩ e (fun z=>nomatch z) h
 | @dT a kvs ea=>
  cases (show u=YbC a from rx);obtain⟨_,_,xs,_,o,es,ep,h1,h2,_⟩:=(show ObjOk X.prog X.w H s.heap a (.dT kvs) from I.hok a _ ea)
  exact Ybq Yeg I.kIn ⟨o,h1,h2.1⟩ e (fun z=>nomatch z) h
 | @ins a C dx fs ea cl ha hn htk hm=>
  cases (show u=YbC a from rx);obtain⟨mA,O,_⟩:=ZkN I.hok ea;obtain⟨od,J,_⟩:=O.look;exact Ybq (PySem.W.kitx_own (cl.get _) cl.hd ha hn htk hm) I.kIn J e (fun z=>nomatch z) h
end
end L2
namespace L2
open PySem PySem.Spec PyProof.Rows
structure Room (k:Nat) (A:Around):Prop where
 hd:A.handled=none
 dp:A.depth+3*k+5<recursionLimit
 un:A.units+16*k+200<cLine
 gd:A.guards=some []
theorem Room.mono {j k:Nat}{A:Around} (r:Room k A) (h:j<=k):Room j A:=⟨r.hd,by have:=r.dp;omega,by have:=r.un;omega,r.gd⟩
theorem Room.deeper {k:Nat}{A:Around} (r:Room (k+1) A) (env:Env):Room k (A.deeper env) :=
 ⟨r.hd,by have:=r.dp;show A.depth+1+3*k+5<_;omega,by have:=r.un;show A.units+3+16*k+200<_;omega,r.gd⟩
theorem ZgP {A:Around}{C:Addr}{us:List Value}{kw:List (Str × Value)}:(A.under (.builtin "type.__call__" ⟨.ref C::us,kw⟩)).depth=A.depth+1:=by
 first | rfl | simp[YdY,Code.weight,Code.isCreation,Code.isGuard,Code.isCaller,Code.frames,Yec,guardIds]
theorem ZgO {A:Around}{C:Addr}{us:List Value}{kw:List (Str × Value)}:(A.under (.builtin "type.__call__" ⟨.ref C::us,kw⟩)).units=A.units+1:=by
 first | rfl | simp[YdY,Code.cUnits,Code.frames,Yec]
theorem Room.make {k:Nat}{A:Around} (r:Room (k+1) A) (C:Addr) (us:List Value) (kw:List (Str × Value)):Room k (A.under (.builtin "type.__call__" ⟨.ref C::us,kw⟩)) :=
 ⟨r.hd,by have:=r.dp;rw[ZgP];omega,by have:=r.un;rw[ZgO];omega,r.gd⟩
theorem Room.depth {k:Nat}{A:Around} (r:Room k A):A.depth<recursionLimit:=by have:=r.dp;omega
def tNil:TA:=fun _ H Q=>Q [] H
def Zlj (ta:TE) (tr:TA):TA:=fun σ H Q=>ta σ H fun x H1=>tr σ H1 fun xs H2=>Q (x::xs) H2
section
variable {X:Cx}{e:Expr}{es:List Expr}{te:TE}{t:TA}{pos:Pos}
theorem Zad:PA X [] tNil:=fun _ _ _ _ H Q I h=>Calls.spliced_nil ⟨[],H,I,.nil,h⟩
theorem Zaa (ha:PE X e te) (hr:PA X es t) (hs:starEach (e::es) X.env=(false,eval e X.env)::starEach es X.env:=by rfl):PA X (e::es) (Zlj te t):=by
 intro pos pins s σ H Q I h;rw[hs];show wpAny _ _ (spliced ((false,eval e X.env)::backTo pos (starEach es X.env))) _ _ s;refine Calls.spliced_cons (thn (ha pins s σ H _ I h) fun u s1 ⟨x,H1,I1,r1,q1⟩=>?_);exact thn (hr pos pins s1 σ H1 _ I1 q1) fun us s2 ⟨xs,H2,I2,r2,q2⟩=>⟨x::xs,H2,I2,.cons r1 r2,q2⟩
def tTup (t:TA):TE:=fun σ H Q=>t σ H fun xs H1=>xs.length<=sizeLine/\∀ p,H1 p=none->Q (.ref p) (upd H1 p (.tup xs))
def tLst (t:TA):TE:=fun σ H Q=>t σ H fun xs H1=>xs.length<=sizeLine/\∀ p,H1 p=none->Q (.ref p) (upd H1 p (.lst xs))
theorem ZbA {x1} (h:PA X es t):PE X (.Tuple es x1 pos) (tTup t):=by
 intro pins s σ H Q I hq;refine wpAny_Tuple_spliced (thn (h pos pins s σ H _ I hq) fun us s1 ⟨xs,H1,I1,r,z,q⟩=>⟨by rw[<- r.length];exact z,?_⟩);have hf:H1 s1.heap.objs.size=none:=I1.hok.fresh (Yap _);refine⟨.ref s1.heap.objs.size,upd H1 s1.heap.objs.size (.tup xs),I1.laid (t':=s1.toks) (fun b u e=>Yac _ e) (Yap _) ?_,rfl,q _ hf⟩;exact⟨z,us,r,⟨_,YaB _ rfl,rfl,rfl,_,rfl⟩⟩
theorem ZaF (h:PA X es t):PE X (.List es pos) (tLst t):=by
 intro pins s σ H Q I hq;refine wpAny_List_spliced (thn (h pos pins s σ H _ I hq) fun us s1 ⟨xs,H1,I1,r,z,q⟩=>⟨by rw[<- r.length];exact z,?_⟩);have hf:H1 s1.heap.objs.size=none:=I1.hok.fresh (Yap _);refine⟨.ref s1.heap.objs.size,upd H1 s1.heap.objs.size (.lst xs),I1.laid (t':=s1.toks) (fun b u e=>Yac _ e) (Yap _) ?_,rfl,q _ hf⟩;exact⟨z,us,0,r,YaB _ rfl⟩
end
abbrev Sp:=List V->Hp->VK->XK->Prop
abbrev CXT:=List Env->Hp->Shared->XK->Value->Shared->Prop
structure Env0 (P:Program) (w:World) (K:Yad) (mg:Str->Option Value) (base:Heap) (A:Around) (outer:List Env) (s:Shared) (H:Hp):Prop where
 frames:A.frames=some outer
 mod:Mod K mg base
 bs:∀ b o,base.get? b=some o->s.heap.get? b=some o/\H b=none
 bsz:base.objs.size<=s.heap.objs.size
 funs:s.heap.FunFrames base outer
 frf:∀ b∈frs outer,H b=none
 hok:HOk P w H s.heap
 bare:AllBare s.gens
def CE (outer:List Env) (P:Program) (w:World) (H:Hp) (s:Shared) (Q:VK) (u:Value) (s':Shared):Prop :=
 ∃ v H',s'.os=s.os/\AllBare s'.gens/\Un (frs outer) [] H H' s.heap s'.heap/\HOk P w H' s'.heap/\RelV v u/\Q v H'
def CR (CX:CXT) (outer:List Env) (P:Program) (w:World) (H:Hp) (s:Shared) (Q:VK) (E:XK) (r:Result) (s':Shared):Prop :=
 match r with
 | .ok (.ret u)=>CE outer P w H s Q u s'
 | .ok _=>False
 | .error e=>CX outer H s E e s'
structure FnOk (P:Program) (w:World) (K:Yad) (mg:Str->Option Value) (base:Heap) (CX:CXT) (k:Nat) (f:Addr) (fd:FuncData) (ps:List Str) (sp:Sp):Prop where
 len:∀ vs H Q E,sp vs H Q E->vs.length=ps.length
 run:∀ (A:Around) (outer:List Env) (s:Shared) (H:Hp) (args:Args) (us:List Value) (vs:List V) (Q:VK) (E:XK),Room k A->Env0 P w K mg base A outer s H->BindsTo s fd args (ps.zip us)->Vals vs us->sp vs H Q E ->
  codeAny (model P w) A (.call (.ref f) args) (CR CX outer P w H s Q E) s
theorem FnOk.mono {P:Program}{w:World}{K:Yad}{mg:Str->Option Value}{base:Heap}{CX:CXT}{j k:Nat}{f:Addr}{fd:FuncData}{ps:List Str}{sp:Sp} (F:FnOk P w K mg base CX j f fd ps sp) (h:j<=k) :
  FnOk P w K mg base CX k f fd ps sp:=⟨F.len,fun A outer s H args us vs Q E hr=>F.run A outer s H args us vs Q E (hr.mono h)⟩
theorem Env0.make {P:Program}{w:World}{K:Yad}{mg:Str->Option Value}{base:Heap}{A:Around}{outer:List Env}{s:Shared}{H:Hp} (e:Env0 P w K mg base A outer s H) (C:Addr) (us:List Value) (kw:List (Str × Value)) :
  Env0 P w K mg base (A.under (.builtin "type.__call__" ⟨.ref C::us,kw⟩)) outer s H:=⟨by first | exact e.frames | (simpa[YdY,Code.envs,Yec,pushEnvs] using e.frames),e.mod,e.bs,e.bsz,e.funs,e.frf,e.hok,e.bare⟩
section
variable {X:Cx}{pins:List (Addr × Obj)}{σ:St}{H:Hp}{s s':Shared}
theorem Inv.env0 (I:Inv X pins σ H s):Env0 X.prog X.w X.K X.mg X.base X.A X.stack s H :=
 ⟨I.ok.frames,I.ok.mod,I.bs,Ybk I.ok.bsz I.sz,I.stack,I.stkFree,I.hok,I.bare⟩
theorem Inv.after {Q:VK}{u:Value} (I:Inv X pins σ H s) (h:CE X.stack X.prog X.w H s Q u s'):EP X pins σ Q u s':=by
 obtain⟨v,H',os,bare,un,hok,r,q⟩:=h;obtain⟨hh,g,d,t,os'⟩:=s';obtain rfl:os'=s.os:=os;exact⟨v,H',I.call (h':=hh) (g':=g) (d':=d) (t':=t) (ch:=[]) un hok bare (fun b z=>absurd z (by simp)),r,q⟩
end
def ZiO (sp:Sp) (dvs:List V) (E:XK) (t:TA):TE:=fun σ H Q=>t σ H fun vs H1=>sp (vs++dvs) H1 Q E
def Binds (K:Yad) (fd:FuncData) (ps:List Str) (ds:List Value):Prop :=
 ∀ (s:Shared) (us:List Value),K.In s.heap->(us++ds).length=ps.length->BindsTo s fd ⟨us,[]⟩ (ps.zip (us++ds))
theorem Binds.all {K:Yad}{fd:FuncData}{ps:List Str} (h:∀ us:List Value,us.length=ps.length->bindArgs fd ⟨us,[]⟩=pure (ps.zip us)):Binds K fd ps []:=fun s us _ hl=>by
 rw[Ybj] at hl ⊢;exact .of_eq (h us hl)
def ZbV (CX:CXT) (X:Cx) (E:XK):Prop:=∀ (pins:List (Addr × Obj)) (σ:St) (H:Hp) (s:Shared) (e:Value) (s':Shared),Inv X pins σ H s->CX X.stack H s E e s'->X.xe e s'
section
variable {X:Cx}{CX:CXT}{k:Nat}{f C:Addr}{fd:FuncData}{ps:List Str}{sp:Sp}{dvs:List V}{ds:List Value}{E:XK}{x m:Str}{p pos apos:Pos}{e o:Expr}{es:List Expr}{ta:TE}{t:TA}
theorem Zlv {pins:List (Addr × Obj)}{σ:St}{H:Hp}{s:Shared}{Q:VK}{us:List Value}{vs:List V} (F:FnOk X.prog X.w X.K X.mg X.base CX k f fd ps sp) (hr:Room k X.A) (hb:Binds X.K fd ps ds) (hd:Vals dvs ds) (hx:ZbV CX X E)
  (I:Inv X pins σ H s) (r:Vals vs us) (h:sp (vs++dvs) H Q E):wpAny (model X.prog X.w) X.A (call (.ref f) us) (EP X pins σ Q) X.xe s:=by
 have r2:Vals (vs++dvs) (us++ds):=r.append hd;have hl:(us++ds).length=ps.length:=by rw[<- r2.length];exact F.len _ _ _ _ h
 refine wpAny_call (codeAny_mono (F.run X.A X.stack s H ⟨us,[]⟩ (us++ds) (vs++dvs) Q E hr I.env0 (hb s us I.kIn hl) r2 h) fun r s' hq=>?_)
 cases r with
 | error e=>exact hx pins σ H s e s' I hq
 | ok fl=>
  cases fl with
  | ret u=>exact I.after hq
  | next=>exact YbH hq
  | brk=>exact YbH hq
  | cont=>exact YbH hq
theorem ZfD (F:FnOk X.prog X.w X.K X.mg X.base CX k f fd ps sp) (hr:Room k X.A) (hg:Gl X x) (hm:X.mg x=some (.ref f)) (hk:Yay X.K (.ref f)=true) (hb:Binds X.K fd ps ds) (hd:Vals dvs ds) (hx:ZbV CX X E)
  (ha:PA X (e::es) t) (hdb:(x == ("__debug__":Str))=false:=by decide) (he:starEach (e::es) X.env=(false,eval e X.env)::starEach es X.env:=by rfl) (hpl:(backTo pos (starEach es X.env)).any (·.1)=false:=by rfl) :
  PE X (.Call (.Name x p) (e::es) [] pos) (ZiO sp dvs E t):=by
 intro pins s σ H Q I h;refine wpAny_Call_Name_kw (Zek I hg hm ?_ hdb);refine Yd3 (h₀:=X.base) I.ok.mod.kin hk (thn (ha pos pins s σ H _ I h) fun us s1 ⟨vs,H1,I1,r,q⟩=>⟨I1.kIn,?_⟩) he hpl;exact Zlv F hr hb hd hx I1 r q
structure Mk (K:Yad) (C f:Addr):Prop where
 makes:PySem.W.makesIn K C=true
 init:Ycs K (.ref C) "__init__"=some (some (.ref f))
 fn:PySem.W.isFn K (.ref f)=true
 kp:Yay K (.ref C)=true
end
section
variable {X:Cx}{CX:CXT}{k:Nat}{f C:Addr}{fd:FuncData}{ps ks:List Str}{sp:Sp}{E:XK}{x m:Str}{p pos apos kpos:Pos}{e o:Expr}{es:List Expr}{kws:List Keyword}{te ta:TE}{t tk:TA}{nm:Option Str}
structure KBinds (K:Yad) (fd:FuncData) (ps ks:List Str) (g:List Value->List Value->List Value) (gV:List V->List V->List V):Prop where
 to:∀ (s:Shared) (us ws:List Value),K.In s.heap->(g us ws).length=ps.length->BindsTo s fd ⟨us,ks.zip ws⟩ (ps.zip (g us ws))
 rel:∀ {vs:List V}{us:List Value}{zs:List V}{ws:List Value},Vals vs us->Vals zs ws->Vals (gV vs zs) (g us ws)
variable {g:List Value->List Value->List Value}{gV:List V->List V->List V}
end
structure FnScope (N P:List Str) (sc:Scope):Prop where
 kind:sc.kind=.function
 co:sc.isCoroutine=false
 gen:sc.isGenerator=false
 nd:N.Nodup
 pre:N.take P.length=P
 par:∀ x∈P,sc.names.lookup x=some .local ∨ sc.names.lookup x=some .cell
 nofree:∀ y∈sc.names,y.2≠.free
theorem Zfa {kindOf:Str->Option NameKind}{x:Str}:∀ {binds:List (Str × Value)}{m:Str->Option Value},(∀ v,(x,v) ∉ binds)->bindL kindOf binds m x=m x
 | [],_,_=>rfl
 | (n,v)::r,m,h=>by
  unfold bindL;rw[Zfa fun w hw=>h w (Yao _ hw)];split
  ·have:x≠n:=by rintro rfl;exact h v YaA
   simp[this]
  ·rfl
theorem Zfc {kindOf:Str->Option NameKind}{x:Str}:∀ {binds:List (Str × Value)}{m:Str->Option Value},(∀ v,(x,v) ∉ binds)->bindC kindOf binds m x=m x
 | [],_,_=>rfl
 | (n,v)::r,m,h=>by
  unfold bindC;rw[Zfc fun w hw=>h w (Yao _ hw)];split
  ·rfl
  ·have:x≠n:=by rintro rfl;exact h v YaA
   simp[this]
theorem Zfb {kindOf:Str->Option NameKind}{x:Str}{v:Value}:∀ {P:List Str}{vs:List Value}{i:Nat}{m:Str->Option Value},P.Nodup->P[i]?=some x->vs[i]?=some v->kindOf x=some .local ->
  bindL kindOf (P.zip vs) m x=some v
 | [],_,_,_,_,h,_,_=>by simp at h
 | _::_,[],_,_,_,_,h,_=>by simp at h
 | p::P,w::vs,0,m,nd,h1,h2,hk=>by
  simp at h1 h2;subst h1;subst h2;show bindL kindOf ((p,w)::P.zip vs) m p=_;unfold bindL;rw[Zfa fun v hv=>(YcH.mp nd).1 (Ydz hv).1,if_pos hk];simp
 | p::P,w::vs,i+1,m,nd,h1,h2,hk=>by
  show bindL kindOf ((p,w)::P.zip vs) m x=_;unfold bindL;exact Zfb (i:=i) (YcH.mp nd).2 (by simpa using h1) (by simpa using h2) hk
theorem Zfd {kindOf:Str->Option NameKind}{x:Str}{v:Value}:∀ {P:List Str}{vs:List Value}{i:Nat}{m:Str->Option Value},P.Nodup->P[i]?=some x->vs[i]?=some v->kindOf x≠some .local ->
  bindC kindOf (P.zip vs) m x=some v
 | [],_,_,_,_,h,_,_=>by simp at h
 | _::_,[],_,_,_,_,h,_=>by simp at h
 | p::P,w::vs,0,m,nd,h1,h2,hk=>by
  simp at h1 h2;subst h1;subst h2;show bindC kindOf ((p,w)::P.zip vs) m p=_;unfold bindC;rw[Zfc fun v hv=>(YcH.mp nd).1 (Ydz hv).1,if_neg hk];simp
 | p::P,w::vs,i+1,m,nd,h1,h2,hk=>by
  show bindC kindOf ((p,w)::P.zip vs) m x=_;unfold bindC;exact Zfd (i:=i) (YcH.mp nd).2 (by simpa using h1) (by simpa using h2) hk
def ZcH (N:List Str) (vs:List V):St:=vs.map some++Yak (N.length - vs.length) none
def cxOf (CX:CXT) (P:Program) (w:World) (K:Yad) (mg:Str->Option Value) (base:Heap) (N:List Str) (qual:Str) (scope:Scope) (f:Addr) (cd:Value) (A:Around) (outer:List Env) (s:Shared) (H:Hp) (E:XK):Cx where
 prog:=P
 w:=w
 K:=K
 mg:=mg
 base:=base
 A:=A.deeper (envOfC qual scope s.heap.objs.size f cd)
 N:=N
 s₀:=s
 H₀:=H
 env:=envOfC qual scope s.heap.objs.size f cd
 outer:=outer
 stack:=envOfC qual scope s.heap.objs.size f cd::outer
 ex:=[]
 calm:=true
 fn:=fun _=>true
 pn:=[]
 xe:=fun e s'=>wpAny (model P w) (A.deeper (envOfC qual scope s.heap.objs.size f cd)) (leaving (envOfC qual scope s.heap.objs.size f cd) e) (fun _ s''=>CX outer H s E e s'') (fun e' s''=>CX outer H s E e' s'') s'
theorem Zgs {sc:Scope}{n:Nat}{x:Str} (h:sc.names.lookup x=some .cell):∃ c,(cellsFrom n sc.names []).lookup x=some c:=by
 have q:=YdK sc.names n [] (.inl h);exact Option.isSome_iff_exists.mp q
theorem Zh4 {CX:CXT}{P:Program}{w:World}{K:Yad}{mg:Str->Option Value}{base:Heap}{N ps:List Str}{qual:Str}{scope:Scope}{f:Addr}{cd:Value}{A:Around}{outer:List Env}{s s1:Shared}{H:Hp}{E:XK}{us:List Value}{vs:List V}
  (S:FnScope N ps scope) (hd:A.handled=none) (e0:Env0 P w K mg base A outer s H) (hl:vs.length=ps.length) (r:Vals vs us)
  (x:InCallC s s.heap.objs.size (bindL (envOfC qual scope s.heap.objs.size f cd).kindOf (ps.zip us) fun _=>none) (cellsFrom (s.heap.objs.size+1) scope.names []) (bindC (envOfC qual scope s.heap.objs.size f cd).kindOf (ps.zip us) fun _=>none) s1) :
  Inv (cxOf CX P w K mg base N qual scope f cd A outer s H E) [] (ZcH N vs) H s1:=by
 have hpl:ps.length<=N.length:=by have:=congrArg YbK S.pre;rw[YaL] at this;(clear hl;omega)
 obtain⟨h1,tk,rfl,hk⟩:=x.done;have noA:∀ b:Addr,b ∉ (cxOf CX P w K mg base N qual scope f cd A outer s H E).ex:=fun b z=>absurd (show b∈([]:List Addr) from z) (by simp);refine⟨⟨e0.mod,S.kind,rfl,rfl,Yap _,fun y z c h1 h2=>?_,fun y hy=>?_,fun y c _ h=>?_,fun _=>hd,Around.frames_deeper e0.frames,.inr ⟨rfl,rfl⟩,fun b z=>absurd z (noA b),e0.bs,e0.bsz,fun b _ _=>noA b,fun b z=>absurd z (noA b),e0.funs,e0.frf⟩,
  rfl,e0.bare,Un.kept hk,⟨_,x.toInCall.ns,fun i y v h1 h2 h3=>?_⟩,fun y c h=>⟨_,x.cell y c h⟩,e0.hok.fresh (Yap _),fun y c h=>?_,fun p hp=>absurd (show p∈([]:List (Addr × Obj)) from hp) (by simp),e0.hok.kept hk,?_⟩
 ·exact name_of_addr x.apart (Ybv h1) (Ybv h2)
 ·have hy:scope.names.lookup y=some .cell∨scope.names.lookup y=some .free:=hy;rcases hy with hy | hy
  ·exact Zgs hy
  ·exact absurd rfl (S.nofree _ (Ybv hy))
 ·exact Ybc (x.above y c (Ybv h))
 ·have hi:i<vs.length:=by
   unfold ZcH at h2;by_cases hi:i<vs.length
   ·exact hi
   ·rw[Yax (by simpa using hi)] at h2;rw[YdV] at h2;split at h2 <;> cases h2
  have ha:vs[i]?=some v:=by
   unfold ZcH at h2;rw[Yas (by simpa using hi),Yaf] at h2
   cases e:vs[i]? with
   | none=>rw[e] at h2;cases h2
   | some a=>rw[e] at h2;cases h2;rfl
  obtain⟨u,hu,rv⟩:=r.get ha;have hp:ps[i]?=some y:=by
   rw[<- S.pre,Ya9 (by (clear hpl;omega))];exact h1
  have ndP:ps.Nodup:=by rw[<- S.pre];exact S.nd.sublist (List.take_sublist _ _)
  refine⟨u,rv,?_⟩;rcases S.par y (Yah hp) with k | k
  ·exact .inl ⟨k,Zfb ndP hp hu k⟩
  ·obtain⟨c,e⟩:=Zgs (n:=s.heap.objs.size+1) k;refine .inr ⟨.inl k,c,e,?_⟩;have q:=x.cell y c e;rw[Zfd ndP hp hu (by show scope.names.lookup y≠_;rw[k];decide)] at q;exact q
 ·exact e0.hok.fresh (Ybc (x.above y c (Ybv h)))
 ·unfold ZcH;show _=N.length;rw[Yai,Yaa,YbD];omega
theorem ZkT {CX:CXT}{P:Program}{w:World}{K:Yad}{mg:Str->Option Value}{base:Heap}{k:Nat}{f:Addr}{name qual:Str}{params:Arguments}{body:List Stmt}{scope:Scope}{dV kV doc pm cdv ct oc:Value}{an od:Option Addr}
  {osl:Array (Option Value)}{N ps:List Str}{sp:Sp} (lk:K.lookup f=some ⟨oc,od,.func (YaE name qual params body scope dV kV doc pm an cdv ct),osl⟩) (hcd:YaD K cdv qual=true) (S:FnScope N ps scope)
  (len:∀ vs H Q E,sp vs H Q E->vs.length=ps.length)
  (hbody:∀ (A:Around) (outer:List Env) (s:Shared) (H:Hp) (vs:List V) (Q:VK) (E:XK),Room k (A.deeper (envOfC qual scope s.heap.objs.size f cdv))->sp vs H Q E ->
   ∃ t,PSs (cxOf CX P w K mg base N qual scope f cdv A outer s H E) body t/\t { nx:=fun _ H'=>Q .non H',rt:=Q } (ZcH N vs) H) :
  FnOk P w K mg base CX (k+1) f (YaE name qual params body scope dV kV doc pm an cdv ct) ps sp:=by
 refine⟨len,fun A outer s H args us vs Q E hr e0 hb r hsp=>?_⟩;have hl:=len _ _ _ _ hsp;have KX:K.In s.heap:=e0.mod.kin.keeps fun b o e=>(e0.bs b o e).1
 have lim:s.heap.NoLimit:=e0.mod.nolimit.keeps fun b o e=>(e0.bs b o e).1
 have hkind:∀ y∈ps.zip us,scope.names.lookup y.1=some .local ∨ (scope.names.lookup y.1=some .cell/\((cellsFrom (s.heap.objs.size+1) scope.names []).lookup y.1).isSome=true):=fun ⟨n,v⟩ hy=>by
  rcases S.par n (Ydz hy).1 with q | q
  ·exact .inl q
  ·exact .inr ⟨q,YdK _ _ _ (.inl q)⟩
 refine codeAny_call_function hr.depth (KX _ _ lk) rfl S.co S.gen rfl (PySem.W.codeRec_of KX hcd) (hb _ _ _ _ ?_);refine wpAny_newFunctionEnv_cells S.kind hkind fun env he s1 x=>?_;subst he;refine⟨lim.keeps x.toInCall.keep,codeAny_func ?_⟩;obtain⟨t,ht,hq⟩:=hbody A outer s H vs Q E (hr.deeper _) hsp;have I:Inv (cxOf CX P w K mg base N qual scope f cdv A outer s H E) [] (ZcH N vs) H s1:=Zh4 S hr.hd e0 hl r x;refine wpAny_mono (ht [] s1 (ZcH N vs) H _ I hq) (fun fl s' hs=>?_) fun e s' hs=>hs;have fin:∀ {σ':St}{H':Hp}{v:V}{u:Value},Inv (cxOf CX P w K mg base N qual scope f cdv A outer s H E) [] σ' H' s'->RelV v u->Q v H'->CE outer P w H s Q u s' :=
  fun {σ' H' v u} J rv q=>⟨v,H',J.os,J.bare,J.base,J.hok,rv,q⟩
 cases fl with
 | ret u=>
  obtain⟨v,σ',H',J,rv,q⟩:=hs;exact fin J rv q
 | next=>
  obtain⟨σ',H',J,q⟩:=hs;exact fin (v:=V.non) (u:=YbS) J rfl q
 | brk=>
  obtain⟨_,_,_,q⟩:=hs;exact YbH q
 | cont=>
  obtain⟨_,_,_,q⟩:=hs;exact YbH q
end L2
namespace L2
open PySem PySem.Spec PyProof.Rows
section
variable {X:Cx}{x:Str}{p pos:Pos}{e:Expr}{es:List Expr}{t:TA}{id T:String}{r:List V->Hp->VK->Prop}
def tCB (r:List V->Hp->VK->Prop) (t:TA):TE:=fun σ H Q=>t σ H fun vs H1=>r vs H1 Q
theorem Zam (hc:Zca X (.builtin id) r) (hg:Gl X x) (hm:X.mg x=none) (hv:bootBuiltins x=some (.builtin id)) (ha:PA X (e::es) t) (hn:x≠"__name__":=by decide) (hdb:(x == ("__debug__":Str))=false:=by decide)
  (he:starEach (e::es) X.env=(false,eval e X.env)::starEach es X.env:=by rfl) (hpl:(backTo pos (starEach es X.env)).any (·.1)=false:=by rfl):PE X (.Call (.Name x p) (e::es) [] pos) (tCB r t):=by
 intro pins s σ H Q I h;refine wpAny_Call_Name_kw (Zc8 I hg hm hv ?_ hn hdb);exact PyProof.Rows.callWith_builtin1 (thn (ha pos pins s σ H _ I h) fun us s1 ⟨vs,H1,I1,r1,q1⟩=>hc pins s1 σ H1 vs us Q I1 r1 q1) he hpl
theorem Za8 (hc:Zca X (.type T) r) (hg:Gl X x) (hm:X.mg x=none) (hv:bootBuiltins x=some (.type T)) (ha:PA X (e::es) t) (hn:x≠"__name__":=by decide) (hdb:(x == ("__debug__":Str))=false:=by decide)
  (he:starEach (e::es) X.env=(false,eval e X.env)::starEach es X.env:=by rfl) (hpl:(backTo pos (starEach es X.env)).any (·.1)=false:=by rfl):PE X (.Call (.Name x p) (e::es) [] pos) (tCB r t):=by
 intro pins s σ H Q I h;refine wpAny_Call_Name_kw (Zc8 I hg hm hv ?_ hn hdb);exact YbG (thn (ha pos pins s σ H _ I h) fun us s1 ⟨vs,H1,I1,r1,q1⟩=>hc pins s1 σ H1 vs us Q I1 r1 q1) he hpl
end
end L2
namespace HT
open PySem PyProof.Rows
section
open PySem.SeqAt
open PySem.AutoSeq1 (wpAny_loadPart')
open PySem.MeetsSeq PySem.MeetsSeq2 PySem.MeetsSeq3
end
section
variable {prog:Program}{w:World}{A:Around}{E:Value->Shared->Prop}{s:Shared}
def sIx (n d:Nat):Option Int->Nat
 | none=>d
 | some v=>if v<0 then (v+(n:Int)).toNat else min v.toNat n
theorem sIx_nat (n d k:Nat):sIx n d (some (k:Int))=min k n:=by
 show (if (k:Int)<0 then ((k:Int)+(n:Int)).toNat else min (k:Int).toNat n)=min k n;rw[if_neg (by omega),YaN]
theorem Zlu (n d:Nat) (hd:d<=n) (o:Option Int):sIx n d o<=n:=by
 cases o with
 | none=>exact hd
 | some v=>
  show (if v<0 then (v+(n:Int)).toNat else min v.toNat n)<=n;by_cases hv:v<0
  ·rw[if_pos hv];(clear hd;omega)
  ·rw[if_neg hv];exact Nat.min_le_right _ _
theorem Ziv (v:Int) (n d:Nat):(if v<0 then max (v+(n:Int)) 0 else min v (n:Int))=((sIx n d (some v):Nat):Int):=by
 show (if v<0 then max (v+(n:Int)) 0 else min v (n:Int))=(((if v<0 then (v+(n:Int)).toNat else min v.toNat n):Nat):Int);by_cases hv:v<0
 ·simp only[if_pos hv];(clear hv;omega)
 ·simp only[if_neg hv];omega
theorem ZgY (lo hi:Option Int) (n:Nat):YcB lo hi 1 (n:Int)=(((sIx n 0 lo:Nat):Int),((sIx n n hi:Nat):Int)):=by
 have h1:¬ ((1:Int)<0):=by omega
 unfold YcB;simp only[h1,if_false];refine Yeq ?_ ?_
 ·cases lo with
  | none=>rfl
  | some v=>exact Ziv v n 0
 ·cases hi with
  | none=>rfl
  | some v=>exact Ziv v n n
theorem ZgK (i j:Nat):Yb5 (i:Int) (j:Int) 1=j - i:=by
 unfold Yb5;have h1:(1:Int) > 0:=by omega
 simp only[h1,if_true,Int.ediv_one];split <;> (clear h1;omega)
theorem ZdC {v:Value}{o:Option Int}{Q:Option Int->Shared->Prop} (p:IsPart v o) (h:Q o s):wpAny (model prog w) A (Builtin.Slice.slicePartIndex v) Q E s:=by
 cases p with
 | none=>exact slicePart_none h
 | int i t=>exact slicePart_int h
theorem ZcI {sl:Addr}{vl vu:Value}{lo hi:Option Int}{n:Nat}{Q:Int × Int × Nat->Shared->Prop} (hs:s.heap.IsSliceOf sl vl vu .none) (pl:IsPart vl lo) (pu:IsPart vu hi)
  (h:Q (((sIx n 0 lo:Nat):Int),1,sIx n n hi - sIx n 0 lo) s):wpAny (model prog w) A (Yc9 (.ref sl) (pure (n:Int))) Q E s:=by
 obtain⟨os,hos,hcs,hds⟩:=id hs;unfold Yc9 Builtin.Slice.sliceFields;refine wpAny_bind (wpAny_bind (wpAny_field hos hds (x:=vl) rfl (wpAny_bind (wpAny_field hos hds (x:=vu) rfl (wpAny_bind (wpAny_field hos hds (x:=.none) rfl (wpAny_pure ?_)))))));refine wpAny_bind (slicePart_none ?_);show wpAny _ _ (if ((1:Int) == 0)=true then _ else _) _ _ s;rw[if_neg (by decide)];refine wpAny_bind (ZdC pl (wpAny_bind (ZdC pu (wpAny_bind (wpAny_pure ?_)))));show wpAny _ _ (match YcB lo hi 1 (n:Int) with | (lo,hi)=>pure (lo,(1:Int),Yb5 lo hi 1)) _ _ s;rw[ZgY lo hi n];show wpAny _ _ (pure (((sIx n 0 lo:Nat):Int),(1:Int),Yb5 ((sIx n 0 lo:Nat):Int) ((sIx n n hi:Nat):Int) 1)) _ _ s;rw[ZgK];exact wpAny_pure h
theorem Zi2 (xs:Array Value) (i k:Nat):((Yan k).filterMap fun (m:Nat)=>xs[((i:Int)+(m:Int)*1).toNat]?).toArray=((xs.toList.drop i).take k).toArray:=by
 have e:(fun (m:Nat)=>xs[((i:Int)+(m:Int)*1).toNat]?)=fun m=>xs[i+m]?:=by
  funext m
  have:((i:Int)+(m:Int)*1).toNat=i+m:=by omega
  rw[this]
 rw[e];have:=pick_run xs i k;rw[Yb4] at this;have e2:((fun x=>xs[x]?) ∘ fun x=>i+x)=fun m=>xs[i+m]?:=rfl;rw[e2] at this;rw[this]
theorem getItem_tuple_cut {t sl:Addr}{items:Array Value}{vl vu:Value}{lo hi:Option Int}{Q:Value->Shared->Prop} (ht:IsTup s.heap t items) (hs:s.heap.IsSliceOf sl vl vu .none) (pl:IsPart vl lo) (pu:IsPart vu hi)
  (hw:¬ (sIx items.size 0 lo=0/\sIx items.size items.size hi=items.size))
  (h:Q (.ref s.heap.objs.size) { s with heap:=s.heap.push { cls:=.type "tuple",data:=.seq ((items.toList.drop (sIx items.size 0 lo)).take (sIx items.size items.size hi - sIx items.size 0 lo)).toArray } })
  (hsz:items.size<=sizeLine):wpAny (model prog w) A (getItem (.ref t) (.ref sl)) Q E s:=by
 have htake:sizeOk (.seq ((items.toList.drop (sIx items.size 0 lo)).take (sIx items.size items.size hi - sIx items.size 0 lo)).toArray):=by
  show ((items.toList.drop (sIx items.size 0 lo)).take (sIx items.size items.size hi - sIx items.size 0 lo)).toArray.size<=sizeLine;rw[Yaw,YaL,YaU,Ya7]
  (clear hw;omega)
 have hj:sIx items.size items.size hi<=items.size:=Zlu _ _ (Yap _) hi;obtain⟨os,hos,hcs,hds⟩:=id hs;have hTs:s.TypeIs (.ref sl) "slice":=⟨os,hos,hcs⟩
 unfold getItem
 try with_reducible refine wpAny_holding ?_
 first | refine wpAny_bind (wpAny_pure ?_) | skip
 refine wpAny_bind (wpAny_sequenceKey ht.typeIs (by decide) ?_);refine wpAny_bind (wpAny_callSpecial?_slot (name:=YcR "__getitem__") ht.typeIs Yco
  (wpAny_call_entry Yco ht.typeIs entry_tuple_getitem ?_ (args_tuple_getitem _ _)))
 show wpAny _ _ (Builtin.Tuple.tupleItemsOf (.ref t) >>= _) _ _ s;refine wpAny_bind (tupleItemsOf_ ht ?_);refine wpAny_bind (wpAny_typeOf hTs ?_);rw[if_pos (by decide)];refine wpAny_bind (ZcI hs pl pu ?_);have hno:¬ ((((sIx items.size 0 lo:Nat):Int) == 0 && (1:Int) == 1 && (sIx items.size items.size hi - sIx items.size 0 lo) == items.size)=true):=by
  intro q;rw[Ya6,Ya6] at q;have q1:((sIx items.size 0 lo:Nat):Int)=0:=eq_of_beq q.1.1;have q2:sIx items.size items.size hi - sIx items.size 0 lo=items.size:=eq_of_beq q.2;exact hw ⟨by (clear q2 q hj hsz hw;omega),by (clear q1 q hsz hw;omega)⟩
 show wpAny _ _ (if (((sIx items.size 0 lo:Nat):Int) == 0 && (1:Int) == 1 && (sIx items.size items.size hi - sIx items.size 0 lo) == items.size)=true then _ else _) _ _ s;rw[if_neg hno,Zi2]
 first
  | exact wpAny_bind (m:=Ycc _) (wpAny_newObj_type (wpAny_pure ⟨_,rfl,wpAny_pure h⟩) htake)
  | exact wpAny_bind (m:=Ycc _) (wpAny_newObj_type (wpAny_bind (wpAny_pure (wpAny_pure ⟨_,rfl,wpAny_pure h⟩))) htake)
  | exact wpAny_bind (wpAny_bind (m:=Ycc _) (wpAny_newObj_type (wpAny_pure (wpAny_pure ⟨_,rfl,wpAny_pure h⟩)) htake))
  | exact wpAny_bind (wpAny_bind (m:=Ycc _) (wpAny_newObj_type (wpAny_pure ⟨_,rfl,wpAny_pure h⟩) htake))
end
end HT
namespace L2
open PySem PySem.Spec PyProof.Rows
abbrev TO:=St->Hp->(Option Int->Hp->Prop)->Prop
def PO (X:Cx) (e:Option Expr) (t:TO):Prop :=
 ∀ (pins:List (Addr × Obj)) (s:Shared) (σ:St) (H:Hp) (Q:Option Int->Hp->Prop),Inv X pins σ H s->t σ H Q ->
  wpAny (model X.prog X.w) X.A (evalPart e X.env) (fun u s'=>∃ o H',Inv X pins σ H' s'/\IsPart u o/\Q o H') X.xe s
def Zkb:TO:=fun _ H Q=>Q none H
def Zmh (t:TE):TO:=fun σ H Q=>t σ H fun x H1=>∃ i,x=.int i/\Q (some i) H1
theorem ZdO {ns:List Int}:∀ {us:List Value},Vals (ns.map V.int) us->IntsAre us ns:=by
 induction ns with
 | nil=>intro us r;rw[Yc4] at r;cases r;exact .nil
 | cons n ns ih=>
  intro us r;rw[Yav] at r
  cases r with
  | cons r1 r2=>
   obtain⟨t,e⟩:=r1;subst e;exact .cons n t (ih r2)
section
variable {X:Cx}{e:Expr}{te:TE}{lo hi:Option Expr}{tl th:TO}{pos p2:Pos}
theorem Zb2:PO X none Zkb:=by
 intro pins s σ H Q I h;rw[evalPart_none];exact wpAny_pure ⟨none,H,I,.none,h⟩
theorem ZaS (h:PE X e te):PO X (some e) (Zmh te):=by
 intro pins s σ H Q I hw;rw[evalPart_some];refine thn (h pins s σ H _ I hw) fun u s1 ⟨x,H1,I1,r1,q1⟩=>?_;obtain⟨i,rfl,q⟩:=q1;obtain⟨t,rfl⟩:=r1;exact⟨some i,H1,I1,.int i t,q⟩
def SlR (X:Cx) (r:V->Option Int->Option Int->Hp->VK->Prop):Prop :=
 ∀ (pins:List (Addr × Obj)) (s:Shared) (σ:St) (H:Hp) (x:V) (v vl vu:Value) (lo hi:Option Int) (sl:Addr) (Q:VK),Inv X pins σ H s->RelV x v->s.heap.IsSliceOf sl vl vu .none->IsPart vl lo->IsPart vu hi->r x lo hi H Q ->
  ∃ T id,typeLookup (.type T) "__getitem__"=pure (some (.builtin id))/\s.TypeIs v T/\wpAny (model X.prog X.w) X.A (getItem v (.ref sl)) (EP X pins σ Q) X.xe s
def tSl (r:V->Option Int->Option Int->Hp->VK->Prop) (te:TE) (tl th:TO):TE:=fun σ H Q=>te σ H fun x H1=>tl σ H1 fun l H2=>th σ H2 fun u H3=>r x l u H3 Q
theorem Zbo {r:V->Option Int->Option Int->Hp->VK->Prop} (hr:SlR X r) (he:PE X e te) (hl:PO X lo tl) (hu:PO X hi th):PE X (.Subscript e (.Slice lo hi none p2) pos) (tSl r te tl th):=by
 intro pins s σ H Q I h;refine Subscript_ (thn (he pins s σ H _ I h) fun v s1 ⟨x,H1,I1,r1,q1⟩=>?_);refine wpAny_Slice (thn (hl pins s1 σ H1 _ I1 q1) fun vl s2 ⟨l,H2,I2,pl,q2⟩=>thn (hu pins s2 σ H2 _ I2 q2) fun vu s3 ⟨u,H3,I3,pu,q3⟩=>?_);rw[evalPart_none];refine wpAny_pure ?_;have I4:Inv X pins σ H3 { s3 with heap:=s3.heap.push { cls:=.type "slice",data:=.fields #[vl,vu,.none] } }:=I3.kept (t':=s3.toks) fun b ob q=>Yac _ q;obtain⟨T,id,hT,ht,hg⟩:=hr pins { s3 with heap:=s3.heap.push { cls:=.type "slice",data:=.fields #[vl,vu,.none] } } σ H3 x v vl vu l u s3.heap.objs.size Q I4 r1 (Ydw ..) pl pu q3;show wpAny (model X.prog X.w) X.A (subscriptTail e (.Slice lo hi none p2) v (.ref s3.heap.objs.size)) (EP X pins σ Q) X.xe { s3 with heap:=s3.heap.push { cls:=.type "slice",data:=.fields #[vl,vu,.none] } };exact tail_any (ops:=[.ref s3.heap.objs.size,v]) ht hT hg (by with_unfolding_all rfl)
def cutV (xs:List V) (lo hi:Option Int):List V:=(xs.drop (HT.sIx xs.length 0 lo)).take (HT.sIx xs.length xs.length hi - HT.sIx xs.length 0 lo)
theorem Zdi (xs:List V) (lo hi:Option Int):(cutV xs lo hi).length<=xs.length:=by
 unfold cutV;rw[YaL,YaU];omega
def rSlT (K:Yad):V->Option Int->Option Int->Hp->VK->Prop:=fun x lo hi H Q=>∃ a xs,x=.ref a/\SqT K H a xs /\
 ¬ (HT.sIx xs.length 0 lo=0/\HT.sIx xs.length xs.length hi=xs.length)/\∀ p,H p=none->Q (.ref p) (upd H p (.tup (cutV xs lo hi)))
theorem Zln:SlR X (rSlT X.K):=by
 intro pins s σ H x v vl vu lo hi sl Q I rx hs pl pu h;obtain⟨a,xs,rfl,hx,hw,q⟩:=h;cases rx;obtain⟨its,r,ht,hz⟩:=I.tuple hx;have hlen:its.toArray.size=xs.length:=by rw[Yaw];exact r.length.symm
 refine⟨"tuple",_,Yco.lookup,ht.typeIs,?_⟩;refine HT.getItem_tuple_cut ht hs pl pu (by rw[hlen];exact hw) ?_ (by rw[hlen];exact hz);rw[hlen];refine⟨.ref s.heap.objs.size,_,I.laid (t':=s.toks) (o:=.tup (cutV xs lo hi)) (fun b ob q=>Yac _ q) (Yap _) ?_,rfl,q _ (I.hok.fresh (Yap _))⟩;exact⟨Ybk (Zdi xs lo hi) hz,_,(r.drop (HT.sIx xs.length 0 lo)).take (HT.sIx xs.length xs.length hi - HT.sIx xs.length 0 lo),IsTupD.new _ _⟩
end
end L2
namespace L2
open PySem PySem.Spec PyProof.Rows
def ixN (n:Nat) (i:Int):Option Nat:=if 0<=i then (if i<n then some i.toNat else none) else if -(n:Int)<=i then some (i+n).toNat else none
def atI {α:Type} (xs:List α) (i:Int):Option α:=(ixN xs.length i).bind fun j=>xs[j]?
theorem Zh1 {n:Nat}{i:Int}{j:Nat} (h:ixN n i=some j):seqIndex? i n=some j/\j<n/\-(n:Int)<=i/\i<n:=by
 unfold ixN at h;by_cases h0:0<=i
 ·rw[if_pos h0] at h;by_cases h1:i<n
  ·rw[if_pos h1] at h;have e:i.toNat=j:=Yau h;exact⟨by rw[seqIndex_of h0 h1,e],by omega,by (clear e h1;omega),h1⟩
  ·rw[if_neg h1] at h;cases h
 ·rw[if_neg h0] at h;by_cases h1:-(n:Int)<=i
  ·rw[if_pos h1] at h;have e:(i+n).toNat=j:=Yau h;exact⟨by rw[seqIndex_neg (by (clear e h1;omega)) h1,e],by omega,h1,by (clear e h1;omega)⟩
  ·rw[if_neg h1] at h;cases h
theorem ZiE {α:Type}{xs:List α}{i:Int}{v:α} (h:atI xs i=some v):∃ j,seqIndex? i xs.length=some j/\xs[j]?=some v/\j<xs.length/\-(xs.length:Int)<=i/\i<xs.length:=by
 unfold atI at h
 cases e:ixN xs.length i with
 | none=>rw[e] at h;cases h
 | some j=>
  rw[e] at h;obtain⟨h1,h2,h3,h4⟩:=Zh1 e;exact⟨j,h1,h,h2,h3,h4⟩
theorem Zb9 {α:Type}{xs:List α}{j:Nat}{v:α} (h:xs[j]?=some v):atI xs (j:Int)=some v:=by
 have hj:j<xs.length:=(Yab.mp h).1
 have e:ixN xs.length (j:Int)=some j:=by
  unfold ixN;rw[if_pos (by (clear hj;omega)),if_pos (by omega)];simp
 unfold atI;rw[e];exact h
def Zk7 (b:Expr):Prop:=∀ o i,subscripted b false o i=operate [o,i] (getItem o i)
def IxR (X:Cx) (r:R2):Prop :=
 ∀ (value slice:Expr) (pins:List (Addr × Obj)) (s:Shared) (σ:St) (H:Hp) (x y:V) (v u:Value) (Q:VK),Inv X pins σ H s->RelV x v->RelV y u->r x y H Q ->
  subscripted slice false v u=operate [v,u] (getItem v u)->wpAny (model X.prog X.w) X.A (subscriptTail value slice v u) (EP X pins σ Q) X.xe s
def MtR (X:Cx) (id:String) (r:V->List V->Hp->VK->Prop):Prop :=
 ∀ (pins:List (Addr × Obj)) (s:Shared) (σ:St) (H:Hp) (x:V) (xs:List V) (v:Value) (us:List Value) (Q:VK),Inv X pins σ H s->RelV x v->Vals xs us->r x xs H Q ->
  wpAny (model X.prog X.w) X.A (call (.builtin id) (v::us)) (EP X pins σ Q) X.xe s
section
variable {X:Cx}{a b:Expr}{ta tb:TE}{pos:Pos}
theorem ZaY {r:R2} (hr:IxR X r) (ha:PE X a ta) (hb:PE X b tb) (hs:Zk7 b):PE X (.Subscript a b pos) (tOp r ta tb):=by
 intro pins s σ H Q I h;exact Subscript_ (binT ha hb I h fun v u s2 x y H2 I2 rx ry q=>hr a b pins s2 σ H2 x y v u Q I2 rx ry q (hs _ _))
def rIxL (K:Yad):R2:=fun x y H Q=>∃ p xs i v,x=.ref p/\y=.int i/\SqL K H p xs/\atI xs i=some v/\Q v H
def rIxT (K:Yad):R2:=fun x y H Q=>∃ p xs i v,x=.ref p/\y=.int i/\SqT K H p xs/\atI xs i=some v/\Q v H
theorem ZaM:IxR X (rIxL X.K):=by
 intro value slice pins s σ H x y v u Q I rx ry h hs;obtain⟨p,xs,i,z,rfl,rfl,hq,he,q⟩:=h;cases rx;obtain⟨t,rfl⟩:=ry;obtain⟨its,r,pl,hz⟩:=I.list hq;obtain⟨j,h1,h2,h3,h4,h5⟩:=ZiE he;obtain⟨w,ew,rw'⟩:=r.get h2;have hl:=r.length;have hn:=ZeV;have fin:EP X pins σ Q w s:=⟨z,H,I,rw',q⟩
 by_cases h0:0<=i
 ·have hj:i.toNat=j:=by
   rw[seqIndex_of h0 h5] at h1;exact Yau h1
  exact item_listR pl.isList h0 (by (clear hj h0 hl h4 h3;omega)) (by rw[hj];simpa using ew) fin hs
 ·have hj:(i+(its.toArray.size:Int)).toNat=j:=by
   rw[seqIndex_neg (by (clear hn hl h5 h4 h3 hz;omega)) h4] at h1;rw[Yaw,<- hl];exact Yau h1
  exact subscriptTail_builtinR (x:=w) pl.isList.typeIs slot_list_getitem.lookup
   (wpAny_getItem_list_neg (Q:=fun r s'=>r=w/\EP X pins σ Q r s') pl.isList (by (clear hj hn hl h5 h4 h3 hz;omega)) (by rw[Yaw] <;> (clear hj h0 hn h5 h3 hz;omega)) (by (clear hj h0 hl h5 h3;omega)) (by rw[hj];simpa using ew) ⟨rfl,fin⟩) hs
theorem ZeX:IxR X (rIxT X.K):=by
 intro value slice pins s σ H x y v u Q I rx ry h hs;obtain⟨p,xs,i,z,rfl,rfl,hq,he,q⟩:=h;cases rx;obtain⟨t,rfl⟩:=ry;obtain⟨its,r,pl,hz⟩:=I.tuple hq;obtain⟨j,h1,h2,h3,h4,h5⟩:=ZiE he;obtain⟨w,ew,rw'⟩:=r.get h2;have hl:=r.length;have hn:=ZeV;have fin:EP X pins σ Q w s:=⟨z,H,I,rw',q⟩
 exact subscriptTail_builtinR (x:=w) pl.typeIs slot_tuple_getitem.lookup
  (getItem_tuple (j:=j) (Q:=fun r s'=>r=w/\EP X pins σ Q r s') pl (by (clear hl h5 h3;omega)) (by (clear hl h4 h3;omega)) (by rw[Yaw,<- hl];exact h1) (by simpa using ew) ⟨rfl,fin⟩) hs
theorem ZgN (its:List Value) (n j:Nat) (u:Value):YbO (·.setIfInBounds j u) { cls:=.type "list",data:=.seq its.toArray n }={ cls:=.type "list",data:=.seq (its.set j u).toArray n }:=by
 simp[YbO]
theorem Inv.lst {pins:List (Addr × Obj)}{σ:St}{H:Hp}{s:Shared}{p:Addr}{xs:List V} (I:Inv X pins σ H s) (h:H p=some (.lst xs)) :
  ∃ (its:List Value) (n:Nat),Vals xs its/\s.heap.get? p=some { cls:=.type "list",data:=.seq its.toArray n }/\xs.length<=sizeLine:=by
 obtain⟨z,its,n,r,e⟩:=I.hok p _ h;exact⟨its,n,r,e,z⟩
theorem Inv.lstUpd {pins:List (Addr × Obj)}{σ:St}{H:Hp}{s:Shared}{p:Addr}{xs ys:List V}{its its':List Value}{n n':Nat}{f:Obj->Obj} (I:Inv X pins σ H s) (h:H p=some (.lst xs))
  (ho:s.heap.get? p=some { cls:=.type "list",data:=.seq its.toArray n }) (hf:f { cls:=.type "list",data:=.seq its.toArray n }={ cls:=.type "list",data:=.seq its'.toArray n' }) (r:Vals ys its') (hz:ys.length<=sizeLine) (t:Nat) :
  Inv X pins σ (upd H p (.lst ys)) { s with heap:=s.heap.update p f,toks:=t }:=by
 have e:(s.heap.update p f).get? p=some { cls:=.type "list",data:=.seq its'.toArray n' }:=by
  rw[Ycz f ho (by rw[hf] <;> rfl),hf]
 refine I.write (x:=p) (e:=p) (by rw[h];trivial) (.inl rfl) (fun b u hb q=>(Yc1 _ _ (YbA hb)).trans q) ⟨_,e⟩ ?_;exact⟨hz,its',n',r,e⟩
def Zmq:V->V->V->Hp->(Hp->Prop)->Prop:=fun o i v H Q=>∃ p xs k j,o=.ref p/\i=.int k/\H p=some (.lst xs)/\ixN xs.length k=some j/\Q (upd H p (.lst (xs.set j v)))
theorem ZcR:PSet X Zmq:=by
 intro pins s σ H o i v ov iv u Q I ro ri rv h;obtain⟨p,xs,k,j,rfl,rfl,hp,hj,q⟩:=h;cases ro;obtain⟨t,rfl⟩:=ri;obtain⟨its,n,r,ho,hz⟩:=I.lst hp;obtain⟨h1,h2,h3,h4⟩:=Zh1 hj;have hl:=r.length;have hn:=ZeV;have I':Inv X pins σ (upd H p (.lst (xs.set j v))) { s with heap:=s.heap.update p (YbO (·.setIfInBounds j u)) } :=
  I.lstUpd hp ho (ZgN its n j u) (r.set rv j) (by rw[YbU];exact hz) s.toks
 by_cases h0:0<=k
 ·have hk:k.toNat=j:=by
   rw[seqIndex_of h0 h4] at h1;exact Yau h1
  exact PySem.W.ki_setAt ho h0 (by (clear hk h0 hl h3 h2;omega)) (by rw[Yaw,<- hl];exact h4) (by rw[hk];exact⟨_,I',q⟩)
 ·have hk:(k+(its.toArray.size:Int)).toNat=j:=by
   rw[seqIndex_neg (by (clear hn hl h4 h3 h2 hz;omega)) h3] at h1;rw[Yaw,<- hl];exact Yau h1
  exact PySem.W.ki_setBack ho (by (clear hk hn hl h4 h3 h2 hz;omega)) (by rw[Yaw,<- hl];exact h3) (by (clear hk h0 hl h4 h2;omega)) (by rw[hk];exact⟨_,I',q⟩)
theorem ZeM (lo hi:Option Int) (n:Nat):(sliceBounds lo hi none n).1=((HT.sIx n 0 lo:Nat):Int)/\(sliceBounds lo hi none n).2.1=((HT.sIx n n hi:Nat):Int)/\(sliceBounds lo hi none n).2.2=1:=by
 refine⟨?_,?_,rfl⟩
 ·cases lo with
  | none=>simp[sliceBounds,HT.sIx]
  | some i=>
   simp only[sliceBounds,HT.sIx,Yer,show (1:Int) > 0 by decide,if_true];by_cases h:i<0
   ·simp only[h,if_true] <;> omega
   ·simp only[h,if_false] <;> (clear h;omega)
 ·cases hi with
  | none=>simp[sliceBounds,HT.sIx]
  | some i=>
   simp only[sliceBounds,HT.sIx,Yer,show (1:Int) > 0 by decide,if_true];by_cases h:i<0
   ·simp only[h,if_true] <;> omega
   ·simp only[h,if_false] <;> (clear h;omega)
theorem Zd5 (its:List Value) (lo hi:Option Int):slicePick its.toArray lo hi none=((its.drop (HT.sIx its.length 0 lo)).take (HT.sIx its.length its.length hi - HT.sIx its.length 0 lo)).toArray:=by
 obtain⟨h1,h2,h3⟩:=ZeM lo hi its.toArray.size;unfold slicePick;rw[h1,h2,h3];simp only[sliceRange_one,pick_run,Yaw] <;> rfl
def rSlL (K:Yad):V->Option Int->Option Int->Hp->VK->Prop:=fun x lo hi H Q=>∃ a xs,x=.ref a/\SqL K H a xs/\∀ p,H p=none->Q (.ref p) (upd H p (.lst (cutV xs lo hi)))
theorem Zfu:SlR X (rSlL X.K):=by
 intro pins s σ H x v vl vu lo hi sl Q I rx hs pl pu h;obtain⟨a,xs,rfl,hx,q⟩:=h;cases rx;obtain⟨its,r,ht,hz⟩:=I.list hx;have hlen:=r.length;refine⟨"list",_,slot_list_getitem.lookup,ht.isList.typeIs,?_⟩;refine wpAny_getItem_list_slice ht.isList hs pl pu .none (by simp) ?_ (by rw[Yaw] <;> omega);rw[Zd5,<- hlen];refine⟨.ref s.heap.objs.size,_,I.laid (t':=s.toks) (o:=.lst (cutV xs lo hi)) (fun b ob q=>Yac _ q) (Yap _) ?_,rfl,q _ (I.hok.fresh (Yap _))⟩;exact⟨Ybk (Zdi xs lo hi) hz,_,0,(r.drop (HT.sIx xs.length 0 lo)).take (HT.sIx xs.length xs.length hi - HT.sIx xs.length 0 lo),YaB _ rfl⟩
def Zde:V->Bool
 | .non=>true
 | .bl _=>true
 | .int _=>true
 | .str _=>true
 | _=>false
def eqV:V->V->Bool
 | .non,.non=>true
 | .bl a,.bl b=>a == b
 | .bl a,.int b=>(if a then 1 else 0) == b
 | .int a,.bl b=>a == (if b then 1 else 0)
 | .int a,.int b=>a == b
 | .str a,.str b=>a == b
 | _,_=>false
theorem Zl6 {A:Around}{s:Shared}{y x:V}{u v:Value} (ry:RelV y u) (rx:RelV x v) (fy:Zde y=true) (fx:Zde x=true):SeqAt.EqAt A s u v (eqV y x):=by
 cases y with
 | non=>
  cases ry
  cases x with
  | non=>cases rx;exact SeqAt.EqAt.same _
  | bl b=>cases rx;exact SeqAt.EqAt.none_bool b
  | int b=>obtain⟨t,rfl⟩:=rx;exact SeqAt.EqAt.none_int b t
  | str b=>obtain⟨t,rfl⟩:=rx;exact SeqAt.EqAt.none_str b t
  | _=>exact absurd (show false=true from fx) YaC
 | bl a=>
  cases ry
  cases x with
  | non=>cases rx;exact SeqAt.EqAt.bool_none a
  | bl b=>cases rx;exact SeqAt.EqAt.bool_bool a b
  | int b=>obtain⟨t,rfl⟩:=rx;exact SeqAt.EqAt.bool_int a b t
  | str b=>obtain⟨t,rfl⟩:=rx;exact SeqAt.EqAt.bool_str a b t
  | _=>exact absurd (show false=true from fx) YaC
 | int a=>
  obtain⟨t',rfl⟩:=ry
  cases x with
  | non=>cases rx;exact SeqAt.EqAt.int_none a t'
  | bl b=>cases rx;exact SeqAt.EqAt.int_bool a t' b
  | int b=>obtain⟨t,rfl⟩:=rx;exact SeqAt.EqAt.int_int a t' b t
  | str b=>obtain⟨t,rfl⟩:=rx;exact YdR a t' b t
  | _=>exact absurd (show false=true from fx) YaC
 | str a=>
  obtain⟨t',rfl⟩:=ry
  cases x with
  | non=>cases rx;exact SeqAt.EqAt.str_none a t'
  | bl b=>cases rx;exact SeqAt.EqAt.str_bool a t' b
  | int b=>obtain⟨t,rfl⟩:=rx;exact YdQ a t' b t
  | str b=>obtain⟨t,rfl⟩:=rx;exact SeqAt.EqAt.str_str a t' b t
  | _=>exact absurd (show false=true from fx) YaC
 | _=>exact absurd (show false=true from fy) YaC
def eqU (x:V) (u:Value):Bool:=match u with
 | .none=>eqV .non x
 | .bool b=>eqV (.bl b) x
 | .int i _=>eqV (.int i) x
 | .str z _=>eqV (.str z) x
 | _=>false
theorem ZjY {x y:V}{u:Value} (r:RelV y u) (f:Zde y=true):eqU x u=eqV y x:=by
 cases y with
 | non=>cases r;rfl
 | bl b=>cases r;rfl
 | int i=>obtain⟨t,rfl⟩:=r;rfl
 | str z=>obtain⟨t,rfl⟩:=r;rfl
 | _=>exact absurd (show false=true from f) YaC
theorem Zdp {x:V}:∀ {xs:List V}{us:List Value},Vals xs us->xs.all Zde=true->us.any (eqU x)=xs.any fun y=>eqV y x
 | _,_,.nil,_=>rfl
 | y::xs,u::us,.cons r t,f=>by
  rw[List.all_cons,Ya6] at f;rw[Ydd,Ydd,ZjY r f.1,Zdp t f.2]
theorem Zcj {A:Around}{s:Shared}{x:V}{v:Value} (rx:RelV x v) (fx:Zde x=true):∀ {xs:List V}{us:List Value},Vals xs us->xs.all Zde=true->∀ u∈us,SeqAt.EqAt A s u v (eqU x u)
 | _,_,.nil,_=>fun u hu=>by cases hu
 | y::xs,u::us,.cons r t,f=>fun u' hu=>by
  rw[List.all_cons,Ya6] at f;rcases Yal.mp hu with rfl | hu
  ·rw[ZjY r f.1];exact Zl6 r rx f.1 fx
  ·exact Zcj rx fx t f.2 u' hu
def inV (x:V) (xs:List V):Bool:=xs.any fun y=>eqV y x
def rIn (K:Yad) (neg:Bool):R2:=fun x y H Q=>∃ p xs,y=.ref p/\(SqL K H p xs∨SqT K H p xs)/\Zde x=true/\xs.all Zde=true/\Q (.bl (if neg then !inV x xs else inV x xs)) H
theorem ZbB:OpR X (compareOp .In) (rIn X.K false):=by
 intro pins s σ H x y v u Q I rx ry h;obtain⟨p,xs,rfl,hq,fx,fs,q⟩:=h;cases ry;rcases hq with hq | hq
 ·obtain⟨its,r,pl,hz⟩:=I.list hq;refine SeqAt.in_listAt (eqU x) pl.isList (fun w hw=>Zcj rx fx r fs w (by simpa using hw)) ⟨.bl _,H,I,rfl,?_⟩;rw[show its.toArray.any (eqU x)=its.any (eqU x) by simp,Zdp r fs];exact q
 ·obtain⟨its,r,pl,hz⟩:=I.tuple hq;refine SeqAt.in_tupleAt (eqU x) pl (fun w hw=>Zcj rx fx r fs w (by simpa using hw)) ⟨.bl _,H,I,rfl,?_⟩;rw[show its.toArray.any (eqU x)=its.any (eqU x) by simp,Zdp r fs];exact q
theorem ZeR:OpR X (compareOp .NotIn) (rIn X.K true):=by
 intro pins s σ H x y v u Q I rx ry h;obtain⟨p,xs,rfl,hq,fx,fs,q⟩:=h;cases ry;rcases hq with hq | hq
 ·obtain⟨its,r,pl,hz⟩:=I.list hq;refine SeqAt.notIn_listAt (eqU x) pl.isList (fun w hw=>Zcj rx fx r fs w (by simpa using hw)) ⟨.bl _,H,I,rfl,?_⟩;rw[show its.toArray.any (eqU x)=its.any (eqU x) by simp,Zdp r fs];exact q
 ·obtain⟨its,r,pl,hz⟩:=I.tuple hq;refine SeqAt.notIn_tupleAt (eqU x) pl (fun w hw=>Zcj rx fx r fs w (by simpa using hw)) ⟨.bl _,H,I,rfl,?_⟩;rw[show its.toArray.any (eqU x)=its.any (eqU x) by simp,Zdp r fs];exact q
theorem ZaQ:Zca X (.builtin "len") (fun xs H Q=>∃ p ys,xs=[.ref p]/\(SqL X.K H p ys∨SqT X.K H p ys)/\Q (.int ys.length) H):=by
 intro pins s σ H xs us Q I r h;obtain⟨p,ys,rfl,hq,q⟩:=h;obtain⟨u,rfl,rx⟩:=ZdV r;cases rx;have hn:=ZeV;rcases hq with hq | hq
 ·obtain⟨its,r',pl,hz⟩:=I.list hq;have hlen:=r'.length;exact Calls.call_len_list pl.isList (by simp only[Yaw] <;> omega) ⟨.int ys.length,H,I.tok _,⟨s.toks+1,by rw[Yaw,hlen]⟩,q⟩
 ·obtain⟨its,r',pl,hz⟩:=I.tuple hq;have hlen:=r'.length;exact len_tuple pl (by simp only[Yaw] <;> omega) ⟨.int ys.length,H,I.tok _,⟨s.toks+1,by rw[Yaw,hlen]⟩,q⟩
theorem Ze9:Zca X (.type "list") (fun xs H Q=>∃ p ys,xs=[.ref p]/\(SqL X.K H p ys∨SqT X.K H p ys)/\∀ l,H l=none->Q (.ref l) (upd H l (.lst ys))):=by
 intro pins s σ H xs us Q I r h;obtain⟨p,ys,rfl,hq,q⟩:=h;obtain⟨u,rfl,rx⟩:=ZdV r;cases rx;have fin:∀ (its:List Value),Vals ys its->ys.length<=sizeLine->∀ (h':Heap) (c':Nat),(∀ b o',s.heap.get? b=some o'->h'.get? b=some o') ->
   h'.get? s.heap.objs.size=some { cls:=.type "list",dict:=none,data:=.seq its.toArray c',slots:=#[] }->EP X pins σ Q (.ref s.heap.objs.size) { s with heap:=h' }:=fun its r' hz h' c' kp e=>
  ⟨.ref s.heap.objs.size,_,I.laid (t':=s.toks) kp (Yap _) (show ObjOk X.prog X.w _ h' _ (.lst ys) from⟨hz,its,c',r',e⟩),rfl,q _ (I.hok.fresh (Yap _))⟩
 rcases hq with hq | hq
 ·obtain⟨its,r',pl,hz⟩:=I.list hq;have hlen:=r'.length;obtain⟨o,ho,hc,n,hd⟩:=pl.isList;exact call_list_seq p (.inl rfl) ho hc hd (fun h' c' kp e=>fin its r' hz h' c' kp e) (by simp only[Yaw] <;> omega)
 ·obtain⟨its,r',pl,hz⟩:=I.tuple hq;have hlen:=r'.length;obtain⟨o,ho,hc,n,hd⟩:=pl;exact call_list_seq p (.inr rfl) ho hc hd (fun h' c' kp e=>fin its r' hz h' c' kp e) (by simp only[Yaw] <;> omega)
theorem Za1:Zca X (.type "tuple") (fun xs H Q=>∃ p ys,xs=[.ref p]/\((SqL X.K H p ys/\∀ l,H l=none->Q (.ref l) (upd H l (.tup ys)))∨(SqT X.K H p ys/\Q (.ref p) H))):=by
 intro pins s σ H xs us Q I r h;obtain⟨p,ys,rfl,h⟩:=h;obtain⟨u,rfl,rx⟩:=ZdV r;cases rx;rcases h with ⟨hq,q⟩ | ⟨hq,q⟩
 ·obtain⟨its,r',pl,hz⟩:=I.list hq;have hlen:=r'.length;refine call_tuple_list pl.isList (fun h' kp=>?_) (by simp only[Yaw] <;> omega);have I1:Inv X pins σ H { s with heap:=h' }:=I.kept (t':=s.toks) kp;have I2:Inv X pins σ (upd H h'.objs.size (.tup ys)) { s with heap:=h'.push { cls:=.type "tuple",data:=.seq its.toArray } } :=
   I1.laid (t':=s.toks) (fun b o e=>Yac _ e) (Yap _) (show ObjOk X.prog X.w _ _ _ (.tup ys) from⟨hz,its,r',IsTupD.new _ _⟩)
  exact⟨.ref h'.objs.size,_,I2,rfl,q _ (I1.hok.fresh (Yap _))⟩
 ·obtain⟨its,r',pl,hz⟩:=I.tuple hq;exact call_tuple_same pl ⟨.ref p,H,I,rfl,q⟩
def tyV (K:Yad) (T:String) (x:V) (H:Hp):Prop:=match x with
 | .str _=>T="str"
 | .int _=>T="int"
 | .ref p=>(T="list"/\∃ xs,SqL K H p xs)∨(T="tuple"/\∃ o,K.lookup p=some o/\o.cls=.type "tuple"/\o.dict=none) ∨
   (T="dict"/\((∃ kvs,H p=some (.dK kvs))∨∃ kvs,H p=some (.dT kvs)))∨(T="set"/\∃ S n,H p=some (.set S n))
 | _=>False
theorem Zlb {pins:List (Addr × Obj)}{σ:St}{H:Hp}{s:Shared}{T:String}{x:V}{v:Value} (I:Inv X pins σ H s) (r:RelV x v) (ty:tyV X.K T x H) :
  s.TypeIs v T/\∀ a,v=.ref a->∃ ob,s.heap.get? a=some ob/\ob.dict=none:=by
 cases x with
 | str z=>
  obtain⟨t,rfl⟩:=r;cases (show T="str" from ty);exact⟨typeIs_str s z t,fun _ e=>nomatch e⟩
 | int i=>
  obtain⟨t,rfl⟩:=r;cases (show T="int" from ty);exact⟨typeIs_int s i t,fun _ e=>nomatch e⟩
 | ref p=>
  cases r;rcases ty with ⟨rfl,xs,hq⟩ | ⟨rfl,o,hk,hc,hd⟩ | ⟨rfl,hk⟩ | ⟨rfl,S,n,hk⟩
  ·obtain⟨its,_,pl,_⟩:=I.list hq;refine⟨pl.isList.typeIs,fun a e=>?_⟩;cases e;obtain⟨o,n,e,c,hd,_⟩:=pl;exact⟨o,e,hd⟩
  ·refine⟨⟨o,I.kIn p o hk,hc⟩,fun a e=>?_⟩;cases e;exact⟨o,I.kIn _ o hk,hd⟩
  ·have z:∃ o,s.heap.get? p=some o/\o.ExactDict:=by
    rcases hk with ⟨kvs,hk⟩ | ⟨kvs,hk⟩
    ·obtain⟨_,_,_,_,o,_,_,e,ex,_⟩:=I.hok p _ hk;exact⟨o,e,ex⟩
    ·obtain⟨_,_,_,_,o,_,_,e,ex,_⟩:=I.hok p _ hk;exact⟨o,e,ex⟩
   obtain⟨o,e,ex⟩:=z;refine⟨⟨o,e,ex.1⟩,fun a e2=>?_⟩;cases e2;exact⟨o,e,ex.2.1⟩
  ·obtain⟨o,_,_,_,e,ex,_⟩:=I.hok p _ hk;refine⟨⟨o,e,ex.1⟩,fun a e2=>?_⟩;cases e2;exact⟨o,e,ex.2.1⟩
 | _=>exact YbH ty
def tBM (K:Yad) (T:String) (r:V->List V->Hp->VK->Prop) (to:TE) (t:TA):TE:=fun σ H Q=>to σ H fun x H1=>tyV K T x H1/\t σ H1 fun xs H2=>r x xs H2 Q
variable {o e:Expr}{es:List Expr}{to:TE}{t:TA}{name:Str}{apos cpos:Pos}{T id:String}{r:V->List V->Hp->VK->Prop}
theorem Zku (pa:PlainAttrs T) (slot:Slot T name id) (hty:typeOf (.builtin id)=pure (.type "method_descriptor")) (hm:MtR X id r) (ho:PE X o to) (ha:PA X (e::es) t)
  (hbase:attributeBase o name X.env (eval o X.env)=eval o X.env:=by rfl)
  (hfew:((backTo cpos (starEach (e::es) X.env)).all (fun x=>!x.1) && (backToKw cpos (keywordEach [] X.env)).all (fun x=>x.1.isSome)
   && decide ((e::es).length+([]:List Keyword).length+(if ([]:List Keyword).isEmpty then 0 else 1)<30))=true:=by rfl)
  (hline:(apos.endLine == cpos.line)=true:=by rfl) (hs:starEach (e::es) X.env=(false,eval e X.env)::starEach es X.env:=by rfl) (hplain:(backTo cpos (starEach es X.env)).any (·.1)=false:=by rfl) :
  PE X (.Call (.Attribute o name apos) (e::es) [] cpos) (tBM X.K T r to t):=by
 intro pins s σ H Q I h;refine wpAny_Call_method_late hbase hfew hline rfl (thn (ho pins s σ H _ I h) fun v s1 ⟨x,H1,I1,r1,ty,q1⟩=>?_);obtain⟨h1,h2⟩:=Zlb I1 r1 ty;refine⟨T,id,pa,slot,hty,h1,h2,?_⟩;have hA:=ha cpos pins s1 σ H1 _ I1 q1;rw[hs] at hA ⊢;refine Calls.callWith_builtin (by show (false || (backTo cpos (starEach es X.env)).any (·.1))=false;rw[hplain] <;> rfl) (Calls.evalArgs_plain ?_);exact thn hA fun us s2 ⟨vs,H2,I2,r2,q2⟩=>hm pins s2 σ H2 x vs v us Q I2 r1 r2 q2
end
end L2
namespace L2
open PySem PySem.Spec PyProof.Rows
def MtM (X:Cx) (id:String) (r:V->List V->Hp->VK->Prop):Prop :=
 ∀ (pins:List (Addr × Obj)) (s:Shared) (σ:St) (H:Hp) (x:V) (xs:List V) (v:Value) (us:List Value) (Q:VK),Inv X pins σ H s->RelV x v->Vals xs us->r x xs H Q ->
  wpAny (model X.prog X.w) X.A (call (.builtin id) (v::us)) (EP X pins σ Q) X.xe s
theorem Vals.one:∀ {x:V}{us:List Value},Vals [x] us->∃ u,us=[u]/\RelV x u
 | _,_,.cons r .nil=>⟨_,rfl,r⟩
theorem Vals.reverse {xs:List V}{us:List Value} (h:Vals xs us):Vals xs.reverse us.reverse:=by
 induction h with
 | nil=>exact .nil
 | cons r t ih=>rw[Ybx,Ybx];exact Vals.append ih (.cons r .nil)
theorem Vals.rep {xs:List V}{us:List Value} (h:Vals xs us):∀ k:Nat,Vals (Yak k xs).flatten (Yak k us).flatten
 | 0=>.nil
 | k+1=>by
  rw[YbV,YbV,YaM,YaM];exact Vals.append h (Vals.rep h k)
theorem Ze0 (its:List Value):∀ (k:Nat) (acc:List Value),
  YdS (fun x1 x2=>x1++x2) acc.toArray (Yak k its.toArray)=(acc++(Yak k its).flatten).toArray
 | 0,acc=>by simp
 | k+1,acc=>by
  have e:acc.toArray++its.toArray=(acc++its).toArray:=by simp
  have e2:(acc++its)++(Yak k its).flatten=acc++(Yak (k+1) its).flatten:=by
   rw[YbV,YaM,YaK]
  rw[<- e2,<- Ze0 its k (acc++its),<- e,YbV,List.foldl_cons]
section
variable {X:Cx}{pins:List (Addr × Obj)}{σ:St}{H:Hp}{s:Shared}{l b:Addr}{xs ys zs:List V}
theorem Inv.lset {its its':List Value}{n:Nat}{f:Array Value->Array Value}{t':Nat} (I:Inv X pins σ H s) (hH:H l=some (.lst xs))
  (e:s.heap.get? l=some { cls:=.type "list",data:=.seq its.toArray n }) (hf:f its.toArray=its'.toArray) (hv:Vals ys its') (hz:ys.length<=sizeLine) :
  Inv X pins σ (upd H l (.lst ys)) { s with heap:=s.heap.update l (YbO f),toks:=t' }:=by
 have q:=PySem.IsL.update e f;rw[hf] at q;refine I.write (x:=l) (e:=l) (by rw[hH];exact trivial) (.inl rfl) (fun b' u hb hu=>(Yc1 s.heap (YbO f) (YbA hb)).trans hu) ⟨_,q⟩ ?_;exact⟨hz,its',_,hv,q⟩
theorem Inv.lnew {its:List Value}{t':Nat} (I:Inv X pins σ H s) (hv:Vals ys its) (hz:ys.length<=sizeLine) :
  Inv X pins σ (upd H s.heap.objs.size (.lst ys)) { s with heap:=s.heap.push { cls:=.type "list",data:=.seq its.toArray },toks:=t' } :=
 I.laid (fun _ _ q=>Yac _ q) (Yap _) ⟨hz,its,0,hv,YaB _ rfl⟩
theorem Inv.fresh (I:Inv X pins σ H s):H s.heap.objs.size=none:=I.hok.fresh (Yap _)
theorem Inv.lstM (I:Inv X pins σ H s) (hH:H l=some (.lst xs)):xs.length<=sizeLine/\∃ (its:List Value) (n:Nat),Vals xs its/\xs.length=its.length/\s.heap.get? l=some { cls:=.type "list",data:=.seq its.toArray n }:=by
 obtain⟨z,its,n,r,e⟩:=I.hok l _ hH;exact⟨z,its,n,r,r.length,e⟩
theorem Zjm {n:Nat} (h:n<=sizeLine):YcF n=false:=by
 unfold YcF;exact decide_eq_false (by omega)
end
section
variable {X:Cx}
def Zkr:V->List V->Hp->VK->Prop:=fun x vs H Q=>∃ l xs y,x=.ref l/\vs=[y]/\H l=some (.lst xs)/\xs.length<sizeLine/\Q .non (upd H l (.lst (xs++[y])))
theorem Zbh:MtM X "list.append" Zkr:=by
 intro pins s σ H x vs v us Q I rx rv h;obtain⟨l,xs,y,rfl,rfl,hH,hz,q⟩:=h;cases rx;obtain⟨u,rfl,ru⟩:=rv.one;obtain⟨z,its,n,r,hl,e⟩:=I.lstM hH;refine call_meets F.slot_list_append ⟨_,e,rfl⟩ F.entry_list_append (F.args_list_append_2 _ _) (PySem.list_append l its.toArray n u (by rw[Yaw];(clear z;omega))) ⟨e,?_⟩;refine⟨.non,_,I.lset (its':=its++[u]) hH e (by simp) (r.append (.cons ru .nil)) ?_,rfl,q⟩;rw[Yai,Yc5]
 (clear hl z;omega)
def rCat:R2:=fun x y H Q=>∃ l b xs zs,x=.ref l/\y=.ref b/\H l=some (.lst xs)/\H b=some (.lst zs)/\xs.length+zs.length<=sizeLine/\∀ p,H p=none->Q (.ref p) (upd H p (.lst (xs++zs)))
theorem Zci:OpR X (binaryOp .Add) rCat:=by
 intro pins s σ H x y v u Q I rx ry h;obtain⟨l,b,xs,zs,rfl,rfl,hH,hB,hz,q⟩:=h;cases rx;cases ry;obtain⟨z,its,n,r,hl,e⟩:=I.lstM hH;obtain⟨z2,its2,n2,r2,hl2,e2⟩:=I.lstM hB;refine PySem.P.add_list e e2 ?_ (by rw[Yaw,Yaw];(clear z2 z;omega));have ea:its.toArray++its2.toArray=(its++its2).toArray:=by simp
 rw[ea];exact⟨.ref _,_,I.lnew (t':=s.toks) (r.append r2) (by rw[Yai];(clear hl2 z2 hl z;omega)),rfl,q _ I.fresh⟩
def rRep:R2:=fun x y H Q=>∃ l k xs,x=.ref l/\y=.int k/\H l=some (.lst xs)/\-(2 ^ 63)<=k/\k<2 ^ 63/\xs.length*k.toNat<=sizeLine /\
 ∀ p,H p=none->Q (.ref p) (upd H p (.lst (Yak k.toNat xs).flatten))
theorem ZkK {α:Type} (xs:List α) (k:Nat):(Yak k xs).flatten.length=k*xs.length:=by
 induction k with
 | zero=>simp
 | succ k ih=>rw[YbV,YaM,Yai,ih,Nat.succ_mul,Nat.add_comm]
theorem Zgc:OpR X (binaryOp .Mult) rRep:=by
 intro pins s σ H x y v u Q I rx ry h;obtain⟨l,k,xs,rfl,rfl,hH,h1,h2,hz,q⟩:=h;cases rx;obtain⟨t,rfl⟩:=ry;obtain⟨z,its,n,r,hl,e⟩:=I.lstM hH;have hlen:its.toArray.size*k.toNat<=sizeLine:=by rw[Yaw,<- hl];exact hz
 have hcap:¬ its.toArray.size*k.toNat > (2 ^ 63 - 1) / 8:=by
  have:(sizeLine:Nat)<=(2 ^ 63 - 1) / 8:=by decide
  (clear hl z hz h2 h1;omega)
 have hfit:¬ (!Builtin.List.listFitsIndex k)=true:=by
  rw[fitsIndex_both h1 h2];exact YaC
 have hlong:¬ YcF (its.toArray.size*k.toNat)=true:=by
  rw[Zjm hlen];exact YaC
 have hnew:YdS (fun x1 x2=>x1++x2) #[] (Yak (if its.toArray.isEmpty=true then 0 else k.toNat) its.toArray)=(Yak k.toNat its).flatten.toArray:=by
  have f0:∀ m:Nat,YdS (fun x1 x2=>x1++x2) #[] (Yak m its.toArray)=(Yak m its).flatten.toArray:=fun m=>by
   have:=Ze0 its m [];rw[YdA] at this;exact this
  rw[f0]
  cases its with
  | nil=>simp
  | cons a r'=>rw[if_neg (by simp)]
 refine wpAny_binaryOp_repeat_ref (T:="list") (U:="int") (by decide) ⟨_,e,rfl⟩ (fun s'=>typeIs_int s' k t) noFill_list_mul F.fills_int_mul F.slot_int_rmul repeat_list F.slot_int_index.lookup
  (call_meets F.slot_int_rmul (typeIs_int s k t) F.entry_int_rmul (F.args_int_rmul_2 _ _) (int___rmul___int_list k t l its.toArray n)
   ⟨e,rfl,⟨_,e,rfl⟩,call_meets F.slot_list_mul ⟨_,e,rfl⟩ F.entry_list_mul (F.args_list_mul_2 _ _) (AutoListH.list___mul___list_int_3 l its.toArray n k t hfit hcap hlong) ⟨e,?_⟩⟩)
 rw[hnew];exact⟨.ref _,_,I.lnew (t':=s.toks) (r.rep k.toNat) (by rw[ZkK,Nat.mul_comm];exact hz),rfl,q _ I.fresh⟩
end
section
variable {prog:Program}{w:World}{A:Around}{E:Value->Shared->Prop}{s:Shared}
set_option maxRecDepth 100000 in
end
section
variable {X:Cx}
end
end L2
namespace Att
open PySem PySem.W PySem.Calls PyProof.Rows
theorem Zda {P:Params}{h:Heap}:∀ (ns:List Int) (vs:List Value),WellAll P h vs (ns.map WData.int)->IntsAre vs ns:=by
 intro ns
 induction ns with
 | nil=>
  intro vs w;rw[Yc4] at w;cases w;exact .nil
 | cons n ns ih=>
  intro vs w;rw[Yav] at w
  cases w with
  | cons a b=>
   cases a;exact .cons _ _ (ih _ b)
theorem Zho {l:OpenLaw}{n:Nat} (hn:l.most=some n) {P:Params}{h:Heap}{args:List WData}{vals:List Value}
  (hpre:l.row.toRowW.claim.pre args=true) (hwl:WellAll P h vals args) :
  ∃ a vs ns,vals=[YbC a]/\args=[WData.list (ns.map WData.int)]/\h.get? a=some { cls:=.type "list",data:=.seq vs.toArray }/\IntsAre vs ns/\ns.length<=n:=by
 have hsh:WShape.hasAll [] args [.list .int]=true:=(pre_splitW hpre).1
 have hc:l.pre.holds [] { args:=args }=true:=(pre_splitW hpre).2
 obtain⟨d,r,rfl,h1,h2⟩:=hasAllW_cons hsh;obtain rfl:=hasAllW_nil h2;obtain⟨xs,rfl,h3⟩:=hasW_list h1;obtain⟨ns,rfl⟩:=items_int h3;have hlen:ns.length<=n:=by
  unfold OpenLaw.pre at hc;have h4:(WTm.not (.lt (.lit (.int (n:Int))) (.len (.arg 0)))).holds [] { args:=[.list (ns.map .int)] }=true:=by
   have h4:=(holds_andW hc).1
   rw[hn] at h4;exact h4
  have h5:=condW_of h4 (w_not (w_lt w_lit (w_len_list (w_arg rfl))));rw[Yaa] at h5;refine Nat.le_of_not_lt fun q=>?_;have q':(n:Int)<((ns.length:Nat):Int):=by omega
  first
   | (rw[decide_eq_true q'] at h5;exact absurd h5 (by decide))
   | (simp at h5;omega)
 cases hwl with
 | cons w1 w2=>
  cases w2
  cases w1 with
  | list ho hall=>exact⟨_,_,ns,rfl,rfl,ho,Zda ns _ hall,hlen⟩
theorem Zhz (l:OpenLaw) (args:List WData):l.row.toRowW.claim.post args (.bool true) args=true :=
 postW_of (r:=l.row.toRowW) (X:=(true == true))
  (show WShape.has [] (.bool true) .bool=true by first | rfl | decide | simp[WShape.has,WShape.arms,WShape.armsAll])
  (show (WTm.eq .res (.lit (.bool true))).value [] { args:=args,res:=some (.bool true),after:=args }=some (.bool (true == true)) from w_eq_bool (w_res rfl) w_lit) rfl
theorem attach_call {l:OpenLaw}{n:Nat}{q:Program}{loose:List Str}{XP:(Str->Option Value)->Heap->Prop}{YP:World->Heap->Prop}{d:DefRec}
  (hn:l.most=some n) (hdf:d.params.defaults=[])
  (call:∀ (w:World) (s₀ s₁:Shared) (mg mb:Str->Option Value) (fa:Addr) (o:Obj) (pm cd doc:Value) (a:Addr) (vs:List Value) (ns:List Int),
   Ground q loose [] XP w s₀ mg mb s₁.heap->YP w s₁.heap ->
   s₁.heap.get? fa=some o->o.data=.func (docDef d.name d.params d.body d.scope pm cd doc)->s₁.heap.CodeRec cd d.name->mg d.name=some (.ref fa) ->
   s₁.heap.get? a=some { cls:=.type "list",data:=.seq vs.toArray }->IntsAre vs ns->ns.length<=n->s₁.gens=#[] ->
   codeAny (model l.prog w) callerA (.call (.ref fa) ⟨[.ref a],[]⟩) (fun r s'=>r=.ok (.ret (.bool true))/\OldK s₁.heap s'.heap/\s'.os=s₁.os/\AllBare s'.gens) s₁) :
  WalkO q loose XP YP l.row.toRowW d [] (fun f vs=>Yep f vs):=by
 intro w s₀ s₁ mg mb G Y fa o pm cd doc dV kV ho hd hcd hD hmg hg args vals as hpre hlay hrd hwl hlo;obtain rfl:dV=.none:=Dflts.none hD hdf;obtain rfl:kV=.none:=Dflts.noKw hD;obtain⟨a,vs,ns,rfl,rfl,hobj,hints,hlen⟩:=Zho hn hpre hwl;refine enter_call (codeAny_mono (call w s₀ s₁ mg mb fa o pm cd doc a vs ns G Y ho (fd_plain hd) hcd hmg hobj hints hlen hg) fun r s' hq=>?_);obtain⟨rfl,h2,h3,h4⟩:=hq;exact⟨.inl ⟨.bool true,.bool true,[],rfl,fun _=>rfl,.bool true,Zhz l _,fun _=>⟨Ycn,fun _ hm=>(nomatch hm)⟩⟩,h2,h3,h4⟩
section
variable {prog:Program}{w:World}{A:Around}{E:Value->Shared->Prop}{s:Shared}{K:Frag}
def ZmO (h:Heap) (L d:Addr):List (Addr × Obj):=(Yan h.objs.size).filterMap fun a=>if a=L∨a=d then none else (h.get? a).map fun o=>(a,o)
end
end Att
namespace L2
open PySem PySem.Spec PyProof.Rows
theorem ZeH:∀ {vs:List Value}{ns:List Int},IntsAre vs ns->Vals (ns.map V.int) vs
 | _,_,.nil=>.nil
 | _,_,.cons n t h=>.cons ⟨t,rfl⟩ (ZeH h)
def Only (H:Hp):Prop:=∀ b,H b=none∨∃ o xs,H b=some (.frz o (.lst xs))
theorem Zjr {P:Program}{w:World}{K:Yad}{mg mb:Str->Option Value}{CX:CXT}{k:Nat}{fa a:Addr}{fd:FuncData}{x:Str}{sp:Sp}{s₁:Shared}{vs:List Value}{ns:List Int}
  (KX:K.In s₁.heap) (hns:s₁.heap.Ns mainGlobals mg) (hb:s₁.heap.Ns builtinsNs mb) (hbb:∀ x:Str,x≠"__name__"->mb x=bootBuiltins x) (hlim:s₁.heap.NoLimit) (hg:s₁.gens=#[])
  (ha:s₁.heap.get? a=some { cls:=.type "list",data:=.seq vs.toArray }) (hi:IntsAre vs ns) (hl:ns.length<=sizeLine) (hr:Room k callerA)
  (F:∀ base:Heap,K.In base->base.Ns mainGlobals mg->FnOk P w K mg base CX k fa fd [x] sp) (hbind:∀ (s:Shared) (u:Value),BindsTo s fd ⟨[u],[]⟩ [(x,u)])
  (hsp:∀ H:Hp,Only H->SqL K H a (ns.map V.int)->sp [.ref a] H (fun v _=>v=.bl true) fun _ _ _=>False)
  (hCX:∀ H e s',CX [] H s₁ (fun _ _ _=>False) e s'->False) :
  codeAny (model P w) callerA (.call (.ref fa) ⟨[.ref a],[]⟩) (fun r s'=>r=.ok (.ret (.bool true))/\OldK s₁.heap s'.heap/\s'.os=s₁.os/\AllBare s'.gens) s₁:=by
 have rv:=ZeH hi;have lenV:=hi.length;have core:∀ H:Hp,Only H->SqL K H a (ns.map V.int)->HOk P w H s₁.heap->(∀ b,H b≠none->b=a)->(H a≠none->K.lookup a=none) ->
   codeAny (model P w) callerA (.call (.ref fa) ⟨[.ref a],[]⟩) (fun r s'=>r=.ok (.ret (.bool true))/\OldK s₁.heap s'.heap/\s'.os=s₁.os/\AllBare s'.gens) s₁:=by
  intro H hO hS hok hA hK;have base_of:∀ {b:Addr}{o:Obj},s₁.heap.get? b=some o->H b=none->(hidT s₁.heap H).get? b=some o:=fun e n=>Zjs e n;have noA:∀ {b:Addr}{o:Obj}{es:Array DictEntry}{ep:Nat},s₁.heap.get? b=some o->o.data=.dict es ep->H b=none:=fun {b o es ep} e d=>by
   cases q:H b with
   | none=>rfl
   | some u=>
    have e':b=a:=hA b (by rw[q];simp);subst e';rw[ha] at e;cases e;have d':Data.seq vs.toArray _=Data.dict es ep:=d;cases d'
  have nsK:∀ {b:Addr}{m:Str->Option Value},s₁.heap.Ns b m->(hidT s₁.heap H).Ns b m:=fun {b m} ⟨o,es,ep,e,d,r⟩=>⟨o,es,ep,base_of e (noA e d),d,r⟩
  have hKb:K.In (hidT s₁.heap H):=fun b o e=>base_of (KX b o e) (by
   cases q:H b with
   | none=>rfl
   | some u=>
    have e':b=a:=hA b (by rw[q];simp);subst e';rw[hK (by rw[q];simp)] at e;cases e)
  have hM:Mod K mg (hidT s₁.heap H):=⟨hKb,nsK hns,⟨mb,nsK hb,hbb⟩,let ⟨mc,h1,h2⟩:=hlim;⟨mc,nsK h1,h2⟩⟩
  have e0:Env0 P w K mg (hidT s₁.heap H) callerA [] s₁ H:=⟨rfl,hM,fun b o e=>ZkH e,Nat.le_of_eq (Zh8 _ _),trivial,fun b hb=>absurd (show b∈([]:List Addr) from hb) (by simp),hok,.of_eq hg⟩
  refine codeAny_mono ((F _ hKb (nsK hns)).run callerA [] s₁ H ⟨[.ref a],[]⟩ [.ref a] [.ref a] _ _ hr e0 (hbind s₁ (.ref a)) (.cons rfl .nil) (hsp H hO hS)) fun r s' h=>?_
  cases r with
  | error e=>exact (hCX H e s' h).elim
  | ok fl=>
   cases fl with
   | next=>exact YbH h
   | brk=>exact YbH h
   | cont=>exact YbH h
   | ret u=>
    obtain⟨v,H',os,bare,un,hok',r',q⟩:=h;have q':v=.bl true:=q;subst q';obtain rfl:u=YdJ true:=r';refine⟨rfl,OldK.of_keep fun b o e=>?_,os,bare⟩
    cases q:H b with
    | none=>exact un.keep b o e q (by intro z;exact absurd (show b∈([]:List Addr) from z) (by simp)) (by simp)
    | some u=>
     rcases hO b with z | ⟨ob,xs,z⟩
     ·rw[q] at z;cases z
     ·have z2:=un.frzs b ob _ z;obtain⟨e1,_⟩:=hok b _ z;obtain⟨e2,_⟩:=hok' b _ z2;rw[e] at e1;cases e1;exact e2
 cases hk:K.lookup a with
 | some o=>
  have e:=KX a o hk;rw[ha] at e;cases e;refine core (fun _=>none) (fun _=>.inl rfl) (.inr ⟨_,vs.toArray,_,hk,rfl,rfl,rfl,by rw[Yaw,lenV];exact hl,by simpa using rv⟩) (fun b u z=>by have z':(none:Option HO)=some u:=z;cases z') (fun b z=>absurd rfl z) fun z=>absurd rfl z
 | none=>
  refine core (fun b=>if b=a then some (.frz { cls:=.type "list",data:=.seq vs.toArray } (.lst (ns.map V.int))) else none) (fun b=>?_) (.inl (.inr ⟨{ cls:=.type "list",data:=.seq vs.toArray },if_pos rfl⟩)) (fun b u z=>?_) (fun b z=>?_) fun _=>hk
  ·by_cases hb:b=a
   ·exact .inr ⟨_,_,if_pos hb⟩
   ·exact .inl (if_neg hb)
  ·by_cases hb:b=a
   ·have z':=(if_pos hb).symm.trans z;cases z';subst hb;exact⟨ha,by rw[Yaa];exact hl,vs,_,rv,ha⟩
   ·have z':=(if_neg hb).symm.trans z;cases z'
  ·by_cases hb:b=a
   ·exact hb
   ·exact absurd (if_neg hb) z
end L2
namespace L2
open PySem PySem.Spec PyProof.Rows
theorem walk_of {l:Ydo}{n k:Nat}{q:Program}{loose:List Str}{XP:(Str->Option Value)->Heap->Prop}{YP:World->Heap->Prop}{d:DefRec}{K:Params->Yad}{CX:World->CXT}{sp:World->Sp}{x:Str}
  (hn:l.most=some n) (hn2:n<=sizeLine) (hdf:d.params.defaults=[]) (hr:Room k callerA)
  (hY:∀ (w:World) (h:Heap),YP w h->(K w.params).In h)
  (F:∀ (w:World) (mg:Str->Option Value) (fa:Addr) (h:Heap),(K w.params).In h->h.Ns mainGlobals mg->mg d.name=some (.ref fa) ->
   ∃ fd:FuncData,(∀ (s:Shared) (u:Value),BindsTo s fd ⟨[u],[]⟩ [(x,u)]) /\
    ∀ base:Heap,(K w.params).In base->base.Ns mainGlobals mg->FnOk l.prog w (K w.params) mg base (CX w) k fa fd [x] (sp w))
  (hsp:∀ (w:World) (H:Hp) (a:Addr) (ns:List Int),ns.length<=n->Only H->SqL (K w.params) H a (ns.map V.int)->sp w [.ref a] H (fun v _=>v=.bl true) fun _ _ _=>False)
  (hCX:∀ (w:World) (H:Hp) (s:Shared) (e:Value) (s':Shared),CX w [] H s (fun _ _ _=>False) e s'->False) :
  YeH q loose XP YP l.row.toRowW d [] (fun f vs=>Yep f vs):=by
 refine Att.attach_call hn hdf fun w s₀ s₁ mg mb fa o pm cd doc a vs ns G Y ho hd hcd hmg hobj hints hlen hg=>?_;have KX:=hY w _ Y;obtain⟨fd,hb,hF⟩:=F w mg fa _ KX G.T.g hmg;exact Zjr KX G.T.g G.T.b G.T.builtins G.T.nolimit hg hobj hints (Ybk hlen hn2) hr hF hb (fun H hO hS=>hsp w H a ns hlen hO hS) fun H e s'=>hCX w H s₁ e s'
end L2
namespace L2
open PySem PySem.Spec PyProof.Rows
def Zal (s:Stmt):Arguments:=match s with
 | .FunctionDef _ a _ _ _ _ _ _ _ _=>a
 | _=>{ posonlyargs:=[],args:=[],vararg:=none,kwonlyargs:=[],kw_defaults:=[],kwarg:=none,defaults:=[] }
def Zaj (s:Stmt):List Stmt:=match s with
 | .FunctionDef _ _ b _ _ _ _ _ _ _=>b
 | _=>[]
def Zac (s:Stmt):Scope:=match s with
 | .FunctionDef _ _ _ _ _ _ sc _ _ _=>sc
 | _=>{ kind:=.function,names:=[],isGenerator:=false,isCoroutine:=false }
abbrev CX0:CXT:=fun _ _ _ _ _ _=>False
abbrev E0:XK:=fun _ _ _=>False
theorem ZlE {X:Cx}:ZbV CX0 X E0:=fun _ _ _ _ _ _ _ h=>h.elim
structure Fun (K:Yad) (x qual:Str) (st:Stmt) (f:Addr) (fd:FuncData):Prop where
 ex:∃ (oc:Value) (od:Option Addr) (kV doc pm:Value) (an:Option Addr) (cdv ct:Value) (osl:Array (Option Value)),
  fd=YaE x qual (Zal st) (Zaj st) (Zac st) .none kV doc pm an cdv ct/\K.lookup f=some ⟨oc,od,.func fd,osl⟩/\YaD K cdv qual=true
 kp:Yay K (.ref f)=true
section
variable {P:Program}{w:World}{K:Yad}{mg:Str->Option Value}{base:Heap}
theorem Fun.ok {x qual:Str}{st:Stmt}{f:Addr}{fd:FuncData}{N ps:List Str}{k:Nat}{sp:Sp} (F:Fun K x qual st f fd) (S:FnScope N ps (Zac st)) (len:∀ vs H Q E,sp vs H Q E->vs.length=ps.length)
  (hbody:∀ (cdv:Value) (A:Around) (outer:List Env) (s:Shared) (H:Hp) (vs:List V) (Q:VK) (E:XK),Room k (A.deeper (envOfC qual (Zac st) s.heap.objs.size f cdv))->sp vs H Q E ->
   ∃ t,PSs (cxOf CX0 P w K mg base N qual (Zac st) f cdv A outer s H E).nox (Zaj st) t/\t { nx:=fun _ H'=>Q .non H',rt:=Q } (ZcH N vs) H):FnOk P w K mg base CX0 (k+1) f fd ps sp:=by
 obtain⟨oc,od,kV,doc,pm,an,cdv,ct,osl,rfl,lk,hcd⟩:=F.ex;refine ZkT lk hcd S len fun A outer s H vs Q E hr hsp=>?_;obtain⟨t,h,q⟩:=hbody cdv A outer s H vs Q E hr hsp;exact⟨t,h.nox,q⟩
theorem Fun.binds {x qual:Str}{st:Stmt}{f:Addr}{fd:FuncData}{ps:List Str} (F:Fun K x qual st f fd)
  (h:∀ (kV doc pm:Value) (an:Option Addr) (cdv ct:Value) (us:List Value),us.length=ps.length->bindArgs (YaE x qual (Zal st) (Zaj st) (Zac st) .none kV doc pm an cdv ct) ⟨us,[]⟩=pure (ps.zip us)):Binds K fd ps []:=by
 obtain⟨oc,od,kV,doc,pm,an,cdv,ct,osl,rfl,lk,hcd⟩:=F.ex;exact .all (h kV doc pm an cdv ct)
theorem ZaD {x qual:Str}{st:Stmt}{f:Addr}{oc:Value}{od an:Option Addr}{osl:Array (Option Value)}{kV doc pm cdv ct:Value} (l:K.lookup f=some ⟨oc,od,.func (YaE x qual (Zal st) (Zaj st) (Zac st) .none kV doc pm an cdv ct),osl⟩)
  (c:YaD K cdv qual=true) (k:Yay K (.ref f)=true):Fun K x qual st f (YaE x qual (Zal st) (Zaj st) (Zac st) .none kV doc pm an cdv ct):=⟨⟨oc,od,kV,doc,pm,an,cdv,ct,osl,rfl,l,c⟩,k⟩
end
theorem Zat {n:Nat} (h:n<=1000):n<sizeLine:=YeA h (by decide)
section
variable {X:Cx}
theorem pv (i:Nat) {x:Str}{pos:Pos} (hN:X.N[i]?=some x:=by rfl) (hv:Vis X.env.scope x:=by first | exact YaG rfl | exact YcV (YaG rfl) | exact YcV (YcV rfl)) (hd:(x == ("__debug__":Str))=false:=by decide)
  (hcd:(x == ("__classdict__":Str))=false:=by decide):PE X (.Name x pos) (tVar i):=Zlz hN hv hd hcd
end
theorem iteF {A B:Prop} (h:B):if false=true then A else B:=by
 rw[if_neg YaC];exact h
theorem iteT {A B:Prop} (h:A):if true=true then A else B:=by
 rw[if_pos rfl];exact h
theorem ite2 {c A B:Prop} [Decidable c] (h1:c->A) (h2:¬ c->B):if c then A else B:=by
 by_cases h:c
 ·rw[if_pos h];exact h1 h
 ·rw[if_neg h];exact h2 h
def Same (H H':Hp):Prop:=∀ b o,H b=some o->H' b=some o
theorem Same.refl (H:Hp):Same H H:=fun _ _ h=>h
theorem Same.trans {H H1 H2:Hp} (a:Same H H1) (b:Same H1 H2):Same H H2:=fun c o h=>b c o (a c o h)
theorem Same.free {H H':Hp} (e:Same H H') {l:Addr} (h:H' l=Ydr):H l=Ydr:=by
 cases q:H l with
 | none=>rfl
 | some o=>
  rw[e l o q] at h;cases h
theorem Same.seq {K:Yad}{H H':Hp}{a:Addr}{xs:List V} (e:Same H H') (h:SqL K H a xs):SqL K H' a xs:=by
 rcases h with (h | ⟨o,h⟩) | h
 ·exact .inl (.inl (e _ _ h))
 ·exact .inl (.inr ⟨o,e _ _ h⟩)
 ·exact .inr h
end L2
set_option maxHeartbeats 4000000
namespace L2
open PySem PySem.Spec PyProof.Rows
def ZbG (env:Env):List (Str × NameKind)->List (Str × Addr)->List (Str × Addr)
 | [],cs=>cs
 | (n,k)::r,cs=>ZbG env r (if k == .free then (n,(env.cells.lookup n).getD 0)::cs else cs)
abbrev clOf (scope:Scope) (env:Env):List (Str × Addr):=ZbG env scope.names []
theorem Zcm {env:Env}:∀ (names:List (Str × NameKind)) (cs:List (Str × Addr)),(∀ x∈names,x.2=.free->∃ c,env.cells.lookup x.1=some c) ->
  (forIn names cs fun (x:Str × NameKind) r=>do
   if x.2 == .free then
    let c <- cellOf env x.1
    pure (Ya1 ((x.1,c)::r))
   else pure (Ya1 r):Sem (List (Str × Addr)))=pure (ZbG env names cs)
 | [],cs,_=>rfl
 | (n,k)::r,cs,h=>by
  rw[YdB];have ih:=fun cs'=>Zcm (env:=env) r cs' fun x hx=>h x (Yao _ hx);by_cases hk:k=.free
  ·subst hk;obtain⟨c,hc⟩:=h (n,.free) YaA rfl;have hc':env.cells.lookup n=some c:=hc;have ec:cellOf env n=pure c:=by unfold cellOf;rw[hc']
   dsimp only;rw[if_pos (by rfl),ec];show (forIn r ((n,c)::cs) _:Sem _)=_;rw[ih]
   conv=>rhs;unfold ZbG
   rw[if_pos (by rfl),hc'];rfl
  ·have hb:(k == Yb6)=false:=by simpa using hk
   dsimp only;rw[if_neg (by rw[hb];decide)];show (forIn r cs _:Sem _)=_;rw[ih]
   conv=>rhs;unfold ZbG
   rw[if_neg (by rw[hb];decide)]
theorem Zbk {scope:Scope}{env:Env} (h:∀ x∈scope.names,x.2=.free->∃ c,env.cells.lookup x.1=some c):closureFor scope env=pure (clOf scope env):=by
 unfold closureFor;have e:=Zcm (env:=env) scope.names [] h;simp only[bind_pure];exact e
theorem Ze8 {env:Env}{x:Str}{c:Addr}:∀ (names:List (Str × NameKind)) (cs:List (Str × Addr)),(ZbG env names cs).lookup x=some c->((x,Yb6)∈names/\c=(env.cells.lookup x).getD 0)∨cs.lookup x=some c
 | [],_,h=>.inr h
 | (n,k)::r,cs,h=>by
  unfold ZbG at h;rcases Ze8 r _ h with ⟨h1,h2⟩ | h1
  ·exact .inl ⟨Yao _ h1,h2⟩
  ·by_cases hk:k=.free
   ·subst hk;rw[if_pos (by rfl),Ybs] at h1
    cases e:x == n with
    | true=>
     rw[e] at h1;have en:x=n:=eq_of_beq e;subst en;exact .inl ⟨YaA,(Yau h1).symm⟩
    | false=>rw[e] at h1;exact .inr h1
   ·have hb:(k == Yb6)=false:=by simpa using hk
    rw[if_neg (by rw[hb];decide)] at h1;exact .inr h1
theorem Ziw {env:Env}{x:Str}:∀ (names:List (Str × NameKind)) (cs:List (Str × Addr)),(∃ c,cs.lookup x=some c)->∃ c,(ZbG env names cs).lookup x=some c
 | [],_,h=>h
 | (n,k)::r,cs,h=>by
  unfold ZbG;refine Ziw r _ ?_;split
  ·rw[Ybs];split
   ·exact⟨_,rfl⟩
   ·exact h
  ·exact h
theorem Zix {env:Env}{x:Str}:∀ (names:List (Str × NameKind)) (cs:List (Str × Addr)),(x,Yb6)∈names->∃ c,(ZbG env names cs).lookup x=some c
 | [],_,h=>by simp at h
 | (n,k)::r,cs,h=>by
  unfold ZbG;rcases Yal.mp h with e | h
  ·cases e;refine Ziw r _ ?_;rw[if_pos (by rfl),Ybs];exact⟨(env.cells.lookup x).getD 0,by simp⟩
  ·exact Zix r _ h
theorem ZgH {scope:Scope}{env:Env}{x:Str} (hcell:∀ y∈scope.names,y.2≠.cell) (h:(relabel scope env).names.lookup x=some .cell∨(relabel scope env).names.lookup x=some .free):(x,Yb6)∈scope.names:=by
 have hm:∃ k,(x,k)∈(relabel scope env).names/\(k=.cell∨k=.free):=by
  rcases h with h | h
  ·exact⟨_,Ybv h,.inl rfl⟩
  ·exact⟨_,Ybv h,.inr rfl⟩
 obtain⟨k,hm,hk⟩:=hm;obtain⟨⟨n,k'⟩,h1,h2⟩:=YaV.mp hm;dsimp only at h2;split at h2
 ·rename_i hc;have:k'=.free:=by
   simp only[Ya6,beq_iff_eq] at hc;exact hc.1.1
  cases h2;subst this;exact h1
 ·cases h2;rcases hk with rfl | rfl
  ·exact absurd rfl (hcell _ h1)
  ·exact h1
theorem ZcE {env:Env}{x:Str}:∀ {names:List (Str × NameKind)},names.lookup x=some .free ->
  (names.map fun (n,k)=>if (k == Yb6 && env.scope.kind == .function && env.kindOf n == some .cell) then (n,YeB) else (n,k)).lookup x=some .cell ∨
  (names.map fun (n,k)=>if (k == Yb6 && env.scope.kind == .function && env.kindOf n == some .cell) then (n,YeB) else (n,k)).lookup x=some .free
 | [],h=>by simp at h
 | (n,k)::r,h=>by
  have ih:=@ZcE env x r;rw[Yav];dsimp only
  cases hx:x == n with
  | true=>
   simp only[Ybs,hx] at h;cases h;split
   ·left;simp[Ybs,hx]
   ·right;simp[Ybs,hx]
  | false=>
   simp only[Ybs,hx] at h;split
   ·simp only[Ybs,hx];exact ih h
   ·simp only[Ybs,hx];exact ih h
section
variable {prog:Program}{w:World}{A:Around}{R:Result->Shared->Prop}{s:Shared}
theorem Zb8 {elt target iter:Expr}{ifs:List Expr}{scope:Scope}{pos:Pos}{it acc:Value}{env:Env} (I:Nat->Shared->Prop)
  (turn:∀ n s,I n s->wpAny (model prog w) A (pyNext it) (fun r s₁=>match r with
   | none=>R (.ok .next) s₁
   | some v=>wpAny (model prog w) A (letOwnedTupleGo target it v) (fun _ s₁'=>wpAny (model prog w) A (assign target env v) (fun _ s₂=>
     wpAny (model prog w) A (forIn ifs true fun c r=>if r=true then do let ok <- isTrue c env (eval c env);pure (Ya1 ok) else pure (Ya1 r)) (fun ok s₃=>
      if ok=true then wpAny (model prog w) A (eval elt env) (fun x s₄=>
       wpAny (model prog w) A (call (.builtin "list.append") [acc,x]) (fun _ s₅=>∃ m,m<n/\I m s₅) (fun _ _=>False) s₄) (fun _ _=>False) s₃
      else ∃ m,m<n/\I m s₃) (fun _ _=>False) s₂) (fun _ _=>False) s₁') (fun _ _=>False) s₁) (fun _ _=>False) s)
  (n:Nat) (h:I n s) :
  codeAny (model prog w) A (.compLoop (.ListComp elt [⟨target,iter,ifs,0⟩] scope pos) 0 it acc env) R s:=by
 refine codeAny_loop rfl I (fun n s hI=>?_) n h;show wpAny _ A ((compTurn (.ListComp elt [⟨target,iter,ifs,0⟩] scope pos) 0 it acc env).onRaise (fun x=>do noteFrame x env;theTreesLotGoes x)) _ _ s;refine wpAny_noted ?_;rw[compTurn_list];refine wpAny_bind (wpAny_standAt (wpAny_bind (wpAny_mono (turn n s hI) (fun r s₁ h₁=>?_) fun _ _ h'=>h'.elim)))
 cases r with
 | none=>exact wpAny_pure h₁
 | some v=>
  refine wpAny_bind (wpAny_mono h₁ (fun _ s₁' h₁=>?_) fun _ _ h'=>h'.elim);refine wpAny_bind (wpAny_mono h₁ (fun _ s₂ h₂=>wpAny_bind (wpAny_mono h₂ (fun ok s₃ h₃=>?_) fun _ _ h'=>h'.elim)) fun _ _ h'=>h'.elim)
  cases ok with
  | false=>exact wpAny_pure ⟨rfl,h₃⟩
  | true=>
   exact wpAny_bind (wpAny_bind (wpAny_mono h₃ (fun x s₄ h₄=>wpAny_bind (wpAny_mono h₄ (fun _ s₅ h₅=>wpAny_pure (wpAny_pure ⟨rfl,h₅⟩)) fun _ _ h'=>h'.elim)) fun _ _ h'=>h'.elim))
end
def PTs (X:Cx) (ifs:List Expr) (t:TT):Prop :=
 ∀ (pins:List (Addr × Obj)) (s:Shared) (σ:St) (H:Hp) (Q:Bool->Hp->Prop),Inv X pins σ H s->t σ H Q ->
  wpAny (model X.prog X.w) X.A (forIn ifs true fun c r=>if r=true then do let ok <- isTrue c X.env (eval c X.env);pure (Ya1 ok) else pure (Ya1 r)) (TP X pins σ Q) X.xe s
def ZbZ:TT:=fun _ H Q=>Q true H
theorem Zao {X:Cx}:PTs X [] ZbZ:=fun _ _ _ H _ I h=>wpAny_tests_nil ⟨H,I,h⟩
theorem Zbz {X:Cx}{c:Expr}{t:TT} (h:PT X c t):PTs X [c] t:=fun pins s σ H Q I q=>wpAny_tests_one (h pins s σ H Q I q)
def Cx.blk (X:Cx) (scope:Scope) (own:List Str) (js:List Nat) (s₂:Shared) (H₂:Hp) (C:Addr) (fp:List Addr) (pins:List (Addr × Obj)):Cx where
 prog:=X.prog
 w:=X.w
 K:=X.K
 mg:=X.mg
 base:=X.base
 A:=X.A
 N:=own++js.map fun j=>X.N.getD j Yde
 s₀:=s₂
 H₀:=H₂
 env:=compEnvC scope (clOf scope X.env) C X.env
 outer:=X.stack
 stack:=X.stack
 ex:=fp
 fn:=fun _=>false
 calm:=X.calm
 pn:=X.pn++pins
 xe:=fun _ _=>False
def blkσ (own:List Str) (js:List Nat) (σ:St):St:=own.map (fun _=>none)++js.map fun j=>(σ[j]?).join
section
variable {X:Cx}{pins:List (Addr × Obj)}{σ:St}{H H':Hp}{s s':Shared}{scope:Scope}{own:List Str}{js:List Nat}{C:Addr}{fp:List Addr}
structure CompOk (X:Cx) (scope:Scope) (own:List Str) (js:List Nat):Prop where
 kind:scope.kind=.function
 cell:∀ y∈scope.names,y.2≠.cell
 free:∀ y∈scope.names,y.2=.free->X.env.kindOf y.1=some .cell∨X.env.kindOf y.1=some .free
 names:∀ y∈scope.names,y.2=.local -> scope.names.lookup y.1=some .local
 out:∀ j∈js,∃ x,X.N[j]?=some x/\scope.names.lookup x=some .free
theorem CompOk.cl (c:CompOk X scope own js) (I:Inv X pins σ H s):∀ x∈scope.names,x.2=.free->∃ c,X.env.cells.lookup x.1=some c:=fun x hx hf=>I.ok.has x.1 (c.free x hx hf)
theorem CompOk.look (c:CompOk X scope own js) (I:Inv X pins σ H s) {x:Str}{a:Addr} (h:(clOf scope X.env).lookup x=some a):X.env.cells.lookup x=some a:=by
 rcases Ze8 _ _ h with ⟨h1,h2⟩ | h1
 ·obtain⟨c',e⟩:=c.cl I (x,.free) h1 rfl;have e':X.env.cells.lookup x=some c':=e;rw[e'] at h2 ⊢;subst h2;rfl
 ·simp at h1
theorem Zl9 (c:CompOk X scope own js) (I:Inv X pins σ H s) (hC:s.heap.objs.size<=C) (hf:∀ b∈fp,FpOk X pins H b) (ho:∀ b∈fp,∃ o,s.heap.get? b=some o):(X.blk scope own js s H C fp pins).Ok where
 mod:=I.ok.mod
 kind:=c.kind
 glob:=I.ok.glob
 blt:=I.ok.blt
 above:=hC
 inj:=fun x y a h1 h2=>I.ok.inj x y a (c.look I h1) (c.look I h2)
 has:=fun x hx=>Zix _ _ (ZgH c.cell hx)
 cab:=fun x a h=>by cases h
 hd:=I.ok.hd
 frames:=I.ok.frames
 stk:=.inl rfl
 exf:=fun b hb=>by
  obtain⟨o,e⟩:=ho b hb;exact⟨YaF (Yag (Yaj e) hC),fun x a h=>(hf b hb).2.2.2.2.1 x a (c.look I h)⟩
 bs:=I.bs
 bsz:=Ybk I.ok.bsz I.sz
 noex:=fun b o e hb=>by
  rcases (hf b hb).2.2.2.1 with z | z
  ·exact I.ok.noex b o e z
  ·exact absurd (Yag (Yaj e) (Ybk I.ok.bsz z)) (Ya8 _)
 exfs:=fun b hb hm=>by
  rcases Yal.mp (I.stkSub b hm) with z | z
  ·exact (hf b hb).2.1 z
  ·exact (hf b hb).2.2.1 z
 funs:=I.stack
 frf:=I.stkFree
theorem Zex (own:List Str) (js:List Nat) (σ:St) (X:Cx):(blkσ own js σ).length=(own++js.map fun j=>X.N.getD j Yde).length:=by
 unfold blkσ;simp
theorem Zdo {acc:Addr}{m:Str->Option Value}{tk:Nat}{h':Heap} (c:CompOk X scope own js) (I:Inv X pins σ H s) (hC:s.heap.objs.size<=C) (hf:∀ b∈fp,FpOk X pins H b) (ho:∀ b∈fp,∃ o,s.heap.get? b=some o)
  (hn:h'.Ns C m) (k:∀ b u,s.heap.get? b=some u->h'.get? b=some u) (hacc:s.heap.objs.size<=acc) (haC:acc≠C) (hl:h'.get? acc=some { cls:=.type "list",data:=.seq ([]:List Value).toArray 0 }) :
  Inv (X.blk scope own js s H C fp pins) [] (blkσ own js σ) (upd H acc (.lst [])) { s with heap:=h',toks:=tk }:=by
 have ok:=Zl9 c I hC hf ho;have fresh:∀ {a:Addr},s.heap.objs.size<=a->H a=none:=fun h=>I.hok.fresh h;have neA:∀ b o,s.heap.get? b=some o->b≠acc:=fun b o e=>YaF (Yag (Yaj e) hacc);refine⟨ok,rfl,I.bare,Un.laid k hacc (fresh hacc),⟨m,hn,fun i x v e1 e2 e3=>?_⟩,fun x a e=>?_,?_,fun x a e=>?_,fun p hp=>?_,I.hok.laid k hacc ⟨YaX _,[],0,.nil,hl⟩,Zex own js σ X⟩
 ·
  have hi:own.length<=i:=by
   refine Nat.le_of_not_lt fun hi=>?_;unfold blkσ at e2;rw[Yas (by simpa using hi),Yaf] at e2
   cases q:own[i]? with
   | none=>rw[q] at e2;cases e2
   | some z=>rw[q] at e2;cases e2
  have e1':(js.map fun j=>X.N.getD j Yde)[i - own.length]?=some x:=by
   have e1:(own++js.map fun j=>X.N.getD j Yde)[i]?=some x:=e1
   rwa [Yax hi] at e1
  have e2':(js.map fun j=>(σ[j]?).join)[i - own.length]?=some (some v):=by
   unfold blkσ at e2;rw[Yax (by simpa using hi)] at e2;simpa using e2
  rw[Yaf] at e1' e2'
  cases q:js[i - own.length]? with
  | none=>rw[q] at e1';cases e1'
  | some j=>
   rw[q] at e1' e2';obtain⟨x',hx',hfree⟩:=c.out j (Yah q);have ex:x'=x:=by
    have:X.N.getD j Yde=x:=Yau e1';rw[Yat,hx'] at this;exact this
   subst ex;have eσ:σ[j]?=some (some v):=by
    have e2'':(σ[j]?).join=some v:=Yau e2'
    cases r:σ[j]? with
    | none=>rw[r] at e2'';cases e2''
    | some z=>rw[r] at e2'';cases z with
     | none=>cases e2''
     | some y=>cases e2'';rfl
   have hmem:(x',Yb6)∈scope.names:=Ybv hfree;have hkX:=c.free _ hmem rfl;have vis:Vis X.env.scope x':=by
    rcases hkX with z | z
    ·exact .inr (.inl z)
    ·exact .inr (.inr z)
   obtain⟨m0,hn0,hl0⟩:=I.loc;obtain⟨u,r,l⟩:=hl0 j x' v hx' eσ vis;refine⟨u,r,.inr ⟨ZcE hfree,?_⟩⟩;obtain⟨a,ha⟩:=Zix (env:=X.env) scope.names [] hmem;refine⟨a,ha,?_⟩;have haX:=c.look I ha;rcases l with ⟨z,_⟩ | ⟨_,a',ha',⟨o,ho',hd⟩⟩
   ·have z:X.env.kindOf x'=some .local:=z;rcases hkX with y | y
    ·have y:X.env.kindOf x'=some .cell:=y;rw[z] at y;cases y
    ·have y:X.env.kindOf x'=some .free:=y;rw[z] at y;cases y
   ·rw[haX] at ha';cases ha';exact⟨o,k _ o ho',hd⟩
 ·obtain⟨v,o,ho',hd⟩:=I.cell x a (c.look I e);exact⟨v,o,k _ o ho',hd⟩
 ·show upd H acc (.lst []) C=none;rw[upd_ne (YbA haC)];exact fresh hC
 ·have e':=c.look I e;obtain⟨v,o,ho',hd⟩:=I.cell x a e';rw[upd_ne (neA a o ho')];exact I.freeC x a e'
 ·have hp:p∈X.pn++pins:=by simpa[Cx.blk] using hp
  obtain⟨e,n,ne,nf,d⟩:=I.pin p hp;refine⟨k _ _ e,by rw[upd_ne (neA _ _ e)];exact n,YaF (Yag (Yaj e) hC),fun z=>?_,d⟩;rcases Yal.mp (I.stkSub _ z) with q | q
  ·exact ne q
  ·exact nf q
theorem ZcC {τ:St}{pl:List (Addr × Obj)} (I:Inv X pins σ H s) (hf:∀ b∈fp,FpOk X pins H b) (J:Inv (X.blk scope own js s H C fp pins) pl τ H' s'):Inv X pins σ H' s' :=
 I.call' J.os J.base J.hok J.bare fun b hb=>⟨(hf b hb).2.2.2.1,(hf b hb).2.1,(hf b hb).2.2.2.2.1,(hf b hb).2.2.2.2.2⟩
theorem Inv.other {h':Heap} (I:Inv X pins σ H s) (hs:YcA C s.heap h') (hn:H C=none) (hL:C≠X.env.locals) (h1:X.s₀.heap.objs.size<=C) (h2:∀ x c,X.env.cells.lookup x=some c->c≠C) (h3:∀ p∈X.pn++pins,p.1≠C) :
  Inv X pins σ H { s with heap:=h' } :=
 I.turned (t':=s.toks) (fun b o hb e=>(hs.2 b hb).trans e) hn hL (.inr h1) h2 h3
end
def ZfS (own:List Str) (g:TG):Prop:=∀ (js:List Nat) (σ:St) (x:V) (H:Hp) (Q:St->Hp->Prop),g x (blkσ own js σ) H Q ->
 g x (blkσ own js σ) H fun τ H'=>(∀ (j:Nat) v,(blkσ own js σ)[j]?=some (some v)->τ[j]?=some (some v))/\Q τ H'
theorem ZbH {own:List Str}{js:List Nat}{σ:St}{i:Nat}{v:V} (hi:i<own.length):(blkσ own js σ)[i]?≠some (some v):=by
 unfold blkσ;rw[Yas (by simpa using hi),Yaf]
 cases own[i]? with
 | none=>intro h;cases h
 | some z=>intro h;cases h
theorem Zai {own:List Str}{i:Nat} (hi:i<own.length:=by decide):ZfS own (Zdd i):=fun js σ x H Q h=>⟨fun j v e=>by
 have hj:j≠i:=by rintro rfl;exact ZbH hi e
 rw[YaY (YbA hj)];exact e,h⟩
theorem Zba {K:Yad}{own:List Str}{i k:Nat} (hi:i<own.length:=by decide) (hk:k<own.length:=by decide):ZfS own (gTup K 2 (ZkQ (Zdd i) (ZkQ (Zdd k) gNil))):=fun js σ x H Q h=>by
 obtain⟨a,xs,rfl,hq,hl,v,r,rfl,w,r',rfl,e,h⟩:=h;refine⟨a,_,rfl,hq,hl,v,_,rfl,w,r',rfl,e,fun j z e=>?_,h⟩;have hj:j≠i:=by rintro rfl;exact ZbH hi e
 have hj':j≠k:=by rintro rfl;exact ZbH hk e
 rw[YaY (YbA hj'),YaY (YbA hj)];exact e
def ZaR (own:List Str) (js:List Nat) (g:TG) (tt:TT) (te:TE) (σ:St) (J:It) (H1:Hp) (Q:VK):Prop :=
 ∀ acc,H1 acc=none->∃ (W:Nat->Hp->Prop) (n:Nat),W 0 (upd H1 acc (.lst []))/\∀ i H2,W i H2 ->
  (J.stop i H2/\Q (.ref acc) H2)∨(i<n/\J.go i H2/\∀ x H3,J.yld i H2 x H3->g x (blkσ own js σ) H3 fun τ H4=>tt τ H4 fun c H5=>
   if c=true then te τ H5 fun y H6=>∃ ys,H6 acc=some (.lst ys)/\ys.length<sizeLine/\W (i+1) (upd H6 acc (.lst (ys++[y]))) else W (i+1) H5)
def Zkc (own:List Str) (js:List Nat) (wi:TI) (g:TG) (tt:TT) (te:TE):TE:=fun σ H Q=>wi σ H fun J H1=>ZaR own js g tt te σ J H1 Q
section
variable {X:Cx}{scope:Scope}{own:List Str}{js:List Nat}{elt iter target:Expr}{ifs:List Expr}{wi:TI}{g:TG}{tt:TT}{te:TE}{pos:Pos}
theorem ZiA {pins:List (Addr × Obj)}{σ:St}{H2:Hp}{s₂:Shared}{it:Addr}{fp:List Addr}{tn:Nat->Heap->Prop}{J:It}{Q:VK}{E:Value->Shared->Prop}{RR:Value->Addr->Result->Shared->Prop}
  (c:CompOk X scope own js) (hc:X.calm=true) (hgk:ZfS own g)
  (hg:∀ s H C fp pins,PG (X.blk scope own js s H C fp pins) target g) (ht:∀ s H C fp pins,PTs (X.blk scope own js s H C fp pins) ifs tt) (he:∀ s H C fp pins,PE (X.blk scope own js s H C fp pins) elt te)
  (I:Inv X pins σ H2 s₂) (T:Turn X.prog X.w X.K target J fp it tn) (st:tn 0 s₂.heap) (hf:∀ b∈fp,FpOk X pins H2 b) (h:ZaR own js g tt te σ J H2 Q)
  (hRR:∀ acc C H' s' m,s₂.heap.objs.size<=C->H' C=none->Inv X pins σ H' s'->s'.heap.Ns C m->Q (.ref acc) H'->RR (.ref acc) C (.ok .next) s') :
  wpAny (model X.prog X.w) X.A (newList []) (fun acc s₃=>wpAny (model X.prog X.w) X.A (newFunctionEnv scope X.env.globals (clOf scope X.env) [] X.env.qual none .none (some X.env)) (fun cenv s₄=>
   codeAny (model X.prog X.w) X.A (.compStart (.ListComp elt [⟨target,iter,ifs,0⟩] scope pos) 0 (.ref it) acc { cenv with scope:=relabel scope X.env }) (RR acc cenv.locals) s₄) E s₃) E s₂:=by
 refine wpAny_newObj_type (wpAny_newFunctionEnv c.cell (by intro y hy;simp at hy) (fun h₁ hns₁ hsb₁=>?_) c.kind);dsimp only at hns₁ hsb₁ ⊢;generalize hH2:s₂.heap.push { cls:=.type "list",dict:=none,data:=.seq ([]:List Value).toArray }=G2 at hns₁ hsb₁ ⊢;have hC:G2.objs.size=s₂.heap.objs.size+1:=by rw[<- hH2,Ybn]
 have hDC:s₂.heap.objs.size≠G2.objs.size:=by rw[hC];exact YaF (Yb1 _)
 have hCle:s₂.heap.objs.size<=G2.objs.size:=by rw[hC];exact Ycw _
 have old:∀ b o,s₂.heap.get? b=some o->h₁.get? b=some o:=fun b o e=>hsb₁.extBut b o (YaF (Yag (Yaj e) hCle)) (Yac _ (hH2 ▸ Yac _ e));have hacc:h₁.get? s₂.heap.objs.size=some { cls:=.type "list",data:=.seq ([]:List Value).toArray 0 }:=hsb₁.extBut _ _ hDC (Yac _ (hH2 ▸ YaB _ rfl));have ho2:∀ b∈fp,∃ o,s₂.heap.get? b=some o:=fun b hb=>let ⟨o,e,_⟩:=T.obj 0 _ st b hb;⟨o,e⟩
 have I0:∀ tk,Inv (X.blk scope own js s₂ H2 G2.objs.size fp pins) [] (blkσ own js σ) (upd H2 s₂.heap.objs.size (.lst [])) { s₂ with heap:=h₁,toks:=tk }:=fun tk=>
  Zdo c I hCle hf ho2 hns₁ old (Yap _) hDC hacc
 obtain⟨W,nn,w0,turn⟩:=h s₂.heap.objs.size (I.hok.fresh (Yap _));generalize hacc':s₂.heap.objs.size=acc at *;generalize hGC:G2.objs.size=C at *;have st1:tn 0 h₁:=T.keep 0 _ _ st fun b _ o e=>old b o e;have fOk:∀ {H':Hp},(∀ b∈fp,H' b=none)->∀ b∈fp,FpOk (X.blk scope own js s₂ H2 C fp pins) [] H' b:=fun hn b hb=>by
  obtain⟨f0,f1,f2,f3,f4,f5⟩:=hf b hb;obtain⟨o,e⟩:=ho2 b hb;refine⟨hn b hb,YaF (Yag (Yaj e) (by rw[<- hacc'] at hCle;exact hCle)),fun z=>?_,.inl hb,fun x a h=>f4 x a (c.look I h),fun p hp=>f5 p (by simpa[Cx.blk] using hp)⟩;rcases Yal.mp (I.stkSub b z) with q | q
  ·exact f1 q
  ·exact f2 q
 have loop:∀ s₃:Shared,s₃={ s₂ with heap:=h₁,toks:=s₂.toks+([]:List (Str × Value)).length } ->
   codeAny (model X.prog X.w) X.A (.compLoop (.ListComp elt [⟨target,iter,ifs,0⟩] scope pos) 0 (.ref it) (.ref acc) (compEnvC scope (clOf scope X.env) C X.env)) (RR (.ref acc) C) s₃:=by
  rintro s₃ rfl;refine Zb8 (fun n s'=>∃ i H',n=nn - i/\Inv (X.blk scope own js s₂ H2 C fp pins) [] (blkσ own js σ) H' s'/\tn i s'.heap/\(∀ b∈fp,H' b=none)/\W i H') ?_ nn ⟨0,_,rfl,I0 _,st1,fun b hb=>?_,w0⟩
  ·rintro n s3 ⟨i,H3,en,I3,st3,fr3,w3⟩;rcases turn i H3 w3 with ⟨stop,qn⟩ | ⟨hin,go,step⟩
   ·refine thn (T.done (X.blk scope own js s₂ H2 C fp pins) rfl rfl rfl hc i [] s3 _ H3 (fun _ _=>False) I3 (fOk fr3) st3 stop) fun r s4 ⟨hr,I4⟩=>?_;subst hr;obtain⟨m,hn,_⟩:=I4.loc;exact hRR acc C H3 s4 m hCle I4.free (ZcC I hf I4) hn qn
   ·refine thn (T.item (X.blk scope own js s₂ H2 C fp pins) rfl rfl rfl hc i [] s3 _ H3 (fun _ _=>False) I3 (fOk fr3) st3 go) fun r s4 ⟨u,hr,h4⟩=>?_;subst hr;refine thn h4 fun _ s5 ⟨x,H5,I5,r5,y5,st5,fr5⟩=>?_;have I5':=I5.pinned (fOk fr5) (T.obj _ _ st5);have again:∀ {σ7:St}{H7:Hp}{s7:Shared},Inv (X.blk scope own js s₂ H2 C fp pins) ([]++ZcF fp s5.heap) σ7 H7 s7->(∀ (j:Nat) v,(blkσ own js σ)[j]?=some (some v)->σ7[j]?=some (some v))->W (i+1) H7 ->
      ∃ m,m<n/\∃ i H',m=nn - i/\Inv (X.blk scope own js s₂ H2 C fp pins) [] (blkσ own js σ) H' s7/\tn i s7.heap/\(∀ b∈fp,H' b=none)/\W i H':=fun {σ7 H7 s7} I7 hw w7=>by
     refine⟨nn - (i+1),by (clear hCle hDC hC hGC hacc';omega),i+1,H7,rfl,(I7.unpinned).weak ((Zex own js σ X).trans I7.len.symm) hw,T.keep _ _ _ st5 fun b hb o e=>(I7.pin (b,o) (Yaq _ (Yaq _ (ZaJ hb e)))).1,fun b hb=>?_,w7⟩;obtain⟨o,e,d⟩:=T.obj _ _ st5 b hb;exact (I7.pin (b,o) (Yaq _ (Yaq _ (ZaJ hb e)))).2.1
    refine thn (hg s₂ H2 C fp pins _ s5 _ H5 x u _ I5' r5 (hgk _ _ _ _ _ (step x H5 y5))) fun _ s6 ⟨σ6,H6,I6,kp,q6⟩=>?_;refine thn (ht s₂ H2 C fp pins _ s6 σ6 H6 _ I6 q6) fun ok s7 ⟨H7,I7,q7⟩=>?_
    cases ok with
    | false=>
     exact again I7 kp q7
    | true=>
     refine thn (he s₂ H2 C fp pins _ s7 σ6 H7 _ I7 q7) fun y s8 ⟨v,H8,I8,r8,ys,hl,hz,w8⟩=>?_;refine thn (Zbh (X:=X.blk scope own js s₂ H2 C fp pins) _ s8 σ6 H8 (.ref acc) [v] (.ref acc) [y] (fun _ H9=>W (i+1) H9) I8 rfl (.cons r8 .nil) ⟨acc,ys,v,rfl,rfl,hl,hz,w8⟩) fun _ s9 ⟨_,H9,I9,_,w9⟩=>?_;exact again I9 kp w9
  ·rw[upd_ne ?_]
   ·exact (hf b hb).1
   ·obtain⟨o,e⟩:=ho2 b hb;rw[<- hacc'];exact YaF (Yaj e)
 exact codeAny_compStart_list (loop _ rfl) (T.self _ 0 _ _ _ st1 (loop _ rfl))
theorem Zaw (c:CompOk X scope own js) (hc:X.calm=true) (hi:PI X target iter wi) (hgk:ZfS own g)
  (hg:∀ s H C fp pins,PG (X.blk scope own js s H C fp pins) target g) (ht:∀ s H C fp pins,PTs (X.blk scope own js s H C fp pins) ifs tt) (he:∀ s H C fp pins,PE (X.blk scope own js s H C fp pins) elt te)
  (hs:∀ x,foldedSetIterable iter X.env x=pure x:=by intro _;rfl):PE X (.ListComp elt [⟨target,iter,ifs,0⟩] scope pos) (Zkc own js wi g tt te):=by
 intro pins s σ H Q I h;rw[eval_ListComp];refine wpAny_comprehension_free (use:=none) rfl hs (Zbk (c.cl I)) c.kind c.names (thn (hi pins s σ H _ I h) fun v s1 h1=>thn h1 fun itv s2 h2=>?_);obtain⟨it,fp,tn,J,H2,e,I2,T,st2,f2,hw⟩:=h2;subst e;refine ZiA (RR:=fun acc C=>compPost (model X.prog X.w) X.A X.xe none (EP X pins σ Q) acc C) c hc hgk hg ht he I2 T st2 f2 hw ?_;intro acc C H' s' m hCs hCn I' hn q;refine⟨m,hn,fun h' hs'=>⟨.ref acc,H',I'.other hs' hCn ?_ ?_ ?_ ?_,rfl,q⟩⟩
 ·exact Ybp (Yag I2.lt hCs)
 ·exact Ybk I2.sz hCs
 ·intro x a e z;obtain⟨v,q⟩:=I2.cell x a e;exact absurd (Yag q.lt (by rw[z];exact hCs)) (Ya8 _)
 ·intro p hp z;exact absurd (Yag (Yaj (I2.pin p hp).1) (by rw[z];exact hCs)) (Ya8 _)
theorem Za6 {i:Nat}{y:Str}{py spos:Pos} (hN:X.N.Nodup) (hy:X.N[i]?=some y) (hyl:X.env.scope.names.lookup y=some .local) (c:CompOk X scope own js) (hc:X.calm=true) (hi:PI X target iter wi) (hgk:ZfS own g)
  (hg:∀ s H C fp pins,PG (X.blk scope own js s H C fp pins) target g) (ht:∀ s H C fp pins,PTs (X.blk scope own js s H C fp pins) ifs tt) (he:∀ s H C fp pins,PE (X.blk scope own js s H C fp pins) elt te)
  (hsw:swapsWith (.ListComp elt [⟨target,iter,ifs,0⟩] scope pos) (some (.Name y py)) spos.line X.env=pure true:=by rfl)
  (hs:∀ x,foldedSetIterable iter X.env x=pure x:=by intro _;rfl):PS X (.Assign [.Name y py] (.ListComp elt [⟨target,iter,ifs,0⟩] scope pos) spos) (tAsg (Zkc own js wi g tt te) (Zdd i)):=by
 intro pins s σ H D I h;rw[exec_Assign_Name_used _ _ _ _ hsw];refine wpAny_bind (wpAny_standAt (wpAny_bind ?_));show wpAny _ X.A (do let _ <- comprehension (.ListComp elt [⟨target,iter,ifs,0⟩] scope pos) scope X.env _ (newList []) false (eval iter X.env) (some (assign (.Name y py) X.env))) _ _ s;refine wpAny_bind (wpAny_mono (wpAny_comprehension_free (use:=some (assign (.Name y py) X.env)) (Q:=fun _ s'=>SP X pins D .next s') rfl hs (Zbk (c.cl I)) c.kind c.names
  (thn (hi pins s σ H _ I h) fun v s1 h1=>thn h1 fun itv s2 h2=>?_)) (fun _ s' hq=>wpAny_pure (wpAny_pure hq)) fun _ _ e=>e)
 obtain⟨it,fp,tn,J,H2,e,I2,T,st2,f2,hw⟩:=h2;subst e;refine ZiA (Q:=fun x H1=>Zdd i x σ H1 D.nx) (RR:=fun acc C=>compPost (model X.prog X.w) X.A X.xe (some (assign (.Name y py) X.env)) (fun _ s'=>SP X pins D .next s') acc C) c hc hgk hg ht he I2 T st2 f2 hw ?_;intro acc C H' s' m hCs hCn I' hn q;have hL:C≠X.env.locals:=Ybp (Yag I2.lt hCs);have hcell:∀ x a,X.env.cells.lookup x=some a->a≠C:=by
  intro x a e z;obtain⟨v,q⟩:=I2.cell x a e;exact absurd (Yag q.lt (by rw[z];exact hCs)) (Ya8 _)
 refine wpAny_assign_Name (ZcY I' hN hy (.inl hyl) (v:=.ref acc) rfl (fun s2 I'' hch=>?_) (.inr hyl));obtain⟨a,sb,ha⟩:=hch;have hCa:C≠a:=by
  rcases ha with rfl | ha
  ·exact hL
  ·exact YbA (hcell _ _ ha)
 refine⟨m,hn.sameBut sb hCa,fun h' hs'=>⟨_,H',I''.other hs' hCn hL (Ybk I2.sz hCs) hcell ?_,q⟩⟩;intro p hp z;exact absurd (Yag (Yaj (I2.pin p hp).1) (by rw[z];exact hCs)) (Ya8 _)
end
section
variable {K:Yad}{own:List Str}{js:List Nat}{g:TG}{tt:TT}{te:TE}{σ:St}{H1:Hp}{Q:VK}
theorem Zbj {a:Addr}{xs:List V} (Pv:Addr->Nat->Hp->Prop) (h0:∀ acc,H1 acc=none->Pv acc 0 (upd H1 acc (.lst []))) (hl:∀ acc i H,H1 acc=none->i<=xs.length->Pv acc i H->SqL K H a xs)
  (hs:∀ acc i x H,H1 acc=none->xs[i]?=some x->Pv acc i H->g x (blkσ own js σ) H fun τ H4=>tt τ H4 fun c H5=>
   if c=true then te τ H5 fun y H6=>∃ ys,H6 acc=some (.lst ys)/\ys.length<sizeLine/\(i+1<=xs.length/\Pv acc (i+1) (upd H6 acc (.lst (ys++[y])))) else (i+1<=xs.length/\Pv acc (i+1) H5))
  (hd:∀ acc H,H1 acc=none->Pv acc xs.length H->Q (.ref acc) H):ZaR own js g tt te σ (Itl K a) H1 Q:=by
 intro acc hacc;refine⟨fun i H=>i<=xs.length/\Pv acc i H,xs.length,⟨YaX _,h0 acc hacc⟩,?_⟩;rintro i H ⟨hi,p⟩;have q:=hl acc i H hacc hi p;by_cases hlt:i<xs.length
 ·refine .inr ⟨hlt,⟨xs,xs[i],q,by simp[hlt]⟩,fun x H' y=>?_⟩;obtain⟨e,y⟩:=y;subst e;exact hs acc i x _ hacc (y xs q) p
 ·have e:i=xs.length:=by omega
  subst e;exact .inl ⟨⟨xs,q,Yap _⟩,hd acc H hacc p⟩
theorem ZaT {lo:Int}{n:Nat} (Pv:Addr->Nat->Hp->Prop) (h0:∀ acc,H1 acc=none->Pv acc 0 (upd H1 acc (.lst [])))
  (hs:∀ acc i H,H1 acc=none->i<n->Pv acc i H->g (.int (lo+i)) (blkσ own js σ) H fun τ H4=>tt τ H4 fun c H5=>
   if c=true then te τ H5 fun y H6=>∃ ys,H6 acc=some (.lst ys)/\ys.length<sizeLine/\(i+1<=n/\Pv acc (i+1) (upd H6 acc (.lst (ys++[y])))) else (i+1<=n/\Pv acc (i+1) H5))
  (hd:∀ acc H,H1 acc=none->Pv acc n H->Q (.ref acc) H):ZaR own js g tt te σ (Itr lo n) H1 Q:=by
 intro acc hacc;refine⟨fun i H=>i<=n/\Pv acc i H,n,⟨YaX _,h0 acc hacc⟩,?_⟩;rintro i H ⟨hi,p⟩;by_cases hlt:i<n
 ·refine .inr ⟨hlt,hlt,fun x H' y=>?_⟩;obtain⟨e,y⟩:=y;subst e y;exact hs acc i _ hacc hlt p
 ·have e:i=n:=by omega
  subst e;exact .inl ⟨Yap _,hd acc H hacc p⟩
end
def Ziu (scope sc:Scope) (js:List Nat) (N:List Str):Bool :=
 (scope.kind == .function) && (scope.names.all fun y=>(y.2 != .cell) && ((y.2 != .free) || (sc.names.lookup y.1 == some .cell) || (sc.names.lookup y.1 == some .free)) && ((y.2 != .local) || (scope.names.lookup y.1 == some .local))) &&
 (js.all fun j=>match N[j]? with | some x=>scope.names.lookup x == some .free | none=>false)
theorem CompOk.by {X:Cx}{scope sc:Scope}{own N:List Str}{js:List Nat} (hX:X.env.scope=sc) (hN:X.N=N) (h:Ziu scope sc js N=true):CompOk X scope own js:=by
 unfold Ziu at h;simp only[Ya6,beq_iff_eq,Ycm,Bool.or_eq_true,bne_iff_ne,ne_eq] at h;obtain⟨⟨h1,h2⟩,h3⟩:=h;refine⟨h1,fun y hy=>(h2 y hy).1.1,fun y hy hf=>?_,fun y hy hl=>?_,fun j hj=>?_⟩
 ·show X.env.scope.names.lookup y.1=_∨X.env.scope.names.lookup y.1=_;rw[hX];rcases (h2 y hy).1.2 with (z | z) | z
  ·exact absurd hf z
  ·exact .inl z
  ·exact .inr z
 ·rcases (h2 y hy).2 with z | z
  ·exact absurd hl z
  ·exact z
 ·have:=h3 j hj;rw[hN]
  cases e:N[j]? with
  | none=>rw[e] at this;cases this
  | some x=>rw[e] at this;exact⟨x,rfl,by simpa using this⟩
end L2
namespace L2
open PySem PySem.Spec PyProof.Rows PySem.SeqAt
section
variable {X:Cx}
theorem Vals.int_at {ns:List Int}{us:List Value} (r:Vals (ns.map V.int) us) {i:Nat} (h:i<ns.length):∃ t,us[i]?=some (.int ns[i] t):=by
 have q:(ns.map V.int)[i]?=some (V.int ns[i]):=by rw[Yaf,Yae h];rfl
 obtain⟨u,h1,t,rfl⟩:=r.get q;exact⟨t,h1⟩
theorem ZiZ:∀ {ns ms:List Int},ns.length=ms.length->((Yan ns.length).all fun i=>ns.getD i 0 == ms.getD i 0)=decide (ns=ms):=fun {ns ms} h=>by
 rw[YcJ,Ycm,decide_eq_true_iff];constructor
 ·intro q;refine YeJ h fun i h1 h2=>?_;have:=q i (Ybf.mpr h1);simpa[Yat,h1,h2] using this
 ·rintro rfl i hi;simp
theorem Zem {ns:List Int}{its:List Value} (r:Vals (ns.map V.int) its) {j:Nat} (h:j<its.toArray.size):∃ t,its.toArray[j]=.int (ns.getD j 0) t:=by
 have hj:j<ns.length:=by rw[Yaw,<- r.length,Yaa] at h;exact h
 obtain⟨t,q⟩:=r.int_at hj;obtain⟨_,q'⟩:=Yab.mp q;exact⟨t,by simpa[Yat,hj] using q'⟩
end
end L2
namespace L2
open PySem PySem.Spec PyProof.Rows PySem.SeqAt
section
variable {prog:Program}{w:World}{A:Around}{R:Result->Shared->Prop}{I:Addr}{fp wr:List Addr}{n:Nat}{P:Nat->Value->Prop}{St:Nat->Heap->Prop}
end
section
variable {X:Cx}
end
end L2
namespace L2
open PySem PySem.Spec PyProof.Rows PySem.SeqAt
def Ite (K:Yad) (a:Addr):It :=
 ⟨fun i H=>∃ xs x,SqL K H a xs/\xs[i]?=some x,fun i H y H'=>∃ p x,H p=none/\y=.ref p/\H'=upd H p (.tup [.int i,x])/\∀ xs,SqL K H a xs->xs[i]?=some x,fun i H=>∃ xs,SqL K H a xs/\xs.length<=i⟩
theorem Zg4 {P:Program}{w:World}{K:Yad}{es:List Expr}{x1}{pos:Pos} (a it e:Addr) (hne:e≠it):Turn P w K (.Tuple es x1 pos) (Ite K a) [e,it] e (fun i h=>(∃ old,IsEnum h e it (i:Nat) old)/\h.IsListIter it a i) where
 mem:=by simp
 obj:=fun i h st b hb=>by
  obtain⟨⟨old,s1⟩,s2⟩:=st;rcases Yal.mp hb with z | z
  ·subst z;exact⟨_,s1,fun v z=>nomatch z⟩
  ·have z:b=it:=by simpa using z
   subst z;obtain⟨o,e,c,d⟩:=s2;exact⟨o,e,fun v z=>by rw[d] at z;cases z⟩
 keep:=fun i h h' st k=>by
  obtain⟨⟨old,s1⟩,s2⟩:=st;exact⟨⟨old,k e (by simp) _ s1⟩,s2.at fun o q=>k it (by simp) o q⟩
 item:=by
  intro X hP hw hK hc i pins s σ H E I hf st hg;subst hP hw hK;obtain⟨xs,x,hq,hx⟩:=hg;obtain⟨its,rv,p,hz⟩:=I.list hq;obtain⟨u,hu,ru⟩:=rv.get hx;obtain⟨⟨old,s1⟩,s2⟩:=st;refine wpAny_pyNext_enum_item s1 s2 p.isList (x:=u) (by simpa using hu) hne fun h' ho hit ht hsz hk=>?_;refine⟨_,rfl,?_⟩;refine wpAny_letOwnedTupleGo_enum ho fun h'' he hs=>?_;have fresh:H s.heap.objs.size=none:=I.hok.fresh (Yap _);have k:∀ b o,b ∉ [e,it]->s.heap.get? b=some o->h''.get? b=some o:=fun b o hb q=>by
   have hb':b≠e/\b≠it:=by simpa using hb
   exact (hs.2 b hb'.1).trans (hk b o hb'.1 hb'.2 q)
  have nE:∀ b∈[e,it],H b=none:=fun b hb=>(hf b hb).1
  have nit:∀ b u,H b=some u->b ∉ [e,it]:=fun b u q z=>by rw[nE b z] at q;cases q
  have hpe:s.heap.objs.size≠e:=Ybp (Yaj s1);have htup:h''.get? s.heap.objs.size=some { cls:=.type "tuple",data:=.seq #[.int i s.toks,u] }:=(hs.2 _ hpe).trans ht;have newOk:ObjOk X.prog X.w (upd H s.heap.objs.size (.tup [.int i,x])) h'' s.heap.objs.size (.tup [.int i,x]):=by
   refine⟨?_,[.int i s.toks,u],.cons ⟨_,rfl⟩ (.cons ru .nil),⟨_,htup,rfl,rfl,0,rfl⟩⟩;show 2<=sizeLine
   decide
  have I1:Inv X pins σ (upd H s.heap.objs.size (.tup [.int i,x])) { s with heap:=h'',toks:=s.toks+1 }:=by
   refine I.step (g':=s.gens) (d':=s.drawn) (ch:=[e,it]) (fun b hb=>?_) (fun b o _ _ hc q _=>k b o hc q) (fun b o _ _ hc q _=>⟨o.slots,k b o hc q⟩) (fun b o _ q n=>?_) (fun b o hc q=>⟨o,k b o hc q⟩)
    (fun b xs q=>by rw[upd_ne (Zaf q fresh)];exact q) (fun b o xs q=>by rw[upd_ne (Zaf q fresh)];exact q) (fun b ps q=>⟨#[],by rw[upd_ne (Zaf q fresh),q];simp⟩) (fun m hm=>?_) (fun b ob q=>?_) I.bare
   ·obtain⟨f0,f1,f2,f3,f4,f5⟩:=hf b hb;exact⟨f3,f1,f4,f5⟩
   ·rw[upd_ne (YaF (Yaj q))];exact n
   ·obtain⟨o,es,ep,ho,r⟩:=hm;refine⟨o,es,ep,k _ o (fun z=>?_) ho,r⟩;exact (hf _ z).2.1 rfl
   ·by_cases hb:b=s.heap.objs.size
    ·subst hb;rw[Zab] at q;cases q;exact newOk
    ·rw[upd_ne hb] at q;refine (I.hok b ob q).stay (fun c v hc r=>k c v ?_ r) (fun c r=>by rw[upd_ne (Zaf r fresh)];exact r) fun c xs r=>by rw[upd_ne (Zaf r fresh)];exact r
     rcases hc with z | z
     ·rw[z];exact nit b ob q
     ·exact nit c _ z
  refine⟨.ref s.heap.objs.size,_,I1,rfl,⟨s.heap.objs.size,x,fresh,rfl,rfl,fun ys hy=>by rw[I.list_inj hy hq];exact hx⟩,⟨⟨u,?_⟩,?_⟩,fun b hb=>?_⟩
  ·have he:IsEnum h'' e it ((i:Int)+1) u:=he;show IsEnum h'' e it ((i+1:Nat):Int) u;rw[show ((i+1:Nat):Int)=(i:Int)+1 by (clear hpe hsz hz hne;omega)];exact he
  ·exact hit.extBut hs.extBut (YbA hne)
  ·have lt:b<s.heap.objs.size:=by
    rcases Yal.mp hb with z | z
    ·rw[z];exact Yaj s1
    ·have z:b=it:=by simpa using z
     rw[z];obtain⟨o,q,_⟩:=s2;exact Yaj q
   rw[upd_ne (YaF lt)];exact nE b hb
 done:=by
  intro X hP hw hK hc i pins s σ H E I hf st hg;subst hP hw hK;obtain⟨xs,hq,hx⟩:=hg;obtain⟨its,rv,p,hz⟩:=I.list hq;obtain⟨⟨old,s1⟩,s2⟩:=st;obtain⟨f0,f1,f2,f3,f4,f5⟩:=hf it (by simp);have hl:=rv.length;exact wpAny_pyNext_enum_end (I.ok.hd hc) s1 s2 p.isList (by simp;(clear f3 f2 f1 hz hne;omega)) fun h' eb=>⟨rfl,I.turned (t':=s.toks) (fun b o hb q=>eb b o hb q) f0 f1 f3 f4 f5⟩
 self:=fun _ _ _ _ _ st h=>by
  obtain⟨⟨old,s1⟩,_⟩:=st;exact wpAny_pyIter_enum s1 h
section
variable {X:Cx}
theorem Zbs:Zca X (.builtin "isinstance") (fun xs H Q=>∃ x T t b,xs=[x,.ty T]/\TyOf X.K H x t/\YcK X.K t (.type T)=some b/\Q (.bl b) H):=by
 intro pins s σ H xs us Q I r h;obtain⟨x,T,t,b,rfl,ty,e,q⟩:=h;obtain⟨u,u2,rfl,r1,r2⟩:=ZiJ r;cases r2;exact Zh2 I r1 ty e fun tk=>⟨.bl b,H,I.tok _,rfl,q⟩
end
end L2
namespace L2
open PySem PySem.Spec PyProof.Rows
section
variable {κ:Type} [DecidableEq κ]
end
section
variable {P:Program}{w:World}{H:Hp}{h:Heap}{a:Addr}
end
section
variable {X:Cx}{pins:List (Addr × Obj)}{σ:St}{H:Hp}{s:Shared}{a:Addr}{y v:V}{u r:Value}{o:Option V}{A:Around}{E:Value->Shared->Prop}
end
section
variable {X:Cx}{pins:List (Addr × Obj)}{σ:St}{H:Hp}{s:Shared}{a:Addr}{kvs:List (Key × V)}{k:Key}{u:Value}{A:Around}{E:Value->Shared->Prop}
end
section
variable {X:Cx}{o i e value:Expr}{pos pos' tpos:Pos}{td ty tv:TE}
end
section
variable {X:Cx}{pos:Pos}
end
structure M1 (X:Cx) (o:Expr) (m:Str) (apos:Pos) (e:Expr) (cpos:Pos):Prop where
 base:attributeBase o m X.env (eval o X.env)=eval o X.env
 few:((backTo cpos (starEach [e] X.env)).all (fun x=>!x.1) && (backToKw cpos (keywordEach [] X.env)).all (fun x=>x.1.isSome)
  && decide (([e]:List Expr).length+([]:List Keyword).length+(if ([]:List Keyword).isEmpty then 0 else 1)<30))=true
 line:(apos.endLine == cpos.line)=true
 trees:backTo cpos (starEach [e] X.env)=[(false,eval e X.env)]
structure M2 (X:Cx) (o:Expr) (m:Str) (apos:Pos) (e f:Expr) (cpos:Pos):Prop where
 base:attributeBase o m X.env (eval o X.env)=eval o X.env
 few:((backTo cpos (starEach [e,f] X.env)).all (fun x=>!x.1) && (backToKw cpos (keywordEach [] X.env)).all (fun x=>x.1.isSome)
  && decide (([e,f]:List Expr).length+([]:List Keyword).length+(if ([]:List Keyword).isEmpty then 0 else 1)<30))=true
 line:(apos.endLine == cpos.line)=true
 trees:backTo cpos (starEach [e,f] X.env)=[(false,eval e X.env),(false,eval f X.env)]
section
variable {X:Cx}{pins:List (Addr × Obj)}{σ:St}{H:Hp}{s:Shared}{a:Addr}{y d:V}{u r:Value}{o:Option V}{A:Around}{E:Value->Shared->Prop}
end
section
variable {X:Cx}{o e f:Expr}{apos cpos:Pos}{td ty tx:TE}
end
section
variable {X:Cx}{pins:List (Addr × Obj)}{σ:St}{H:Hp}{s:Shared}{a:Addr}{kvs:List (Key × V)}{A:Around}{E:Value->Shared->Prop}
end
section
variable {X:Cx}{pins:List (Addr × Obj)}{σ:St}{H:Hp}{s:Shared}{a:Addr}{y:V}{u:Value}{A:Around}{E:Value->Shared->Prop}
end
end L2
namespace L2
open PySem PySem.Spec PyProof.Rows
section
variable {κ:Type} [DecidableEq κ]
end
end L2
namespace L2
open PySem PySem.Spec PyProof.Rows PySem.SeqAt
section
variable {prog:Program}{w:World}{A:Around}{E:Value->Shared->Prop}{s:Shared}
theorem ZdL {it t:Addr}{i:Nat}{items:Array Value}{x:Value}{Q:Value->Shared->Prop} (hit:s.heap.IsTupleIter it t i) (ht:s.heap.IsTuple t items) (hx:items[i]?=some x)
  (hQ:∀ h',h'.IsTupleIter it t (i+1)->YcA it s.heap h'->Q x { s with heap:=h' }):wpAny (model prog w) A (Ya0 (.ref it)) Q E s:=by
 obtain⟨o,ho,hc,hd⟩:=id hit;obtain⟨ol,hol,_,nl,hdl⟩:=ht;unfold Ya0;refine wpAny_bind (wpAny_callSpecial?_slot (name:=YcR "__next__") hit.typeIs F.slot_tuple_iterator_next (wpAny_call_entry F.slot_tuple_iterator_next hit.typeIs F.entry_tuple_iterator_next ?_ (F.args_tuple_iterator_next_1 _)));show wpAny _ _ (field (.ref it) 0 >>= _) _ _ s;refine wpAny_bind (wpAny_field ho hd (x:=.ref t) rfl ?_);show wpAny _ _ (if (YbC t == YbS)=true then _ else _) _ _ s;rw[if_neg (show ¬ ((YbC t == YbS)=true) from YaC)];show wpAny _ _ (field (.ref it) 1 >>= _) _ _ s;refine wpAny_bind (wpAny_field ho hd (x:=.int i 0) rfl ?_);show wpAny _ _ (seqItems? (.ref t) >>= _) _ _ s;refine wpAny_bind (wpAny_seqItems hol hdl ?_);simp only[YaN,hx];refine wpAny_bind (wpAny_setField ho hd (by simp) (wpAny_pure ⟨x,rfl,wpAny_pure (hQ _ ?_ (YdC ..))⟩));exact⟨_,Ycz _ ho (Obj.isFreed_of_fields (Yey hd _)),(Obj.cls_mapFields ..).trans hc,by rw[Yey hd];simp[rawInt]⟩
theorem Zbf {it t:Addr}{i:Nat}{items:Array Value}{Q:Value->Shared->Prop} (hh:A.handled=none) (hit:s.heap.IsTupleIter it t i) (ht:s.heap.IsTuple t items) (hx:items[i]?=none)
  (hE:∀ h' e,Yc8 it s.heap h'->(∃ o,h'.get? e=some o/\o.cls=.type "StopIteration")->E (.ref e) { s with heap:=h' }):wpAny (model prog w) A (Ya0 (.ref it)) Q E s:=by
 obtain⟨o,ho,hc,hd⟩:=id hit;obtain⟨ol,hol,_,nl,hdl⟩:=ht;unfold Ya0;refine wpAny_bind (wpAny_callSpecial?_slot (name:=YcR "__next__") hit.typeIs F.slot_tuple_iterator_next (wpAny_call_entry F.slot_tuple_iterator_next hit.typeIs F.entry_tuple_iterator_next ?_ (F.args_tuple_iterator_next_1 _)));show wpAny _ _ (field (.ref it) 0 >>= _) _ _ s;refine wpAny_bind (wpAny_field ho hd (x:=.ref t) rfl ?_);show wpAny _ _ (if (YbC t == YbS)=true then _ else _) _ _ s;rw[if_neg (show ¬ ((YbC t == YbS)=true) from YaC)];show wpAny _ _ (field (.ref it) 1 >>= _) _ _ s;refine wpAny_bind (wpAny_field ho hd (x:=.int i 0) rfl ?_);show wpAny _ _ (seqItems? (.ref t) >>= _) _ _ s;refine wpAny_bind (wpAny_seqItems hol hdl ?_);simp only[YaN,hx];refine wpAny_bind (wpAny_rule (wpAny_bind (wpAny_setField ho hd (by simp) ?_)));show wpAny _ _ (newExc (.type "StopIteration") [] >>= _) _ _ _;refine wpAny_bind ?_;simp only[newExc,newTuple];refine wpAny_bind (wpAny_newObj_type ?_ (by size_fits));refine wpAny_bind (m:=firstArgMember _ _) (wpAny_of_eq (a:=YbS) (by first | rfl | (simp only[firstArgMember];rfl)) ?_);refine wpAny_newObj_type ?_ (by size_fits);simp only[raiseNew];refine wpAny_bind (wpAny_handled ?_)
 first | rw[show A.in1.handled=none from hh] | rw[hh]
 refine wpAny_bind (wpAny_pure (wpAny_throw ?_));exact hE _ _ (((YdC ..).extBut.push _).push _) ⟨_,YaB _ rfl,rfl⟩
theorem Zik (hh:A.handled=none) (it l:Addr) (hne:l≠it) (items:Array Value):Draws prog w A it [it,l] items.size (fun i v=>items[i]?=some v) (fun i h=>h.IsTupleIter it l i/\h.IsTuple l items) where
 live:=fun _ _ st=>let ⟨o,ho,_⟩:=st.1;⟨o,ho⟩
 frame:=fun _ _ _ st hk=>⟨st.1.at fun o e=>hk it (by simp) o e,let ⟨o,e,c⟩:=st.2;⟨o,hk l (by simp) o e,c⟩⟩
 item:=fun i s Q E hi st hQ=>by
  refine ZdL st.1 st.2 (x:=items[i]) (by simp[hi]) fun h' hit' hs'=>?_;exact hQ _ h' s.toks (by simp[hi]) ⟨hit',let ⟨o,e,c⟩:=st.2;⟨o,(hs'.2 l hne).trans e,c⟩⟩ hs'
 done:=fun s Q E st hE=>Zbf hh st.1 st.2 (by simp) hE
end
theorem Ze5 (l:Addr) (items:Array Value) (n:Nat) (dct:Option Addr) (sl:Array (Option Value)) :
  Meets (Builtin.«enumerate.__new__» ⟨[.type "enumerate",.ref l],[]⟩) (fun _ R s=>s.heap.get? l=some { cls:=.type "tuple",dict:=dct,data:=.seq items n,slots:=sl } /\
   R (.ok (.ret (.ref (s.heap.push { cls:=.type "tuple_iterator",data:=.fields #[.ref l,.int 0 0] }).objs.size)))
    { s with heap:=(s.heap.push { cls:=.type "tuple_iterator",data:=.fields #[.ref l,.int 0 0] }).push { cls:=.type "enumerate",data:=.fields #[.none,.bool false,.ref s.heap.objs.size,rawInt 0,.none,.none] } }) :=
 .of_wp fun prog w A R s h=>by
  obtain⟨hp,g,d,tk,os⟩:=s;obtain⟨hl,h⟩:=h;have hsub:=sub_enumerate;have hL:Yc6 (Yck ⟨hp,g,d,tk,os⟩) l items:=⟨_,hl,rfl,n,rfl⟩
  wp_walk using Yci hl
  refine wpAny_stack_any fun st=>wpAny_pure ?_;split
  ·rename_i c _ _ _ _ _;cases (c == Yeo "enumerate")
   ·wp_walk using Yci hl,wpAny_pyIter_tuple hL
    exact⟨_,rfl,h⟩
   ·wp_walk using Yci hl,wpAny_pyIter_tuple hL
    exact⟨_,rfl,h⟩
  ·wp_walk using Yci hl,wpAny_pyIter_tuple hL
   exact⟨_,rfl,h⟩
section
variable {prog:Program}{w:World}{A:Around}{E:Value->Shared->Prop}{s:Shared}
theorem Ze4 {e it l:Addr}{i:Nat}{items:Array Value}{old:Value}{Q:Option Value->Shared->Prop} (hh:A.handled=none) (he:IsEnum s.heap e it i old) (hit:s.heap.IsTupleIter it l i) (hl:s.heap.IsTuple l items) (hx:items[i]?=none)
  (hQ:∀ h',Yc8 it s.heap h'->Q none { s with heap:=h' }):wpAny (model prog w) A (pyNext (.ref e)) Q E s:=by
 have hT:s.TypeIs (.ref e) "enumerate":=⟨_,he,rfl⟩
 unfold pyNext;refine wpAny_bind (wpAny_attempt (wpAny_callSpecial?_slot (name:=YcR "__next__") hT F.slot_enumerate_next (wpAny_call_entry F.slot_enumerate_next hT F.entry_enumerate_next ?_ (F.args_enumerate_next_1 _))));show wpAny _ _ (field (.ref e) 2 >>= _) _ _ _;refine wpAny_bind (wpAny_field he rfl (x:=.ref it) rfl ?_);refine wpAny_bind (Zbf hh hit hl hx fun h' x he' hx'=>?_);obtain⟨o,ho,hc⟩:=hx';refine wpAny_bind (wpAny_isInstance (T:="StopIteration") (b:=true) ⟨o,ho,hc⟩ isSubtype_stop ?_);exact wpAny_pure (hQ _ he')
theorem Zew {l:Addr}{items:Array Value}{Q:Value->Shared->Prop} (hL:s.heap.IsTuple l items)
  (h:∀ h',IsEnum h' (s.heap.objs.size+1) s.heap.objs.size 0 .none->h'.IsTupleIter s.heap.objs.size l 0->(∀ b o,s.heap.get? b=some o->h'.get? b=some o)->Q (.ref (s.heap.objs.size+1)) { s with heap:=h' }) :
  wpAny (model prog w) A (call (.type "enumerate") [.ref l]) Q E s:=by
 obtain⟨⟨c,dct,dt,sl⟩,hl,hc,n,hd⟩:=hL
 replace hc:c=.type "tuple":=hc
 replace hd:dt=.seq items n:=hd
 subst hc hd;refine callType_new F.called_enumerate (by decide) (F.typeCall_enumerate_1 _) (F.newCall_enumerate_1 _) (fun obj=>F.args_object_init_2 obj _) F.entry_enumerate_new (Ze5 l items n dct sl) ⟨hl,?_⟩;have hz:(s.heap.push { cls:=.type "tuple_iterator",data:=.fields #[.ref l,.int 0 0] }).objs.size=s.heap.objs.size+1:=Ybn ..;show _/\_;rw[hz];have he:IsEnum ((s.heap.push { cls:=.type "tuple_iterator",data:=.fields #[.ref l,.int 0 0] }).push { cls:=.type "enumerate",data:=.fields #[.none,.bool false,.ref s.heap.objs.size,rawInt 0,.none,.none] }) (s.heap.objs.size+1) s.heap.objs.size 0 .none:=by
  have:=YaB (s.heap.push { cls:=.type "tuple_iterator",data:=.fields #[.ref l,.int 0 0] }) (o:={ cls:=.type "enumerate",data:=.fields #[.none,.bool false,.ref s.heap.objs.size,rawInt 0,.none,.none] }) rfl;rw[hz] at this;exact this
 exact⟨⟨_,he,rfl⟩,h _ he ⟨_,Yac _ (YaB _ rfl),rfl,rfl⟩ fun b o x=>Yac _ (Yac _ x)⟩
end
def IteT (K:Yad) (a:Addr):It :=
 ⟨fun i H=>∃ xs x,SqT K H a xs/\xs[i]?=some x,fun i H y H'=>∃ p x,H p=none/\y=.ref p/\H'=upd H p (.tup [.int i,x])/\∀ xs,SqT K H a xs->xs[i]?=some x,fun i H=>∃ xs,SqT K H a xs/\xs.length<=i⟩
theorem Zgx {P:Program}{w:World}{K:Yad}{es:List Expr}{x1}{pos:Pos} (a it e:Addr) (hne:e≠it):Turn P w K (.Tuple es x1 pos) (IteT K a) [e,it] e (fun i h=>(∃ old,IsEnum h e it (i:Nat) old)/\h.IsTupleIter it a i) where
 mem:=by simp
 obj:=fun i h st b hb=>by
  obtain⟨⟨old,s1⟩,s2⟩:=st;rcases Yal.mp hb with z | z
  ·subst z;exact⟨_,s1,fun v z=>nomatch z⟩
  ·have z:b=it:=by simpa using z
   subst z;obtain⟨o,e,c,d⟩:=s2;exact⟨o,e,fun v z=>by rw[d] at z;cases z⟩
 keep:=fun i h h' st k=>by
  obtain⟨⟨old,s1⟩,s2⟩:=st;exact⟨⟨old,k e (by simp) _ s1⟩,s2.at fun o q=>k it (by simp) o q⟩
 item:=by
  intro X hP hw hK hc i pins s σ H E I hf st hg;subst hP hw hK;obtain⟨xs,x,hq,hx⟩:=hg;obtain⟨its,rv,p,hz⟩:=I.tuple hq;obtain⟨u,hu,ru⟩:=rv.get hx;obtain⟨⟨old,s1⟩,s2⟩:=st;have hlt:(i:Nat)<its.toArray.size:=by
   have:=(Yab.mp hu).1
   simpa using this
  have nea:a≠it:=by
   rintro rfl;obtain⟨o1,q1,c1,_⟩:=p;obtain⟨o2,q2,c2,_⟩:=id s2;rw[q1] at q2;cases q2;rw[c1] at c2;injection c2 with z;exact absurd z (by decide)
  have nee:a≠e:=by
   rintro rfl;obtain⟨o1,q1,c1,_⟩:=p;have s1':s.heap.get? a=some _:=s1;rw[q1] at s1';cases s1';injection c1 with z;exact absurd z (by decide)
  have it2:s.heap.IsTuple a its.toArray:=p;refine wpAny_pyNext_enum_itemD (Zik (A:=X.A.in1) (I.ok.hd hc) it a nea its.toArray) s1 ⟨s2,it2⟩ hlt hne (by simp[hne,YbA nee]) fun u' h' tk' hu' ho hst ht hsz hk=>?_;have eu:u'=u:=by
   have:its.toArray[i]?=some u:=by simpa using hu
   rw[this] at hu';exact (Yau hu').symm
  subst eu;have hit:=hst.1;refine⟨_,rfl,?_⟩;refine wpAny_letOwnedTupleGo_enum ho fun h'' he hs=>?_;have fresh:H s.heap.objs.size=none:=I.hok.fresh (Yap _);have k:∀ b o,b ∉ [e,it]->s.heap.get? b=some o->h''.get? b=some o:=fun b o hb q=>by
   have hb':b≠e/\b≠it:=by simpa using hb
   exact (hs.2 b hb'.1).trans (hk b o hb'.1 hb'.2 q)
  have nE:∀ b∈[e,it],H b=none:=fun b hb=>(hf b hb).1
  have nit:∀ b u,H b=some u->b ∉ [e,it]:=fun b u q z=>by rw[nE b z] at q;cases q
  have hpe:s.heap.objs.size≠e:=Ybp (Yaj s1);have htup:h''.get? s.heap.objs.size=some { cls:=.type "tuple",data:=.seq #[.int i tk',u'] }:=(hs.2 _ hpe).trans ht;have newOk:ObjOk X.prog X.w (upd H s.heap.objs.size (.tup [.int i,x])) h'' s.heap.objs.size (.tup [.int i,x]):=by
   refine⟨?_,[.int i tk',u'],.cons ⟨_,rfl⟩ (.cons ru .nil),⟨_,htup,rfl,rfl,0,rfl⟩⟩;show 2<=sizeLine
   decide
  have I1:Inv X pins σ (upd H s.heap.objs.size (.tup [.int i,x])) { s with heap:=h'',toks:=tk'+1 }:=by
   refine I.step (g':=s.gens) (d':=s.drawn) (ch:=[e,it]) (fun b hb=>?_) (fun b o _ _ hc q _=>k b o hc q) (fun b o _ _ hc q _=>⟨o.slots,k b o hc q⟩) (fun b o _ q n=>?_) (fun b o hc q=>⟨o,k b o hc q⟩)
    (fun b xs q=>by rw[upd_ne (Zaf q fresh)];exact q) (fun b o xs q=>by rw[upd_ne (Zaf q fresh)];exact q) (fun b ps q=>⟨#[],by rw[upd_ne (Zaf q fresh),q];simp⟩) (fun m hm=>?_) (fun b ob q=>?_) I.bare
   ·obtain⟨f0,f1,f2,f3,f4,f5⟩:=hf b hb;exact⟨f3,f1,f4,f5⟩
   ·rw[upd_ne (YaF (Yaj q))];exact n
   ·obtain⟨o,es,ep,ho,r⟩:=hm;refine⟨o,es,ep,k _ o (fun z=>?_) ho,r⟩;exact (hf _ z).2.1 rfl
   ·by_cases hb:b=s.heap.objs.size
    ·subst hb;rw[Zab] at q;cases q;exact newOk
    ·rw[upd_ne hb] at q;refine (I.hok b ob q).stay (fun c v hc r=>k c v ?_ r) (fun c r=>by rw[upd_ne (Zaf r fresh)];exact r) fun c xs r=>by rw[upd_ne (Zaf r fresh)];exact r
     rcases hc with z | z
     ·rw[z];exact nit b ob q
     ·exact nit c _ z
  refine⟨.ref s.heap.objs.size,_,I1,rfl,⟨s.heap.objs.size,x,fresh,rfl,rfl,fun ys hy=>by rw[I.tuple_inj hy hq];exact hx⟩,⟨⟨u',?_⟩,?_⟩,fun b hb=>?_⟩
  ·have he:IsEnum h'' e it ((i:Int)+1) u':=he;show IsEnum h'' e it ((i+1:Nat):Int) u';rw[show ((i+1:Nat):Int)=(i:Int)+1 by (clear hpe hsz hst nee nea hlt hz hne;omega)];exact he
  ·exact hit.extBut hs.extBut (YbA hne)
  ·have lt:b<s.heap.objs.size:=by
    rcases Yal.mp hb with z | z
    ·rw[z];exact Yaj s1
    ·have z:b=it:=by simpa using z
     rw[z];obtain⟨o,q,_⟩:=s2;exact Yaj q
   rw[upd_ne (YaF lt)];exact nE b hb
 done:=by
  intro X hP hw hK hc i pins s σ H E I hf st hg;subst hP hw hK;obtain⟨xs,hq,hx⟩:=hg;obtain⟨its,rv,p,hz⟩:=I.tuple hq;obtain⟨⟨old,s1⟩,s2⟩:=st;obtain⟨f0,f1,f2,f3,f4,f5⟩:=hf it (by simp);have hl:=rv.length;exact Ze4 (I.ok.hd hc) s1 s2 (show s.heap.IsTuple a its.toArray from p) (by simp;(clear f3 f2 f1 hz hne;omega)) fun h' eb=>⟨rfl,I.turned (t':=s.toks) (fun b o hb q=>eb b o hb q) f0 f1 f3 f4 f5⟩
 self:=fun _ _ _ _ _ st h=>by
  obtain⟨⟨old,s1⟩,_⟩:=st;exact wpAny_pyIter_enum s1 h
def SqB (b:Bool) (K:Yad) (H:Hp) (a:Addr) (xs:List V):Prop:=match b with | true=>SqL K H a xs | false=>SqT K H a xs
def IteB (b:Bool) (K:Yad) (a:Addr):It:=match b with | true=>Ite K a | false=>IteT K a
def Zl0 (K:Yad) (ta:TA):TI:=fun σ H R=>ta σ H fun vs H1=>∃ a b,vs=[.ref a]/\(∃ xs,SqB b K H1 a xs)/\R (IteB b K a) H1
theorem Zi3 {X:Cx}{es:List Expr}{x1}{tpos:Pos}{e:Expr}{ta:TA}{p pos:Pos} (hg:Gl X "enumerate") (hm:X.mg "enumerate"=none) (ha:PA X [e] ta) (hs:starEach [e] X.env=[(false,eval e X.env)]:=by rfl) :
  PI X (.Tuple es x1 tpos) (.Call (.Name "enumerate" p) [e] [] pos) (Zl0 X.K ta):=by
 intro pins s σ H R I h;refine Call_ (Zc8 I hg hm (show bootBuiltins "enumerate"=some (.type "enumerate") by decide +kernel) (YbG (thn (ha pos pins s σ H _ I h) fun us s1 ⟨vs,H1,I1,r1,q1⟩=>?_) hs rfl));obtain⟨a,b,e1,⟨xs,hq⟩,q⟩:=q1;subst e1;obtain⟨u,rfl,r⟩:=ZdV r1;cases r;have fp:∀ b∈[s1.heap.objs.size+1,s1.heap.objs.size],FpOk X pins H1 b:=fun b hb=>by
  have ge:s1.heap.objs.size<=b:=by
   rcases Yal.mp hb with z | z
   ·rw[z];exact Ycw _
   ·have z:b=s1.heap.objs.size:=by simpa using z
    rw[z];exact Yap _
  exact I1.fpOk ge (I1.hok.fresh ge)
 cases b with
 | true=>
  obtain⟨its,rv,pl,hz⟩:=I1.list hq;refine call_enumerate_list pl.isList fun h' he hi hsz k=>wpAny_pyIter_enum he ?_;exact⟨s1.heap.objs.size+1,[s1.heap.objs.size+1,s1.heap.objs.size],_,_,H1,rfl,I1.kept (t':=s1.toks) k,Zg4 a s1.heap.objs.size _ (Ybp (Yb1 _)),⟨⟨.none,he⟩,hi⟩,fp,q⟩
 | false=>
  obtain⟨its,rv,pl,hz⟩:=I1.tuple hq;refine Zew (show s1.heap.IsTuple a its.toArray from pl) fun h' he hi k=>wpAny_pyIter_enum he ?_;exact⟨s1.heap.objs.size+1,[s1.heap.objs.size+1,s1.heap.objs.size],_,_,H1,rfl,I1.kept (t':=s1.toks) k,Zgx a s1.heap.objs.size _ (Ybp (Yb1 _)),⟨⟨.none,he⟩,hi⟩,fp,q⟩
end L2
namespace L2
open PySem PySem.Spec PyProof.Rows PySem.SeqAt
section
variable {X:Cx}
theorem Zb1 (ns:List Int):∀ k,k<=ns.length->preSum (fun i=>ns.getD i 0) k=(ns.take k).sum
 | 0,_=>by simp[preSum]
 | k+1,h=>by
  have hk:k<ns.length:=by omega
  rw[Yct hk,Ydy,<- Zb1 ns k (by (clear hk;omega))];simp[preSum,Yat,hk]
theorem Zdn (hc:X.calm=true):Zca X (.builtin "sum") (fun xs H Q=>∃ (a:Addr) (ns:List Int),xs=[.ref a]/\SqL X.K H a (ns.map V.int)/\Q (.int ns.sum) H):=by
 intro pins s σ H xs us Q I r h;obtain⟨a,ns,rfl,hq,q⟩:=h;obtain⟨u,rfl,r1⟩:=ZdV r;cases r1;obtain⟨its,rv,p,hz⟩:=I.list hq;refine call_sum_walkG (wpAny_pyIter_list p.isList ?_);have hlt:=(let ⟨o,n,e,_⟩:=p;Yaj e:a<s.heap.objs.size)
 have hne:a≠s.heap.objs.size:=YaF hlt;have hlen:its.toArray.size=ns.length:=by rw[Yaw,<- rv.length,Yaa]
 refine⟨s.heap.objs.size,_,_,_,_,_,fun i=>ns.getD i 0,rfl,Walks.list (A:=X.A.in1) (I.ok.hd hc) _ a hne its.toArray,⟨⟨_,YaB _ rfl,rfl,rfl⟩,?_⟩,?_,?_,?_⟩
 ·obtain⟨o,n,e,c,_,d⟩:=p;exact⟨o,Yac _ e,c,n,d⟩
 ·intro b hb;rcases Yal.mp hb with z | z
  ·rw[z,Ybn];exact Yb1 _
  ·have z:b=a:=by simpa using z
   rw[z,Ybn];exact Ydq hlt
 ·intro i v e;have hi:i<its.toArray.size:=(YbN.mp e).1
  obtain⟨t,q⟩:=Zem rv hi;rw[Ycj hi] at e;have e':=Yau e;rw[q] at e';exact⟨t,e'.symm⟩
 ·intro h' tk t' k;refine⟨.int ns.sum,H,I.kept (h':=h') (t':=tk) fun b o e=>k b o ?_ (Yac _ e),⟨t',?_⟩,q⟩
  ·intro hm;have:b=s.heap.objs.size:=by simpa using hm
   rw[this] at e;exact absurd (Yaj e) (Ya8 _)
  ·rw[hlen,Zb1 ns _ (Yap _),YaR]
end
end L2
namespace L2
open PySem PySem.Spec PyProof.Rows PySem.SeqAt
section
variable {X:Cx}
theorem ZeG {ns:List Int}:∀ {us:List Value},IntsAre us ns->Vals (ns.map V.int) us:=by
 intro us h
 induction h with
 | nil=>exact .nil
 | cons=>rename_i ih;exact .cons ⟨_,rfl⟩ ih
theorem ZjA:Zca X (.type "range") (fun xs H Q=>∃ j:Int,xs=[.int j]/\∀ p,H p=none->Q (.ref p) (upd H p (.rng 0 j))):=by
 intro pins s σ H xs us Q I r h;obtain⟨j,rfl,q⟩:=h;obtain⟨u,rfl,t,rfl⟩:=ZdV r;refine call_range_1 ⟨.ref s.heap.objs.size,_,I.laid (a:=s.heap.objs.size) (o:=.rng 0 j) (fun b o q=>Yac _ q) (Yap _) ?_,rfl,q _ (I.hok.fresh (Yap _))⟩;exact⟨_,_,_,YaB _ rfl⟩
theorem Zcc {f:Nat->Int}:∀ (n:Nat) (us:List Value),us.length=n->(∀ (j:Nat) v,us[j]?=some v->∃ t,v=.int (f j) t)->Vals (((Yan n).map f).map V.int) us
 | 0,us,hl,_=>by
  have:us=[]:=Ybl.mp hl;subst this;exact .nil
 | n+1,us,hl,h=>by
  have hne:us≠[]:=by rintro rfl;cases hl
  have e:=List.dropLast_concat_getLast hne;rw[YcG,YaP,YaP,<- e];have hd:us.dropLast.length=n:=by rw[List.length_dropLast,hl];rfl
  refine Vals.append (Zcc n us.dropLast hd fun j v hj=>h j v ?_) (.cons ?_ .nil)
  ·rw[<- e,Yas (Yab.mp hj).1];exact hj
  ·have hn:n<us.length:=by (clear hd;omega)
   have hg:us[n]?=some (us.getLast hne):=by
    rw[Yae hn,List.getLast_eq_getElem];simp[hl]
   obtain⟨t,q⟩:=h n (us.getLast hne) hg;exact⟨t,q⟩
theorem Zev (hc:X.calm=true):Zca X (.type "list") (fun xs H Q=>∃ (p:Addr) (j:Int),xs=[.ref p]/\H p=some (.rng 0 j)/\0<=j/\j<=1000/\∀ l,H l=none->Q (.ref l) (upd H l (.lst (((Yan j.toNat).map fun (i:Nat)=>(i:Int)).map V.int)))):=by
 intro pins s σ H xs us Q I r h;obtain⟨p,j,rfl,hp,j0,j1,q⟩:=h;obtain⟨u,rfl,r1⟩:=ZdV r;cases r1;obtain⟨t,u,v,ho⟩:=I.hok p _ hp;have sz:Ydi 0 j 1=(j.toNat:Nat):=by rw[rangeSize_one];split <;> (clear j1 j0;omega)
 refine call_list_range (I.ok.hd hc) (show IsRange s.heap p 0 j 1 t u v from ho) (small_one (by (clear sz j1 j0;omega)) (by (clear sz j1 j0;omega)) (by (clear sz j1;omega)) (by (clear sz j0;omega))) sz (by (clear sz j0;omega)) fun h' tk acc' c' k hS hacc=>?_;have hlen:acc'.toList.length=j.toNat:=by simpa using hacc.1
 refine⟨.ref s.heap.objs.size,_,I.laid (a:=s.heap.objs.size) (o:=.lst (((Yan j.toNat).map fun (i:Nat)=>(i:Int)).map V.int)) (t':=tk) k (Yap _) ?_,rfl,q _ (I.hok.fresh (Yap _))⟩;refine⟨?_,acc'.toList,c',Zcc j.toNat acc'.toList hlen (fun i v hv=>?_),by simpa using hS⟩
 ·rw[Yaa,Yaa,YbI];exact Ybc (Zat (by (clear hlen sz j0;omega)))
 ·obtain⟨t,q⟩:=hacc.2 i v (by simpa using hv);exact⟨t,by rw[q];congr 1;(clear hlen sz j1 j0;omega)⟩
end
end L2
namespace L2
open PySem PySem.Spec PyProof.Rows PySem.SeqAt
theorem Inv.pairOut {X:Cx}{pins:List (Addr × Obj)}{σ:St}{H:Hp}{s:Shared}{h':Heap}{fp:List Addr}{x y:V}{u v:Value}{tk:Nat} (I:Inv X pins σ H s) (hf:∀ b∈fp,FpOk X pins H b)
  (k:∀ b o,b ∉ fp->s.heap.get? b=some o->h'.get? b=some o) (ht:IsPair h' s.heap.objs.size u v) (hlf:∀ b∈fp,b<s.heap.objs.size) (hth:∀ b∈fp,∃ o,h'.get? b=some o) (rx:RelV x u) (ry:RelV y v) :
  Inv X pins σ (upd H s.heap.objs.size (.tup [x,y])) { s with heap:=h',toks:=tk }:=by
 have fresh:H s.heap.objs.size=none:=I.hok.fresh (Yap _);have nit:∀ b o,H b=some o->b ∉ fp:=fun b o q z=>by rw[(hf b z).1] at q;cases q
 have newOk:ObjOk X.prog X.w (upd H s.heap.objs.size (.tup [x,y])) h' s.heap.objs.size (.tup [x,y]):=by
  refine⟨?_,[u,v],.cons rx (.cons ry .nil),⟨_,ht,rfl,rfl,0,rfl⟩⟩;show 2<=sizeLine
  decide
 refine I.step (g':=s.gens) (d':=s.drawn) (ch:=fp) (fun b hb=>?_) (fun b o _ _ hc q _=>k b o hc q) (fun b o _ _ hc q _=>⟨o.slots,k b o hc q⟩) (fun b o _ q n=>?_) (fun b o hc q=>⟨o,k b o hc q⟩)
  (fun b xs q=>by rw[upd_ne (Zaf q fresh)];exact q) (fun b o xs q=>by rw[upd_ne (Zaf q fresh)];exact q) (fun b ps q=>⟨#[],by rw[upd_ne (Zaf q fresh),q];simp⟩) (fun m hm=>?_) (fun b ob q=>?_) I.bare
 ·obtain⟨f0,f1,f2,f3,f4,f5⟩:=hf b hb;exact⟨f3,f1,f4,f5⟩
 ·rw[upd_ne (YaF (Yaj q))];exact n
 ·obtain⟨o,es,ep,ho,r⟩:=hm;exact⟨o,es,ep,k _ o (fun z=>(hf _ z).2.1 rfl) ho,r⟩
 ·by_cases hb:b=s.heap.objs.size
  ·subst hb;rw[Zab] at q;cases q;exact newOk
  ·rw[upd_ne hb] at q;refine (I.hok b ob q).stay (fun c v hc r=>k c v ?_ r) (fun c r=>by rw[upd_ne (Zaf r fresh)];exact r) fun c xs r=>by rw[upd_ne (Zaf r fresh)];exact r
   rcases hc with z | z
   ·rw[z];exact nit b ob q
   ·exact nit c _ z
theorem Inv.turnedAll {X:Cx}{pins:List (Addr × Obj)}{σ:St}{H:Hp}{s:Shared}{h':Heap}{fp:List Addr}{tk:Nat} (I:Inv X pins σ H s) (hf:∀ b∈fp,FpOk X pins H b) (k:∀ b o,b ∉ fp->s.heap.get? b=some o->h'.get? b=some o) :
  Inv X pins σ H { s with heap:=h',toks:=tk }:=by
 have nit:∀ b o,H b=some o->b ∉ fp:=fun b o q z=>by rw[(hf b z).1] at q;cases q
 refine I.step (g':=s.gens) (d':=s.drawn) (ch:=fp) (fun b hb=>?_) (fun b o _ _ hc q _=>k b o hc q) (fun b o _ _ hc q _=>⟨o.slots,k b o hc q⟩) (fun b o _ q n=>n) (fun b o hc q=>⟨o,k b o hc q⟩) (fun _ _ q=>q) (fun _ _ _ q=>q) (fun b ps q=>⟨#[],by rw[q];simp⟩) (fun m hm=>?_) (fun b ob q=>?_) I.bare
 ·obtain⟨f0,f1,f2,f3,f4,f5⟩:=hf b hb;exact⟨f3,f1,f4,f5⟩
 ·obtain⟨o,es,ep,ho,r⟩:=hm;exact⟨o,es,ep,k _ o (fun z=>(hf _ z).2.1 rfl) ho,r⟩
 ·refine (I.hok b ob q).stay (fun c v hc r=>k c v ?_ r) (fun _ q=>q) fun _ _ q=>q;rcases hc with z | z
  ·rw[z];exact nit b ob q
  ·exact nit c _ z
end L2
namespace L2
open PySem PySem.Spec PyProof.Rows PySem.SeqAt
section
variable {X:Cx}
theorem ZhG:OpR X (binaryOp .Mult) (rI (fun i j=>∃ m n,Ybr i<=m/\Ybr j<=n/\m+n<=134217728) fun i j=>.int (i*j)) :=
 opI fun _ _ _ _ _ _ _ hc q=>mul_int q (by obtain⟨m,n,h1,h2,h3⟩:=hc;exact IntMulOk.of_le h1 h2 h3)
theorem Zja:OpR X (binaryOp .FloorDiv) (rI (fun _ j=>0<j/\Ybr j<=8000) fun i j=>.int (i / j)):=opI fun i j _ _ _ _ _ hc q=>by
 have h1:(0:Int)<j:=hc.1;have h2:j.natAbs<2 ^ 8000:=intBits_le_iff.mp hc.2;refine floordiv_int (by (clear h2 h1;omega)) (by rw[YdO i (by (clear h2 h1;omega))];exact q) (.inl (PyProof.noPylong_of_log2 ?_));have h3:j.natAbs.log2<8000:=(Nat.log2_lt (by (clear h2 h1;omega))).mpr h2
 (clear h2 h1 hc;omega)
theorem Zht {ns ms:List Int}:(((Yan (min ns.length ms.length)).all fun i=>ns.getD i 0 == ms.getD i 0) && (ns.length == ms.length))=decide (ns=ms):=by
 by_cases h:ns.length=ms.length
 ·rw[<- h,Nat.min_self,ZiZ h];simp
 ·rw[decide_eq_false (fun z=>h (by rw[z]))];simp[h]
def rNeT (K:Yad):R2:=fun x y H Q=>∃ (a b:Addr) (ns ms:List Int),x=.ref a/\y=.ref b/\SqT K H a (ns.map V.int)/\SqT K H b (ms.map V.int)/\Q (.bl (!decide (ns=ms))) H
theorem ZlG (hu:X.A.units<cLine):OpR X (compareOp .NotEq) (rNeT X.K):=by
 intro pins s σ H x y v u Q I rx ry h;obtain⟨a,b,ns,ms,rfl,rfl,ha,hb,q⟩:=h;cases rx;cases ry;obtain⟨its,r1,p1,_⟩:=I.tuple ha;obtain⟨its2,r2,p2,_⟩:=I.tuple hb;have l1:its.toArray.size=ns.length:=by rw[Yaw,<- r1.length,Yaa]
 have l2:its2.toArray.size=ms.length:=by rw[Yaw,<- r2.length,Yaa]
 refine RcNeAt.tuples (e:=fun i=>ns.getD i 0 == ms.getD i 0) (show s.heap.IsTuple a its.toArray from p1) (show s.heap.IsTuple b its2.toArray from p2) hu (fun j h1 h2=>?_) _ _ _ _ ?_
 ·obtain⟨t1,e1⟩:=Zem r1 h1;obtain⟨t2,e2⟩:=Zem r2 h2;rw[e1,e2];exact EqAt.int_int _ _ _ _
 ·rw[l1,l2,Zht];exact⟨.bl _,H,I,rfl,q⟩
theorem Zdm (hc:X.calm=true):Zca X (.builtin "sum") (fun xs H Q=>∃ (a:Addr) (ns:List Int),xs=[.ref a]/\SqT X.K H a (ns.map V.int)/\Q (.int ns.sum) H):=by
 intro pins s σ H xs us Q I r h;obtain⟨a,ns,rfl,hq,q⟩:=h;obtain⟨u,rfl,r1⟩:=ZdV r;cases r1;obtain⟨its,rv,p0,hz⟩:=I.tuple hq;have p:s.heap.IsTuple a its.toArray:=p0;refine call_sum_walkG (wpAny_pyIter_tuple p ?_);have hlt:a<s.heap.objs.size:=by obtain⟨o,e,_⟩:=p;exact Yaj e
 have hne:a≠s.heap.objs.size:=YaF hlt;have hlen:its.toArray.size=ns.length:=by rw[Yaw,<- rv.length,Yaa]
 refine⟨s.heap.objs.size,_,_,_,_,_,fun i=>ns.getD i 0,rfl,Walks.tuple (A:=X.A.in1) (I.ok.hd hc) _ a hne its.toArray,⟨⟨_,YaB _ rfl,rfl,rfl⟩,?_⟩,?_,?_,?_⟩
 ·obtain⟨o,e,c,d⟩:=p;exact⟨o,Yac _ e,c,d⟩
 ·intro b hb;rcases Yal.mp hb with z | z
  ·rw[z,Ybn];exact Yb1 _
  ·have z:b=a:=by simpa using z
   rw[z,Ybn];exact Ydq hlt
 ·intro i v e;have hi:i<its.toArray.size:=(YbN.mp e).1
  obtain⟨t,q⟩:=Zem rv hi;rw[Ycj hi] at e;have e':=Yau e;rw[q] at e';exact⟨t,e'.symm⟩
 ·intro h' tk t' k;refine⟨.int ns.sum,H,I.kept (h':=h') (t':=tk) fun b o e=>k b o ?_ (Yac _ e),⟨t',?_⟩,q⟩
  ·intro hm;have:b=s.heap.objs.size:=by simpa using hm
   rw[this] at e;exact absurd (Yaj e) (Ya8 _)
  ·rw[hlen,Zb1 ns _ (Yap _),YaR]
end
section
variable {prog:Program}{w:World}{A:Around}{E:Value->Shared->Prop}{s:Shared}
end
section
variable {X:Cx}
end
theorem Zjy {K:Yad}{own:List Str}{js:List Nat}{g:TG}{tt:TT}{te:TE}{σ:St}{H1:Hp}{Q:VK}{a:Addr}{xs:List V} (Pv:Addr->Nat->Hp->Prop) (h0:∀ acc,H1 acc=none->Pv acc 0 (upd H1 acc (.lst []))) (hl:∀ acc i H,H1 acc=none->i<=xs.length->Pv acc i H->SqT K H a xs)
  (hs:∀ acc i x H,H1 acc=none->xs[i]?=some x->Pv acc i H->g x (blkσ own js σ) H fun τ H4=>tt τ H4 fun c H5=>
   if c=true then te τ H5 fun y H6=>∃ ys,H6 acc=some (.lst ys)/\ys.length<sizeLine/\(i+1<=xs.length/\Pv acc (i+1) (upd H6 acc (.lst (ys++[y])))) else (i+1<=xs.length/\Pv acc (i+1) H5))
  (hd:∀ acc H,H1 acc=none->Pv acc xs.length H->Q (.ref acc) H):ZaR own js g tt te σ (Itt K a) H1 Q:=by
 intro acc hacc;refine⟨fun i H=>i<=xs.length/\Pv acc i H,xs.length,⟨YaX _,h0 acc hacc⟩,?_⟩;rintro i H ⟨hi,p⟩;have q:=hl acc i H hacc hi p;by_cases hlt:i<xs.length
 ·refine .inr ⟨hlt,⟨xs,xs[i],q,by simp[hlt]⟩,fun x H' y=>?_⟩;obtain⟨e,y⟩:=y;subst e;exact hs acc i x _ hacc (y xs q) p
 ·have e:i=xs.length:=by omega
  subst e;exact .inl ⟨⟨xs,q,Yap _⟩,hd acc H hacc p⟩
end L2
namespace L2
open PySem PySem.Spec PyProof.Rows PySem.SeqAt
def HIt (b:Bool) (h:Heap) (it l:Addr) (i:Nat):Prop:=match b with | true=>h.IsListIter it l i | false=>h.IsTupleIter it l i
def HSq (b:Bool) (h:Heap) (l:Addr) (xs:Array Value):Prop:=match b with | true=>h.IsList l xs | false=>h.IsTuple l xs
theorem HIt.at {b:Bool}{h h':Heap}{it l:Addr}{i:Nat} (x:HIt b h it l i) (e:∀ o,h.get? it=some o->h'.get? it=some o):HIt b h' it l i:=by
 cases b
 ·exact Heap.IsTupleIter.at x e
 ·exact Heap.IsListIter.at x e
theorem HIt.ext {b:Bool}{h h':Heap}{it l c:Addr}{i:Nat} (x:HIt b h it l i) (hs:Yc8 c h h') (n:it≠c):HIt b h' it l i:=x.at fun o e=>hs _ _ n e
theorem HIt.obj {b:Bool}{h:Heap}{it l:Addr}{i:Nat} (x:HIt b h it l i):∃ o,h.get? it=some o/\∀ v:Option Value,o.data≠.cell v:=by
 cases b
 ·obtain⟨o,e,_,d⟩:=x;exact⟨o,e,fun v q=>by rw[d] at q;cases q⟩
 ·obtain⟨o,e,_,d⟩:=x;exact⟨o,e,fun v q=>by rw[d] at q;cases q⟩
theorem HSq.ext {b:Bool}{h h':Heap}{l c:Addr}{xs:Array Value} (x:HSq b h l xs) (hs:Yc8 c h h') (n:l≠c):HSq b h' l xs:=by
 cases b
 ·exact Heap.IsTuple.extBut x hs n
 ·exact Heap.IsList.extBut x hs n
section
variable {prog:Program}{w:World}{A:Around}{E:Value->Shared->Prop}{s:Shared}
theorem ZkJ {b:Bool}{it l:Addr}{i:Nat}{items:Array Value}{x:Value}{Q:Value->Shared->Prop} (hit:HIt b s.heap it l i) (hl:HSq b s.heap l items) (hx:items[i]?=some x) (hQ:∀ h',HIt b h' it l (i+1)->YcA it s.heap h'->Q x { s with heap:=h' }) :
  wpAny (model prog w) A (Ya0 (.ref it)) Q E s:=by
 cases b
 ·exact ZdL hit hl hx hQ
 ·exact wpAny_nextOf_list_item hit hl hx hQ
theorem ZeT {b:Bool}{it l:Addr}{i:Nat}{items:Array Value}{Q:Value->Shared->Prop} (hh:A.handled=none) (hit:HIt b s.heap it l i) (hl:HSq b s.heap l items) (hx:items[i]?=none)
  (hE:∀ h' e,Yc8 it s.heap h'->(∃ o,h'.get? e=some o/\o.cls=.type "StopIteration")->E (.ref e) { s with heap:=h' }):wpAny (model prog w) A (Ya0 (.ref it)) Q E s:=by
 cases b
 ·exact Zbf hh hit hl hx hE
 ·exact wpAny_nextOf_list_end hh hit hl hx hE
theorem ZgZ {b1 b2:Bool}{z TI TO i1 i2 l1 l2:Addr}{k1 k2:Nat}{xs ys:Array Value}{x y a b:Value}{Q:Value->Shared->Prop} (D:ZipApart z TI TO i1 i2 l1 l2) (hz:IsZip s.heap z TI TO .none) (hTI:IsPair s.heap TI (.ref i1) (.ref i2)) (hTO:IsPair s.heap TO a b)
  (h1:HIt b1 s.heap i1 l1 k1) (h2:HIt b2 s.heap i2 l2 k2) (hl1:HSq b1 s.heap l1 xs) (hl2:HSq b2 s.heap l2 ys) (hx:xs[k1]?=some x) (hy:ys[k2]?=some y)
  (hQ:∀ h',IsZip h' z TI TO (rawInt s.heap.objs.size)->IsPair h' TO x y->HIt b1 h' i1 l1 (k1+1)->HIt b2 h' i2 l2 (k2+1)->IsPair h' s.heap.objs.size x y->h'.objs.size=s.heap.objs.size+1 ->
   (∀ c o,c≠z->c≠TO->c≠i1->c≠i2->s.heap.get? c=some o->h'.get? c=some o)->Q (.ref s.heap.objs.size) { s with heap:=h' }) :
  wpAny (model prog w) A (Builtin.«zip.__next__» ⟨[.ref z],[]⟩) (fun fin s'=>∃ v,fin=.done (.ret v)/\Q v s') E s:=by
 refine wpAny_bind (m:=field (.ref z) 2) (wpAny_field hz rfl (x:=.bool false) rfl ?_);refine wpAny_bind (m:=field (.ref z) 3) (wpAny_field hz rfl (x:=.ref TI) rfl (wpAny_bind (wpAny_seqItems hTI rfl ?_)));refine wpAny_bind (m:=YbB (.ref z)) ?_;unfold YbB;refine wpAny_bind (wpAny_field hz rfl (x:=.none) rfl (wpAny_pure ?_));simp only[if_true];refine wpAny_bind (wpAny_rule (wpAny_bind (wpAny_field hz rfl (x:=.ref TO) rfl ?_)));refine wpAny_bind (wpAny_setField_rec hz (by simp) fun h₁ hz₁ hs₁=>?_)
 replace hz₁:IsZip h₁ z TI TO .ellipsis:=hz₁
 refine wpAny_bind ?_;simp only[Yds,List.zipIdx_nil,YdB,List.forIn_nil];refine wpAny_bind (wpAny_bind (wpAny_onRaise (wpAny_bind (m:=Ya0 (.ref i1)) ?_)));refine ZkJ (h1.ext hs₁.extBut D.i1z) (hl1.ext hs₁.extBut D.l1z) hx fun h₂ h1₂ hs₂=>wpAny_pure ?_;have t2:IsPair h₂ TO a b:=hs₂.extBut _ _ D.TOi1 (hs₁.extBut _ _ D.TOz hTO);refine wpAny_bind (wpAny_seqItems t2 rfl (wpAny_bind (wpAny_updateSeq_pair t2 fun h₃ hTO₃ hs₃=>?_)))
 replace hTO₃:IsPair h₃ TO x b:=hTO₃
 refine wpAny_bind (wpAny_letGo (wpAny_pure (wpAny_bind (wpAny_bind (wpAny_onRaise (wpAny_bind (m:=Ya0 (.ref i2)) ?_))))));refine ZkJ (((h2.ext hs₁.extBut D.i2z).ext hs₂.extBut D.i12.symm).ext hs₃.extBut D.TOi2.symm) (((hl2.ext hs₁.extBut D.l2z).ext hs₂.extBut D.l2i1).ext hs₃.extBut D.l2TO) hy fun h₄ h2₄ hs₄=>wpAny_pure ?_;have t4:IsPair h₄ TO x b:=hs₄.extBut _ _ D.TOi2 hTO₃;refine wpAny_bind (wpAny_seqItems t4 rfl (wpAny_bind (wpAny_updateSeq_pair t4 fun h₅ hTO₅ hs₅=>?_)))
 replace hTO₅:IsPair h₅ TO x y:=hTO₅
 refine wpAny_bind (wpAny_letGo (wpAny_pure (wpAny_pure (wpAny_bind (wpAny_seqItems hTO₅ rfl (wpAny_bind (wpAny_newTuple ?_)))))));have hsz:h₅.objs.size=s.heap.objs.size:=by rw[hs₅.1,hs₄.1,hs₃.1,hs₂.1,hs₁.1]
 have hz₅:IsZip h₅ z TI TO .ellipsis:=hs₅.extBut _ _ D.TOz.symm (hs₄.extBut _ _ D.i2z.symm (hs₃.extBut _ _ D.TOz.symm (hs₂.extBut _ _ D.i1z.symm hz₁)));have k5:∀ c o,c≠z->c≠TO->c≠i1->c≠i2->s.heap.get? c=some o->h₅.get? c=some o:=fun c o c1 c2 c3 c4 e=>hs₅.extBut _ _ c2 (hs₄.extBut _ _ c4 (hs₃.extBut _ _ c2 (hs₂.extBut _ _ c3 (hs₁.extBut _ _ c1 e))));have j1:HIt b1 h₅ i1 l1 (k1+1):=((h1₂.ext hs₃.extBut D.TOi1.symm).ext hs₄.extBut D.i12).ext hs₅.extBut D.TOi1.symm;have j2:HIt b2 h₅ i2 l2 (k2+1):=h2₄.ext hs₅.extBut D.TOi2.symm;have zlt:z<h₅.objs.size:=Yaj hz₅;refine wpAny_bind (m:=YcM (.ref z) (.ref h₅.objs.size)) ?_;unfold YcM;have hz₆:IsZip (h₅.push { cls:=.type "tuple",data:=.seq #[x,y] }) z TI TO .ellipsis:=Yac _ hz₅;refine wpAny_bind (wpAny_setField_rec hz₆ (by simp) fun h₇ hz₇ hs₇=>?_)
 replace hz₇:IsZip h₇ z TI TO (rawInt h₅.objs.size):=hz₇
 refine wpAny_setField_rec hz₇ (by simp) fun h₈ hz₈ hs₈=>?_
 replace hz₈:IsZip h₈ z TI TO (rawInt h₅.objs.size):=hz₈
 have up:∀ c o,c≠z->h₅.get? c=some o->h₈.get? c=some o:=fun c o c1 e=>hs₈.extBut _ _ c1 (hs₇.extBut _ _ c1 (Yac _ e));have t8:IsPair h₈ h₅.objs.size x y:=hs₈.extBut _ _ (Ybp zlt) (hs₇.extBut _ _ (Ybp zlt) (YaB _ rfl));have z8:h₈.objs.size=h₅.objs.size+1:=by rw[hs₈.1,hs₇.1,Ybn]
 rw[hsz] at hz₈ t8 z8;refine wpAny_pure ⟨_,rfl,?_⟩;show Q (.ref h₅.objs.size) _;rw[hsz];exact hQ h₈ hz₈ (up _ _ D.TOz hTO₅) (j1.at fun o e=>up _ o D.i1z e) (j2.at fun o e=>up _ o D.i2z e) t8 z8 fun c o c1 c2 c3 c4 e=>up c o c1 (k5 c o c1 c2 c3 c4 e)
theorem ZiI {b1 b2:Bool}{z TI TO i1 i2 l1 l2:Addr}{k1 k2:Nat}{xs ys:Array Value}{a b:Value}{Q:Fin->Shared->Prop} (hh:A.handled=none) (D:ZipApart z TI TO i1 i2 l1 l2) (hz:IsZip s.heap z TI TO .none) (hTI:IsPair s.heap TI (.ref i1) (.ref i2)) (hTO:IsPair s.heap TO a b)
  (h1:HIt b1 s.heap i1 l1 k1) (h2:HIt b2 s.heap i2 l2 k2) (hl1:HSq b1 s.heap l1 xs) (hl2:HSq b2 s.heap l2 ys) (hend:xs[k1]?=none∨ys[k2]?=none)
  (hE:∀ h' e,(∀ c o,c≠z->c≠TO->c≠i1->c≠i2->s.heap.get? c=some o->h'.get? c=some o)->(∃ o,h'.get? e=some o/\o.cls=.type "StopIteration")->E (.ref e) { s with heap:=h' }):wpAny (model prog w) A (Builtin.«zip.__next__» ⟨[.ref z],[]⟩) Q E s:=by
 refine wpAny_bind (m:=field (.ref z) 2) (wpAny_field hz rfl (x:=.bool false) rfl ?_);refine wpAny_bind (m:=field (.ref z) 3) (wpAny_field hz rfl (x:=.ref TI) rfl (wpAny_bind (wpAny_seqItems hTI rfl ?_)));refine wpAny_bind (m:=YbB (.ref z)) ?_;unfold YbB;refine wpAny_bind (wpAny_field hz rfl (x:=.none) rfl (wpAny_pure ?_));simp only[if_true];refine wpAny_bind (wpAny_rule (wpAny_bind (wpAny_field hz rfl (x:=.ref TO) rfl ?_)));refine wpAny_bind (wpAny_setField_rec hz (by simp) fun h₁ hz₁ hs₁=>?_)
 replace hz₁:IsZip h₁ z TI TO .ellipsis:=hz₁
 refine wpAny_bind ?_;simp only[Yds,List.zipIdx_nil,YdB,List.forIn_nil];refine wpAny_bind (wpAny_bind (wpAny_onRaise (wpAny_bind (m:=Ya0 (.ref i1)) ?_)))
 cases hx:xs[k1]? with
 | none=>
  refine ZeT hh (h1.ext hs₁.extBut D.i1z) (hl1.ext hs₁.extBut D.l1z) hx fun h₂ e hs₂ ⟨oe,hoe,hce⟩=>?_;have hz₂:IsZip h₂ z TI TO .ellipsis:=hs₂ _ _ D.i1z.symm hz₁;have ez:e≠z:=fun x=>by subst x;rw[hz₂] at hoe;cases hoe;simp at hce
  exact wpAny_setField_rec hz₂ (by simp) fun h₃ _ hs₃=>hE h₃ e (fun c o c1 _ c3 _ x=>hs₃.extBut _ _ c1 (hs₂ _ _ c3 (hs₁.extBut _ _ c1 x))) ⟨oe,hs₃.extBut _ _ ez hoe,hce⟩
 | some x=>
  have hy:ys[k2]?=none:=hend.resolve_left (by rw[hx];simp);refine ZkJ (h1.ext hs₁.extBut D.i1z) (hl1.ext hs₁.extBut D.l1z) hx fun h₂ h1₂ hs₂=>wpAny_pure ?_;have t2:IsPair h₂ TO a b:=hs₂.extBut _ _ D.TOi1 (hs₁.extBut _ _ D.TOz hTO);refine wpAny_bind (wpAny_seqItems t2 rfl (wpAny_bind (wpAny_updateSeq_pair t2 fun h₃ hTO₃ hs₃=>?_)));refine wpAny_bind (wpAny_letGo (wpAny_pure (wpAny_bind (wpAny_bind (wpAny_onRaise (wpAny_bind (m:=Ya0 (.ref i2)) ?_))))));refine ZeT hh (((h2.ext hs₁.extBut D.i2z).ext hs₂.extBut D.i12.symm).ext hs₃.extBut D.TOi2.symm) (((hl2.ext hs₁.extBut D.l2z).ext hs₂.extBut D.l2i1).ext hs₃.extBut D.l2TO) hy fun h₄ e hs₄ ⟨oe,hoe,hce⟩=>?_;have hz₄:IsZip h₄ z TI TO .ellipsis:=hs₄ _ _ D.i2z.symm (hs₃.extBut _ _ D.TOz.symm (hs₂.extBut _ _ D.i1z.symm hz₁));have ez:e≠z:=fun x=>by subst x;rw[hz₄] at hoe;cases hoe;simp at hce
  exact wpAny_setField_rec hz₄ (by simp) fun h₅ _ hs₅=>hE h₅ e (fun c o c1 c2 c3 c4 x=>hs₅.extBut _ _ c1 (hs₄ _ _ c4 (hs₃.extBut _ _ c2 (hs₂.extBut _ _ c3 (hs₁.extBut _ _ c1 x))))) ⟨oe,hs₅.extBut _ _ ez hoe,hce⟩
theorem ZeN {b1 b2:Bool}{z TI TO i1 i2 l1 l2:Addr}{k1 k2:Nat}{xs ys:Array Value}{x y a b:Value}{Q:Option Value->Shared->Prop} (D:ZipApart z TI TO i1 i2 l1 l2) (hz:IsZip s.heap z TI TO .none) (hTI:IsPair s.heap TI (.ref i1) (.ref i2)) (hTO:IsPair s.heap TO a b)
  (h1:HIt b1 s.heap i1 l1 k1) (h2:HIt b2 s.heap i2 l2 k2) (hl1:HSq b1 s.heap l1 xs) (hl2:HSq b2 s.heap l2 ys) (hx:xs[k1]?=some x) (hy:ys[k2]?=some y)
  (hQ:∀ h',IsZip h' z TI TO (rawInt s.heap.objs.size)->IsPair h' TO x y->HIt b1 h' i1 l1 (k1+1)->HIt b2 h' i2 l2 (k2+1)->IsPair h' s.heap.objs.size x y->h'.objs.size=s.heap.objs.size+1 ->
   (∀ c o,c≠z->c≠TO->c≠i1->c≠i2->s.heap.get? c=some o->h'.get? c=some o)->Q (some (.ref s.heap.objs.size)) { s with heap:=h' }):wpAny (model prog w) A (pyNext (.ref z)) Q E s:=by
 have hT:s.TypeIs (.ref z) "zip":=⟨_,hz,rfl⟩
 unfold pyNext;exact wpAny_bind (wpAny_attempt (wpAny_callSpecial?_slot (name:=YcR "__next__") hT F.slot_zip_next (wpAny_call_entry F.slot_zip_next hT F.entry_zip_next (ZgZ D hz hTI hTO h1 h2 hl1 hl2 hx hy fun h' a1 a2 a3 a4 a5 a6 a7=>wpAny_pure (hQ h' a1 a2 a3 a4 a5 a6 a7)) (F.args_zip_next_1 _))))
theorem Zfz {b1 b2:Bool}{z TI TO i1 i2 l1 l2:Addr}{k1 k2:Nat}{xs ys:Array Value}{a b:Value}{Q:Option Value->Shared->Prop} (hh:A.handled=none) (D:ZipApart z TI TO i1 i2 l1 l2) (hz:IsZip s.heap z TI TO .none) (hTI:IsPair s.heap TI (.ref i1) (.ref i2)) (hTO:IsPair s.heap TO a b)
  (h1:HIt b1 s.heap i1 l1 k1) (h2:HIt b2 s.heap i2 l2 k2) (hl1:HSq b1 s.heap l1 xs) (hl2:HSq b2 s.heap l2 ys) (hend:xs[k1]?=none∨ys[k2]?=none)
  (hQ:∀ h',(∀ c o,c≠z->c≠TO->c≠i1->c≠i2->s.heap.get? c=some o->h'.get? c=some o)->Q none { s with heap:=h' }):wpAny (model prog w) A (pyNext (.ref z)) Q E s:=by
 have hT:s.TypeIs (.ref z) "zip":=⟨_,hz,rfl⟩
 unfold pyNext;refine wpAny_bind (wpAny_attempt (wpAny_callSpecial?_slot (name:=YcR "__next__") hT F.slot_zip_next (wpAny_call_entry F.slot_zip_next hT F.entry_zip_next (ZiI hh D hz hTI hTO h1 h2 hl1 hl2 hend fun h' e hk ⟨o,ho,hc⟩=>?_) (F.args_zip_next_1 _))));exact wpAny_bind (wpAny_isInstance (T:="StopIteration") (b:=true) ⟨o,ho,hc⟩ isSubtype_stop (wpAny_pure (hQ _ hk)))
def ZkM (b:Bool):String:=match b with | true=>"list_iterator" | false=>"tuple_iterator"
def zB1 (b1:Bool) (h:Heap) (l1:Addr):Heap:=h.push { cls:=.type (ZkM b1),data:=.fields #[.ref l1,.int 0 0] }
def zB2 (b1 b2:Bool) (h:Heap) (l1 l2:Addr):Heap:=(zB1 b1 h l1).push { cls:=.type (ZkM b2),data:=.fields #[.ref l2,.int 0 0] }
def zB3 (b1 b2:Bool) (h:Heap) (l1 l2:Addr):Heap:=(zB2 b1 b2 h l1 l2).push { cls:=.type "tuple",data:=.seq #[.ref h.objs.size,.ref (zB1 b1 h l1).objs.size] }
def zB4 (b1 b2:Bool) (h:Heap) (l1 l2:Addr):Heap:=(zB3 b1 b2 h l1 l2).push { cls:=.type "tuple",data:=.seq #[.none,.none] }
def zB5 (b1 b2:Bool) (h:Heap) (l1 l2:Addr):Heap:=(zB4 b1 b2 h l1 l2).push { cls:=.type "zip",data:=.fields #[.none,.bool false,.bool false,.ref (zB2 b1 b2 h l1 l2).objs.size,.ref (zB3 b1 b2 h l1 l2).objs.size] }
theorem ZiH (b1 b2:Bool) (l1 l2:Addr) (xs ys:Array Value) :
  Meets (Builtin.«zip.__new__» ⟨[.type "zip",.ref l1,.ref l2],[]⟩) (fun _ R s=>HSq b1 s.heap l1 xs/\HSq b2 s.heap l2 ys/\R (.ok (.ret (.ref (zB4 b1 b2 s.heap l1 l2).objs.size))) { s with heap:=zB5 b1 b2 s.heap l1 l2 }) :=
 .of_wp fun prog w A R s h=>by
  obtain⟨hp,g,d,tk,os⟩:=s;obtain⟨hl1,hl2,h⟩:=h;have hsub:=sub_zip;cases b1 <;> cases b2
  ·have p1:Yc6 (Yck ⟨hp,g,d,tk,os⟩) l1 xs:=hl1;have p2:Yc6 (Yck ⟨hp.push { cls:=.type "tuple_iterator",data:=.fields #[.ref l1,.int 0 0] },g,d,tk,os⟩) l2 ys:=YdP hl2 _
   wp_walk using wpAny_pyIter_tuple p1,wpAny_pyIter_tuple p2
   exact⟨_,rfl,h⟩
  ·have p1:Yc6 (Yck ⟨hp,g,d,tk,os⟩) l1 xs:=hl1;have p2:YdD (Yck ⟨hp.push { cls:=.type "tuple_iterator",data:=.fields #[.ref l1,.int 0 0] },g,d,tk,os⟩) l2 ys:=YdX hl2 _
   wp_walk using wpAny_pyIter_tuple p1,wpAny_pyIter_list p2
   exact⟨_,rfl,h⟩
  ·have p1:YdD (Yck ⟨hp,g,d,tk,os⟩) l1 xs:=hl1;have p2:Yc6 (Yck ⟨hp.push { cls:=.type "list_iterator",data:=.fields #[.ref l1,.int 0 0] },g,d,tk,os⟩) l2 ys:=YdP hl2 _
   wp_walk using wpAny_pyIter_list p1,wpAny_pyIter_tuple p2
   exact⟨_,rfl,h⟩
  ·have p1:YdD (Yck ⟨hp,g,d,tk,os⟩) l1 xs:=hl1;have p2:YdD (Yck ⟨hp.push { cls:=.type "list_iterator",data:=.fields #[.ref l1,.int 0 0] },g,d,tk,os⟩) l2 ys:=YdX hl2 _
   wp_walk using wpAny_pyIter_list p1,wpAny_pyIter_list p2
   exact⟨_,rfl,h⟩
theorem HIt.made {b:Bool}{h:Heap}{it l:Addr} (e:h.get? it=some { cls:=.type (ZkM b),data:=.fields #[.ref l,.int 0 0] }):HIt b h it l 0:=by
 cases b
 ·exact⟨_,e,rfl,rfl⟩
 ·exact⟨_,e,rfl,rfl⟩
theorem Ziy {b1 b2:Bool}{l1 l2:Addr}{xs ys:Array Value}{Q:Value->Shared->Prop} (hl1:HSq b1 s.heap l1 xs) (hl2:HSq b2 s.heap l2 ys)
  (h:∀ h',IsZip h' (s.heap.objs.size+4) (s.heap.objs.size+2) (s.heap.objs.size+3) .none->IsPair h' (s.heap.objs.size+2) (.ref s.heap.objs.size) (.ref (s.heap.objs.size+1))->IsPair h' (s.heap.objs.size+3) .none .none ->
   HIt b1 h' s.heap.objs.size l1 0->HIt b2 h' (s.heap.objs.size+1) l2 0->(∀ c o,s.heap.get? c=some o->h'.get? c=some o)->Q (.ref (s.heap.objs.size+4)) { s with heap:=h' }):wpAny (model prog w) A (call (.type "zip") [.ref l1,.ref l2]) Q E s:=by
 refine callType_new F.called_zip (by decide) (F.typeCall_zip_2 _ _) (F.newCall_zip_2 _ _) (fun obj=>F.args_object_init_3 obj _ _) F.entry_zip_new (ZiH b1 b2 l1 l2 xs ys) ⟨hl1,hl2,?_⟩;have z1:(zB1 b1 s.heap l1).objs.size=s.heap.objs.size+1:=Ybn ..;have z2:(zB2 b1 b2 s.heap l1 l2).objs.size=s.heap.objs.size+2:=by unfold zB2;rw[Ybn,z1]
 have z3:(zB3 b1 b2 s.heap l1 l2).objs.size=s.heap.objs.size+3:=by unfold zB3;rw[Ybn,z2]
 have z4:(zB4 b1 b2 s.heap l1 l2).objs.size=s.heap.objs.size+4:=by unfold zB4;rw[Ybn,z3]
 have g5:(zB5 b1 b2 s.heap l1 l2).get? (zB4 b1 b2 s.heap l1 l2).objs.size=some _:=YaB _ rfl;have g4:(zB5 b1 b2 s.heap l1 l2).get? (zB3 b1 b2 s.heap l1 l2).objs.size=some _:=Yac _ (YaB _ rfl);have g3:(zB5 b1 b2 s.heap l1 l2).get? (zB2 b1 b2 s.heap l1 l2).objs.size=some _:=Yac _ (Yac _ (YaB _ rfl));have g2:(zB5 b1 b2 s.heap l1 l2).get? (zB1 b1 s.heap l1).objs.size=some _:=Yac _ (Yac _ (Yac _ (YaB _ rfl)));have g1:(zB5 b1 b2 s.heap l1 l2).get? s.heap.objs.size=some _:=Yac _ (Yac _ (Yac _ (Yac _ (YaB _ rfl))));show _/\_;rw[z2,z3,z4] at g5;rw[z1,z2] at g3;rw[z3] at g4;rw[z1] at g2;rw[z4];exact⟨⟨_,g5,rfl⟩,h _ g5 g3 g4 (HIt.made g1) (HIt.made g2) fun c o x=>Yac _ (Yac _ (Yac _ (Yac _ (Yac _ x))))⟩
end
theorem SqB.heap {X:Cx}{b:Bool}{pins:List (Addr × Obj)}{σ:St}{H:Hp}{s:Shared}{a:Addr}{xs:List V} (I:Inv X pins σ H s) (h:SqB b X.K H a xs):∃ its:List Value,Vals xs its/\HSq b s.heap a its.toArray:=by
 cases b
 ·obtain⟨its,r,p,_⟩:=I.tuple h;exact⟨its,r,p⟩
 ·obtain⟨its,r,p,_⟩:=I.list h;exact⟨its,r,p.isList⟩
theorem HSq.lt {b:Bool}{h:Heap}{l:Addr}{xs:Array Value} (x:HSq b h l xs):l<h.objs.size:=by
 cases b
 ·obtain⟨o,e,_⟩:=x;exact Yaj e
 ·obtain⟨o,e,_⟩:=x;exact Yaj e
theorem SqB.inj {X:Cx}{b:Bool}{pins:List (Addr × Obj)}{σ:St}{H:Hp}{s:Shared}{a:Addr}{xs ys:List V} (I:Inv X pins σ H s) (h:SqB b X.K H a xs) (g:SqB b X.K H a ys):xs=ys:=by
 cases b
 ·exact I.tuple_inj h g
 ·exact I.list_inj h g
def ItzB (b1 b2:Bool) (K:Yad) (a b:Addr):It :=
  ⟨fun i H=>∃ xs ys x y,SqB b1 K H a xs/\SqB b2 K H b ys/\xs[i]?=some x/\ys[i]?=some y,
   fun i H z H'=>∃ p x y,H p=none/\z=.ref p/\H'=upd H p (.tup [x,y])/\(∀ xs,SqB b1 K H a xs->xs[i]?=some x)/\∀ ys,SqB b2 K H b ys->ys[i]?=some y,
   fun i H=>∃ xs ys,SqB b1 K H a xs/\SqB b2 K H b ys/\(xs.length<=i∨ys.length<=i)⟩
end L2
namespace L2
open PySem PySem.Spec PyProof.Rows PySem.SeqAt
def ZjG (b1 b2:Bool) (z TI TO i1 i2 l1 l2:Addr) (i:Nat) (h:Heap):Prop:=IsZip h z TI TO .none/\IsPair h TI (.ref i1) (.ref i2)/\(∃ a b,IsPair h TO a b)/\HIt b1 h i1 l1 i/\HIt b2 h i2 l2 i
theorem Zg1 {P:Program}{w:World}{K:Yad}{es:List Expr}{x1}{pos:Pos}{b1 b2:Bool}{z TI TO i1 i2 l1 l2:Addr} (D:ZipApart z TI TO i1 i2 l1 l2):Turn P w K (.Tuple es x1 pos) (ItzB b1 b2 K l1 l2) [z,TI,TO,i1,i2] z (ZjG b1 b2 z TI TO i1 i2 l1 l2) where
 mem:=by simp
 obj:=fun i h st b hb=>by
  obtain⟨h1,h2,⟨a,c,h3⟩,h4,h5⟩:=st;simp only[Yal,YbY,or_false] at hb;rcases hb with rfl | rfl | rfl | rfl | rfl
  ·exact⟨_,h1,fun v q=>nomatch q⟩
  ·exact⟨_,h2,fun v q=>nomatch q⟩
  ·exact⟨_,h3,fun v q=>nomatch q⟩
  ·exact h4.obj
  ·exact h5.obj
 keep:=fun i h h' st k=>by
  obtain⟨h1,h2,⟨a,c,h3⟩,h4,h5⟩:=st;exact⟨k z (by simp) _ h1,k TI (by simp) _ h2,⟨a,c,k TO (by simp) _ h3⟩,h4.at fun o q=>k i1 (by simp) o q,h5.at fun o q=>k i2 (by simp) o q⟩
 item:=by
  intro X hP hw hK hc i pins s σ H E I hf st hg;subst hP hw hK;obtain⟨xs,ys,x,y,hq1,hq2,hx,hy⟩:=hg;obtain⟨its,rv,p⟩:=hq1.heap I;obtain⟨its2,rv2,p2⟩:=hq2.heap I;obtain⟨u,hu,ru⟩:=rv.get hx;obtain⟨u2,hu2,ru2⟩:=rv2.get hy;obtain⟨s1,s2,⟨a,c,s3⟩,s4,s5⟩:=id st;refine ZeN D s1 s2 s3 s4 s5 p p2 (x:=u) (y:=u2) (by simpa using hu) (by simpa using hu2) fun h' g1 g2 g3 g4 g5 g6 hk=>?_;refine⟨_,rfl,?_⟩;refine wpAny_letOwnedTupleGo_zip g1 fun h'' he hs=>?_;have live:∀ b∈[z,TI,TO,i1,i2],b<s.heap.objs.size:=fun b hb=>by
   obtain⟨h1,h2,⟨a,c,h3⟩,h4,h5⟩:=st;obtain⟨o4,e4,_⟩:=h4.obj;obtain⟨o5,e5,_⟩:=h5.obj;simp only[Yal,YbY,or_false] at hb;rcases hb with rfl | rfl | rfl | rfl | rfl
   ·exact Yaj h1
   ·exact Yaj h2
   ·exact Yaj h3
   ·exact Yaj e4
   ·exact Yaj e5
  have hsz:s.heap.objs.size≠z:=Ybp (live z (by simp));have k:∀ b o,b ∉ [z,TI,TO,i1,i2]->s.heap.get? b=some o->h''.get? b=some o:=fun b o hb q=>by
   simp only[Yal,YbY,or_false,not_or] at hb;exact (hs.2 b hb.1).trans (hk b o hb.1 hb.2.2.1 hb.2.2.2.1 hb.2.2.2.2 q)
  have st':ZjG b1 b2 z TI TO i1 i2 l1 l2 (i+1) h'':=by
   refine⟨he,(hs.2 TI D.TIz).trans (hk TI _ D.TIz D.TITO D.TIi1 D.TIi2 s2),⟨u,u2,(hs.2 TO D.TOz).trans g2⟩,?_,?_⟩
   ·exact g3.ext hs.extBut D.i1z
   ·exact g4.ext hs.extBut D.i2z
  have th:∀ b∈[z,TI,TO,i1,i2],∃ o,h''.get? b=some o:=fun b hb=>by
   obtain⟨h1,h2,⟨a,c,h3⟩,h4,h5⟩:=st';obtain⟨o4,e4,_⟩:=h4.obj;obtain⟨o5,e5,_⟩:=h5.obj;simp only[Yal,YbY,or_false] at hb;rcases hb with rfl | rfl | rfl | rfl | rfl
   ·exact⟨_,h1⟩
   ·exact⟨_,h2⟩
   ·exact⟨_,h3⟩
   ·exact⟨_,e4⟩
   ·exact⟨_,e5⟩
  have fresh:H s.heap.objs.size=none:=I.hok.fresh (Yap _);refine⟨.ref s.heap.objs.size,_,I.pairOut (fp:=[z,TI,TO,i1,i2]) (tk:=s.toks) hf k ((hs.2 _ hsz).trans g5) live th ru ru2,rfl,⟨s.heap.objs.size,x,y,fresh,rfl,rfl,fun ys hy=>by rw[hy.inj I hq1];exact hx,fun zs hz=>by rw[hz.inj I hq2];exact hy⟩,st',fun b hb=>?_⟩;rw[upd_ne (YaF (live b hb))];exact (hf b hb).1
 done:=by
  intro X hP hw hK hc i pins s σ H E I hf st hg;subst hP hw hK;obtain⟨xs,ys,hq1,hq2,hx⟩:=hg;obtain⟨its,rv,p⟩:=hq1.heap I;obtain⟨its2,rv2,p2⟩:=hq2.heap I;obtain⟨s1,s2,⟨a,c,s3⟩,s4,s5⟩:=st;have e1:=rv.length;have e2:=rv2.length;refine Zfz (I.ok.hd hc) D s1 s2 s3 s4 s5 p p2 (by rcases hx with q | q;exact .inl (by simp;(clear e2;omega));exact .inr (by simp;(clear e1;omega))) fun h' hk=>⟨rfl,I.turnedAll (fp:=[z,TI,TO,i1,i2]) (tk:=s.toks) hf fun b o hb q=>?_⟩
  simp only[Yal,YbY,or_false,not_or] at hb;exact hk b o hb.1 hb.2.2.1 hb.2.2.2.1 hb.2.2.2.2 q
 self:=fun _ _ _ _ _ st h=>wpAny_pyIter_zip st.1 h
def ZmE (K:Yad) (ta:TA):TI:=fun σ H R=>ta σ H fun vs H1=>∃ b1 b2 a b,vs=[.ref a,.ref b]/\(∃ xs,SqB b1 K H1 a xs)/\(∃ ys,SqB b2 K H1 b ys)/\R (ItzB b1 b2 K a b) H1
theorem ZhA {X:Cx}{es:List Expr}{x1}{tpos:Pos}{e f:Expr}{ta:TA}{p pos:Pos} (hg:Gl X "zip") (hm:X.mg "zip"=none) (ha:PA X [e,f] ta) (hs:starEach [e,f] X.env=[(false,eval e X.env),(false,eval f X.env)]:=by rfl) (hs2:starEach [f] X.env=[(false,eval f X.env)]:=by rfl) :
  PI X (.Tuple es x1 tpos) (.Call (.Name "zip" p) [e,f] [] pos) (ZmE X.K ta):=by
 intro pins s σ H R I h;refine Call_ (Zc8 I hg hm (show bootBuiltins "zip"=some (.type "zip") by decide +kernel) (YbG (thn (ha pos pins s σ H _ I h) fun us s1 ⟨vs,H1,I1,r1,q1⟩=>?_) (by rw[hs,hs2]) (by rw[hs2];rfl)));obtain⟨b1,b2,a,b,e1,⟨xs,hq⟩,⟨ys,hq2⟩,q⟩:=q1;subst e1;obtain⟨u,u2,rfl,r,r2⟩:=ZiJ r1;cases r;cases r2;obtain⟨its,rv,pl⟩:=hq.heap I1;obtain⟨its2,rv2,pl2⟩:=hq2.heap I1;have la:=pl.lt;have lb:=pl2.lt;have ne:∀ {i j:Nat},i≠j->s1.heap.objs.size+i≠s1.heap.objs.size+j:=fun h z=>h (Nat.add_left_cancel z);have nl:∀ {c:Addr} (i:Nat),c<s1.heap.objs.size->c≠s1.heap.objs.size+i:=fun i h=>YaF (Yag h (Nat.le_add_right _ _));refine Ziy pl pl2 fun h' g1 g2 g3 g4 g5 k=>wpAny_pyIter_zip g1 ?_;have D:ZipApart (s1.heap.objs.size+4) (s1.heap.objs.size+2) (s1.heap.objs.size+3) (s1.heap.objs.size+0) (s1.heap.objs.size+1) a b :=
  ⟨ne (by decide),ne (by decide),ne (by decide),ne (by decide),ne (by decide),ne (by decide),ne (by decide),ne (by decide),ne (by decide),ne (by decide),nl 4 la,nl 3 la,nl 0 la,nl 1 la,nl 4 lb,nl 3 lb,nl 0 lb,nl 1 lb⟩
 refine⟨s1.heap.objs.size+4,[s1.heap.objs.size+4,s1.heap.objs.size+2,s1.heap.objs.size+3,s1.heap.objs.size+0,s1.heap.objs.size+1],_,_,H1,rfl,I1.kept (t':=s1.toks) k,Zg1 D,⟨g1,g2,⟨_,_,g3⟩,g4,g5⟩,fun c hc=>?_,q⟩;have ge:s1.heap.objs.size<=c:=by
  simp only[Yal,YbY,or_false] at hc;rcases hc with rfl | rfl | rfl | rfl | rfl <;> exact Nat.le_add_right _ _
 exact I1.fpOk ge (I1.hok.fresh ge)
end L2
namespace L2
open PySem PySem.Spec PyProof.Rows PySem.SeqAt
theorem Zbl (K:Yad) {X:Cx} (hK:X.K=K:=by rfl):Zca X (.builtin "len") (fun xs H Q=>∃ p ys,xs=[.ref p]/\(SqL K H p ys∨SqT K H p ys)/\Q (.int ys.length) H):=by subst hK;exact ZaQ
theorem CompOk.bare {X:Cx}{scope:Scope}{own:List Str} (h:((scope.kind == .function) && scope.names.all fun y=>(y.2 != .cell) && (y.2 != .free) && ((y.2 != .local) || (scope.names.lookup y.1 == some .local)))=true):CompOk X scope own []:=by
 simp only[Ya6,beq_iff_eq,Ycm,Bool.or_eq_true,bne_iff_ne,ne_eq] at h;obtain⟨h1,h2⟩:=h;refine⟨h1,fun y hy=>(h2 y hy).1.1,fun y hy hf=>absurd hf (h2 y hy).1.2,fun y hy hl=>?_,fun j hj=>by cases hj⟩;rcases (h2 y hy).2 with z | z
 ·exact absurd hl z
 ·exact z
section
variable {X:Cx}
def LLs (H:Hp) (rs:List Addr) (N:List (List Int)):Prop:=rs.length=N.length/\∀ (j:Nat) r xs,rs[j]?=some r->N[j]?=some xs->H r=some (.lst (xs.map V.int))
def TTs (H:Hp) (rs:List Addr) (N:List (List Int)):Prop:=rs.length=N.length/\∀ (j:Nat) r xs,rs[j]?=some r->N[j]?=some xs->H r=some (.tup (xs.map V.int))
theorem LLs.same {H H':Hp}{rs:List Addr}{N:List (List Int)} (h:LLs H rs N) (s:Same H H'):LLs H' rs N:=⟨h.1,fun j r xs a b=>s _ _ (h.2 j r xs a b)⟩
theorem LLs.lst {H:Hp}{rs:List Addr}{N:List (List Int)}{acc:Addr}{ys:List V} (h:LLs H rs N) (e:acc ∉ rs):LLs (upd H acc (.lst ys)) rs N:=⟨h.1,fun j r xs a b=>by
 rw[upd_ne (by intro z;subst z;exact e (Yah a))];exact h.2 j r xs a b⟩
theorem ZbM {α:Type}{xs:List α}{x y:α}{j:Nat} (h:(xs++[x])[j]?=some y):xs[j]?=some y∨(j=xs.length/\y=x):=by
 by_cases hj:j<xs.length
 ·rw[Yas hj] at h;exact .inl h
 ·rw[Yax (by omega)] at h;have:j - xs.length=0:=by
   cases e:j - xs.length with
   | zero=>rfl
   | succ m=>rw[e] at h;simp at h
  rw[this] at h;exact .inr ⟨by omega,by simpa using h.symm⟩
theorem LLs.snoc {H:Hp}{rs:List Addr}{N:List (List Int)}{r:Addr}{x:List Int} (h:LLs H rs N) (e:H r=some (.lst (x.map V.int))):LLs H (rs++[r]) (N++[x]):=⟨by simp[h.1],fun j r' xs a b=>by
 rcases ZbM a with a | ⟨a,rfl⟩
 ·rcases ZbM b with b | ⟨b,_⟩
  ·exact h.2 j r' xs a b
  ·have:=(Yab.mp a).1;have:=h.1;omega
 ·rcases ZbM b with b | ⟨_,rfl⟩
  ·have:=(Yab.mp b).1;have:=h.1;omega
  ·exact e⟩
theorem ZiF (n:Nat):((Yan n).all fun _=>true)=true:=by simp
end
end L2
namespace L2
open PySem PySem.Spec PyProof.Rows
mutual
inductive RdN (H:Hp):V->PyData->Prop
 | non:RdN H .non .none
 | bl (b:Bool):RdN H (.bl b) (.bool b)
 | int (i:Int):RdN H (.int i) (.int i)
 | str (x:Str):RdN H (.str x) (.str x)
 | lst {a:Addr}{xs:List V}{ds:List PyData}:H a=some (.lst xs)->RdL H xs ds->RdN H (.ref a) (.list ds)
 | tup {a:Addr}{xs:List V}{ds:List PyData}:H a=some (.tup xs)->RdL H xs ds->RdN H (.ref a) (.tuple ds)
inductive RdL (H:Hp):List V->List PyData->Prop
 | nil:RdL H [] []
 | cons {x:V}{xs:List V}{d:PyData}{ds:List PyData}:RdN H x d->RdL H xs ds->RdL H (x::xs) (d::ds)
end
section
variable {P:Program}{w:World}{H:Hp}{h:Heap}
end
section
variable {X:Cx}
end
end L2
namespace L2
open PySem PySem.Spec PyProof.Rows PySem.SeqAt
inductive TyS (H:Hp):V->Value->Prop
 | int (i:Int):TyS H (.int i) (.type "int")
 | bl (b:Bool):TyS H (.bl b) (.type "bool")
 | lst {a:Addr}{xs:List V} (e:H a=some (.lst xs)):TyS H (.ref a) (.type "list")
 | tup {a:Addr}{xs:List V} (e:H a=some (.tup xs)):TyS H (.ref a) (.type "tuple")
section
variable {X:Cx}
end
end L2
namespace L2
open PySem PySem.Spec PyProof.Rows PySem.SeqAt
section
variable {X:Cx}
end
theorem Ziq {b1 b2:Bool}{K:Yad}{own:List Str}{js:List Nat}{g:TG}{tt:TT}{te:TE}{σ:St}{H1:Hp}{Q:VK}{a b:Addr}{xs ys:List V} (hlen:ys.length<=xs.length) (Pv:Addr->Nat->Hp->Prop) (h0:∀ acc,H1 acc=none->Pv acc 0 (upd H1 acc (.lst [])))
  (hl:∀ acc i H,H1 acc=none->i<=ys.length->Pv acc i H->SqB b1 K H a xs/\SqB b2 K H b ys)
  (hs:∀ acc i x y p H,H1 acc=none->xs[i]?=some x->ys[i]?=some y->Pv acc i H->H p=none->g (.ref p) (blkσ own js σ) (upd H p (.tup [x,y])) fun τ H4=>tt τ H4 fun c H5=>
   if c=true then te τ H5 fun y H6=>∃ zs,H6 acc=some (.lst zs)/\zs.length<sizeLine/\(i+1<=ys.length/\Pv acc (i+1) (upd H6 acc (.lst (zs++[y])))) else (i+1<=ys.length/\Pv acc (i+1) H5))
  (hd:∀ acc H,H1 acc=none->Pv acc ys.length H->Q (.ref acc) H):ZaR own js g tt te σ (ItzB b1 b2 K a b) H1 Q:=by
 intro acc hacc;refine⟨fun i H=>i<=ys.length/\Pv acc i H,ys.length,⟨YaX _,h0 acc hacc⟩,?_⟩;rintro i H ⟨hi,p⟩;obtain⟨q1,q2⟩:=hl acc i H hacc hi p;by_cases hlt:i<ys.length
 ·have hl2:i<xs.length:=by (clear hi;omega)
  refine .inr ⟨hlt,⟨xs,ys,xs[i],ys[i],q1,q2,by simp[hl2],by simp[hlt]⟩,fun x H' y=>?_⟩;obtain⟨pa,z1,z2,hp,e1,e2,y1,y2⟩:=y;subst e1 e2;exact hs acc i z1 z2 pa H hacc (y1 xs q1) (y2 ys q2) p hp
 ·have e:i=ys.length:=by (clear hlen;omega)
  subst e;exact .inl ⟨⟨xs,ys,q1,q2,.inr (Yap _)⟩,hd acc H hacc p⟩
end L2
namespace L2
open PySem PySem.Spec PyProof.Rows PySem.SeqAt
section
variable {prog:Program}{w:World}{A:Around}{E:Value->Shared->Prop}{s:Shared}
end
section
variable {X:Cx}
end
theorem ZgT {b:Bool}{K:Yad}{own:List Str}{js:List Nat}{g:TG}{tt:TT}{te:TE}{σ:St}{H1:Hp}{Q:VK}{a:Addr}{xs:List V} (Pv:Addr->Nat->Hp->Prop) (h0:∀ acc,H1 acc=none->Pv acc 0 (upd H1 acc (.lst []))) (hl:∀ acc i H,H1 acc=none->i<=xs.length->Pv acc i H->SqB b K H a xs)
  (hs:∀ acc i x p H,H1 acc=none->xs[i]?=some x->Pv acc i H->H p=none->g (.ref p) (blkσ own js σ) (upd H p (.tup [.int i,x])) fun τ H4=>tt τ H4 fun c H5=>
   if c=true then te τ H5 fun y H6=>∃ ys,H6 acc=some (.lst ys)/\ys.length<sizeLine/\(i+1<=xs.length/\Pv acc (i+1) (upd H6 acc (.lst (ys++[y])))) else (i+1<=xs.length/\Pv acc (i+1) H5))
  (hd:∀ acc H,H1 acc=none->Pv acc xs.length H->Q (.ref acc) H):ZaR own js g tt te σ (IteB b K a) H1 Q:=by
 intro acc hacc;refine⟨fun i H=>i<=xs.length/\Pv acc i H,xs.length,⟨YaX _,h0 acc hacc⟩,?_⟩;rintro i H ⟨hi,p⟩;have q:=hl acc i H hacc hi p;by_cases hlt:i<xs.length
 ·refine .inr ⟨hlt,by cases b <;> exact⟨xs,xs[i],q,by simp[hlt]⟩,fun x H' y=>?_⟩;have y:∃ pa z,H pa=none/\x=.ref pa/\H'=upd H pa (.tup [.int i,z])/\xs[i]?=some z:=by
   cases b with
   | true=>obtain⟨pa,z,hp,e1,e2,y⟩:=y;exact⟨pa,z,hp,e1,e2,y xs q⟩
   | false=>obtain⟨pa,z,hp,e1,e2,y⟩:=y;exact⟨pa,z,hp,e1,e2,y xs q⟩
  obtain⟨pa,z,hp,e1,e2,y'⟩:=y;subst e1 e2;exact hs acc i z pa H hacc y' p hp
 ·have e:i=xs.length:=by omega
  subst e;exact .inl ⟨by cases b <;> exact⟨xs,q,Yap _⟩,hd acc H hacc p⟩
end L2
namespace Lv
open PySem L2
theorem Zi5 {X:Cx}{x:Str}{T:String}{pos:Pos} (hg:Gl X x) (hm:X.mg x=none) (hv:bootBuiltins x=some (.type T)) (hn:x≠"__name__":=by decide) (hd:(x == ("__debug__":Str))=false:=by decide):PE X (.Name x pos) (tC (.ty T)) :=
 Zkv hg hm hv rfl hn hd
theorem ZfC {X:Cx}{x:Str}{i:Int}{t:Tok}{pos:Pos} (hg:Gl X x) (hm:X.mg x=some (.int i t)) (hd:(x == ("__debug__":Str))=false:=by decide):PE X (.Name x pos) (tC (.int i)) :=
 Zkt hg hm ⟨t,rfl⟩ hd
structure Txt (mg:Str->Option Value):Prop where
 isinstance:mg "isinstance"=none
 int:mg "int"=none
 bool:mg "bool"=none
 list:mg "list"=none
 tuple:mg "tuple"=none
 min:mg "min"=none
 max:mg "max"=none
 len:mg "len"=none
 range:mg "range"=none
 all:mg "all"=none
 sum:mg "sum"=none
 sorted:mg "sorted"=none
 zip:mg "zip"=none
theorem Zbd:bootBuiltins "isinstance"=some (.builtin "isinstance"):=by decide +kernel
theorem ZmM:bootBuiltins "int"=some (.type "int"):=by decide +kernel
theorem ZiD:bootBuiltins "bool"=some (.type "bool"):=by decide +kernel
theorem ZjZ:bootBuiltins "list"=some (.type "list"):=by decide +kernel
theorem Zey:bootBuiltins "tuple"=some (.type "tuple"):=by decide +kernel
theorem ZmL:bootBuiltins "min"=some (.builtin "min"):=by decide +kernel
theorem ZjD:bootBuiltins "max"=some (.builtin "max"):=by decide +kernel
theorem ZgX:bootBuiltins "sum"=some (.builtin "sum"):=by decide +kernel
theorem Zez:bootBuiltins "sorted"=some (.builtin "sorted"):=by decide +kernel
theorem ZfG {K:Yad}:YcK K (.type "int") (.type "int")=some true:=by rfl
theorem ZeW {K:Yad}:YcK K (.type "int") (.type "bool")=some false:=by with_unfolding_all rfl
structure Cal (P:Program) (w:World) (K:Yad) (mg:Str->Option Value) (base:Heap) (k:Nat) (x:Str) (ps:List Str) (sp:Sp) (f:Addr) (fd:FuncData):Prop where
 ok:FnOk P w K mg base CX0 k f fd ps sp
 mg:mg x=some (.ref f)
 kp:Yay K (.ref f)=true
 bd:Binds K fd ps []
theorem Zan {X:Cx}{k:Nat}{x:Str}{ps:List Str}{sp:Sp}{f:Addr}{fd:FuncData}{e:Expr}{es:List Expr}{t:TA}{p pos:Pos} (C:Cal X.prog X.w X.K X.mg X.base k x ps sp f fd) (hr:Room k X.A) (hg:Gl X x) (ha:PA X (e::es) t)
  (hdb:(x == ("__debug__":Str))=false:=by decide) (he:starEach (e::es) X.env=(false,eval e X.env)::starEach es X.env:=by rfl) (hpl:(backTo pos (starEach es X.env)).any (·.1)=false:=by rfl) :
  PE X (.Call (.Name x p) (e::es) [] pos) (ZiO sp [] E0 t):=ZfD C.ok hr hg C.mg C.kp C.bd .nil ZlE ha hdb he hpl
theorem Zgg (K:Yad) {X:Cx} (hK:X.K=K:=by rfl):IxR X (rIxL K):=by subst hK;exact ZaM
theorem ZfH (K:Yad) {X:Cx} (hK:X.K=K:=by rfl):IxR X (rIxT K):=by subst hK;exact ZeX
theorem Zbp {xs:List Int}{i:Nat}{x:V} (h:(xs.map V.int)[i]?=some x):∃ p,xs[i]?=some p/\x=.int p:=by
 rw[Yaf] at h
 cases e:xs[i]? with
 | none=>rw[e] at h;cases h
 | some p=>rw[e] at h;exact⟨p,rfl,(Yau h).symm⟩
theorem _root_.L2.Same.new {q:Addr}{H:Hp}{o:HO} (h:H q=none):Same H (upd H q o):=fun b u e=>by rw[upd_ne (Zaf e h)];exact e
theorem _root_.L2.Same.put {q:Addr}{H H':Hp}{o:HO} (s:Same H H') (h:H q=none):Same H (upd H' q o):=fun b u e=>by rw[upd_ne (Zaf e h)];exact s b u e
theorem _root_.L2.Same.tup {K:Yad}{H H':Hp}{a:Addr}{xs:List V} (e:Same H H') (h:SqT K H a xs):SqT K H' a xs:=by
 rcases h with (h | ⟨o,h⟩) | h
 ·exact .inl (.inl (e _ _ h))
 ·exact .inl (.inr ⟨o,e _ _ h⟩)
 ·exact .inr h
theorem ZjV {n:Nat}{x:Int} (h0:0<=x) (h1:x<n):ixN n x=some x.toNat:=by
 unfold ixN;rw[if_pos h0,if_pos h1]
theorem Zk4 {fs:List Int}{x:Int} (h0:0<=x) (h1:x<fs.length):atI (fs.map V.int) x=some (.int (fs.getD x.toNat 0)):=by
 unfold atI;have hx:x.toNat<fs.length:=by omega
 rw[Yaa,ZjV h0 h1];show (fs.map V.int)[x.toNat]?=_;rw[Yaf,Yae hx,Yat,Yae hx];rfl
theorem ZeA {c0:Int}{cr:List Int}:atI ((c0::cr).map V.int) 0=some (.int c0):=Zb9 (j:=0) rfl
theorem cut2 {a b R:TS}{D:Ends}{σ:St}{H:Hp} (M:St->Hp->Prop) (h1:∀ R':TS,(∀ σ' H',M σ' H'->R' D σ' H')->tSeq a (tSeq b R') D σ H) (h2:∀ σ' H',M σ' H'->R D σ' H'):tSeq a (tSeq b R) D σ H:=h1 R h2
def Sm (p:Addr) (H H':Hp):Prop:=∀ b o,H b=some o->b≠p->H' b=some o
theorem Sm.trans {p:Addr}{H H1 H2:Hp} (a:Sm p H H1) (b:Sm p H1 H2):Sm p H H2:=fun c o h n=>b c o (a c o h n) n
theorem Sm.refl (p:Addr) (H:Hp):Sm p H H:=fun _ _ h _=>h
theorem Sm.of {p:Addr}{H H':Hp} (h:Same H H'):Sm p H H':=fun b o e _=>h b o e
theorem Sm.new {p q:Addr}{H:Hp}{o:HO} (h:H q=none):Sm p H (upd H q o):=fun b u e _=>by rw[upd_ne (Zaf e h)];exact e
theorem Sm.put {p:Addr}{H:Hp}{o:HO}:Sm p H (upd H p o):=fun b u e n=>by rw[upd_ne n];exact e
theorem Sm.free {p q:Addr}{H H':Hp} (s:Sm p H H') (hn:q≠p) (h:H' q=none):H q=none:=by
 cases e:H q with
 | none=>rfl
 | some o=>rw[s q o e hn] at h;cases h
theorem Sm.after {p:Addr}{H H1 H2:Hp} (s:Same H H1) (m:Sm p H1 H2) (h:H p=none):Same H H2:=fun b o e=>m b o (s b o e) (Zaf e h)
def ZdY:Sp:=fun vs H Q _=>∃ i,vs=[.int i]/\Q (.bl true) H
def Zbt (c:List Int):List Int:=(c.tail.map (c.getD 0 0+·))++[c.getD 0 0]
def Zdf (p:Nat):List Int:=1::Yak (p - 1) 0
def cnt (p:Nat):Nat->List Int
 | 0=>Zdf p
 | n+1=>Zbt (cnt p n)
theorem ZhT {c:List Int} (h:c≠[]):(Zbt c).length=c.length:=by
 cases c with
 | nil=>exact absurd rfl h
 | cons x r=>simp[Zbt]
theorem Zbc {p:Nat} (hp:1<=p):∀ n,(cnt p n).length=p
 | 0=>by simp[cnt,Zdf];omega
 | n+1=>by
  have:=Zbc hp n;show (Zbt (cnt p n)).length=p;rw[ZhT (by intro z;rw[z] at this;simp at this;omega),this]
def Down (c:List Int):Prop:=c.Pairwise (· ≥ ·)/\∀ x∈c,0<=x
theorem Zil {c:List Int} (h:Down c):Down (Zbt c):=by
 cases c with
 | nil=>exact⟨by simp[Zbt],by intro x hx;simp[Zbt] at hx;omega⟩
 | cons a r=>
  obtain⟨h1,h2⟩:=h;have h3:=Yb3.mp h1;have h0:0<=a:=h2 a (by simp);refine⟨?_,?_⟩
  ·show ((r.map (a+·))++[a]).Pairwise (· ≥ ·);rw[YaS];refine⟨?_,by simp,?_⟩
   ·rw[YcX];exact h3.2.imp fun h=>by (clear h0 h3;omega)
   ·intro x hx y hy;obtain⟨z,hz,rfl⟩:=YaV.mp hx;have:=h2 z (by simp[hz]);have:y=a:=by simpa using hy
    (clear h0 h3;omega)
  ·show ∀ x∈(r.map (a+·))++[a],0<=x;intro x hx;rcases Yar.mp hx with hx | hx
   ·obtain⟨z,hz,rfl⟩:=YaV.mp hx;have:=h2 z (by simp[hz])
    (clear h3;omega)
   ·have:x=a:=by simpa using hx
    (clear h3;omega)
theorem ZbQ (p:Nat):∀ n,Down (cnt p n)
 | 0=>by
  refine⟨?_,?_⟩
  ·show (1::Yak (p - 1) (0:Int)).Pairwise (· ≥ ·);rw[Yb3];refine⟨fun y hy=>?_,?_⟩
   ·have:=(Yet.mp hy).2
    omega
   ·rw[List.pairwise_replicate];exact .inr (Ycq _)
  ·intro x hx;rcases Yal.mp hx with rfl | hx
   ·decide
   ·have:=(Yet.mp hx).2
    omega
 | n+1=>Zil (ZbQ p n)
def ZdB:Sp:=fun vs H Q _=>∃ i,vs=[.int i]/\2<=i/\i<=7/\Q .non H
def Zc0:Sp:=fun vs H Q _=>∃ p:Nat,vs=[.int p]/\2<=p/\p<=7/\∀ l H',H l=none->H' l=some (.tup ((Zdf p).map V.int))->Same H H'->Q (.ref l) H'
def ZeK (K:Yad):Sp:=fun vs H Q _=>∃ (a:Addr) (c:List Int),vs=[.ref a]/\SqT K H a (c.map V.int)/\2<=c.length/\c.length<=7/\∀ l H',H l=none->H' l=some (.tup ((Zbt c).map V.int))->Same H H'->Q (.ref l) H'
def Zd2:Sp:=fun vs H Q _=>∃ p n:Nat,vs=[.int p,.int n]/\2<=p/\p<=7/\n<=300/\∀ l H',H l=none->H' l=some (.tup ((cnt p n).map V.int))->Same H H'->Q (.ref l) H'
def Zfo:Sp:=fun vs H Q _=>∃ p n:Nat,vs=[.int p,.int n]/\2<=p/\p<=7/\n<=300/\∀ H',Same H H'->Q (.int (cnt p n).sum) H'
def ZcZ:Sp:=fun vs H Q _=>∃ p n:Nat,vs=[.int p,.int n]/\2<=p/\p<=7/\n<=300/\∀ l H',H l=none->H' l=some (.lst ((cnt p n).map V.int))->Same H H'->Q (.ref l) H'
def ZiT (K:Yad):Sp:=fun vs H Q _=>∃ (a:Addr) (ns:List Int),vs=[.ref a]/\SqL K H a (ns.map V.int)/\ns.length<=63/\∀ H',Q (.bl true) H'
end Lv
namespace Lv
open PySem L2 PySem.Spec PyProof.Rows
structure FunD (K:Yad) (x qual:Str) (st:Stmt) (f da:Addr) (fd:FuncData):Prop where
 ex:∃ (oc:Value) (od:Option Addr) (kV doc pm:Value) (an:Option Addr) (cdv ct:Value) (osl:Array (Option Value)),
  fd=YaE x qual (Zal st) (Zaj st) (Zac st) (.ref da) kV doc pm an cdv ct/\K.lookup f=some ⟨oc,od,.func fd,osl⟩/\YaD K cdv qual=true
 kp:Yay K (.ref f)=true
section
variable {P:Program}{w:World}{K:Yad}{mg:Str->Option Value}{base:Heap}
theorem FunD.ok {x qual:Str}{st:Stmt}{f da:Addr}{fd:FuncData}{N ps:List Str}{k:Nat}{sp:Sp} (F:FunD K x qual st f da fd) (S:FnScope N ps (Zac st)) (len:∀ vs H Q E,sp vs H Q E->vs.length=ps.length)
  (hbody:∀ (cdv:Value) (A:Around) (outer:List Env) (s:Shared) (H:Hp) (vs:List V) (Q:VK) (E:XK),Room k (A.deeper (envOfC qual (Zac st) s.heap.objs.size f cdv))->sp vs H Q E ->
   ∃ t,PSs (cxOf CX0 P w K mg base N qual (Zac st) f cdv A outer s H E).nox (Zaj st) t/\t { nx:=fun _ H'=>Q .non H',rt:=Q } (ZcH N vs) H):FnOk P w K mg base CX0 (k+1) f fd ps sp:=by
 obtain⟨oc,od,kV,doc,pm,an,cdv,ct,osl,rfl,lk,hcd⟩:=F.ex;refine ZkT lk hcd S len fun A outer s H vs Q E hr hsp=>?_;obtain⟨t,h,q⟩:=hbody cdv A outer s H vs Q E hr hsp;exact⟨t,h.nox,q⟩
theorem FunD.binds {x qual:Str}{st:Stmt}{f da:Addr}{fd:FuncData}{ps:List Str}{o:Obj}{items:Array Value}{n:Nat} (F:FunD K x qual st f da fd) (ho:K.lookup da=some o) (hs:o.data=.seq items n) (ds:List Value) (qs:List Str) (hq:qs.length+ds.length=ps.length)
  (h:∀ (kV doc pm:Value) (an:Option Addr) (cdv ct:Value) (us:List Value),us.length=qs.length ->
   ∃ k:Option (Array Value)->Sem (List (Str × Value)),bindArgs (YaE x qual (Zal st) (Zaj st) (Zac st) (.ref da) kV doc pm an cdv ct) ⟨us,[]⟩=seqItems? (.ref da) >>= k/\k (some items)=pure (ps.zip (us++ds))):Binds K fd ps ds:=by
 obtain⟨oc,od,kV,doc,pm,an,cdv,ct,osl,rfl,lk,hcd⟩:=F.ex;intro s us X hl;obtain⟨k,h1,h2⟩:=h kV doc pm an cdv ct us (by rw[Yai] at hl;omega);exact PySem.W.binds_K X rfl ho hs h1 h2
theorem ZkR {x qual:Str}{st:Stmt}{f da:Addr}{oc:Value}{od an:Option Addr}{osl:Array (Option Value)}{kV doc pm cdv ct:Value} (l:K.lookup f=some ⟨oc,od,.func (YaE x qual (Zal st) (Zaj st) (Zac st) (.ref da) kV doc pm an cdv ct),osl⟩)
  (c:YaD K cdv qual=true) (k:Yay K (.ref f)=true):FunD K x qual st f da (YaE x qual (Zal st) (Zaj st) (Zac st) (.ref da) kV doc pm an cdv ct):=⟨⟨oc,od,kV,doc,pm,an,cdv,ct,osl,rfl,l,c⟩,k⟩
end
structure CalD (P:Program) (w:World) (K:Yad) (mg:Str->Option Value) (base:Heap) (k:Nat) (x:Str) (ps:List Str) (dvs:List V) (sp:Sp) (f:Addr) (fd:FuncData):Prop where
 ok:FnOk P w K mg base CX0 k f fd ps sp
 mg:mg x=some (.ref f)
 kp:Yay K (.ref f)=true
 bd:∃ ds,Binds K fd ps ds/\Vals dvs ds
theorem ZhF {X:Cx}{k:Nat}{x:Str}{ps:List Str}{dvs:List V}{sp:Sp}{f:Addr}{fd:FuncData}{e:Expr}{es:List Expr}{t:TA}{p pos:Pos} (C:CalD X.prog X.w X.K X.mg X.base k x ps dvs sp f fd) (hr:Room k X.A) (hg:Gl X x) (ha:PA X (e::es) t)
  (hdb:(x == ("__debug__":Str))=false:=by decide) (he:starEach (e::es) X.env=(false,eval e X.env)::starEach es X.env:=by rfl) (hpl:(backTo pos (starEach es X.env)).any (·.1)=false:=by rfl) :
  PE X (.Call (.Name x p) (e::es) [] pos) (ZiO sp dvs E0 t):=by
 obtain⟨ds,h1,h2⟩:=C.bd;exact ZfD C.ok hr hg C.mg C.kp h1 h2 ZlE ha hdb he hpl
def ZcO:Sp:=fun vs H Q _=>∃ i m,vs=[.int i,.int m]/\0<=i/\i<=m/\Q .non H
end Lv
namespace Lv
open PySem L2 PySem.Spec PyProof.Rows
end Lv
namespace Lv
open PySem L2
def hd (p n:Nat):Int:=(cnt p n).getD 0 0
def tot (p n:Nat):Int:=(cnt p n).sum
theorem Zeu {p:Nat} (hp:2<=p) (n:Nat):∃ a b r,cnt p n=a::b::r/\r.length=p - 2:=by
 have h:=Zbc (p:=p) (by omega) n
 match hc:cnt p n with
 | []=>rw[hc] at h;simp at h;omega
 | [x]=>rw[hc] at h;simp at h;omega
 | a::b::r=>rw[hc] at h;exact⟨a,b,r,rfl,by simp at h;(clear hp;omega)⟩
theorem ZjW {p:Nat} (hp:2<=p):∀ n,1<=hd p n
 | 0=>by simp[hd,cnt,Zdf]
 | n+1=>by
  obtain⟨a,b,r,e,_⟩:=Zeu hp n;have ih:=ZjW hp n;have nn:=(ZbQ p n).2 b (by rw[e];simp);unfold hd at ih ⊢;show 1<=(Zbt (cnt p n)).getD 0 0;rw[e] at ih ⊢;simp[Zbt] at ih ⊢
  (clear hp;omega)
theorem Zha (c:Int):∀ r:List Int,(r.map (c+·)).sum=r.length*c+r.sum
 | []=>by simp
 | x::r=>by
  rw[Yav,YaJ,Zha c r,YaJ,Ya3,Int.natCast_succ,Int.add_mul];omega
theorem ZiP (a:Int) (r:List Int):(Zbt (a::r)).sum=(a::r).sum+r.length*a:=by
 show ((r.map (a+·))++[a]).sum=_;rw[Ydy,Zha,YaJ,YaJ,List.sum_nil];omega
theorem ZfY {p:Nat} (hp:2<=p) (n:Nat):tot p (n+1)=tot p n+(p - 1:Nat)*hd p n:=by
 obtain⟨a,b,r,e,hr⟩:=Zeu hp n;unfold tot hd;show (Zbt (cnt p n)).sum=_;rw[e,ZiP];have:(b::r).length=p - 1:=by simp;omega
 rw[this];rfl
theorem ZjI {p:Nat} (hp:2<=p) (n:Nat):tot p n+1<=tot p (n+1):=by
 rw[ZfY hp];have h1:=ZjW hp n;have h2:((1:Nat):Int)*1<=((p - 1:Nat):Int)*hd p n:=Int.mul_le_mul (by (clear h1;omega)) h1 (by decide) (by (clear h1 hp;omega))
 (clear h1 hp;omega)
theorem ZbK {p:Nat} (hp:2<=p) {m n:Nat} (h:m<=n):tot p m<=tot p n:=by
  induction n with
  | zero => have : m = 0 := by (clear hp; omega)
            subst this;exact Ycq _
  | succ n ih=>
    by_cases e:m=n+1
    · subst e;exact Ycq _
    · have:=ih (by (clear ih hp;omega));have:=ZjI hp n
      (clear e h ih hp;omega)
theorem Zll {c:List Int} (h:∀ x∈c,0<=x):c.getD 0 0<=c.sum:=by
 cases c with
 | nil=>simp
 | cons a r=>
  have:∀ l:List Int,(∀ x∈l,0<=x)->0<=l.sum:=by
   intro l
   induction l with
   | nil=>intro _;simp
   | cons x y ih=>
    intro h;rw[YaJ];have:=h x (by simp);have:=ih fun z hz=>h z (by simp[hz])
    (clear ih;omega)
  have:=this r fun x hx=>h x (by simp[hx]);rw[YaJ];simp;omega
end Lv
namespace Lv
open PySem L2
theorem Zb3 (K:Yad) {X:Cx}{es:List Expr}{k:Nat}{t:TGs}{n:Nat}{pos:Pos} (hc:X.calm=true) (h:PGs X es t) (hK:X.K=K:=by rfl) (hn:(assignEach es X.env).length=n:=by rfl) (hst:(assignEach es X.env).findIdx? (·.1)=none:=by rfl):PG X (.Tuple es k pos) (gTup K n t):=by
 subst hK;exact ZdJ hc h hn hst
end Lv
namespace HT
open PySem PySem.Spec PyProof.Rows
section
variable {prog:Program}{w:World}{A:Around}{E:Value->Shared->Prop}{s:Shared}
end
end HT
namespace L2
open PySem PySem.Spec PyProof.Rows PySem.SeqAt
inductive TyA (H:Hp):V->String->Prop
 | non:TyA H .non "NoneType"
 | int (i:Int):TyA H (.int i) "int"
 | bl (b:Bool):TyA H (.bl b) "bool"
 | str (x:Str):TyA H (.str x) "str"
 | lst {a:Addr}{xs:List V} (e:H a=some (.lst xs)):TyA H (.ref a) "list"
 | tup {a:Addr}{xs:List V} (e:H a=some (.tup xs)):TyA H (.ref a) "tuple"
 | dK {a:Addr}{kvs:List (Key × V)} (e:H a=some (.dK kvs)):TyA H (.ref a) "dict"
section
variable {X:Cx}
end
end L2
namespace Lv
open PySem L2
def Zdu:Int:=10000000000000000000000000000000000000000000000000000000000000
def upI:List Int->Bool
 | []=>true
 | [_]=>true
 | a::b::r=>decide (a<=b) && upI (b::r)
inductive El (H:Hp):V->Prop
 | int {z:Int} (h1:-Zdu - 2<z) (h2:z<Zdu+2):El H (.int z)
 | bl (b:Bool):El H (.bl b)
 | non:El H .non
 | str {x:Str} (h:x.length<=400) (hc:∀ c∈x.cps.toList,c<16 ^ 8):El H (.str x)
 | lst {a:Addr}{zs:List Int} (e:H a=some (.lst (zs.map V.int))) (hl:zs.length<=3) (hb:∀ z∈zs,-Zdu - 2<z/\z<Zdu+2):El H (.ref a)
 | tup {a:Addr}{zs:List Int} (e:H a=some (.tup (zs.map V.int))) (hl:zs.length<=3) (hb:∀ z∈zs,-Zdu - 2<z/\z<Zdu+2):El H (.ref a)
inductive Lf (H:Hp):V->Prop
 | non:Lf H .non
 | int (i:Int) (h:i=7):Lf H (.int i)
 | bl (b:Bool):Lf H (.bl b)
 | str (x:Str):Lf H (.str x)
 | d0 {a:Addr} (e:H a=some (.dK [])):Lf H (.ref a)
 | d1 {a:Addr} (e:H a=some (.dK [(.inl 1,.int 2)])):Lf H (.ref a)
structure Sh (d:PyData) (n:Nat):Prop where
 ok:d.showable=true
 nd:d.hasDict=false
 dp:d.depth<=1
 sz:d.shown.length<=n
end Lv
namespace L2
open PySem PySem.Spec PyProof.Rows PySem.SeqAt
section
variable {X:Cx}
end
end L2
namespace Lv
open PySem L2
def Free (N:List (List Int)) (m:List Nat) (o:Int):Prop:=0<=o/\o<N.length/\m.getD o.toNat 0≠(N.getD o.toNat []).length
instance (N:List (List Int)) (m:List Nat) (o:Int):Decidable (Free N m o):=by unfold Free;infer_instance
def Zmw (m:List Nat) (o:Int):List Nat:=m.set o.toNat (m.getD o.toNat 0+1)
def atO (N:List (List Int)) (m:List Nat) (o:Int):Int:=(N.getD o.toNat []).getD (m.getD o.toNat 0) 0
def hold (N:List (List Int)):List Nat->List Int->List Int->Option (List Nat × List Int)
 | m,t,[]=>some (m,t)
 | m,t,o::os=>if Free N m o then hold N (Zmw m o) (t++[atO N m o]) os else none
def InM (N:List (List Int)) (m:List Nat):Prop:=m.length=N.length/\∀ j,j<N.length->m.getD j 0<=(N.getD j []).length
end Lv
namespace Lv
open PySem L2
def lenN (N:List (List Int)):List Nat:=N.map YbK
def opn (N:List (List Int)) (m:List Nat) (j:Nat):Bool:=decide (m.getD j 0<(N.getD j []).length)
def opnL (N:List (List Int)) (m:List Nat):List Nat:=(Yan N.length).filter (opn N m)
structure OrS (N:List (List Int)) (m:List Nat) (t os:List Int):Prop where
 hd:hold N (N.map fun _=>0) [] os=some (m,t)
 up:upI t=true
 lst:∀ l,t.getLast?=some l->∀ j∈opnL N m,l<=atO N m j
 inm:InM N m
 sm:m.sum=os.length
end Lv
namespace L2
open PySem PySem.Spec PyProof.Rows
abbrev two (elt t1 i1:Expr) (f1:List Expr) (t2 i2:Expr) (f2:List Expr) (scope:Scope) (pos:Pos):Expr:=.ListComp elt [⟨t1,i1,f1,0⟩,⟨t2,i2,f2,0⟩] scope pos
theorem Zg3 (elt t1 i1:Expr) (f1:List Expr) (t2 i2:Expr) (f2:List Expr) (scope:Scope) (pos:Pos) (it acc:Value) (env:Env) :
  compTurn (two elt t1 i1 f1 t2 i2 f2 scope pos) 0 it acc env=(do
   standAt i1.pos
   match <- pyNext it with
   | none=>pure (.done .next)
   | some v=>
    letOwnedTupleGo t1 it v
    assign t1 env v
    let mut ok:=true
    for c in f1 do
     if ok then ok <- isTrue c env (eval c env)
    if ok then
     let x <- eval i2 env
     standAt i2.pos
     let x <- foldedSetIterable i2 env x
     let _ <- runOwn (.compStart (two elt t1 i1 f1 t2 i2 f2 scope pos) 1 (<- holding [x] (pyIter x)) acc env) env
    again (.compLoop (two elt t1 i1 f1 t2 i2 f2 scope pos) 0 it acc env)):=by rfl
theorem Zg2 (elt t1 i1:Expr) (f1:List Expr) (t2 i2:Expr) (f2:List Expr) (scope:Scope) (pos:Pos) (it acc:Value) (env:Env) :
  compTurn (two elt t1 i1 f1 t2 i2 f2 scope pos) 1 it acc env=(do
   standAt i2.pos
   match <- pyNext it with
   | none=>pure (.done .next)
   | some v=>
    letOwnedTupleGo t2 it v
    assign t2 env v
    let mut ok:=true
    for c in f2 do
     if ok then ok <- isTrue c env (eval c env)
    if ok then
     (do let _ <- call (.builtin "list.append") [acc,<- eval elt env])
    again (.compLoop (two elt t1 i1 f1 t2 i2 f2 scope pos) 1 it acc env)):=by rfl
section
variable {prog:Program}{w:World}{A:Around}{R:Result->Shared->Prop}{s:Shared}{elt t1 i1:Expr}{f1:List Expr}{t2 i2:Expr}{f2:List Expr}{scope:Scope}{pos:Pos}{it acc:Value}{env:Env}
theorem ZhV (I:Nat->Shared->Prop)
  (turn:∀ n s,I n s->wpAny (model prog w) A (pyNext it) (fun r s₁=>match r with
   | none=>R (.ok .next) s₁
   | some v=>wpAny (model prog w) A (letOwnedTupleGo t2 it v) (fun _ s₁'=>wpAny (model prog w) A (assign t2 env v) (fun _ s₂=>
     wpAny (model prog w) A (forIn f2 true fun c r=>if r=true then do let ok <- isTrue c env (eval c env);pure (Ya1 ok) else pure (Ya1 r)) (fun ok s₃=>
      if ok=true then wpAny (model prog w) A (eval elt env) (fun x s₄=>
       wpAny (model prog w) A (call (.builtin "list.append") [acc,x]) (fun _ s₅=>∃ m,m<n/\I m s₅) (fun _ _=>False) s₄) (fun _ _=>False) s₃
      else ∃ m,m<n/\I m s₃) (fun _ _=>False) s₂) (fun _ _=>False) s₁') (fun _ _=>False) s₁) (fun _ _=>False) s)
  (n:Nat) (h:I n s):codeAny (model prog w) A (.compLoop (two elt t1 i1 f1 t2 i2 f2 scope pos) 1 it acc env) R s:=by
 refine codeAny_loop rfl I (fun n s hI=>?_) n h;show wpAny _ A ((compTurn (two elt t1 i1 f1 t2 i2 f2 scope pos) 1 it acc env).onRaise (fun x=>do noteFrame x env;theTreesLotGoes x)) _ _ s;refine wpAny_noted ?_;rw[Zg2];refine wpAny_bind (wpAny_standAt (wpAny_bind (wpAny_mono (turn n s hI) (fun r s₁ h₁=>?_) fun _ _ h'=>h'.elim)))
 cases r with
 | none=>exact wpAny_pure h₁
 | some v=>
  refine wpAny_bind (wpAny_mono h₁ (fun _ s₁' h₁=>?_) fun _ _ h'=>h'.elim);refine wpAny_bind (wpAny_mono h₁ (fun _ s₂ h₂=>wpAny_bind (wpAny_mono h₂ (fun ok s₃ h₃=>?_) fun _ _ h'=>h'.elim)) fun _ _ h'=>h'.elim)
  cases ok with
  | false=>exact wpAny_pure ⟨rfl,h₃⟩
  | true=>
   exact wpAny_bind (wpAny_bind (wpAny_mono h₃ (fun x s₄ h₄=>wpAny_bind (wpAny_mono h₄ (fun _ s₅ h₅=>wpAny_pure (wpAny_pure ⟨rfl,h₅⟩)) fun _ _ h'=>h'.elim)) fun _ _ h'=>h'.elim))
theorem Zgy
  (h0:codeAny (model prog w) A (.compLoop (two elt t1 i1 f1 t2 i2 f2 scope pos) 1 it acc env) R s)
  (h:wpAny (model prog w) A (pyIter it) (fun it' s'=>codeAny (model prog w) A (.compLoop (two elt t1 i1 f1 t2 i2 f2 scope pos) 1 it' acc env) R s')
   (notedBy (model prog w) A env fun x s'=>R (.error x) s') s) :
  codeAny (model prog w) A (.compStart (two elt t1 i1 f1 t2 i2 f2 scope pos) 1 it acc env) R s:=by
 refine codeAny_of_tree ?_;show wpAny _ _ ((compStart (two elt t1 i1 f1 t2 i2 f2 scope pos) 1 it acc env).onRaise (fun x=>do noteFrame x env;standAt theWindowsPlace)) _ _ s;refine wpAny_notedAt ?_;unfold compStart;show wpAny _ _ (ask >>= _) _ _ s;refine wpAny_bind (wpAny_askSetting (wpAny_ite ?_));split
 ·first
   | exact wpAny_bind (wpAny_pure (wpAny_pure (And.intro rfl h0)))
   | exact wpAny_pure (And.intro rfl h0)
 ·refine wpAny_bind (wpAny_rule ?_);show wpAny _ _ (standAt i2.pos >>= _) _ _ s;exact wpAny_bind (wpAny_standAt (wpAny_bind (wpAny_mono h (fun it' s' h'=>wpAny_pure (And.intro rfl h')) fun _ _ x=>x)))
theorem ZhW (I:Nat->Shared->Prop) (hs:∀ x,foldedSetIterable i2 env x=pure x)
  (turn:∀ n s,I n s->wpAny (model prog w) A (pyNext it) (fun r s₁=>match r with
   | none=>R (.ok .next) s₁
   | some v=>wpAny (model prog w) A (letOwnedTupleGo t1 it v) (fun _ s₁'=>wpAny (model prog w) A (assign t1 env v) (fun _ s₂=>
     wpAny (model prog w) A (forIn f1 true fun c r=>if r=true then do let ok <- isTrue c env (eval c env);pure (Ya1 ok) else pure (Ya1 r)) (fun ok s₃=>
      if ok=true then wpAny (model prog w) A (eval i2 env) (fun x s₄=>wpAny (model prog w) A (pyIter x) (fun itv s₅=>
       codeAny (model prog w) A (.compStart (two elt t1 i1 f1 t2 i2 f2 scope pos) 1 itv acc env) (fun r s₆=>∃ fl,r=.ok fl/\∃ m,m<n/\I m s₆) s₅) (fun _ _=>False) s₄) (fun _ _=>False) s₃
      else ∃ m,m<n/\I m s₃) (fun _ _=>False) s₂) (fun _ _=>False) s₁') (fun _ _=>False) s₁) (fun _ _=>False) s)
  (n:Nat) (h:I n s):codeAny (model prog w) A (.compLoop (two elt t1 i1 f1 t2 i2 f2 scope pos) 0 it acc env) R s:=by
 refine codeAny_loop rfl I (fun n s hI=>?_) n h;show wpAny _ A ((compTurn (two elt t1 i1 f1 t2 i2 f2 scope pos) 0 it acc env).onRaise (fun x=>do noteFrame x env;theTreesLotGoes x)) _ _ s;refine wpAny_noted ?_;rw[Zg3];refine wpAny_bind (wpAny_standAt (wpAny_bind (wpAny_mono (turn n s hI) (fun r s₁ h₁=>?_) fun _ _ h'=>h'.elim)))
 cases r with
 | none=>exact wpAny_pure h₁
 | some v=>
  refine wpAny_bind (wpAny_mono h₁ (fun _ s₁' h₁=>?_) fun _ _ h'=>h'.elim);refine wpAny_bind (wpAny_mono h₁ (fun _ s₂ h₂=>wpAny_bind (wpAny_mono h₂ (fun ok s₃ h₃=>?_) fun _ _ h'=>h'.elim)) fun _ _ h'=>h'.elim)
  cases ok with
  | false=>exact wpAny_pure ⟨rfl,h₃⟩
  | true=>
   refine wpAny_bind (wpAny_mono h₃ (fun x s₄ h₄=>wpAny_bind (wpAny_standAt ?_)) fun _ _ h'=>h'.elim);rw[hs];refine wpAny_bind (wpAny_pure (wpAny_bind (wpAny_holding (wpAny_mono h₄ (fun itv s₅ h₅=>?_) fun _ _ h'=>h'.elim))));refine wpAny_bind (wpAny_runOwn (h:=none) (codeAny_mono h₅ fun r s₆ ⟨fl,er,h₆⟩=>?_));subst er;exact wpAny_pure ⟨rfl,h₆⟩
end
end L2
namespace L2
open PySem PySem.Spec PyProof.Rows
def tInW (g2:TG) (tt2:TT) (te:TE) (τ:St) (acc:Addr) (J2:It) (H6:Hp) (Z:Hp->Prop):Prop :=
 ∃ (W2:Nat->Hp->Prop) (n2:Nat),W2 0 H6/\∀ k H7,W2 k H7->(J2.stop k H7/\Z H7)∨(k<n2/\J2.go k H7/\∀ y H8,J2.yld k H7 y H8->g2 y τ H8 fun τ2 H9=>tt2 τ2 H9 fun c H10=>
  if c=true then te τ2 H10 fun z H11=>∃ ys,H11 acc=some (.lst ys)/\ys.length<sizeLine/\W2 (k+1) (upd H11 acc (.lst (ys++[z]))) else W2 (k+1) H10)
def Zfm (own:List Str) (js:List Nat) (g1:TG) (tt1:TT) (wi2:TI) (g2:TG) (tt2:TT) (te:TE) (σ:St) (J:It) (H1:Hp) (Q:VK):Prop :=
 ∀ acc,H1 acc=none->∃ (W:Nat->Hp->Prop) (n:Nat),W 0 (upd H1 acc (.lst []))/\∀ i H2,W i H2 ->
  (J.stop i H2/\Q (.ref acc) H2)∨(i<n/\J.go i H2/\∀ x H3,J.yld i H2 x H3->g1 x (blkσ own js σ) H3 fun τ H4=>tt1 τ H4 fun c H5=>
   if c=true then wi2 τ H5 fun J2 H6=>tInW g2 tt2 te τ acc J2 H6 (W (i+1)) else W (i+1) H5)
def ZjL (own:List Str) (js:List Nat) (wi:TI) (g1:TG) (tt1:TT) (wi2:TI) (g2:TG) (tt2:TT) (te:TE):TE:=fun σ H Q=>wi σ H fun J H1=>Zfm own js g1 tt1 wi2 g2 tt2 te σ J H1 Q
def Zk6 (fr:List Nat) (τ:St):Prop:=∀ i∈fr,∀ v,τ[i]?≠some (some v)
def Zgv (own:List Str) (fr:List Nat) (g:TG):Prop:=∀ (js:List Nat) (σ:St) (x:V) (H:Hp) (Q:St->Hp->Prop),g x (blkσ own js σ) H Q ->
 g x (blkσ own js σ) H fun τ H'=>((∀ (j:Nat) v,(blkσ own js σ)[j]?=some (some v)->τ[j]?=some (some v))/\Zk6 fr τ)/\Q τ H'
def Zff (fr:List Nat) (g:TG):Prop:=∀ (τ:St),Zk6 fr τ->∀ (x:V) (H:Hp) (Q:St->Hp->Prop),g x τ H Q->g x τ H fun τ' H'=>(∀ (j:Nat) v,τ[j]?=some (some v)->τ'[j]?=some (some v))/\Q τ' H'
theorem Zb7 {own:List Str}{i:Nat}{fr:List Nat} (hi:i<own.length:=by decide) (hf:∀ j∈fr,j<own.length/\j≠i:=by decide):Zgv own fr (Zdd i):=fun js σ x H Q h=>⟨⟨fun j v e=>by
  have hj:j≠i:=by rintro rfl;exact ZbH hi e
  rw[YaY (YbA hj)];exact e,fun j hj z e=>by
  obtain⟨h1,h2⟩:=hf j hj;rw[YaY (YbA h2)] at e;exact ZbH h1 e⟩,h⟩
theorem Zb6 {i:Nat}:Zff [i] (Zdd i):=fun τ u x H Q h=>⟨fun j v e=>by
 have hj:j≠i:=by rintro rfl;exact u j (by simp) _ e
 rw[YaY (YbA hj)];exact e,h⟩
section
variable {X:Cx}{scope:Scope}{own:List Str}{js fr:List Nat}{elt t1 i1:Expr}{f1:List Expr}{t2 i2:Expr}{f2:List Expr}{wi wi2:TI}{g1 g2:TG}{tt1 tt2:TT}{te:TE}{pos:Pos}
theorem Zh6 {pins:List (Addr × Obj)}{s₂:Shared}{H2:Hp}{C:Addr}{fp:List Addr}{τ:St}{H6:Hp}{s6:Shared}{it2 acc:Addr}{fp2:List Addr}{tn2:Nat->Heap->Prop}{J2:It}{Z:Hp->Prop}{P:List (Addr × Obj)}
  (hc:X.calm=true) (hgk:Zff fr g2) (hu:Zk6 fr τ)
  (hg:PG (X.blk scope own js s₂ H2 C fp pins) t2 g2) (ht:PTs (X.blk scope own js s₂ H2 C fp pins) f2 tt2) (he:PE (X.blk scope own js s₂ H2 C fp pins) elt te)
  (I6:Inv (X.blk scope own js s₂ H2 C fp pins) P τ H6 s6) (T:Turn X.prog X.w X.K t2 J2 fp2 it2 tn2) (st:tn2 0 s6.heap) (hf:∀ b∈fp2,FpOk (X.blk scope own js s₂ H2 C fp pins) P H6 b) (h:tInW g2 tt2 te τ acc J2 H6 Z) :
  codeAny (model X.prog X.w) X.A (.compStart (two elt t1 i1 f1 t2 i2 f2 scope pos) 1 (.ref it2) (.ref acc) (compEnvC scope (clOf scope X.env) C X.env)) (fun r s'=>r=.ok .next/\∃ H',Inv (X.blk scope own js s₂ H2 C fp pins) P τ H' s'/\Z H') s6:=by
 obtain⟨W,nn,w0,turn⟩:=h;have fOk:∀ {H':Hp},(∀ b∈fp2,H' b=none)->∀ b∈fp2,FpOk (X.blk scope own js s₂ H2 C fp pins) P H' b:=fun hn b hb=>⟨hn b hb,(hf b hb).2⟩
 have loop:codeAny (model X.prog X.w) X.A (.compLoop (two elt t1 i1 f1 t2 i2 f2 scope pos) 1 (.ref it2) (.ref acc) (compEnvC scope (clOf scope X.env) C X.env)) (fun r s'=>r=.ok .next/\∃ H',Inv (X.blk scope own js s₂ H2 C fp pins) P τ H' s'/\Z H') s6:=by
  refine ZhV (fun n s'=>∃ i H',n=nn - i/\Inv (X.blk scope own js s₂ H2 C fp pins) P τ H' s'/\tn2 i s'.heap/\(∀ b∈fp2,H' b=none)/\W i H') ?_ nn ⟨0,_,rfl,I6,st,fun b hb=>(hf b hb).1,w0⟩;rintro n s3 ⟨i,H3,en,I3,st3,fr3,w3⟩;rcases turn i H3 w3 with ⟨stop,qn⟩ | ⟨hin,go,step⟩
  ·refine thn (T.done (X.blk scope own js s₂ H2 C fp pins) rfl rfl rfl hc i P s3 _ H3 (fun _ _=>False) I3 (fOk fr3) st3 stop) fun r s4 ⟨hr,I4⟩=>?_;subst hr;exact⟨rfl,H3,I4,qn⟩
  ·refine thn (T.item (X.blk scope own js s₂ H2 C fp pins) rfl rfl rfl hc i P s3 _ H3 (fun _ _=>False) I3 (fOk fr3) st3 go) fun r s4 ⟨u,hr,h4⟩=>?_;subst hr;refine thn h4 fun _ s5 ⟨x,H5,I5,r5,y5,st5,fr5⟩=>?_;have I5':=I5.pinned (fOk fr5) (T.obj _ _ st5);have again:∀ {σ7:St}{H7:Hp}{s7:Shared},Inv (X.blk scope own js s₂ H2 C fp pins) (P++ZcF fp2 s5.heap) σ7 H7 s7->(∀ (j:Nat) v,τ[j]?=some (some v)->σ7[j]?=some (some v))->W (i+1) H7 ->
     ∃ m,m<n/\∃ i H',m=nn - i/\Inv (X.blk scope own js s₂ H2 C fp pins) P τ H' s7/\tn2 i s7.heap/\(∀ b∈fp2,H' b=none)/\W i H':=fun {σ7 H7 s7} I7 hw w7=>by
    refine⟨nn - (i+1),by omega,i+1,H7,rfl,(I7.unpinned).weak (I3.len.trans I7.len.symm) hw,T.keep _ _ _ st5 fun b hb o e=>(I7.pin (b,o) (Yaq _ (Yaq _ (ZaJ hb e)))).1,fun b hb=>?_,w7⟩;obtain⟨o,e,d⟩:=T.obj _ _ st5 b hb;exact (I7.pin (b,o) (Yaq _ (Yaq _ (ZaJ hb e)))).2.1
   refine thn (hg _ s5 _ H5 x u _ I5' r5 (hgk τ hu _ _ _ (step x H5 y5))) fun _ s6 ⟨σ6,H6,I6,kp,q6⟩=>?_;refine thn (ht _ s6 σ6 H6 _ I6 q6) fun ok s7 ⟨H7,I7,q7⟩=>?_
   cases ok with
   | false=>exact again I7 kp q7
   | true=>
    refine thn (he _ s7 σ6 H7 _ I7 q7) fun y s8 ⟨v,H8,I8,r8,ys,hl,hz,w8⟩=>?_;refine thn (Zbh (X:=X.blk scope own js s₂ H2 C fp pins) _ s8 σ6 H8 (.ref acc) [v] (.ref acc) [y] (fun _ H9=>W (i+1) H9) I8 rfl (.cons r8 .nil) ⟨acc,ys,v,rfl,rfl,hl,hz,w8⟩) fun _ s9 ⟨_,H9,I9,_,w9⟩=>?_;exact again I9 kp w9
 exact Zgy loop (T.self _ 0 _ _ _ st loop)
theorem Zgt {pins:List (Addr × Obj)}{σ:St}{H2:Hp}{s₂:Shared}{it:Addr}{fp:List Addr}{tn:Nat->Heap->Prop}{J:It}{Q:VK}{E:Value->Shared->Prop}{RR:Value->Addr->Result->Shared->Prop}
  (c:CompOk X scope own js) (hc:X.calm=true) (hgk:Zgv own fr g1) (hgt:Zff fr g2)
  (hg:∀ s H C fp pins,PG (X.blk scope own js s H C fp pins) t1 g1) (ht:∀ s H C fp pins,PTs (X.blk scope own js s H C fp pins) f1 tt1) (hi2:∀ s H C fp pins,PI (X.blk scope own js s H C fp pins) t2 i2 wi2)
  (hg2:∀ s H C fp pins,PG (X.blk scope own js s H C fp pins) t2 g2) (ht2:∀ s H C fp pins,PTs (X.blk scope own js s H C fp pins) f2 tt2) (he:∀ s H C fp pins,PE (X.blk scope own js s H C fp pins) elt te)
  (hs2:∀ env x,foldedSetIterable i2 env x=pure x)
  (I:Inv X pins σ H2 s₂) (T:Turn X.prog X.w X.K t1 J fp it tn) (st:tn 0 s₂.heap) (hf:∀ b∈fp,FpOk X pins H2 b) (h:Zfm own js g1 tt1 wi2 g2 tt2 te σ J H2 Q)
  (hRR:∀ acc C H' s' m,s₂.heap.objs.size<=C->H' C=none->Inv X pins σ H' s'->s'.heap.Ns C m->Q (.ref acc) H'->RR (.ref acc) C (.ok .next) s') :
  wpAny (model X.prog X.w) X.A (newList []) (fun acc s₃=>wpAny (model X.prog X.w) X.A (newFunctionEnv scope X.env.globals (clOf scope X.env) [] X.env.qual none .none (some X.env)) (fun cenv s₄=>
   codeAny (model X.prog X.w) X.A (.compStart (two elt t1 i1 f1 t2 i2 f2 scope pos) 0 (.ref it) acc { cenv with scope:=relabel scope X.env }) (RR acc cenv.locals) s₄) E s₃) E s₂:=by
 refine wpAny_newObj_type (wpAny_newFunctionEnv c.cell (by intro y hy;simp at hy) (fun h₁ hns₁ hsb₁=>?_) c.kind);dsimp only at hns₁ hsb₁ ⊢;generalize hH2:s₂.heap.push { cls:=.type "list",dict:=none,data:=.seq ([]:List Value).toArray }=G2 at hns₁ hsb₁ ⊢;have hC:G2.objs.size=s₂.heap.objs.size+1:=by rw[<- hH2,Ybn]
 have hDC:s₂.heap.objs.size≠G2.objs.size:=by rw[hC];exact YaF (Yb1 _)
 have hCle:s₂.heap.objs.size<=G2.objs.size:=by rw[hC];exact Ycw _
 have old:∀ b o,s₂.heap.get? b=some o->h₁.get? b=some o:=fun b o e=>hsb₁.extBut b o (YaF (Yag (Yaj e) hCle)) (Yac _ (hH2 ▸ Yac _ e));have hacc:h₁.get? s₂.heap.objs.size=some { cls:=.type "list",data:=.seq ([]:List Value).toArray 0 }:=hsb₁.extBut _ _ hDC (Yac _ (hH2 ▸ YaB _ rfl));have ho2:∀ b∈fp,∃ o,s₂.heap.get? b=some o:=fun b hb=>let ⟨o,e,_⟩:=T.obj 0 _ st b hb;⟨o,e⟩
 have I0:∀ tk,Inv (X.blk scope own js s₂ H2 G2.objs.size fp pins) [] (blkσ own js σ) (upd H2 s₂.heap.objs.size (.lst [])) { s₂ with heap:=h₁,toks:=tk }:=fun tk=>
  Zdo c I hCle hf ho2 hns₁ old (Yap _) hDC hacc
 obtain⟨W,nn,w0,turn⟩:=h s₂.heap.objs.size (I.hok.fresh (Yap _));generalize hacc':s₂.heap.objs.size=acc at *;generalize hGC:G2.objs.size=C at *;have st1:tn 0 h₁:=T.keep 0 _ _ st fun b _ o e=>old b o e;have fOk:∀ {H':Hp},(∀ b∈fp,H' b=none)->∀ b∈fp,FpOk (X.blk scope own js s₂ H2 C fp pins) [] H' b:=fun hn b hb=>by
  obtain⟨f0,f1,f2,f3,f4,f5⟩:=hf b hb;obtain⟨o,e⟩:=ho2 b hb;refine⟨hn b hb,YaF (Yag (Yaj e) (by rw[<- hacc'] at hCle;exact hCle)),fun z=>?_,.inl hb,fun x a h=>f4 x a (c.look I h),fun p hp=>f5 p (by simpa[Cx.blk] using hp)⟩;rcases Yal.mp (I.stkSub b z) with q | q
  ·exact f1 q
  ·exact f2 q
 have loop:∀ s₃:Shared,s₃={ s₂ with heap:=h₁,toks:=s₂.toks+([]:List (Str × Value)).length } ->
   codeAny (model X.prog X.w) X.A (.compLoop (two elt t1 i1 f1 t2 i2 f2 scope pos) 0 (.ref it) (.ref acc) (compEnvC scope (clOf scope X.env) C X.env)) (RR (.ref acc) C) s₃:=by
  rintro s₃ rfl;refine ZhW (fun n s'=>∃ i H',n=nn - i/\Inv (X.blk scope own js s₂ H2 C fp pins) [] (blkσ own js σ) H' s'/\tn i s'.heap/\(∀ b∈fp,H' b=none)/\W i H') (hs2 _) ?_ nn ⟨0,_,rfl,I0 _,st1,fun b hb=>?_,w0⟩
  ·rintro n s3 ⟨i,H3,en,I3,st3,fr3,w3⟩;rcases turn i H3 w3 with ⟨stop,qn⟩ | ⟨hin,go,step⟩
   ·refine thn (T.done (X.blk scope own js s₂ H2 C fp pins) rfl rfl rfl hc i [] s3 _ H3 (fun _ _=>False) I3 (fOk fr3) st3 stop) fun r s4 ⟨hr,I4⟩=>?_;subst hr;obtain⟨m,hn,_⟩:=I4.loc;exact hRR acc C H3 s4 m hCle I4.free (ZcC I hf I4) hn qn
   ·refine thn (T.item (X.blk scope own js s₂ H2 C fp pins) rfl rfl rfl hc i [] s3 _ H3 (fun _ _=>False) I3 (fOk fr3) st3 go) fun r s4 ⟨u,hr,h4⟩=>?_;subst hr;refine thn h4 fun _ s5 ⟨x,H5,I5,r5,y5,st5,fr5⟩=>?_;have I5':=I5.pinned (fOk fr5) (T.obj _ _ st5);have again:∀ {σ7:St}{H7:Hp}{s7:Shared},Inv (X.blk scope own js s₂ H2 C fp pins) ([]++ZcF fp s5.heap) σ7 H7 s7->(∀ (j:Nat) v,(blkσ own js σ)[j]?=some (some v)->σ7[j]?=some (some v))->W (i+1) H7 ->
      ∃ m,m<n/\∃ i H',m=nn - i/\Inv (X.blk scope own js s₂ H2 C fp pins) [] (blkσ own js σ) H' s7/\tn i s7.heap/\(∀ b∈fp,H' b=none)/\W i H':=fun {σ7 H7 s7} I7 hw w7=>by
     refine⟨nn - (i+1),by (clear hCle hDC hC hGC hacc';omega),i+1,H7,rfl,(I7.unpinned).weak ((Zex own js σ X).trans I7.len.symm) hw,T.keep _ _ _ st5 fun b hb o e=>(I7.pin (b,o) (Yaq _ (Yaq _ (ZaJ hb e)))).1,fun b hb=>?_,w7⟩;obtain⟨o,e,d⟩:=T.obj _ _ st5 b hb;exact (I7.pin (b,o) (Yaq _ (Yaq _ (ZaJ hb e)))).2.1
    refine thn (hg s₂ H2 C fp pins _ s5 _ H5 x u _ I5' r5 (hgk _ _ _ _ _ (step x H5 y5))) fun _ s6 ⟨σ6,H6,I6,⟨kp,un⟩,q6⟩=>?_;refine thn (ht s₂ H2 C fp pins _ s6 σ6 H6 _ I6 q6) fun ok s7 ⟨H7,I7,q7⟩=>?_
    cases ok with
    | false=>exact again I7 kp q7
    | true=>
     refine thn (hi2 s₂ H2 C fp pins _ s7 σ6 H7 _ I7 q7) fun v s8 h8=>thn h8 fun itv s9 h9=>?_;obtain⟨it2,fp2,tn2,J2,H9,e9,I9,T2,st9,f9,hw9⟩:=h9;subst e9;refine codeAny_mono (Zh6 (t1:=t1) (i1:=i1) (f1:=f1) (i2:=i2) (pos:=pos) hc hgt un (hg2 s₂ H2 C fp pins) (ht2 s₂ H2 C fp pins) (he s₂ H2 C fp pins) I9 T2 st9 f9 hw9) fun r s10 ⟨er,H10,I10,w10⟩=>?_;exact⟨_,er,again I10 kp w10⟩
  ·rw[upd_ne ?_]
   ·exact (hf b hb).1
   ·obtain⟨o,e⟩:=ho2 b hb;rw[<- hacc'];exact YaF (Yaj e)
 exact codeAny_compStart_list (loop _ rfl) (T.self _ 0 _ _ _ st1 (loop _ rfl))
theorem Zi7 (c:CompOk X scope own js) (hc:X.calm=true) (hi:PI X t1 i1 wi) (hgk:Zgv own fr g1) (hgt:Zff fr g2)
  (hg:∀ s H C fp pins,PG (X.blk scope own js s H C fp pins) t1 g1) (ht:∀ s H C fp pins,PTs (X.blk scope own js s H C fp pins) f1 tt1) (hi2:∀ s H C fp pins,PI (X.blk scope own js s H C fp pins) t2 i2 wi2)
  (hg2:∀ s H C fp pins,PG (X.blk scope own js s H C fp pins) t2 g2) (ht2:∀ s H C fp pins,PTs (X.blk scope own js s H C fp pins) f2 tt2) (he:∀ s H C fp pins,PE (X.blk scope own js s H C fp pins) elt te)
  (hs:∀ x,foldedSetIterable i1 X.env x=pure x:=by intro _;rfl) (hs2:∀ env x,foldedSetIterable i2 env x=pure x:=by intro _ _;rfl):PE X (two elt t1 i1 f1 t2 i2 f2 scope pos) (ZjL own js wi g1 tt1 wi2 g2 tt2 te):=by
 intro pins s σ H Q I h;rw[eval_ListComp];refine wpAny_comprehension_free (use:=none) rfl hs (Zbk (c.cl I)) c.kind c.names (thn (hi pins s σ H _ I h) fun v s1 h1=>thn h1 fun itv s2 h2=>?_);obtain⟨it,fp,tn,J,H2,e,I2,T,st2,f2,hw⟩:=h2;subst e;refine Zgt (RR:=fun acc C=>compPost (model X.prog X.w) X.A X.xe none (EP X pins σ Q) acc C) c hc hgk hgt hg ht hi2 hg2 ht2 he hs2 I2 T st2 f2 hw ?_;intro acc C H' s' m hCs hCn I' hn q;refine⟨m,hn,fun h' hs'=>⟨.ref acc,H',I'.other hs' hCn ?_ ?_ ?_ ?_,rfl,q⟩⟩
 ·exact Ybp (Yag I2.lt hCs)
 ·exact Ybk I2.sz hCs
 ·intro x a e z;obtain⟨v,q⟩:=I2.cell x a e;exact absurd (Yag q.lt (by rw[z];exact hCs)) (Ya8 _)
 ·intro p hp z;exact absurd (Yag (Yaj (I2.pin p hp).1) (by rw[z];exact hCs)) (Ya8 _)
end
end L2
namespace L2
open PySem PySem.Spec PyProof.Rows PySem.SeqAt
def ItlB (b:Bool) (K:Yad) (a:Addr):It:=match b with | true=>Itl K a | false=>Itt K a
def ZlY (K:Yad) (tl:TE):TI:=fun σ H R=>tl σ H fun x H1=>∃ a b,x=.ref a/\(∃ xs,SqB b K H1 a xs)/\R (ItlB b K a) H1
theorem ZbO (K:Yad) {X:Cx}{tg l:Expr}{tl:TE} (hl:PE X l tl) (hK:X.K=K:=by rfl):PI X tg l (ZlY K tl):=by
 subst hK;intro pins s σ H R I h;refine thn (hl pins s σ H _ I h) fun v s1 ⟨x,H1,I1,r1,q1⟩=>?_;obtain⟨a,b,e,⟨xs,hq⟩,q⟩:=q1;subst e;cases r1;have fp:∀ b∈[s1.heap.objs.size],FpOk X pins H1 b:=fun b hb=>by
  have e:b=s1.heap.objs.size:=by simpa using hb
  subst e;exact I1.fpOk (Yap _) (I1.hok.fresh (Yap _))
 cases b with
 | true=>
  obtain⟨its,rv,p,hz⟩:=I1.list hq;exact wpAny_pyIter_list p.isList ⟨s1.heap.objs.size,[s1.heap.objs.size],_,_,H1,rfl,I1.kept (t':=s1.toks) fun b o e=>Yac _ e,ZeI a _,⟨_,YaB _ rfl,rfl,rfl⟩,fp,q⟩
 | false=>
  obtain⟨its,rv,p,hz⟩:=I1.tuple hq;exact wpAny_pyIter_tuple (show s1.heap.IsTuple a its.toArray from p) ⟨s1.heap.objs.size,[s1.heap.objs.size],_,_,H1,rfl,I1.kept (t':=s1.toks) fun b o e=>Yac _ e,Zdz a _,⟨_,YaB _ rfl,rfl,rfl⟩,fp,q⟩
theorem ZaC {X:Cx}{tg l:Expr}{tl:TE} (hl:PE X l tl):PI X tg l (ZlY X.K tl):=ZbO X.K hl
theorem ZfI {b:Bool}{K:Yad}{H:Hp}{a:Addr}{xs:List V}{i:Nat} (q:SqB b K H a xs) (hi:i<xs.length):(ItlB b K a).go i H:=by
 cases b <;> exact⟨xs,xs[i],q,Yae hi⟩
theorem Zel {b:Bool}{K:Yad}{H H':Hp}{a:Addr}{xs:List V}{i:Nat}{x:V} (q:SqB b K H a xs) (y:(ItlB b K a).yld i H x H'):H'=H/\xs[i]?=some x:=by
 cases b <;> exact⟨y.1,y.2 xs q⟩
theorem Zc9 {b:Bool}{K:Yad}{H:Hp}{a:Addr}{xs:List V}{i:Nat} (q:SqB b K H a xs) (hi:xs.length<=i):(ItlB b K a).stop i H:=by
 cases b <;> exact⟨xs,q,hi⟩
section
variable {b:Bool}{K:Yad}{own:List Str}{js:List Nat}{g1 g2 g:TG}{tt1 tt2 tt:TT}{wi2:TI}{te:TE}{σ τ:St}{H1 H6:Hp}{Q:VK}{a acc:Addr}{xs:List V}
theorem Zdj (Pv:Addr->Nat->Hp->Prop) (h0:∀ acc,H1 acc=none->Pv acc 0 (upd H1 acc (.lst []))) (hl:∀ acc i H,H1 acc=none->i<=xs.length->Pv acc i H->SqB b K H a xs)
  (hs:∀ acc i x H,H1 acc=none->xs[i]?=some x->Pv acc i H->g x (blkσ own js σ) H fun τ H4=>tt τ H4 fun c H5=>
   if c=true then te τ H5 fun y H6=>∃ ys,H6 acc=some (.lst ys)/\ys.length<sizeLine/\(i+1<=xs.length/\Pv acc (i+1) (upd H6 acc (.lst (ys++[y])))) else (i+1<=xs.length/\Pv acc (i+1) H5))
  (hd:∀ acc H,H1 acc=none->Pv acc xs.length H->Q (.ref acc) H):ZaR own js g tt te σ (ItlB b K a) H1 Q:=by
 intro acc hacc;refine⟨fun i H=>i<=xs.length/\Pv acc i H,xs.length,⟨YaX _,h0 acc hacc⟩,?_⟩;rintro i H ⟨hi,p⟩;have q:=hl acc i H hacc hi p;rcases Ybd i xs.length with hlt | hge
 ·refine .inr ⟨hlt,ZfI q hlt,fun x H' y=>?_⟩;obtain⟨rfl,hx⟩:=Zel q y;exact hs acc i x _ hacc hx p
 ·obtain rfl:i=xs.length:=by omega
  exact .inl ⟨Zc9 q (Yap _),hd acc H hacc p⟩
theorem ZdR (Pv:Addr->Nat->Hp->Prop) (h0:∀ acc,H1 acc=none->Pv acc 0 (upd H1 acc (.lst []))) (hl:∀ acc i H,H1 acc=none->i<=xs.length->Pv acc i H->SqB b K H a xs)
  (hs:∀ acc i x H,H1 acc=none->xs[i]?=some x->Pv acc i H->g1 x (blkσ own js σ) H fun τ H4=>tt1 τ H4 fun c H5=>
   if c=true then wi2 τ H5 fun J2 H6=>tInW g2 tt2 te τ acc J2 H6 (fun H7=>i+1<=xs.length/\Pv acc (i+1) H7) else (i+1<=xs.length/\Pv acc (i+1) H5))
  (hd:∀ acc H,H1 acc=none->Pv acc xs.length H->Q (.ref acc) H):Zfm own js g1 tt1 wi2 g2 tt2 te σ (ItlB b K a) H1 Q:=by
 intro acc hacc;refine⟨fun i H=>i<=xs.length/\Pv acc i H,xs.length,⟨YaX _,h0 acc hacc⟩,?_⟩;rintro i H ⟨hi,p⟩;have q:=hl acc i H hacc hi p;rcases Ybd i xs.length with hlt | hge
 ·refine .inr ⟨hlt,ZfI q hlt,fun x H' y=>?_⟩;obtain⟨rfl,hx⟩:=Zel q y;exact hs acc i x _ hacc hx p
 ·obtain rfl:i=xs.length:=by omega
  exact .inl ⟨Zc9 q (Yap _),hd acc H hacc p⟩
theorem Zh7 {Z:Hp->Prop} (W2:Nat->Hp->Prop) (h0:W2 0 H6) (hl:∀ i H,i<=xs.length->W2 i H->SqB b K H a xs)
  (hs:∀ i x H,xs[i]?=some x->W2 i H->g2 x τ H fun τ2 H9=>tt2 τ2 H9 fun c H10=>
   if c=true then te τ2 H10 fun z H11=>∃ zs,H11 acc=some (.lst zs)/\zs.length<sizeLine/\(i+1<=xs.length/\W2 (i+1) (upd H11 acc (.lst (zs++[z])))) else (i+1<=xs.length/\W2 (i+1) H10))
  (hd:∀ H,W2 xs.length H->Z H):tInW g2 tt2 te τ acc (ItlB b K a) H6 Z:=by
 refine⟨fun i H=>i<=xs.length/\W2 i H,xs.length,⟨YaX _,h0⟩,?_⟩;rintro i H ⟨hi,p⟩;have q:=hl i H hi p;rcases Ybd i xs.length with hlt | hge
 ·refine .inr ⟨hlt,ZfI q hlt,fun x H' y=>?_⟩;obtain⟨rfl,hx⟩:=Zel q y;exact hs i x _ hx p
 ·obtain rfl:i=xs.length:=by omega
  exact .inl ⟨Zc9 q (Yap _),hd H p⟩
end
end L2
namespace L2
open PySem PyProof.Rows
structure KO extends KeyOrd where
 ky:Keyed->α
namespace KO
variable {O:KO}{x y z:Keyed}
def le (O:KO) (x y:Keyed):Prop:=O.blt (O.ky y) (O.ky x)=false
theorem le_refl:O.le x x:=O.irrefl _
theorem le_trans (h1:O.le x y) (h2:O.le y z):O.le x z:=Ycy (O:=O.toKeyOrd) h1 h2
theorem le_of_lt (h:O.blt (O.ky x) (O.ky y)=true):O.le x y:=KeyOrd.klt_asymm (O:=O.toKeyOrd) h
abbrev Srt (O:KO) (l:List Keyed):Prop:=l.Pairwise O.le
end KO
def ZfK:Bool->Keyed->Array Keyed->Nat->Nat->Nat->StateT SortSt Sem (Option Nat):=sortPriv% PySem.Builtin.gallop
def Zjp:Array Keyed->Array Keyed->StateT SortSt Sem (Array Keyed):=sortPriv% PySem.Builtin.mergeLo
def Zjq:Array Keyed->Array Keyed->StateT SortSt Sem (Array Keyed):=sortPriv% PySem.Builtin.mergeHi
def ZgB:Nat->StateT SortSt Sem Unit:=sortPriv% PySem.Builtin.setMinGallop
section
variable {prog:Program}{w:World}{A:Around}{E:Value->Shared->Prop}{s:Shared}{O:KO}{knd:SortKind}{ok:Keyed->Prop}{st:SortSt}
def Asks (prog:Program) (w:World) (A:Around) (s:Shared) (O:KO) (knd:SortKind) (ok:Keyed->Prop):Prop :=
 ∀ x y,ok x->ok y->∀ (E:Value->Shared->Prop) (Q:Bool->Shared->Prop),Q (O.blt (O.ky x) (O.ky y)) s->wpAny (model prog w) A (keyLt' knd x.1 y.1) Q E s
theorem ZeB {x y:Keyed}{Q:Option Bool->SortSt->Prop} (hA:Asks prog w A s O knd ok) (hk:kindOf st=knd) (hx:ok x) (hy:ok y) (h:Q (some (O.blt (O.ky x) (O.ky y))) st):wpS (model prog w) A E s (lt' x y) Q st:=by
 rw[lt'_eq];refine wpS_bind (wpS_get ?_);rw[hk];refine wpS_bind (wpS_lift (wpAny_attempt (hA x y hx hy _ _ ⟨rfl,?_⟩)));exact wpS_pure h
theorem Zak {arr:Array Keyed}{i:Nat}{x:Keyed}{Q:Keyed->SortSt->Prop} (e:arr[i]?=some x) (h:Q x st):wpS (model prog w) A E s (elem' arr i) Q st:=by
 rw[elem'_eq,e];exact wpS_pure h
def ZiB (left:Bool) (key:Keyed) (arr:Array Keyed) (base i:Nat):StateT SortSt Sem (Option Bool) :=
 elem' arr (base+i) >>= fun x=>if left=true then lt' x key else lt' key x >>= fun r=>pure (r.map (! ·))
theorem Zdw {left:Bool}{key:Keyed}{arr:Array Keyed}{base n hint:Nat}{Q:Option Nat->SortSt->Prop} (hA:Asks prog w A s O knd ok) (hk:kindOf st=knd) (hkey:ok key) (B:Nat->Bool)
    (hB:∀ i,i<n->∃ x,arr[base+i]?=some x/\ok x/\B i=if left=true then O.blt (O.ky x) (O.ky key) else !(O.blt (O.ky key) (O.ky x)))
    (mono:∀ i j,i<=j->j<n->B j=true->B i=true) (hh:hint<n)
    (h:∀ k,k<=n->(∀ i,i<k->B i=true)->(∀ i,k<=i->i<n->B i=false)->Q (some k) st):wpS (model prog w) A E s (ZfK left key arr base n hint) Q st:=by
  have bey:∀ i,i<n->∀ {Q':Option Bool->SortSt->Prop},Q' (some (B i)) st->wpS (model prog w) A E s (ZiB left key arr base i) Q' st:=by
    intro i hi Q' hq;obtain⟨x,e,hx,eb⟩:=hB i hi;refine wpS_bind (Zak e ?_);rw[eb] at hq
    cases left with
    | true=>simp only[if_true] at hq ⊢;exact ZeB hA hk hx hkey hq
    | false=>
      simp only[YaO,if_false] at hq ⊢;exact wpS_bind (ZeB hA hk hkey hx (wpS_pure hq))
  have monoF:∀ i j,i<=j->j<n->B i=false->B j=false:=by
    intro i j hij hj hf
    cases e:B j with
    | false=>rfl
    | true=>rw[mono i j hij hj e] at hf;cases hf
  have jp:∀ lo hi,lo<=hi->hi<=n->(∀ i,i<lo->B i=true)->(∀ i,hi<=i->i<n->B i=false) ->
      wpS (model prog w) A E s (forIn [:n] ((none : Option (Option Nat)), lo, hi) fun _ c => if c.2.1 ≥ c.2.2 then pure (Yce (none, c.2.1, c.2.2)) else ZiB left key arr base (c.2.1 + (c.2.2 - c.2.1) / 2) >>= fun x => match x with
          | some more=>if more=true then pure (Ya1 (none,c.2.1+(c.2.2 - c.2.1) / 2+1,c.2.2)) else pure (Ya1 (none,c.2.1,c.2.1+(c.2.2 - c.2.1) / 2))
          | _=>pure (Yce (some none,c.2.1,c.2.2)))
        (fun c st'=>st'=st/\∃ l k,c=(none,l,k)/\Q (some k) st) st:=by
    intro lo hi hle hin hlo hhi;refine wpS_forRange (I:=fun x c st'=>st'=st/\∃ l k,c=(none,l,k)/\l<=k/\k<=n/\k - l<=n - x/\(∀ i,i<l->B i=true)/\(∀ i,k<=i->i<n->B i=false)) ?step ?fin ⟨rfl,lo,hi,rfl,hle,hin,by (clear hle hh;omega),hlo,hhi⟩
    case fin=>
      rintro c st' ⟨rfl,l,k,rfl,h1,h2,h3,h4,h5⟩;have e:l=k:=by (clear h2 hin hle hh;omega)
      subst e;exact⟨rfl,l,l,rfl,h l h2 h4 h5⟩
    case step=>
      rintro x c st' _ hx ⟨rfl,l,k,rfl,h1,h2,h3,h4,h5⟩;dsimp only;by_cases hge:l ≥ k
      · rw[if_pos hge];have e:l=k:=by (clear h3 h2 hx hin hle hh;omega)
        subst e;exact wpS_pure ⟨rfl,l,l,rfl,h l h2 h4 h5⟩
      · rw[if_neg hge];have hm:l+(k - l) / 2<k:=by (clear h3 h2 h1 hx hin hle hh;omega)
        refine wpS_bind (bey _ (by (clear hm h3 h1 hx hin hle hh;omega)) ?_)
        cases e:B (l+(k - l) / 2) with
        | true=>
          simp only[if_true];exact wpS_pure ⟨rfl,_,_,rfl,by (clear hm h3 h2 h1 hx hin hle hh;omega),h2,by (clear hm hge h2 h1 hx hin hle hh;omega),fun i hi=>mono i _ (by (clear hm hge h3 h2 h1 hx hin hle hh;omega)) (by (clear hi hm h3 h1 hx hin hle hh;omega)) e,h5⟩
        | false=>
          simp only[YaO,if_false];exact wpS_pure ⟨rfl,_,_,rfl,by (clear hm hge h3 h2 h1 hx hin hle hh;omega),by (clear hm hge h3 hx hin hle hh;omega),by (clear hm hge h2 h1 hx hin hle hh;omega),h4,fun i h6 h7=>monoF _ i h6 h7 e⟩
  refine wpS_bind (bey hint hh ?_);dsimp only
  cases e0:B hint with
  | true=>
    simp only[if_true];refine wpS_bind (wpS_mono (wpS_forRange (I:=fun x c st'=>st'=st/\∃ l k,c=((none:Option (Option Nat)),l,k)/\l<k/\x+1<=k/\hint+l<n/\B (hint+l)=true)
      (Q:=fun c st'=>st'=st/\∃ l k,c=((none:Option (Option Nat)),l,k)/\l<k/\hint+l<n/\B (hint+l)=true/\(n - hint<=k∨(hint+k<n/\B (hint+k)=false))) ?step ?fin ⟨rfl,0,1,rfl,by (clear hh;omega),by (clear hh;omega),hh,e0⟩) ?post)
    case fin=>
      rintro c st' ⟨rfl,l,k,rfl,h1,h2,h3,h4⟩;exact⟨rfl,l,k,rfl,h1,h3,h4,.inl (by (clear h3 h1 hh;omega))⟩
    case step=>
      rintro x c st' _ hx ⟨rfl,l,k,rfl,h1,h2,h3,h4⟩;dsimp only;by_cases hge:k ≥ n - hint
      · rw[if_pos hge];exact wpS_pure ⟨rfl,l,k,rfl,h1,h3,h4,.inl hge⟩
      · rw[if_neg hge];refine wpS_bind (bey (hint+k) (by (clear h3 h2 h1 hx hh;omega)) ?_)
        cases e:B (hint+k) with
        | true=>
          simp only[YcZ,YaO,if_false];exact wpS_pure ⟨rfl,_,_,rfl,by (clear hge h3 h2 h1 hx hh;omega),by (clear hge h3 h1 hx hh;omega),by (clear h3 h2 h1 hx hh;omega),e⟩
        | false=>
          simp only[Bool.not_false,if_true];exact wpS_pure ⟨rfl,l,k,rfl,h1,h3,h4,.inr ⟨by (clear h3 h2 h1 hx hh;omega),e⟩⟩
    case post=>
      rintro c st' ⟨rfl,l,k,rfl,h1,h3,h4,h5⟩;dsimp only;refine wpS_bind (wpS_mono (jp (hint+l+1) (hint+min k (n - hint)) (by (clear h5 hh;omega)) (by (clear h5 h3 h1;omega)) (fun i hi=>mono i (hint+l) (by (clear h5 h3 h1 hh;omega)) h3 h4) (fun i h6 h7=>?_)) ?_)
      · rcases h5 with h5 | ⟨h5,h8⟩
        · (clear h3 h1 hh;omega)
        · exact monoF (hint+k) i (by (clear h5 h3 h1 hh;omega)) h7 h8
      · rintro c st' ⟨rfl,l,k,rfl,q⟩;exact wpS_pure q
  | false=>
    simp only[YaO,if_false];refine wpS_bind (wpS_mono (wpS_forRange (I:=fun x c st'=>st'=st/\∃ l k,c=((none:Option (Option Nat)),l,k)/\l<k/\x+1<=k/\l<=hint/\B (hint - l)=false)
      (Q:=fun c st'=>st'=st/\∃ l k,c=((none:Option (Option Nat)),l,k)/\l<k/\l<=hint/\B (hint - l)=false/\(hint+1<=k∨(k<=hint/\B (hint - k)=true))) ?step ?fin ⟨rfl,0,1,rfl,by (clear hh;omega),by (clear hh;omega),by (clear hh;omega),e0⟩) ?post)
    case fin=>
      rintro c st' ⟨rfl,l,k,rfl,h1,h2,h3,h4⟩;exact⟨rfl,l,k,rfl,h1,h3,h4,.inl (by (clear h3 h1;omega))⟩
    case step=>
      rintro x c st' _ hx ⟨rfl,l,k,rfl,h1,h2,h3,h4⟩;dsimp only;by_cases hge:k ≥ hint+1
      · rw[if_pos hge];exact wpS_pure ⟨rfl,l,k,rfl,h1,h3,h4,.inl hge⟩
      · rw[if_neg hge];refine wpS_bind (bey (hint - k) (by (clear hge h3 h2 h1 hx;omega)) ?_)
        cases e:B (hint - k) with
        | true=>
          simp only[if_true];exact wpS_pure ⟨rfl,l,k,rfl,h1,h3,h4,.inr ⟨by (clear h3 h2 h1 hx hh;omega),e⟩⟩
        | false=>
          simp only[YaO,if_false];exact wpS_pure ⟨rfl,_,_,rfl,by (clear hge h3 h2 h1 hx hh;omega),by (clear hge h3 h1 hx hh;omega),by (clear h3 h2 h1 hx hh;omega),e⟩
    case post=>
      rintro c st' ⟨rfl,l,k,rfl,h1,h3,h4,h5⟩;dsimp only;refine wpS_bind (wpS_mono (jp (hint+1 - min k (hint+1)) (hint - l) (by (clear h5 h3 hh;omega)) (by (clear h5 h3 h1;omega)) (fun i hi=>?_) (fun i h6 h7=>monoF _ i h6 h7 h4)) ?_)
      · rcases h5 with h5 | ⟨h5,h8⟩
        · (clear h3 h1 hh;omega)
        · exact mono i (hint - k) (by (clear h5 h3 h1 hh;omega)) (by (clear h5 hi h3 h1;omega)) h8
      · rintro c st' ⟨rfl,l,k,rfl,q⟩;exact wpS_pure q
end
section
variable {O:KO}{a b out:List Keyed}{ia ib:Nat}{x:Keyed}
theorem ZfP {l:List Keyed}{i:Nat}{x:Keyed} (e:l[i]?=some x):l.drop i=x::l.drop (i+1):=by
 obtain⟨h,rfl⟩:=Yab.mp e;exact YdN h
theorem Zgk (a:Array Keyed) (i:Nat):(a.extract i a.size).toList=a.toList.drop i:=by
 rw[YcE];simp only[Yea];exact Ybu (by simp)
theorem ZfM (a:Array Keyed) (i k:Nat):(a.extract i (i+k)).toList=(a.toList.drop i).take k:=by
 rw[YcE];simp[Yea]
structure MI (O:KO) (a b out:List Keyed) (ia ib:Nat):Prop where
 perm:(out++(a.drop ia++b.drop ib)).Perm (a++b)
 srt:O.Srt out
 le:∀ x∈out,∀ y∈a.drop ia++b.drop ib,O.le x y
theorem Zf2 (h:O.Srt out) (hx:∀ y∈out,O.le y x):O.Srt (out++[x]) :=
 YaS.mpr ⟨h,YdU _ _,fun y hy z hz=>by rw[YaI.mp hz];exact hx y hy⟩
theorem MI.takeA (h:MI O a b out ia ib) (sa:O.Srt a) (e:a[ia]?=some x) (hb:∀ y∈b.drop ib,O.le x y):MI O a b (out++[x]) (ia+1) ib:=by
 have ed:=ZfP e;have sd:O.Srt (x::a.drop (ia+1)):=ed ▸ sa.drop;refine⟨?_,Zf2 h.srt fun y hy=>h.le y hy x (by rw[ed];simp),fun y hy z hz=>?_⟩
 ·have p:=h.perm;rw[ed] at p;simpa using p
 ·rcases Yar.mp hy with hy | hy
  ·refine h.le y hy z ?_;rw[ed];rcases Yar.mp hz with hz | hz
   ·exact YaT _ (Yao _ hz)
   ·exact Yaq _ hz
  ·rw[YaI.mp hy];rcases Yar.mp hz with hz | hz
   ·exact (Yb3.mp sd).1 z hz
   ·exact hb z hz
theorem MI.takeB (h:MI O a b out ia ib) (sb:O.Srt b) (e:b[ib]?=some x) (ha:∀ y∈a.drop ia,O.le x y):MI O a b (out++[x]) ia (ib+1):=by
 have ed:=ZfP e;have sd:O.Srt (x::b.drop (ib+1)):=ed ▸ sb.drop;refine⟨?_,Zf2 h.srt fun y hy=>h.le y hy x (by rw[ed];simp),fun y hy z hz=>?_⟩
 ·have p:=h.perm;rw[ed] at p;refine Ydg ?_ p;rw[YaK];exact Yb2 _ (show List.Perm (x::(a.drop ia++b.drop (ib+1))) _ from YeI.symm)
 ·rcases Yar.mp hy with hy | hy
  ·refine h.le y hy z ?_;rw[ed];rcases Yar.mp hz with hz | hz
   ·exact YaT _ hz
   ·exact Yaq _ (Yao _ hz)
  ·rw[YaI.mp hy];rcases Yar.mp hz with hz | hz
   ·exact ha z hz
   ·exact (Yb3.mp sd).1 z hz
theorem ZeJ {l:List Keyed}{i k:Nat}{x:Keyed} (e:l[i+k]?=some x):(l.drop i).take (k+1)=(l.drop i).take k++[x]:=by
 rw[List.take_succ,YbF,e];rfl
theorem MI.takeAs (h:MI O a b out ia ib) (sa:O.Srt a):∀ k,ia+k<=a.length->(∀ i z,i<k->a[ia+i]?=some z->∀ y∈b.drop ib,O.le z y)->MI O a b (out++(a.drop ia).take k) (ia+k) ib
 | 0,_,_=>by simpa using h
 | k+1,hl,hz=>by
  have q:=MI.takeAs h sa k (by omega) fun i z hi e=>hz i z (by (clear hl;omega)) e;have e:a[ia+k]?=some a[ia+k]:=Yae (by omega);have r:=q.takeA sa e (hz k _ (by omega) e);rw[YaK,<- ZeJ e] at r;exact r
theorem MI.takeBs (h:MI O a b out ia ib) (sb:O.Srt b):∀ k,ib+k<=b.length->(∀ i z,i<k->b[ib+i]?=some z->∀ y∈a.drop ia,O.le z y)->MI O a b (out++(b.drop ib).take k) ia (ib+k)
 | 0,_,_=>by simpa using h
 | k+1,hl,hz=>by
  have q:=MI.takeBs h sb k (by omega) fun i z hi e=>hz i z (by (clear hl;omega)) e;have e:b[ib+k]?=some b[ib+k]:=Yae (by omega);have r:=q.takeB sb e (hz k _ (by omega) e);rw[YaK,<- ZeJ e] at r;exact r
def Mg (O:KO) (a b r:List Keyed):Prop:=r.Perm (a++b)/\O.Srt r
theorem MI.doneA (h:MI O a b out ia ib) (sa:O.Srt a) (e:b.length<=ib):Mg O a b (out++a.drop ia++b.drop ib):=by
 have eb:b.drop ib=[]:=List.drop_eq_nil_of_le e;refine⟨by rw[YaK];exact h.perm,?_⟩;rw[eb,Ybj];exact YaS.mpr ⟨h.srt,sa.drop,fun x hx y hy=>h.le x hx y (YaT _ hy)⟩
theorem MI.doneB (h:MI O a b out ia ib) (sa:O.Srt a) (sb:O.Srt b) (hl:∀ x∈b.drop ib,∀ y∈a.drop ia,O.le x y):Mg O a b (out++b.drop ib++a.drop ia):=by
 refine⟨by rw[YaK];exact (Yb2 _ Yd5).trans h.perm,?_⟩;rw[YaK];refine YaS.mpr ⟨h.srt,YaS.mpr ⟨sb.drop,sa.drop,hl⟩,fun x hx y hy=>h.le x hx y ?_⟩;rcases Yar.mp hy with hy | hy
 ·exact Yaq _ hy
 ·exact YaT _ hy
end
section
variable {prog:Program}{w:World}{A:Around}{E:Value->Shared->Prop}{s:Shared}{O:KO}{knd:SortKind}{ok:Keyed->Prop}{st:SortSt}
theorem ZaE {α:Type}{c:Prop} [Decidable c] {p q:StateT SortSt Sem α}{Q:α->SortSt->Prop} (h1:c->wpS (model prog w) A E s p Q st) (h2:¬ c->wpS (model prog w) A E s q Q st):wpS (model prog w) A E s (if c then p else q) Q st:=by
 by_cases h:c
 ·rw[if_pos h];exact h1 h
 ·rw[if_neg h];exact h2 h
def Gal (st st':SortSt):Prop:=kindOf st'=kindOf st/\arrOf st'=arrOf st/\pendingOf st'=pendingOf st/\failedOf st'=failedOf st
theorem Gal.refl:Gal st st:=⟨rfl,rfl,rfl,rfl⟩
theorem ZaZ {g:Nat}{st1:SortSt}{Q:Unit->SortSt->Prop} (hG:Gal st st1) (h:∀ st',Gal st st'->Q () st'):wpS (model prog w) A E s (ZgB g) Q st1 :=
 wpS_modify (h _ ⟨hG.1,hG.2.1,hG.2.2.1,hG.2.2.2⟩)
theorem Zcg {l:List Keyed} (sl:O.Srt l) {i j:Nat}{x y:Keyed} (hij:i<=j) (hx:l[i]?=some x) (hy:l[j]?=some y):O.le x y:=by
 obtain⟨h1,rfl⟩:=Yab.mp hx;obtain⟨h2,rfl⟩:=Yab.mp hy;rcases Yez hij with h | h
 ·exact YdL.mp sl i j h1 h2 h
 ·subst h;exact KO.le_refl
theorem ZaP {l:List Keyed}{i:Nat}{y:Keyed} (h:y∈l.drop i):∃ j,i<=j/\l[j]?=some y:=by
 obtain⟨j,hj,e⟩:=Yei.mp h;exact⟨i+j,by omega,by rw[<- YbF,Yae hj,e]⟩
theorem Zcy {l:List Keyed} (sl:O.Srt l) {i:Nat}{x:Keyed} (hx:l[i]?=some x):∀ y∈l.drop i,O.le x y:=fun y hy=>
 let ⟨_,hj,e⟩:=ZaP hy
 Zcg sl hj hx e
theorem ZaH {a:Array Keyed}{i:Nat} (h:i<a.size):∃ x,a[i]?=some x/\a.toList[i]?=some x/\x∈a.toList :=
 ⟨a[i],Ycj h,by rw[Yam];exact Ycj h,by simp⟩
theorem ZdS {a:Array Keyed}{i:Nat}{x:Keyed} (h:a[i]?=some x):a.toList[i]?=some x:=by rw[Yam];exact h
theorem ZbX {key:Keyed}{a:Array Keyed}{i n hint:Nat}{Q:Option Nat->SortSt->Prop} (hA:Asks prog w A s O knd ok) (hk:kindOf st=knd) (hkey:ok key) (oka:∀ x∈a.toList,ok x) (hi:i+n<=a.size)
  (sa:∀ p q x y,i<=p->p<=q->q<i+n->a[p]?=some x->a[q]?=some y->O.le x y) (hh:hint<n)
  (h:∀ k,k<=n->(∀ j z,j<k->a[i+j]?=some z->O.le z key)->(∀ j z,k<=j->j<n->a[i+j]?=some z->O.blt (O.ky key) (O.ky z)=true)->Q (some k) st):wpS (model prog w) A E s (ZfK false key a i n hint) Q st:=by
 refine Zdw hA hk hkey (fun j=>!(O.blt (O.ky key) (O.ky (a.getD (i+j) key)))) ?_ ?_ hh ?_
 ·intro j hj;obtain⟨x,e1,_,e3⟩:=ZaH (a:=a) (i:=i+j) (by (clear hh;omega));refine⟨x,e1,oka x e3,?_⟩;have e4:a.getD (i+j) key=x:=by rw[YaZ,e1];rfl
  simp[e4]
 ·intro p q hpq hq hb;obtain⟨x,e1,_,_⟩:=ZaH (a:=a) (i:=i+p) (by (clear hh;omega));obtain⟨y,f1,_,_⟩:=ZaH (a:=a) (i:=i+q) (by (clear hpq hh;omega));have e4:a.getD (i+p) key=x:=by rw[YaZ,e1];rfl
  have f4:a.getD (i+q) key=y:=by rw[YaZ,f1];rfl
  rw[f4] at hb;rw[e4];have z:O.le x key:=KO.le_trans (sa _ _ x y (by (clear hq hpq hh hi;omega)) (by (clear hq hh hi;omega)) (by (clear hpq hh hi;omega)) e1 f1) (show O.blt _ _=false by simpa using hb);have z:O.blt (O.ky key) (O.ky x)=false:=z;simpa using z
 ·intro k hk1 h1 h2;refine h k hk1 (fun j z hj e=>?_) (fun j z hj hj2 e=>?_)
  ·have e4:a.getD (i+j) key=z:=by rw[YaZ,e];rfl
   have:=h1 j hj;rw[e4] at this;exact (show O.blt _ _=false by simpa using this)
  ·have e4:a.getD (i+j) key=z:=by rw[YaZ,e];rfl
   have:=h2 j hj hj2;rw[e4] at this;simpa using this
theorem Za3 {key:Keyed}{a:Array Keyed}{i n hint:Nat}{Q:Option Nat->SortSt->Prop} (hA:Asks prog w A s O knd ok) (hk:kindOf st=knd) (hkey:ok key) (oka:∀ x∈a.toList,ok x) (hi:i+n<=a.size)
  (sa:∀ p q x y,i<=p->p<=q->q<i+n->a[p]?=some x->a[q]?=some y->O.le x y) (hh:hint<n)
  (h:∀ k,k<=n->(∀ j z,j<k->a[i+j]?=some z->O.blt (O.ky z) (O.ky key)=true)->(∀ j z,k<=j->j<n->a[i+j]?=some z->O.le key z)->Q (some k) st):wpS (model prog w) A E s (ZfK true key a i n hint) Q st:=by
 refine Zdw hA hk hkey (fun j=>O.blt (O.ky (a.getD (i+j) key)) (O.ky key)) ?_ ?_ hh ?_
 ·intro j hj;obtain⟨x,e1,_,e3⟩:=ZaH (a:=a) (i:=i+j) (by (clear hh;omega));refine⟨x,e1,oka x e3,?_⟩;have e4:a.getD (i+j) key=x:=by rw[YaZ,e1];rfl
  simp[e4]
 ·intro p q hpq hq hb;obtain⟨x,e1,_,_⟩:=ZaH (a:=a) (i:=i+p) (by (clear hh;omega));obtain⟨y,f1,_,_⟩:=ZaH (a:=a) (i:=i+q) (by (clear hpq hh;omega));have e4:a.getD (i+p) key=x:=by rw[YaZ,e1];rfl
  have f4:a.getD (i+q) key=y:=by rw[YaZ,f1];rfl
  rw[f4] at hb;rw[e4];exact KeyOrd.klt_of_kle_of_klt (O:=O.toKeyOrd) (sa _ _ x y (by (clear hq hpq hh hi;omega)) (by (clear hq hh hi;omega)) (by (clear hpq hh hi;omega)) e1 f1) hb
 ·intro k hk1 h1 h2;refine h k hk1 (fun j z hj e=>?_) (fun j z hj hj2 e=>?_)
  ·have e4:a.getD (i+j) key=z:=by rw[YaZ,e];rfl
   have:=h1 j hj;rw[e4] at this;exact this
  ·have e4:a.getD (i+j) key=z:=by rw[YaZ,e];rfl
   have:=h2 j hj hj2;rw[e4] at this;exact this
theorem srtA {a:Array Keyed} (sa:O.Srt a.toList) (i n:Nat):∀ p q x y,i<=p->p<=q->q<i+n->a[p]?=some x->a[q]?=some y->O.le x y:=fun p q x y _ h _ e1 e2=>Zcg sa h (ZdS e1) (ZdS e2)
theorem Zfh {a b:Array Keyed}{Q:Array Keyed->SortSt->Prop} (hA:Asks prog w A s O knd ok) (hk:kindOf st=knd) (oka:∀ x∈a.toList,ok x) (okb:∀ x∈b.toList,ok x) (sa:O.Srt a.toList) (sb:O.Srt b.toList) (ha:1<=a.size) (hb:1<=b.size)
  (hfirst:∀ y,b[0]?=some y->∀ x∈a.toList,O.le y x) (hlast:∀ z,a[a.size - 1]?=some z->∀ y∈b.toList,O.blt (O.ky y) (O.ky z)=true)
  (h:∀ r st',Gal st st'->Mg O a.toList b.toList r.toList->Q r st'):wpS (model prog w) A E s (Zjp a b) Q st:=by
 obtain⟨b0,eb0,eb0',_⟩:=ZaH (a:=b) (i:=0) (by (clear ha;omega));have done:∀ {out:Array Keyed}{ia ib:Nat},MI O a.toList b.toList out.toList ia ib->b.size<=ib->Mg O a.toList b.toList (out++a.extract ia a.size++b.extract ib b.size).toList:=by
  intro out ia ib m hl;rw[Ya2,Ya2,Zgk,Zgk];exact m.doneA sa hl
 have last:∀ {out:Array Keyed}{ia ib:Nat},MI O a.toList b.toList out.toList ia ib->ia+1=a.size->Mg O a.toList b.toList (out++b.extract ib b.size++a.extract ia a.size).toList:=by
  intro out ia ib m hl;rw[Ya2,Ya2,Zgk,Zgk];refine m.doneB sa sb fun x hx y hy=>?_;obtain⟨j,hj,e⟩:=ZaP hy;have hj2:j<a.size:=(Yab.mp e).1
  have e2:j=a.size - 1:=by (clear hb ha;omega)
  rw[e2] at e;rw[Yam] at e;exact KO.le_of_lt (hlast y e x (YbT hx))
 have pB:∀ {out:Array Keyed}{ia ib:Nat}{y:Keyed},MI O a.toList b.toList out.toList ia ib->b[ib]?=some y->(∀ z∈a.toList.drop ia,O.le y z)->MI O a.toList b.toList (out.push y).toList ia (ib+1):=by
  intro out ia ib y m e hz;rw[Ycu];exact m.takeB sb (ZdS e) hz
 have pA:∀ {out:Array Keyed}{ia ib:Nat}{y:Keyed},MI O a.toList b.toList out.toList ia ib->a[ia]?=some y->(∀ z∈b.toList.drop ib,O.le y z)->MI O a.toList b.toList (out.push y).toList (ia+1) ib:=by
  intro out ia ib y m e hz;rw[Ycu];exact m.takeA sa (ZdS e) hz
 refine wpS_bind (wpS_lift (wpAny_rule ⟨rfl,?_⟩));refine wpS_bind (Zak eb0 ?_);have m0:MI O a.toList b.toList #[b0].toList 0 1 :=
  MI.takeB (out:=[]) (ib:=0) ⟨by simp,Ycn,fun x hx=>by cases hx⟩ sb eb0' (by simpa using hfirst b0 eb0)
 dsimp only;by_cases c1:1=b.size
 ·rw[if_pos (by simpa using c1)];exact wpS_pure (h _ _ Gal.refl (done m0 (by (clear hb ha;omega))))
 rw[if_neg (by simpa using c1)];by_cases c2:0+1=a.size
 ·rw[if_pos (by simpa using c2)];exact wpS_pure (h _ _ Gal.refl (last m0 (by (clear c1 hb ha;omega))))
 rw[if_neg (by simpa using c2)];refine wpS_bind (wpS_get ?_);refine wpS_bind (wpS_mono (wpS_forRange
  (I:=fun x c st'=>Gal st st'/\∃ (out:Array Keyed) (ia ib g:Nat),c=((none:Option (Array Keyed)),out,ia,ib,g)/\MI O a.toList b.toList out.toList ia ib/\ia+1<a.size/\ib<b.size/\x<=ia+ib)
  (Q:=fun c st'=>Gal st st'/\∃ (r out:Array Keyed) (ia ib g:Nat),c=(some r,out,ia,ib,g)/\Mg O a.toList b.toList r.toList) ?step ?fin ⟨Gal.refl,#[b0],0,1,gallopOf st,rfl,m0,by (clear c1 hb;omega),by (clear c2 ha;omega),by (clear c2 c1 hb ha;omega)⟩) ?post)
 case fin=>
  rintro c st' ⟨_,out,ia,ib,g,rfl,_,h1,h2,h3⟩
  (clear c2 c1 hb ha;omega)
 case post=>
  rintro c st' ⟨hG,r,out,ia,ib,g,rfl,hm⟩;exact wpS_pure (h r st' hG hm)
 case step=>
  rintro x c st1 _ hx ⟨hG1,out,ia,ib,g,rfl,hm,h1,h2,h3⟩;dsimp only;have hk1:kindOf st1=knd:=hG1.1.trans hk;refine wpS_bind (wpS_mono (wpS_forRange
   (I:=fun y c st'=>st'=st1/\∃ (out:Array Keyed) (ia ib p q:Nat),c=((none:Option (Array Keyed)),out,ia,ib,p,q)/\MI O a.toList b.toList out.toList ia ib/\ia+1<a.size/\ib<b.size/\x+y<=ia+ib)
   (Q:=fun c st'=>st'=st1/\((∃ (r out:Array Keyed) (ia ib p q:Nat),c=(some r,out,ia,ib,p,q)/\Mg O a.toList b.toList r.toList) ∨
    (∃ (out:Array Keyed) (ia ib p q:Nat),c=(none,out,ia,ib,p,q)/\MI O a.toList b.toList out.toList ia ib/\ia+1<a.size/\ib<b.size/\x+1<=ia+ib))) ?step1 ?fin1 ⟨rfl,out,ia,ib,0,0,rfl,hm,h1,h2,by (clear h2 h1 hx c2 c1 hb ha;omega)⟩) ?post1)
  case fin1=>
   rintro c st' ⟨rfl,out,ia,ib,p,q,rfl,hm,h1,h2,h3⟩;exact⟨rfl,.inr ⟨out,ia,ib,p,q,rfl,hm,h1,h2,by (clear h2 h1 hx c2 c1 hb ha;omega)⟩⟩
  case step1=>
   rintro y c st' _ hy ⟨rfl,out,ia,ib,p,q,rfl,hm,h1,h2,h3⟩;dsimp only;obtain⟨u,eu,eu',mu⟩:=ZaH (a:=b) h2;obtain⟨v,ev,ev',mv⟩:=ZaH (a:=a) (i:=ia) (by (clear h3 h2 hy hx c2 c1 hb ha;omega));refine wpS_bind (Zak eu (wpS_bind (Zak ev ?_)));refine wpS_bind (ZeB hA hk1 (okb u mu) (oka v mv) ?_)
   cases e:O.blt (O.ky u) (O.ky v) with
   | true=>
    simp only[if_true];refine wpS_bind (Zak eu ?_);have m2:=pB hm eu fun z hz=>KO.le_trans (KO.le_of_lt e) (Zcy sa ev' z hz);by_cases c3:ib+1=b.size
    ·rw[if_pos (by simpa using c3)];exact wpS_pure ⟨rfl,.inl ⟨_,_,_,_,_,_,rfl,done m2 (by (clear h3 h2 h1 hy hx c2 c1 hb ha;omega))⟩⟩
    rw[if_neg (by simpa using c3)];refine ZaE (fun _=>?_) (fun _=>?_)
    ·exact wpS_pure ⟨rfl,.inr ⟨_,_,_,_,_,rfl,m2,by (clear c3 h3 h2 hy hx c2 c1 hb ha;omega),by (clear h3 h1 hy hx c2 c1 hb ha;omega),by (clear c3 h2 h1 hy hx c2 c1 hb ha;omega)⟩⟩
    ·exact wpS_pure ⟨rfl,_,_,_,_,_,rfl,m2,by (clear c3 h3 h2 hy hx c2 c1 hb ha;omega),by (clear h3 h1 hy hx c2 c1 hb ha;omega),by (clear c3 h2 h1 hy hx c2 c1 hb ha;omega)⟩
   | false=>
    simp only[YaO,if_false];refine wpS_bind (Zak ev ?_);have m2:=pA hm ev fun z hz=>KO.le_trans (show O.le v u from e) (Zcy sb eu' z hz);by_cases c3:ia+1+1=a.size
    ·rw[if_pos (by simpa using c3)];exact wpS_pure ⟨rfl,.inl ⟨_,_,_,_,_,_,rfl,last m2 c3⟩⟩
    rw[if_neg (by simpa using c3)];refine ZaE (fun _=>?_) (fun _=>?_)
    ·exact wpS_pure ⟨rfl,.inr ⟨_,_,_,_,_,rfl,m2,by (clear h3 h2 hy hx c2 c1 hb ha;omega),by (clear c3 h3 h1 hy hx c2 c1 hb ha;omega),by (clear c3 h2 h1 hy hx c2 c1 hb ha;omega)⟩⟩
    ·exact wpS_pure ⟨rfl,_,_,_,_,_,rfl,m2,by (clear h3 h2 hy hx c2 c1 hb ha;omega),by (clear c3 h3 h1 hy hx c2 c1 hb ha;omega),by (clear c3 h2 h1 hy hx c2 c1 hb ha;omega)⟩
  case post1=>
   rintro c st' ⟨rfl,⟨r,out,ia,ib,p,q,rfl,hr⟩ | ⟨out,ia,ib,p,q,rfl,hm,h1,h2,h3⟩⟩
   ·exact wpS_pure ⟨hG1,_,_,_,_,_,rfl,hr⟩
   dsimp only;refine wpS_bind (wpS_lift (wpAny_rule ⟨rfl,?_⟩));refine wpS_bind (wpS_mono (wpS_forRange
    (I:=fun y c st'=>Gal st st'/\∃ (out:Array Keyed) (ia ib g p q:Nat),c=((none:Option (Array Keyed)),out,ia,ib,g,p,q)/\MI O a.toList b.toList out.toList ia ib/\ia+1<a.size/\ib<b.size/\x+1<=ia+ib)
    (Q:=fun c st'=>Gal st st'/\((∃ (r out:Array Keyed) (ia ib g p q:Nat),c=(some r,out,ia,ib,g,p,q)/\Mg O a.toList b.toList r.toList) ∨
     (∃ (out:Array Keyed) (ia ib g p q:Nat),c=(none,out,ia,ib,g,p,q)/\MI O a.toList b.toList out.toList ia ib/\ia+1<a.size/\ib<b.size/\x+1<=ia+ib))) ?step2 ?fin2 ⟨hG1,out,ia,ib,g+1,p,q,rfl,hm,h1,h2,h3⟩) ?post2)
   case fin2=>
    rintro c st' ⟨hG,out,ia,ib,g,p,q,rfl,hm,h1,h2,h3⟩;exact⟨hG,.inr ⟨out,ia,ib,g,p,q,rfl,hm,h1,h2,h3⟩⟩
   case post2=>
    rintro c st' ⟨hG,⟨r,out,ia,ib,g,p,q,rfl,hr⟩ | ⟨out,ia,ib,g,p,q,rfl,hm,h1,h2,h3⟩⟩
    ·exact wpS_pure ⟨hG,_,_,_,_,_,rfl,hr⟩
    exact wpS_bind (ZaZ hG fun st2 hG2=>wpS_pure ⟨hG2,_,_,_,_,rfl,hm,h1,h2,h3⟩)
   case step2=>
    rintro y c st' _ hy ⟨hG,out,ia,ib,g,p,q,rfl,hm,h1,h2,h3⟩;dsimp only;obtain⟨u,eu,eu',mu⟩:=ZaH (a:=b) h2;refine ZaE (fun cg=>?_) (fun cg=>?_)
    all_goals
     refine wpS_bind (ZaZ hG fun st2 hG2=>wpS_bind (Zak eu ?_));refine wpS_bind (ZbX hA (hG2.1.trans hk) (okb u mu) oka (by (clear cg h3 h2 hy hx c2 c1 hb ha;omega)) (srtA sa _ _) (by (clear cg h3 h2 hy hx c2 c1 hb ha;omega)) fun k hk1 b1 b2=>?_);have m3:=hm.takeAs sa k (by simp;(clear cg h3 h2 hy hx c2 c1 hb ha;omega)) fun i z hi e y hy=>KO.le_trans (b1 i z hi (by rw[<- Yam];exact e)) (Zcy sb eu' y hy);have hu:∀ z∈a.toList.drop (ia+k),O.le u z:=by
      intro z hz;obtain⟨j,hj,e⟩:=ZaP hz;have hj2:j<a.size:=(Yab.mp e).1
      refine KO.le_of_lt (b2 (j - ia) z (by (clear hj2 hk1 cg h3 h2 h1 hy hx c2 c1 hb ha;omega)) (by (clear hj hk1 cg h3 h2 hy hx c2 c1 hb ha;omega)) ?_);rw[show ia+(j - ia)=j by (clear hj2 hk1 cg h3 h2 h1 hy hx c2 c1 hb ha;omega),<- Yam];exact e
     have hka:ia+k<a.size:=by
      rcases Yez hk1 with z | z
      ·(clear hk1 cg h3 h2 h1 hy hx c2 c1 hb ha;omega)
      ·obtain⟨zl,el,_,_⟩:=ZaH (a:=a) (i:=a.size - 1) (by (clear z hk1 cg h3 h2 h1 hy hx c2 c1 hb ha;omega));have q1:=hlast zl el u mu;have q2:=b1 (a.size - 1 - ia) zl (by (clear hk1 cg h3 h2 hy hx c2 c1 hb ha;omega)) (by rw[show ia+(a.size - 1 - ia)=a.size - 1 by (clear z hk1 cg h3 h2 hy hx c2 c1 hb ha;omega)];exact el);rw[show O.blt (O.ky u) (O.ky zl)=false from q2] at q1;cases q1
     dsimp only;by_cases ck:k > 0
     ·rw[if_pos ck];rw[<- ZfM,<- Ya2] at m3;by_cases c3:ia+k+1=a.size
      ·rw[if_pos (by simpa using c3)];exact wpS_pure ⟨hG2,.inl ⟨_,_,_,_,_,_,_,rfl,last m3 c3⟩⟩
      rw[if_neg (by simpa using c3),if_neg (by simp;(clear c3 ck hk1 cg h3 h2 h1 hy hx c2 c1 hb ha;omega))];refine wpS_bind (Zak eu ?_);have m4:=pB m3 eu hu;by_cases c4:ib+1=b.size
      ·rw[if_pos (by simpa using c4)];exact wpS_pure ⟨hG2,.inl ⟨_,_,_,_,_,_,_,rfl,done m4 (by (clear c3 ck hka hk1 cg h3 h2 h1 hy hx c2 c1 hb ha;omega))⟩⟩
      rw[if_neg (by simpa using c4)];obtain⟨v,ev,ev',mv⟩:=ZaH (a:=a) (i:=ia+k) (by (clear c4 c3 ck hk1 cg h3 h2 h1 hy hx c2 c1 hb ha;omega));refine wpS_bind (Zak ev ?_);refine wpS_bind (Za3 hA (hG2.1.trans hk) (oka v mv) okb (by (clear c4 c3 ck hka hk1 cg h3 h1 hy hx c2 c1 hb ha;omega)) (srtA sb _ _) (by (clear c3 ck hka hk1 cg h3 h1 hy hx c2 c1 hb ha;omega)) fun k2 hk2 d1 d2=>?_);have m5:=m4.takeBs sb k2 (by simp;(clear c4 c3 ck hka hk1 cg h3 h1 hy hx c2 c1 hb ha;omega)) fun i z hi e y hy=>KO.le_trans (KO.le_of_lt (d1 i z hi (by rw[<- Yam];exact e))) (Zcy sa ev' y hy);have hv:∀ z∈b.toList.drop (ib+1+k2),O.le v z:=by
       intro z hz;obtain⟨j,hj,e⟩:=ZaP hz;have hj2:j<b.size:=(Yab.mp e).1
       refine d2 (j - (ib+1)) z (by (clear hj2 hk2 c4 c3 ck hka hk1 cg h3 h2 h1 hy hx c2 c1 hb ha;omega)) (by (clear hj hk2 c3 ck hka hk1 cg h3 h1 hy hx c2 c1 hb ha;omega)) ?_;rw[show ib+1+(j - (ib+1))=j by (clear hj2 hk2 c4 c3 ck hka hk1 cg h3 h2 h1 hy hx c2 c1 hb ha;omega),<- Yam];exact e
      dsimp only;by_cases ck2:k2 > 0
      ·rw[if_pos ck2];rw[<- ZfM,<- Ya2] at m5;by_cases c6:ib+1+k2=b.size
       ·rw[if_pos (by simpa using c6)];exact wpS_pure ⟨hG2,.inl ⟨_,_,_,_,_,_,_,rfl,done m5 (by (clear ck2 hk2 c4 c3 ck hka hk1 cg h3 h2 h1 hy hx c2 c1 hb ha;omega))⟩⟩
       rw[if_neg (by simpa using c6)];refine wpS_bind (Zak ev ?_);have m7:=pA m5 ev hv;by_cases c7:ia+k+1+1=a.size
       ·rw[if_pos (by simpa using c7)];exact wpS_pure ⟨hG2,.inl ⟨_,_,_,_,_,_,_,rfl,last m7 c7⟩⟩
       rw[if_neg (by simpa using c7)];refine ZaE (fun _=>?_) (fun _=>?_)
       ·exact wpS_pure ⟨hG2,.inr ⟨_,_,_,_,_,_,rfl,m7,by (clear c6 ck2 hk2 c4 ck hk1 cg h3 h2 h1 hy hx c2 c1 hb ha;omega),by (clear c7 ck2 c4 c3 ck hka hk1 cg h3 h1 hy hx c2 c1 hb ha;omega),by (clear c7 c6 ck2 hk2 c4 c3 ck hka hk1 cg h2 h1 hy hx c2 c1 hb ha;omega)⟩⟩
       ·exact wpS_pure ⟨hG2,_,_,_,_,_,_,rfl,m7,by (clear c6 ck2 hk2 c4 ck hk1 cg h3 h2 h1 hy hx c2 c1 hb ha;omega),by (clear c7 ck2 c4 c3 ck hka hk1 cg h3 h1 hy hx c2 c1 hb ha;omega),by (clear c7 c6 ck2 hk2 c4 c3 ck hka hk1 cg h2 h1 hy hx c2 c1 hb ha;omega)⟩
      ·rw[if_neg ck2];have k0:k2=0:=by (clear hk2 c4 c3 ck hka hk1 cg h3 h2 h1 hy hx c2 c1 hb ha;omega)
       subst k0;rw[YbQ,Ybj] at m5;refine wpS_bind (Zak ev ?_);have m7:=pA m5 ev hv;by_cases c7:ia+k+1+1=a.size
       ·rw[if_pos (by simpa using c7)];exact wpS_pure ⟨hG2,.inl ⟨_,_,_,_,_,_,_,rfl,last m7 c7⟩⟩
       rw[if_neg (by simpa using c7)];refine ZaE (fun _=>?_) (fun _=>?_)
       ·exact wpS_pure ⟨hG2,.inr ⟨_,_,_,_,_,_,rfl,m7,by (clear ck2 hk2 c4 ck hk1 cg h3 h2 h1 hy hx c2 c1 hb ha;omega),by (clear c7 ck2 hk2 c3 ck hka hk1 cg h3 h1 hy hx c2 c1 hb ha;omega),by (clear c7 ck2 hk2 c4 c3 ck hka hk1 cg h2 h1 hy hx c2 c1 hb ha;omega)⟩⟩
       ·exact wpS_pure ⟨hG2,_,_,_,_,_,_,rfl,m7,by (clear ck2 hk2 c4 ck hk1 cg h3 h2 h1 hy hx c2 c1 hb ha;omega),by (clear c7 ck2 hk2 c3 ck hka hk1 cg h3 h1 hy hx c2 c1 hb ha;omega),by (clear c7 ck2 hk2 c4 c3 ck hka hk1 cg h2 h1 hy hx c2 c1 hb ha;omega)⟩
     ·rw[if_neg ck];have k0:k=0:=by (clear hka hk1 cg h3 h2 h1 hy hx c2 c1 hb ha;omega)
      subst k0;rw[YbQ,Ybj] at m3;refine wpS_bind (Zak eu ?_);have m4:=pB m3 eu hu;by_cases c4:ib+1=b.size
      ·rw[if_pos (by simpa using c4)];exact wpS_pure ⟨hG2,.inl ⟨_,_,_,_,_,_,_,rfl,done m4 (by (clear ck hka hk1 cg h3 h2 h1 hy hx c2 c1 hb ha;omega))⟩⟩
      rw[if_neg (by simpa using c4)];obtain⟨v,ev,ev',mv⟩:=ZaH (a:=a) (i:=ia+0) (by (clear c4 ck hka hk1 cg h3 h2 hy hx c2 c1 hb ha;omega));refine wpS_bind (Zak ev ?_);refine wpS_bind (Za3 hA (hG2.1.trans hk) (oka v mv) okb (by (clear c4 ck hka hk1 cg h3 h1 hy hx c2 c1 hb ha;omega)) (srtA sb _ _) (by (clear ck hka hk1 cg h3 h1 hy hx c2 c1 hb ha;omega)) fun k2 hk2 d1 d2=>?_);have m5:=m4.takeBs sb k2 (by simp;(clear c4 ck hka hk1 cg h3 h1 hy hx c2 c1 hb ha;omega)) fun i z hi e y hy=>KO.le_trans (KO.le_of_lt (d1 i z hi (by rw[<- Yam];exact e))) (Zcy sa ev' y hy);have hv:∀ z∈b.toList.drop (ib+1+k2),O.le v z:=by
       intro z hz;obtain⟨j,hj,e⟩:=ZaP hz;have hj2:j<b.size:=(Yab.mp e).1
       refine d2 (j - (ib+1)) z (by (clear hj2 hk2 c4 ck hka hk1 cg h3 h2 h1 hy hx c2 c1 hb ha;omega)) (by (clear hj hk2 ck hka hk1 cg h3 h1 hy hx c2 c1 hb ha;omega)) ?_;rw[show ib+1+(j - (ib+1))=j by (clear hj2 hk2 c4 ck hka hk1 cg h3 h2 h1 hy hx c2 c1 hb ha;omega),<- Yam];exact e
      dsimp only;by_cases ck2:k2 > 0
      ·rw[if_pos ck2];rw[<- ZfM,<- Ya2] at m5;by_cases c6:ib+1+k2=b.size
       ·rw[if_pos (by simpa using c6)];exact wpS_pure ⟨hG2,.inl ⟨_,_,_,_,_,_,_,rfl,done m5 (by (clear ck2 hk2 c4 ck hka hk1 cg h3 h2 h1 hy hx c2 c1 hb ha;omega))⟩⟩
       rw[if_neg (by simpa using c6)];refine wpS_bind (Zak ev ?_);have m7:=pA m5 ev hv;by_cases c7:ia+0+1+1=a.size
       ·rw[if_pos (by simpa using c7)];exact wpS_pure ⟨hG2,.inl ⟨_,_,_,_,_,_,_,rfl,last m7 c7⟩⟩
       rw[if_neg (by simpa using c7)];refine ZaE (fun _=>?_) (fun _=>?_)
       ·exact wpS_pure ⟨hG2,.inr ⟨_,_,_,_,_,_,rfl,m7,by (clear c6 ck2 hk2 c4 ck hka hk1 cg h3 h2 hy hx c2 c1 hb ha;omega),by (clear c7 ck2 c4 ck hka hk1 cg h3 h1 hy hx c2 c1 hb ha;omega),by (clear c7 c6 ck2 hk2 c4 ck hka hk1 cg h2 h1 hy hx c2 c1 hb ha;omega)⟩⟩
       ·exact wpS_pure ⟨hG2,_,_,_,_,_,_,rfl,m7,by (clear c6 ck2 hk2 c4 ck hka hk1 cg h3 h2 hy hx c2 c1 hb ha;omega),by (clear c7 ck2 c4 ck hka hk1 cg h3 h1 hy hx c2 c1 hb ha;omega),by (clear c7 c6 ck2 hk2 c4 ck hka hk1 cg h2 h1 hy hx c2 c1 hb ha;omega)⟩
      ·rw[if_neg ck2];have k0:k2=0:=by (clear hk2 c4 ck hka hk1 cg h3 h2 h1 hy hx c2 c1 hb ha;omega)
       subst k0;rw[YbQ,Ybj] at m5;refine wpS_bind (Zak ev ?_);have m7:=pA m5 ev hv;by_cases c7:ia+0+1+1=a.size
       ·rw[if_pos (by simpa using c7)];exact wpS_pure ⟨hG2,.inl ⟨_,_,_,_,_,_,_,rfl,last m7 c7⟩⟩
       rw[if_neg (by simpa using c7)];refine ZaE (fun _=>?_) (fun _=>?_)
       ·exact wpS_pure ⟨hG2,.inr ⟨_,_,_,_,_,_,rfl,m7,by (clear ck2 hk2 c4 ck hka hk1 cg h3 h2 hy hx c2 c1 hb ha;omega),by (clear c7 ck2 hk2 ck hka hk1 cg h3 h1 hy hx c2 c1 hb ha;omega),by (clear c7 ck2 hk2 c4 ck hka hk1 cg h2 h1 hy hx c2 c1 hb ha;omega)⟩⟩
       ·exact wpS_pure ⟨hG2,_,_,_,_,_,_,rfl,m7,by (clear ck2 hk2 c4 ck hka hk1 cg h3 h2 hy hx c2 c1 hb ha;omega),by (clear c7 ck2 hk2 ck hka hk1 cg h3 h1 hy hx c2 c1 hb ha;omega),by (clear c7 ck2 hk2 c4 ck hka hk1 cg h2 h1 hy hx c2 c1 hb ha;omega)⟩
end
section
variable {O:KO}{a b out:List Keyed}{na nb:Nat}{x:Keyed}
structure MH (O:KO) (a b out:List Keyed) (na nb:Nat):Prop where
 perm:(a.take na++b.take nb++out.reverse).Perm (a++b)
 srt:O.Srt out.reverse
 le:∀ x∈a.take na++b.take nb,∀ y∈out,O.le x y
theorem Zg8 {l:List Keyed}{i:Nat}{x:Keyed} (e:l[i]?=some x):l.take (i+1)=l.take i++[x]:=by
 rw[List.take_succ,e];rfl
theorem MH.takeA (h:MH O a b out (na+1) nb) (sa:O.Srt a) (e:a[na]?=some x) (hb:∀ y∈b.take nb,O.le y x):MH O a b (out++[x]) na nb:=by
 have ed:=Zg8 e;have sd:O.Srt (a.take na++[x]):=ed ▸ sa.take;have hx:x∈a.take (na+1)++b.take nb:=by rw[ed];simp
 refine⟨?_,?_,fun y hy z hz=>?_⟩
 ·have p:=h.perm;rw[ed] at p;refine Ydg ?_ p;rw[Ycp];simp only[Ybx,YcC,YdA,YaK,Yd4];refine Yb2 _ ?_;exact (YeI (a:=x) (l₁:=b.take nb) (l₂:=out.reverse))
 ·rw[Ycp];exact Yb3.mpr ⟨fun y hy=>h.le x hx y (Ybo.mp hy),h.srt⟩
 ·rcases Yar.mp hz with hz | hz
  ·refine h.le y ?_ z hz;rw[ed];rcases Yar.mp hy with hy | hy
   ·exact YaT _ (YaT _ hy)
   ·exact Yaq _ hy
  ·rw[YaI.mp hz];rcases Yar.mp hy with hy | hy
   ·exact (YaS.mp sd).2.2 y hy x (by simp)
   ·exact hb y hy
theorem MH.takeB (h:MH O a b out na (nb+1)) (sb:O.Srt b) (e:b[nb]?=some x) (ha:∀ y∈a.take na,O.le y x):MH O a b (out++[x]) na nb:=by
 have ed:=Zg8 e;have sd:O.Srt (b.take nb++[x]):=ed ▸ sb.take;have hx:x∈a.take na++b.take (nb+1):=by rw[ed];simp
 refine⟨?_,?_,fun y hy z hz=>?_⟩
 ·have p:=h.perm;rw[ed] at p;rw[Ycp];simpa using p
 ·rw[Ycp];exact Yb3.mpr ⟨fun y hy=>h.le x hx y (Ybo.mp hy),h.srt⟩
 ·rcases Yar.mp hz with hz | hz
  ·refine h.le y ?_ z hz;rw[ed];rcases Yar.mp hy with hy | hy
   ·exact YaT _ hy
   ·exact Yaq _ (YaT _ hy)
  ·rw[YaI.mp hz];rcases Yar.mp hy with hy | hy
   ·exact ha y hy
   ·exact (YaS.mp sd).2.2 y hy x (by simp)
theorem Zf4 {l:List Keyed}{i d:Nat}{x:Keyed} (e:l[i]?=some x):(l.drop i).take (d+1)=x::(l.drop (i+1)).take d:=by
 rw[ZfP e];rfl
theorem MH.takeAs (h:MH O a b out na nb) (sa:O.Srt a) (hn:na<=a.length):∀ d,d<=na->(∀ i z,na - d<=i->i<na->a[i]?=some z->∀ y∈b.take nb,O.le y z)->MH O a b (out++((a.drop (na - d)).take d).reverse) (na - d) nb
 | 0,_,_=>by simpa using h
 | d+1,hl,hz=>by
  have q:=MH.takeAs h sa hn d (by (clear hn;omega)) fun i z h1 h2 e=>hz i z (by (clear h2 hl hn;omega)) h2 e;have e:a[na - (d+1)]?=some a[na - (d+1)]:=Yae (by omega);rw[show na - d=na - (d+1)+1 by omega] at q;have r:=q.takeA sa e (hz _ _ (by omega) (by omega) e);rw[YaK,<- Ybx,<- Zf4 e] at r;exact r
theorem MH.takeBs (h:MH O a b out na nb) (sb:O.Srt b) (hn:nb<=b.length):∀ d,d<=nb->(∀ i z,nb - d<=i->i<nb->b[i]?=some z->∀ y∈a.take na,O.le y z)->MH O a b (out++((b.drop (nb - d)).take d).reverse) na (nb - d)
 | 0,_,_=>by simpa using h
 | d+1,hl,hz=>by
  have q:=MH.takeBs h sb hn d (by (clear hn;omega)) fun i z h1 h2 e=>hz i z (by (clear h2 hl hn;omega)) h2 e;have e:b[nb - (d+1)]?=some b[nb - (d+1)]:=Yae (by omega);rw[show nb - d=nb - (d+1)+1 by omega] at q;have r:=q.takeB sb e (hz _ _ (by omega) (by omega) e);rw[YaK,<- Ybx,<- Zf4 e] at r;exact r
theorem MH.doneA (h:MH O a b out 0 nb) (sb:O.Srt b):Mg O a b (a.take 0++b.take nb++out.reverse):=by
 refine⟨h.perm,?_⟩;rw[YbQ,YdA];exact YaS.mpr ⟨sb.take,h.srt,fun x hx y hy=>h.le x (Yaq _ hx) y (Ybo.mp hy)⟩
theorem MH.doneB (h:MH O a b out na nb) (sa:O.Srt a) (sb:O.Srt b) (hl:∀ x∈b.take nb,∀ y∈a.take na,O.le x y):Mg O a b (b.take nb++a.take na++out.reverse):=by
 refine⟨(YcW _ Yd5).trans h.perm,?_⟩;refine YaS.mpr ⟨YaS.mpr ⟨sb.take,sa.take,hl⟩,h.srt,fun x hx y hy=>h.le x ?_ y (Ybo.mp hy)⟩;rcases Yar.mp hx with hx | hx
 ·exact Yaq _ hx
 ·exact YaT _ hx
theorem ZaO {l:List Keyed}{i:Nat}{y:Keyed} (h:y∈l.take i):∃ j,j<i/\l[j]?=some y:=by
 obtain⟨j,hj,e⟩:=Yei.mp h;rw[YaL] at hj;refine⟨j,by omega,?_⟩;rw[Ydk] at e;rw[Yae (by omega),e]
theorem ZhZ {l:List Keyed} (sl:O.Srt l) {i:Nat}{x:Keyed} (hx:l[i]?=some x):∀ y∈l.take (i+1),O.le y x:=fun y hy=>
 let ⟨_,hj,e⟩:=ZaO hy
 Zcg sl (by omega) e hx
theorem Zep (a:Array Keyed) (i:Nat):(a.extract 0 i).toList=a.toList.take i:=by
 rw[YcE];simp[Yea]
theorem Zeo (a:Array Keyed) (i n:Nat):(a.extract i n).toList=(a.toList.drop i).take (n - i):=by
 rw[YcE]
end
section
variable {prog:Program}{w:World}{A:Around}{E:Value->Shared->Prop}{s:Shared}{O:KO}{knd:SortKind}{ok:Keyed->Prop}{st:SortSt}
theorem Zfi {a b:Array Keyed}{Q:Array Keyed->SortSt->Prop} (hA:Asks prog w A s O knd ok) (hk:kindOf st=knd) (oka:∀ x∈a.toList,ok x) (okb:∀ x∈b.toList,ok x) (sa:O.Srt a.toList) (sb:O.Srt b.toList) (ha:1<=a.size) (hb:1<=b.size)
  (hfirst:∀ y,b[0]?=some y->∀ x∈a.toList,O.blt (O.ky y) (O.ky x)=true) (hlast:∀ z,a[a.size - 1]?=some z->∀ y∈b.toList,O.le y z)
  (h:∀ r st',Gal st st'->Mg O a.toList b.toList r.toList->Q r st'):wpS (model prog w) A E s (Zjq a b) Q st:=by
 obtain⟨a0,ea0,ea0',_⟩:=ZaH (a:=a) (i:=a.size - 1) (by (clear hb;omega));have done:∀ {out:Array Keyed}{nb:Nat},MH O a.toList b.toList out.toList 0 nb->Mg O a.toList b.toList (a.extract 0 0++b.extract 0 nb++out.reverse).toList:=by
  intro out nb m;rw[Ya2,Ya2,Zep,Zep,Ycg];exact m.doneA sb
 have first:∀ {out:Array Keyed}{na:Nat},MH O a.toList b.toList out.toList na 1->Mg O a.toList b.toList (b.extract 0 1++a.extract 0 na++out.reverse).toList:=by
  intro out na m;rw[Ya2,Ya2,Zep,Zep,Ycg];refine m.doneB sa sb fun x hx y hy=>?_;obtain⟨j,hj,e⟩:=ZaO hx;have e2:j=0:=by (clear hb ha;omega)
  rw[e2,Yam] at e;exact KO.le_of_lt (hfirst x e y (Ya4 hy))
 have pB:∀ {out:Array Keyed}{na nb:Nat}{y:Keyed},1<=nb->MH O a.toList b.toList out.toList na nb->b[nb - 1]?=some y->(∀ z∈a.toList.take na,O.le z y)->MH O a.toList b.toList (out.push y).toList na (nb - 1):=by
  intro out na nb y hn m e hz;rw[Ycu];exact MH.takeB (by rw[show nb - 1+1=nb by (clear hb ha;omega)];exact m) sb (ZdS e) hz
 have pA:∀ {out:Array Keyed}{na nb:Nat}{y:Keyed},1<=na->MH O a.toList b.toList out.toList na nb->a[na - 1]?=some y->(∀ z∈b.toList.take nb,O.le z y)->MH O a.toList b.toList (out.push y).toList (na - 1) nb:=by
  intro out na nb y hn m e hz;rw[Ycu];exact MH.takeA (by rw[show na - 1+1=na by (clear hb ha;omega)];exact m) sa (ZdS e) hz
 have leT:∀ {l:List Keyed}{i:Nat}{x:Keyed},O.Srt l->1<=i->l[i - 1]?=some x->∀ y∈l.take i,O.le y x:=by
  intro l i x sl hi e y hy;exact ZhZ sl e y (by rw[show i - 1+1=i by (clear hb ha;omega)];exact hy)
 refine wpS_bind (wpS_lift (wpAny_rule ⟨rfl,?_⟩));refine wpS_bind (Zak ea0 ?_);have m0:MH O a.toList b.toList #[a0].toList (a.size - 1) b.size:=by
  refine MH.takeA (out:=[]) (na:=a.size - 1) (nb:=b.size) ⟨?_,Ycn,fun x hx y hy=>by cases hy⟩ sa ea0' fun y hy=>hlast a0 ea0 y (Ya4 hy);rw[show a.size - 1+1=a.size by (clear hb;omega),Ybu (by simp),Ybu (by simp)];simp
 dsimp only;by_cases c1:a.size - 1=0
 ·rw[if_pos (by simpa using c1)];rw[c1] at m0 ⊢;exact wpS_pure (h _ _ Gal.refl (done m0))
 rw[if_neg (by simpa using c1)];by_cases c2:b.size=1
 ·rw[if_pos (by simpa using c2)];rw[c2] at m0;rw[c2];exact wpS_pure (h _ _ Gal.refl (first m0))
 rw[if_neg (by simpa using c2)];refine wpS_bind (wpS_get ?_);refine wpS_bind (wpS_mono (wpS_forRange
  (I:=fun x c st'=>Gal st st'/\∃ (out:Array Keyed) (na nb g:Nat),c=((none:Option (Array Keyed)),na,nb,out,g)/\MH O a.toList b.toList out.toList na nb/\1<=na/\na<=a.size/\2<=nb/\nb<=b.size/\x+na+nb<=a.size+b.size)
  (Q:=fun c st'=>Gal st st'/\∃ (r out:Array Keyed) (na nb g:Nat),c=(some r,na,nb,out,g)/\Mg O a.toList b.toList r.toList) ?step ?fin ⟨Gal.refl,#[a0],a.size - 1,b.size,gallopOf st,rfl,m0,by (clear c2 hb ha;omega),by (clear c2 c1 hb ha;omega),by (clear c1 ha;omega),by (clear c2 c1 hb ha;omega),show 0+(a.size - 1)+b.size<=_ by (clear c2 c1 hb ha;omega)⟩) ?post)
 case fin=>
  rintro c st' ⟨_,out,na,nb,g,rfl,_,h1,h1',h2,h2',h3⟩
  (clear h2' h2 h1' c2 c1 hb ha;omega)
 case post=>
  rintro c st' ⟨hG,r,out,na,nb,g,rfl,hm⟩;exact wpS_pure (h r st' hG hm)
 case step=>
  rintro x c st1 _ hx ⟨hG1,out,na,nb,g,rfl,hm,h1,h1',h2,h2',h3⟩;dsimp only;have hk1:kindOf st1=knd:=hG1.1.trans hk;refine wpS_bind (wpS_mono (wpS_forRange
   (I:=fun y c st'=>st'=st1/\∃ (out:Array Keyed) (na nb p q:Nat),c=((none:Option (Array Keyed)),na,nb,out,p,q)/\MH O a.toList b.toList out.toList na nb/\1<=na/\na<=a.size/\2<=nb/\nb<=b.size/\x+y+na+nb<=a.size+b.size)
   (Q:=fun c st'=>st'=st1/\((∃ (r out:Array Keyed) (na nb p q:Nat),c=(some r,na,nb,out,p,q)/\Mg O a.toList b.toList r.toList) ∨
    (∃ (out:Array Keyed) (na nb p q:Nat),c=(none,na,nb,out,p,q)/\MH O a.toList b.toList out.toList na nb/\1<=na/\na<=a.size/\2<=nb/\nb<=b.size/\x+1+na+nb<=a.size+b.size))) ?step1 ?fin1 ⟨rfl,out,na,nb,0,0,rfl,hm,h1,h1',h2,h2',by (clear h2' h2 h1' h1 hx c2 c1 hb ha;omega)⟩) ?post1)
  case fin1=>
   rintro c st' ⟨rfl,out,na,nb,p,q,rfl,hm,h1,h1',h2,h2',h3⟩;exact⟨rfl,.inr ⟨out,na,nb,p,q,rfl,hm,h1,h1',h2,h2',by (clear h2' h2 h1' h1 hx c2 c1 hb ha;omega)⟩⟩
  case step1=>
   rintro y c st' _ hy ⟨rfl,out,na,nb,p,q,rfl,hm,h1,h1',h2,h2',h3⟩;dsimp only;obtain⟨u,eu,eu',mu⟩:=ZaH (a:=b) (i:=nb - 1) (by (clear h3 h2 h1' h1 hy hx c2 c1 hb ha;omega));obtain⟨v,ev,ev',mv⟩:=ZaH (a:=a) (i:=na - 1) (by (clear h3 h2' h2 h1 hy hx c2 c1 hb ha;omega));refine wpS_bind (Zak eu (wpS_bind (Zak ev ?_)));refine wpS_bind (ZeB hA hk1 (okb u mu) (oka v mv) ?_)
   cases e:O.blt (O.ky u) (O.ky v) with
   | true=>
    simp only[if_true];refine wpS_bind (Zak ev ?_);have m2:=pA h1 hm ev fun z hz=>KO.le_trans (leT sb (by (clear h3 h2' h1' h1 hy hx c2 c1 hb ha;omega)) eu' z hz) (KO.le_of_lt e);by_cases c3:na - 1=0
    ·rw[if_pos (by simpa using c3)];rw[c3] at m2 ⊢;exact wpS_pure ⟨rfl,.inl ⟨_,_,_,_,_,_,rfl,done m2⟩⟩
    rw[if_neg (by simpa using c3)];refine ZaE (fun _=>?_) (fun _=>?_)
    ·exact wpS_pure ⟨rfl,.inr ⟨_,_,_,_,_,rfl,m2,by (clear h3 h2' h2 h1' h1 hy hx c2 c1 hb ha;omega),by (clear c3 h3 h2' h2 h1 hy hx c2 c1 hb ha;omega),by (clear c3 h3 h2' h1' h1 hy hx c2 c1 hb ha;omega),by (clear c3 h3 h2 h1' h1 hy hx c2 c1 hb ha;omega),by (clear c3 h2' h2 h1' hy hx c2 c1 hb ha;omega)⟩⟩
    ·exact wpS_pure ⟨rfl,_,_,_,_,_,rfl,m2,by (clear h3 h2' h2 h1' h1 hy hx c2 c1 hb ha;omega),by (clear c3 h3 h2' h2 h1 hy hx c2 c1 hb ha;omega),by (clear c3 h3 h2' h1' h1 hy hx c2 c1 hb ha;omega),by (clear c3 h3 h2 h1' h1 hy hx c2 c1 hb ha;omega),by (clear c3 h2' h2 h1' hy hx c2 c1 hb ha;omega)⟩
   | false=>
    simp only[YaO,if_false];refine wpS_bind (Zak eu ?_);have m2:=pB (by (clear h3 h2' h1' h1 hy hx c2 c1 hb ha;omega)) hm eu fun z hz=>KO.le_trans (leT sa (by (clear h3 h2' h2 h1' hy hx c2 c1 hb ha;omega)) ev' z hz) (show O.le v u from e);by_cases c3:nb - 1=1
    ·rw[if_pos (by simpa using c3)];rw[c3] at m2 ⊢;exact wpS_pure ⟨rfl,.inl ⟨_,_,_,_,_,_,rfl,first m2⟩⟩
    rw[if_neg (by simpa using c3)];refine ZaE (fun _=>?_) (fun _=>?_)
    ·exact wpS_pure ⟨rfl,.inr ⟨_,_,_,_,_,rfl,m2,by (clear c3 h3 h2' h2 h1' hy hx c2 c1 hb ha;omega),by (clear c3 h3 h2' h2 h1 hy hx c2 c1 hb ha;omega),by (clear h3 h2' h1' h1 hy hx c2 c1 hb ha;omega),by (clear c3 h3 h2 h1' h1 hy hx c2 c1 hb ha;omega),by (clear c3 h2' h1' h1 hy hx c2 c1 hb ha;omega)⟩⟩
    ·exact wpS_pure ⟨rfl,_,_,_,_,_,rfl,m2,by (clear c3 h3 h2' h2 h1' hy hx c2 c1 hb ha;omega),by (clear c3 h3 h2' h2 h1 hy hx c2 c1 hb ha;omega),by (clear h3 h2' h1' h1 hy hx c2 c1 hb ha;omega),by (clear c3 h3 h2 h1' h1 hy hx c2 c1 hb ha;omega),by (clear c3 h2' h1' h1 hy hx c2 c1 hb ha;omega)⟩
  case post1=>
   rintro c st' ⟨rfl,⟨r,out,na,nb,p,q,rfl,hr⟩ | ⟨out,na,nb,p,q,rfl,hm,h1,h1',h2,h2',h3⟩⟩
   ·exact wpS_pure ⟨hG1,_,_,_,_,_,rfl,hr⟩
   dsimp only;refine wpS_bind (wpS_lift (wpAny_rule ⟨rfl,?_⟩));refine wpS_bind (wpS_mono (wpS_forRange
    (I:=fun y c st'=>Gal st st'/\∃ (out:Array Keyed) (na nb g p q:Nat),c=((none:Option (Array Keyed)),na,nb,out,g,p,q)/\MH O a.toList b.toList out.toList na nb/\1<=na/\na<=a.size/\2<=nb/\nb<=b.size/\x+1+na+nb<=a.size+b.size)
    (Q:=fun c st'=>Gal st st'/\((∃ (r out:Array Keyed) (na nb g p q:Nat),c=(some r,na,nb,out,g,p,q)/\Mg O a.toList b.toList r.toList) ∨
     (∃ (out:Array Keyed) (na nb g p q:Nat),c=(none,na,nb,out,g,p,q)/\MH O a.toList b.toList out.toList na nb/\1<=na/\na<=a.size/\2<=nb/\nb<=b.size/\x+1+na+nb<=a.size+b.size))) ?step2 ?fin2 ⟨hG1,out,na,nb,g+1,p,q,rfl,hm,h1,h1',h2,h2',h3⟩) ?post2)
   case fin2=>
    rintro c st' ⟨hG,out,na,nb,g,p,q,rfl,hm,h1,h1',h2,h2',h3⟩;exact⟨hG,.inr ⟨out,na,nb,g,p,q,rfl,hm,h1,h1',h2,h2',h3⟩⟩
   case post2=>
    rintro c st' ⟨hG,⟨r,out,na,nb,g,p,q,rfl,hr⟩ | ⟨out,na,nb,g,p,q,rfl,hm,h1,h1',h2,h2',h3⟩⟩
    ·exact wpS_pure ⟨hG,_,_,_,_,_,rfl,hr⟩
    exact wpS_bind (ZaZ hG fun st2 hG2=>wpS_pure ⟨hG2,_,_,_,_,rfl,hm,h1,h1',h2,h2',h3⟩)
   case step2=>
    rintro y c st' _ hy ⟨hG,out,na,nb,g,p,q,rfl,hm,h1,h1',h2,h2',h3⟩;dsimp only;obtain⟨u,eu,eu',mu⟩:=ZaH (a:=b) (i:=nb - 1) (by (clear h3 h2 h1' h1 hy hx c2 c1 hb ha;omega));refine ZaE (fun cg=>?_) (fun cg=>?_)
    all_goals
     refine wpS_bind (ZaZ hG fun st2 hG2=>wpS_bind (Zak eu ?_));refine wpS_bind (ZbX hA (hG2.1.trans hk) (okb u mu) oka (by (clear cg h3 h2' h2 h1 hy hx c2 c1 hb ha;omega)) (srtA sa _ _) (by (clear cg h3 h2' h2 h1' hy hx c2 c1 hb ha;omega)) fun k hk1 b1 b2=>?_);have m3:=hm.takeAs sa (by simp;(clear hk1 cg h3 h2' h2 h1 hy hx c2 c1 hb ha;omega)) (na - k) (by (clear hk1 cg h3 h2' h2 h1' h1 hy hx c2 c1 hb ha;omega)) fun i z h6 h7 e y hy=>KO.le_trans (leT sb (by (clear h7 h6 hk1 cg h3 h2' h1' h1 hx c2 c1 hb ha;omega)) eu' y hy) (KO.le_of_lt (b2 i z (by (clear h7 cg h3 h2' h2 h1' h1 hx c2 c1 hb ha;omega)) (by (clear h6 hk1 cg h3 h2' h2 h1' h1 hx c2 c1 hb ha;omega)) (by rw[Ybt,<- Yam];exact e)));rw[show na - (na - k)=k by (clear cg h3 h2' h2 h1' h1 hy hx c2 c1 hb ha;omega)] at m3;have hu:∀ z∈a.toList.take k,O.le z u:=by
      intro z hz;obtain⟨j,hj,e⟩:=ZaO hz;refine b1 j z hj ?_;rw[Ybt,<- Yam];exact e
     dsimp only;by_cases ck:na - k > 0
     ·rw[if_pos ck];rw[<- Zeo,<- Ycg,<- Ya2] at m3;by_cases c3:k=0
      ·rw[if_pos (by simpa using c3)];rw[c3] at m3 ⊢;exact wpS_pure ⟨hG2,.inl ⟨_,_,_,_,_,_,_,rfl,done m3⟩⟩
      rw[if_neg (by simpa using c3)];refine wpS_bind (Zak eu ?_);have m4:=pB (by (clear c3 ck hk1 cg h3 h2' h1' h1 hy hx c2 c1 hb ha;omega)) m3 eu hu;by_cases c4:nb - 1=1
      ·rw[if_pos (by simpa using c4)];rw[c4] at m4 ⊢;exact wpS_pure ⟨hG2,.inl ⟨_,_,_,_,_,_,_,rfl,first m4⟩⟩
      rw[if_neg (by simpa using c4)];obtain⟨v,ev,ev',mv⟩:=ZaH (a:=a) (i:=k - 1) (by (clear c4 c3 ck cg h3 h2' h2 h1 hy hx c2 c1 hb ha;omega));refine wpS_bind (Zak ev ?_);refine wpS_bind (Za3 hA (hG2.1.trans hk) (oka v mv) okb (by (clear c4 c3 ck hk1 cg h3 h2 h1' h1 hy hx c2 c1 hb ha;omega)) (srtA sb _ _) (by (clear c4 c3 ck hk1 cg h3 h2' h1' h1 hy hx c2 c1 hb ha;omega)) fun k2 hk2 d1 d2=>?_);have hk20:1<=k2:=by
       rcases Ydf k2 with z | z
       ·obtain⟨zl,el,_,_⟩:=ZaH (a:=b) (i:=0) (by (clear z hk2 c4 c3 ck hk1 cg h3 h2' h2 h1' h1 hy hx c2 c1 hb ha;omega));have q1:=hfirst zl el v mv;have q2:=d2 0 zl (by (clear hk2 c4 c3 ck hk1 cg h3 h2' h2 h1' h1 hy hx c2 c1 hb ha;omega)) (by (clear z hk2 c4 c3 ck hk1 cg h3 h2' h1' h1 hy hx c2 c1 hb ha;omega)) (by rw[Ybt];exact el);rw[show O.blt (O.ky zl) (O.ky v)=false from q2] at q1;cases q1
       ·exact z
      have m5:=m4.takeBs sb (by simp;(clear hk20 hk2 c4 c3 ck hk1 cg h3 h2 h1' h1 hy hx c2 c1 hb ha;omega)) (nb - 1 - k2) (by (clear hk20 hk2 c4 c3 ck hk1 cg h3 h2' h2 h1' h1 hy hx c2 c1 hb ha;omega)) fun i z h6 h7 e y hy=>KO.le_trans (leT sa (by (clear h7 h6 hk20 hk2 c4 ck hk1 cg h3 h2' h2 h1' h1 hx c2 c1 hb ha;omega)) ev' y hy) (d2 i z (by (clear h7 hk20 c4 c3 ck hk1 cg h3 h2' h2 h1' h1 hx c2 c1 hb ha;omega)) (by (clear h6 hk20 hk2 c4 c3 ck hk1 cg h3 h2' h2 h1' h1 hx c2 c1 hb ha;omega)) (by rw[Ybt,<- Yam];exact e));rw[show nb - 1 - (nb - 1 - k2)=k2 by (clear hk20 c4 c3 ck hk1 cg h3 h2' h2 h1' h1 hy hx c2 c1 hb ha;omega)] at m5;have hv:∀ z∈b.toList.take k2,O.le z v:=by
       intro z hz;obtain⟨j,hj,e⟩:=ZaO hz;refine KO.le_of_lt (d1 j z hj ?_);rw[Ybt,<- Yam];exact e
      dsimp only;by_cases ck2:nb - 1 - k2 > 0
      ·rw[if_pos ck2];rw[<- Zeo,<- Ycg,<- Ya2] at m5;by_cases c6:k2=1
       ·rw[if_pos (by simpa using c6)];rw[c6] at m5 ⊢;exact wpS_pure ⟨hG2,.inl ⟨_,_,_,_,_,_,_,rfl,first m5⟩⟩
       rw[if_neg (by simpa using c6),if_neg (by simp;(clear c6 ck2 hk2 c4 c3 ck hk1 cg h3 h2' h2 h1' h1 hy hx c2 c1 hb ha;omega))];obtain⟨v2,ev2,ev2',mv2⟩:=ZaH (a:=a) (i:=k - 1) (by (clear c6 ck2 hk20 hk2 c4 c3 ck cg h3 h2' h2 h1 hy hx c2 c1 hb ha;omega));refine wpS_bind (Zak ev2 ?_);have ee:v2=v:=Yau (ev2.symm.trans ev);subst ee;have m7:=pA (by (clear c6 ck2 hk20 hk2 c4 ck hk1 cg h3 h2' h2 h1' h1 hy hx c2 c1 hb ha;omega)) m5 ev2 hv;by_cases c7:k - 1=0
       ·rw[if_pos (by simpa using c7)];rw[c7] at m7 ⊢;exact wpS_pure ⟨hG2,.inl ⟨_,_,_,_,_,_,_,rfl,done m7⟩⟩
       rw[if_neg (by simpa using c7)];refine ZaE (fun _=>?_) (fun _=>?_)
       ·exact wpS_pure ⟨hG2,.inr ⟨_,_,_,_,_,_,rfl,m7,by (clear c6 ck2 hk20 hk2 c4 c3 ck hk1 cg h3 h2' h2 h1' h1 hy hx c2 c1 hb ha;omega),by (clear c7 c6 ck2 hk20 hk2 c4 c3 ck cg h3 h2' h2 h1 hy hx c2 c1 hb ha;omega),by (clear c7 ck2 hk2 c4 c3 ck hk1 cg h3 h2' h2 h1' h1 hy hx c2 c1 hb ha;omega),by (clear c7 c6 ck2 hk20 c4 c3 ck hk1 cg h3 h2 h1' h1 hy hx c2 c1 hb ha;omega),by (clear c7 c6 ck2 hk20 c4 c3 ck cg h2' h2 h1' h1 hy hx c2 c1 hb ha;omega)⟩⟩
       ·exact wpS_pure ⟨hG2,_,_,_,_,_,_,rfl,m7,by (clear c6 ck2 hk20 hk2 c4 c3 ck hk1 cg h3 h2' h2 h1' h1 hy hx c2 c1 hb ha;omega),by (clear c7 c6 ck2 hk20 hk2 c4 c3 ck cg h3 h2' h2 h1 hy hx c2 c1 hb ha;omega),by (clear c7 ck2 hk2 c4 c3 ck hk1 cg h3 h2' h2 h1' h1 hy hx c2 c1 hb ha;omega),by (clear c7 c6 ck2 hk20 c4 c3 ck hk1 cg h3 h2 h1' h1 hy hx c2 c1 hb ha;omega),by (clear c7 c6 ck2 hk20 c4 c3 ck cg h2' h2 h1' h1 hy hx c2 c1 hb ha;omega)⟩
      ·rw[if_neg ck2];have k0:nb - 1=k2:=by (clear hk20 c4 c3 ck hk1 cg h3 h2' h2 h1' h1 hy hx c2 c1 hb ha;omega)
       rw[show nb - 1 - k2=0 by (clear k0 hk20 hk2 c4 c3 ck hk1 cg h3 h2' h2 h1' h1 hy hx c2 c1 hb ha;omega),YbQ,YcC,Ybj] at m5;rw[k0];obtain⟨v2,ev2,ev2',mv2⟩:=ZaH (a:=a) (i:=k - 1) (by (clear k0 ck2 hk20 hk2 c4 c3 ck cg h3 h2' h2 h1 hy hx c2 c1 hb ha;omega));refine wpS_bind (Zak ev2 ?_);have ee:v2=v:=Yau (ev2.symm.trans ev);subst ee;have m7:=pA (by (clear k0 ck2 hk20 hk2 c4 ck hk1 cg h3 h2' h2 h1' h1 hy hx c2 c1 hb ha;omega)) m5 ev2 hv;by_cases c7:k - 1=0
       ·rw[if_pos (by simpa using c7)];rw[c7] at m7 ⊢;exact wpS_pure ⟨hG2,.inl ⟨_,_,_,_,_,_,_,rfl,done m7⟩⟩
       rw[if_neg (by simpa using c7)];refine ZaE (fun _=>?_) (fun _=>?_)
       ·exact wpS_pure ⟨hG2,.inr ⟨_,_,_,_,_,_,rfl,m7,by (clear k0 ck2 hk20 hk2 c4 c3 ck hk1 cg h3 h2' h2 h1' h1 hy hx c2 c1 hb ha;omega),by (clear c7 k0 ck2 hk20 hk2 c4 c3 ck cg h3 h2' h2 h1 hy hx c2 c1 hb ha;omega),by (clear c7 k0 hk20 hk2 c3 ck hk1 cg h3 h2' h1' h1 hy hx c2 c1 hb ha;omega),by (clear c7 k0 ck2 hk20 c4 c3 ck hk1 cg h3 h2 h1' h1 hy hx c2 c1 hb ha;omega),by (clear c7 k0 ck2 hk20 c4 c3 ck cg h2' h2 h1' h1 hy hx c2 c1 hb ha;omega)⟩⟩
       ·exact wpS_pure ⟨hG2,_,_,_,_,_,_,rfl,m7,by (clear k0 ck2 hk20 hk2 c4 c3 ck hk1 cg h3 h2' h2 h1' h1 hy hx c2 c1 hb ha;omega),by (clear c7 k0 ck2 hk20 hk2 c4 c3 ck cg h3 h2' h2 h1 hy hx c2 c1 hb ha;omega),by (clear c7 k0 hk20 hk2 c3 ck hk1 cg h3 h2' h1' h1 hy hx c2 c1 hb ha;omega),by (clear c7 k0 ck2 hk20 c4 c3 ck hk1 cg h3 h2 h1' h1 hy hx c2 c1 hb ha;omega),by (clear c7 k0 ck2 hk20 c4 c3 ck cg h2' h2 h1' h1 hy hx c2 c1 hb ha;omega)⟩
     ·rw[if_neg ck];have k0:na=k:=by (clear cg h3 h2' h2 h1' h1 hy hx c2 c1 hb ha;omega)
      rw[show na - k=0 by (clear k0 hk1 cg h3 h2' h2 h1' h1 hy hx c2 c1 hb ha;omega),YbQ,YcC,Ybj] at m3;rw[k0];refine wpS_bind (Zak eu ?_);have m4:=pB (by (clear k0 ck hk1 cg h3 h2' h1' h1 hy hx c2 c1 hb ha;omega)) m3 eu hu;by_cases c4:nb - 1=1
      ·rw[if_pos (by simpa using c4)];rw[c4] at m4 ⊢;exact wpS_pure ⟨hG2,.inl ⟨_,_,_,_,_,_,_,rfl,first m4⟩⟩
      rw[if_neg (by simpa using c4)];obtain⟨v,ev,ev',mv⟩:=ZaH (a:=a) (i:=k - 1) (by (clear c4 k0 ck cg h3 h2' h2 h1 hy hx c2 c1 hb ha;omega));refine wpS_bind (Zak ev ?_);refine wpS_bind (Za3 hA (hG2.1.trans hk) (oka v mv) okb (by (clear c4 k0 ck hk1 cg h3 h2 h1' h1 hy hx c2 c1 hb ha;omega)) (srtA sb _ _) (by (clear c4 k0 ck hk1 cg h3 h2' h1' h1 hy hx c2 c1 hb ha;omega)) fun k2 hk2 d1 d2=>?_);have hk20:1<=k2:=by
       rcases Ydf k2 with z | z
       ·obtain⟨zl,el,_,_⟩:=ZaH (a:=b) (i:=0) (by (clear z hk2 c4 k0 ck hk1 cg h3 h2' h2 h1' h1 hy hx c2 c1 hb ha;omega));have q1:=hfirst zl el v mv;have q2:=d2 0 zl (by (clear hk2 c4 k0 ck hk1 cg h3 h2' h2 h1' h1 hy hx c2 c1 hb ha;omega)) (by (clear z hk2 c4 k0 ck hk1 cg h3 h2' h1' h1 hy hx c2 c1 hb ha;omega)) (by rw[Ybt];exact el);rw[show O.blt (O.ky zl) (O.ky v)=false from q2] at q1;cases q1
       ·exact z
      have m5:=m4.takeBs sb (by simp;(clear hk20 hk2 c4 k0 ck hk1 cg h3 h2 h1' h1 hy hx c2 c1 hb ha;omega)) (nb - 1 - k2) (by (clear hk20 hk2 c4 k0 ck hk1 cg h3 h2' h2 h1' h1 hy hx c2 c1 hb ha;omega)) fun i z h6 h7 e y hy=>KO.le_trans (leT sa (by (clear h7 h6 hk20 hk2 c4 k0 hk1 cg h3 h2' h2 h1' hx c2 c1 hb ha;omega)) ev' y hy) (d2 i z (by (clear h7 hk20 c4 k0 ck hk1 cg h3 h2' h2 h1' h1 hx c2 c1 hb ha;omega)) (by (clear h6 hk20 hk2 c4 k0 ck hk1 cg h3 h2' h2 h1' h1 hx c2 c1 hb ha;omega)) (by rw[Ybt,<- Yam];exact e));rw[show nb - 1 - (nb - 1 - k2)=k2 by (clear hk20 c4 k0 ck hk1 cg h3 h2' h2 h1' h1 hy hx c2 c1 hb ha;omega)] at m5;have hv:∀ z∈b.toList.take k2,O.le z v:=by
       intro z hz;obtain⟨j,hj,e⟩:=ZaO hz;refine KO.le_of_lt (d1 j z hj ?_);rw[Ybt,<- Yam];exact e
      dsimp only;by_cases ck2:nb - 1 - k2 > 0
      ·rw[if_pos ck2];rw[<- Zeo,<- Ycg,<- Ya2] at m5;by_cases c6:k2=1
       ·rw[if_pos (by simpa using c6)];rw[c6] at m5 ⊢;exact wpS_pure ⟨hG2,.inl ⟨_,_,_,_,_,_,_,rfl,first m5⟩⟩
       rw[if_neg (by simpa using c6),if_neg (by simp;(clear c6 ck2 hk2 c4 k0 ck hk1 cg h3 h2' h2 h1' h1 hy hx c2 c1 hb ha;omega))];obtain⟨v2,ev2,ev2',mv2⟩:=ZaH (a:=a) (i:=k - 1) (by (clear c6 ck2 hk20 hk2 c4 k0 ck cg h3 h2' h2 h1 hy hx c2 c1 hb ha;omega));refine wpS_bind (Zak ev2 ?_);have ee:v2=v:=Yau (ev2.symm.trans ev);subst ee;have m7:=pA (by (clear c6 ck2 hk20 hk2 c4 k0 hk1 cg h3 h2' h2 h1' hy hx c2 c1 hb ha;omega)) m5 ev2 hv;by_cases c7:k - 1=0
       ·rw[if_pos (by simpa using c7)];rw[c7] at m7 ⊢;exact wpS_pure ⟨hG2,.inl ⟨_,_,_,_,_,_,_,rfl,done m7⟩⟩
       rw[if_neg (by simpa using c7)];refine ZaE (fun _=>?_) (fun _=>?_)
       ·exact wpS_pure ⟨hG2,.inr ⟨_,_,_,_,_,_,rfl,m7,by (clear c6 ck2 hk20 hk2 c4 k0 ck hk1 cg h3 h2' h2 h1' h1 hy hx c2 c1 hb ha;omega),by (clear c7 c6 ck2 hk20 hk2 c4 k0 ck cg h3 h2' h2 h1 hy hx c2 c1 hb ha;omega),by (clear c7 ck2 hk2 c4 k0 ck hk1 cg h3 h2' h2 h1' h1 hy hx c2 c1 hb ha;omega),by (clear c7 c6 ck2 hk20 c4 k0 ck hk1 cg h3 h2 h1' h1 hy hx c2 c1 hb ha;omega),by (clear c7 c6 ck2 hk20 c4 k0 ck cg h2' h2 h1' h1 hy hx c2 c1 hb ha;omega)⟩⟩
       ·exact wpS_pure ⟨hG2,_,_,_,_,_,_,rfl,m7,by (clear c6 ck2 hk20 hk2 c4 k0 ck hk1 cg h3 h2' h2 h1' h1 hy hx c2 c1 hb ha;omega),by (clear c7 c6 ck2 hk20 hk2 c4 k0 ck cg h3 h2' h2 h1 hy hx c2 c1 hb ha;omega),by (clear c7 ck2 hk2 c4 k0 ck hk1 cg h3 h2' h2 h1' h1 hy hx c2 c1 hb ha;omega),by (clear c7 c6 ck2 hk20 c4 k0 ck hk1 cg h3 h2 h1' h1 hy hx c2 c1 hb ha;omega),by (clear c7 c6 ck2 hk20 c4 k0 ck cg h2' h2 h1' h1 hy hx c2 c1 hb ha;omega)⟩
      ·rw[if_neg ck2];have k0:nb - 1=k2:=by (clear hk20 c4 k0 ck hk1 cg h3 h2' h2 h1' h1 hy hx c2 c1 hb ha;omega)
       rw[show nb - 1 - k2=0 by (clear k0 hk20 hk2 c4 ck hk1 cg h3 h2' h2 h1' h1 hy hx c2 c1 hb ha;omega),YbQ,YcC,Ybj] at m5;rw[k0];obtain⟨v2,ev2,ev2',mv2⟩:=ZaH (a:=a) (i:=k - 1) (by (clear k0 ck2 hk20 hk2 c4 ck hk1 cg h3 h2' h2 h1 hy hx c2 c1 hb ha;omega));refine wpS_bind (Zak ev2 ?_);have ee:v2=v:=Yau (ev2.symm.trans ev);subst ee;have m7:=pA (by (clear k0 ck2 hk20 hk2 c4 ck hk1 cg h3 h2' h2 h1' hy hx c2 c1 hb ha;omega)) m5 ev2 hv;by_cases c7:k - 1=0
       ·rw[if_pos (by simpa using c7)];rw[c7] at m7 ⊢;exact wpS_pure ⟨hG2,.inl ⟨_,_,_,_,_,_,_,rfl,done m7⟩⟩
       rw[if_neg (by simpa using c7)];refine ZaE (fun _=>?_) (fun _=>?_)
       ·exact wpS_pure ⟨hG2,.inr ⟨_,_,_,_,_,_,rfl,m7,by (clear k0 ck2 hk20 hk2 c4 ck hk1 cg h3 h2' h2 h1' h1 hy hx c2 c1 hb ha;omega),by (clear c7 k0 ck2 hk20 hk2 c4 ck hk1 cg h3 h2' h2 h1 hy hx c2 c1 hb ha;omega),by (clear c7 k0 hk20 hk2 ck hk1 cg h3 h2' h1' h1 hy hx c2 c1 hb ha;omega),by (clear c7 k0 ck2 hk20 c4 ck hk1 cg h3 h2 h1' h1 hy hx c2 c1 hb ha;omega),by (clear c7 k0 ck2 hk20 c4 ck hk1 cg h2' h2 h1' h1 hy hx c2 c1 hb ha;omega)⟩⟩
       ·exact wpS_pure ⟨hG2,_,_,_,_,_,_,rfl,m7,by (clear k0 ck2 hk20 hk2 c4 ck hk1 cg h3 h2' h2 h1' h1 hy hx c2 c1 hb ha;omega),by (clear c7 k0 ck2 hk20 hk2 c4 ck hk1 cg h3 h2' h2 h1 hy hx c2 c1 hb ha;omega),by (clear c7 k0 hk20 hk2 ck hk1 cg h3 h2' h1' h1 hy hx c2 c1 hb ha;omega),by (clear c7 k0 ck2 hk20 c4 ck hk1 cg h3 h2 h1' h1 hy hx c2 c1 hb ha;omega),by (clear c7 k0 ck2 hk20 c4 ck hk1 cg h2' h2 h1' h1 hy hx c2 c1 hb ha;omega)⟩
def ka (O:KO) (xs:Array Keyed) (i:Nat):O.α:=O.ky ((xs[i]?).getD (.none,.none))
def Up (O:KO) (lo n:Nat) (xs:Array Keyed):Prop:=∀ i j,i<=j->j<n->O.kle (ka O xs (lo+i)) (ka O xs (lo+j))
def Dn (O:KO) (lo n:Nat) (xs:Array Keyed):Prop:=∀ i j,i<=j->j<n->O.kle (ka O xs (lo+j)) (ka O xs (lo+i))
structure FB (knd:SortKind) (b₀:Array Keyed) (p₀:Array (Nat × Nat × Nat)) (lo:Nat) (st:SortSt):Prop where
 perm:(arrOf st).Perm b₀
 keep:∀ i,i<lo->(arrOf st)[i]?=b₀[i]?
 kind:kindOf st=knd
 failed:failedOf st=none
 pend:pendingOf st=p₀
section
variable {b₀:Array Keyed}{p₀:Array (Nat × Nat × Nat)}{lo:Nat}
theorem FB.size (h:FB knd b₀ p₀ lo st):(arrOf st).size=b₀.size:=h.perm.size_eq
theorem FB.put {xs:Array Keyed} (h:FB knd b₀ p₀ lo st) (hp:xs.Perm (arrOf st)) (hx:∀ i,i<lo->xs[i]?=(arrOf st)[i]?):FB knd b₀ p₀ lo (setArr st xs) :=
 ⟨hp.trans h.perm,fun i hi=>(hx i hi).trans (h.keep i hi),h.kind,h.failed,h.pend⟩
theorem FB.mir (h:FB knd b₀ p₀ lo st) {i j:Nat} (hi:lo<=i) (hj:j<=b₀.size):FB knd b₀ p₀ lo (setArr st (mirror (arrOf st) i j ((j - i) / 2))) :=
 h.put (mirror_perm _ _ _ _) fun k hk=>by rw[getElem?_mirror_all (by rw[h.size];exact hj),if_neg (by (clear hj;omega))]
theorem Zck {xs ys:Array Keyed}{i j:Nat} (h:xs[i]?=ys[j]?):ka O xs i=ka O ys j:=by unfold ka;rw[h]
theorem Zh0 {xs:Array Keyed}{i j:Nat} (hj:j<=xs.size) (k:Nat):ka O (mirror xs i j ((j - i) / 2)) k=if i<=k/\k<j then ka O xs (i+j - 1 - k) else ka O xs k:=by
 have e:=getElem?_mirror_all (i:=i) hj k;split
 ·rename_i c;rw[if_pos c] at e;exact Zck e
 ·rename_i c;rw[if_neg c] at e;exact Zck e
theorem Zb5 {xs:Array Keyed}{i j:Nat} (hj:j<=xs.size) (he:∀ k,i<=k->k<j->ka O xs k=ka O xs (j - 1)) (k:Nat):ka O (mirror xs i j ((j - i) / 2)) k=ka O xs k:=by
 rw[Zh0 hj];split
 ·rw[he _ (by (clear hj;omega)) (by (clear hj;omega)),he k (by (clear hj;omega)) (by (clear hj;omega))]
 ·rfl
theorem ZjU {xs:Array Keyed}{src d:Nat} (hs:src<xs.size) (hd:d<=src) (k:Nat):ka O (bubble xs src d) k=if k=src - d then ka O xs src else if src - d<k/\k<=src then ka O xs (k - 1) else ka O xs k:=by
 have e:=getElem?_bubble hs d hd k;split
 ·rename_i c;rw[if_pos c] at e;exact Zck e
 ·rename_i c;rw[if_neg c] at e;split
  ·rename_i c2;rw[if_pos c2] at e;exact Zck e
  ·rename_i c2;rw[if_neg c2] at e;exact Zck e
theorem ZcV {i j:Nat}{Q:Option Bool->SortSt->Prop} (hA:Asks prog w A s O knd ok) (h0:∀ x∈b₀.toList,ok x) (hF:FB knd b₀ p₀ lo st) (hi:i<b₀.size) (hj:j<b₀.size) (h:Q (some (O.blt (ka O (arrOf st) i) (ka O (arrOf st) j))) st):wpS (model prog w) A E s (ltAt' i j) Q st:=by
 obtain⟨x,ex,_,mx⟩:=ZaH (a:=arrOf st) (i:=i) (by rw[hF.size];exact hi);obtain⟨y,ey,_,my⟩:=ZaH (a:=arrOf st) (i:=j) (by rw[hF.size];exact hj);have pm:=YdG.mp hF.perm;rw[ltAt'_eq];refine wpS_bind (wpS_get ?_);refine wpS_bind (Zak ex (wpS_bind (Zak ey ?_)));refine ZeB hA hF.kind (h0 x (pm.mem_iff.mp mx)) (h0 y (pm.mem_iff.mp my)) ?_;unfold ka at h;rw[ex,ey] at h;exact h
theorem Zbv {i j:Nat}{Q:Unit->SortSt->Prop} (h:Q () (setArr st (mirror (arrOf st) i j ((j - i) / 2)))):wpS (model prog w) A E s (reverseSlice' i j) Q st:=by
 rw[reverseSlice'_eq];exact wpS_modify h
def ascL (lo a nrem:Nat):StateT SortSt Sem (Option (Option Nat) × Nat) :=
 forIn [a:nrem] ((none,a):Option (Option Nat) × Nat) fun _ c=>ltAt' (lo+c.2) (lo+c.2 - 1) >>= fun x=>match x with
  | some sm=>if sm=true then pure (Yce (none,c.2)) else pure (Ya1 (none,c.2+1))
  | _=>pure (Yce (some none,c.2))
theorem Zcb {a nrem:Nat}{Q:Option (Option Nat) × Nat->SortSt->Prop} (hA:Asks prog w A s O knd ok) (h0:∀ x∈b₀.toList,ok x) (hF:FB knd b₀ p₀ lo st) (hn:lo+nrem<=b₀.size) (ha:1<=a) (hl:a<=nrem) (hu:Up O lo a (arrOf st))
  (h:∀ n,a<=n->n<=nrem->Up O lo n (arrOf st)->(n=nrem∨O.klt (ka O (arrOf st) (lo+n)) (ka O (arrOf st) (lo+n - 1)))->Q (none,n) st):wpS (model prog w) A E s (ascL lo a nrem) Q st:=by
 unfold ascL;refine wpS_forRange (I:=fun n c τ=>τ=st/\c=((none:Option (Option Nat)),n)/\Up O lo n (arrOf st)) ?go ?out ⟨rfl,rfl,hu⟩
 case out=>
  rintro c τ ⟨rfl,rfl,u⟩;rw[Ydv hl] at u ⊢;exact h nrem hl (Yap _) u (.inl rfl)
 case go=>
  rintro n c τ h1 h2 ⟨rfl,rfl,u⟩;refine wpS_bind (ZcV hA h0 hF (by dsimp only;(clear h1 hl ha;omega)) (by dsimp only;(clear h1 hl ha;omega)) ?_);dsimp only
  cases e:O.blt (ka O (arrOf τ) (lo+n)) (ka O (arrOf τ) (lo+n - 1)) with
  | true=>
   simp only[if_true];exact wpS_pure (h n h1 (by (clear h1 hl ha hn;omega)) u (.inr e))
  | false=>
   simp only[YaO,if_false];refine wpS_pure ⟨rfl,rfl,fun i j hij hj=>?_⟩;rcases Ybd j n with z | z
   ·exact u i j hij z
   ·obtain rfl:j=n:=by (clear hij h2 h1 hl ha hn;omega)
    rcases Ybd i j with y | y
    ·exact Ycy (u i (j - 1) (by (clear z hj h2 h1 hij hl ha hn;omega)) (by (clear y z hj h2 hij hl hn;omega))) (by rw[show lo+(j - 1)=lo+j - 1 by (clear y z hj h2 hij hl hn;omega)];exact e)
    ·obtain rfl:i=j:=by (clear z hj h2 h1 hl ha hn;omega)
     exact Yb7 _
theorem ZfX {n:Nat}{xs:Array Keyed} (hd:Dn O lo n xs) (hsz:lo+n<=xs.size):Up O lo n (mirror xs lo (lo+n) ((lo+n - lo) / 2)):=by
 intro i j hij hj;rw[Zh0 hsz,Zh0 hsz,if_pos (by (clear hsz;omega)),if_pos (by (clear hij hsz;omega))];have q:=hd (n - 1 - j) (n - 1 - i) (by (clear hj hsz;omega)) (by (clear hij hsz;omega));rw[show lo+(n - 1 - j)=lo+(lo+n) - 1 - (lo+j) by (clear hij hsz;omega),show lo+(n - 1 - i)=lo+(lo+n) - 1 - (lo+i) by (clear hsz;omega)] at q;exact q
def dscL (lo n nrem:Nat):StateT SortSt Sem (Option (Option Nat) × Nat × Nat) :=
 forIn [n:nrem] ((none,n,0):Option (Option Nat) × Nat × Nat) fun _ c=>ltAt' (lo+c.2.1) (lo+c.2.1 - 1) >>= fun x=>match x with
  | some sm=>if sm=true then (if c.2.2 > 0 then reverseSlice' (lo+c.2.1 - (c.2.2+1)) (lo+c.2.1) >>= fun _=>pure (Ya1 (none,c.2.1+1,0)) else pure (Ya1 (none,c.2.1+1,0)))
   else ltAt' (lo+c.2.1 - 1) (lo+c.2.1) >>= fun y=>match y with
    | some lg=>if lg=true then pure (Yce (none,c.2.1,c.2.2)) else pure (Ya1 (none,c.2.1+1,c.2.2+1))
    | _=>pure (Yce (some none,c.2.1,c.2.2))
  | _=>pure (Yce (some none,c.2.1,c.2.2))
theorem ZfT {n nrem:Nat}{Q:Option (Option Nat) × Nat × Nat->SortSt->Prop} (hA:Asks prog w A s O knd ok) (h0:∀ x∈b₀.toList,ok x) (hF:FB knd b₀ p₀ lo st) (hn:lo+nrem<=b₀.size) (h1:1<=n) (hl:n<=nrem) (hd:Dn O lo n (arrOf st))
  (h:∀ m e τ,FB knd b₀ p₀ lo τ->n<=m->m<=nrem->Dn O lo m (arrOf τ)->e+1<=m->(∀ i,m - (e+1)<=i->i<m->ka O (arrOf τ) (lo+i)=ka O (arrOf τ) (lo+m - 1))->Q (none,m,e) τ):wpS (model prog w) A E s (dscL lo n nrem) Q st:=by
 unfold dscL;refine wpS_forRange (I:=fun m c τ=>∃ e,c=((none:Option (Option Nat)),m,e)/\FB knd b₀ p₀ lo τ/\Dn O lo m (arrOf τ)/\e+1<=m/\∀ i,m - (e+1)<=i->i<m->ka O (arrOf τ) (lo+i)=ka O (arrOf τ) (lo+m - 1)) ?go ?out
  ⟨0,rfl,hF,hd,by (clear hl hn;omega),fun i h2 h3=>by congr 1;(clear hl h1 hn;omega)⟩
 case out=>
  rintro c τ ⟨e,rfl,hT,d,q,he⟩;rw[Ydv hl] at d q he ⊢;exact h nrem e τ hT hl (Yap _) d q he
 case go=>
  rintro m c τ h2 h3 ⟨e,rfl,hT,d,q,he⟩;have hsz:lo+m<=(arrOf τ).size:=by rw[hT.size];(clear q h2 hl h1;omega)
  have more:∀ xs:Array Keyed,(∀ k,ka O xs k=ka O (arrOf τ) k)->O.kle (ka O (arrOf τ) (lo+m)) (ka O (arrOf τ) (lo+m - 1))->Dn O lo (m+1) xs:=by
   intro xs hk hle i j hij hj;rw[hk,hk];rcases Ybd j m with z | z
   ·exact d i j hij z
   ·obtain rfl:j=m:=by (clear hij hsz q h3 h2 hl h1 hn;omega)
    rcases Ybd i j with y | y
    ·exact Ycy hle (by rw[show lo+j - 1=lo+(j - 1) by (clear y z hj hsz q h3 hij hl hn;omega)];exact d i (j - 1) (by (clear z hj hsz q h3 h2 hij hl h1 hn;omega)) (by (clear y z hj hsz q h3 hij hl hn;omega)))
    ·obtain rfl:i=j:=by (clear z hj hsz q h3 h2 hl h1 hn;omega)
     exact Yb7 _
  have eq1:∀ k,lo+m - (e+1)<=k->k<lo+m->ka O (arrOf τ) k=ka O (arrOf τ) (lo+m - 1):=fun k k1 k2=>by
   have:=he (k - lo) (by (clear k2 hsz q h3 h2 hl h1 hn;omega)) (by (clear k1 hsz q h3 hl hn;omega))
   rwa [show lo+(k - lo)=k by (clear k2 hsz h3 h2 hl h1 hn;omega)] at this
  refine wpS_bind (ZcV hA h0 hT (by dsimp only;(clear hsz q h2 hl h1;omega)) (by dsimp only;(clear hsz q h2 hl h1;omega)) ?_);dsimp only
  cases ew:O.blt (ka O (arrOf τ) (lo+m)) (ka O (arrOf τ) (lo+m - 1)) with
  | true=>
   simp only[if_true];refine ZaE (fun _=>?_) (fun _=>?_)
   ·exact wpS_bind (Zbv (wpS_pure ⟨0,rfl,hT.mir (by (clear hsz h3 h2 hl h1 hn;omega)) (by (clear hsz q h2 hl h1;omega)),more _ (Zb5 hsz eq1) (Ycb ew),by (clear hsz q h3 h2 hl h1 hn;omega),fun i h2 h3=>by congr 1;(clear hsz q hl h1 hn;omega)⟩))
   ·exact wpS_pure ⟨0,rfl,hT,more _ (fun _=>rfl) (Ycb ew),by (clear hsz q h3 h2 hl h1 hn;omega),fun i h2 h3=>by congr 1;(clear hsz q hl h1 hn;omega)⟩
  | false=>
   simp only[YaO,if_false];refine wpS_bind (ZcV hA h0 hT (by (clear hsz q h2 hl h1;omega)) (by (clear hsz q h2 hl h1;omega)) ?_);dsimp only
   cases eg:O.blt (ka O (arrOf τ) (lo+m - 1)) (ka O (arrOf τ) (lo+m)) with
   | true=>
    simp only[if_true];exact wpS_pure (h m e τ hT h2 (by (clear hsz q h2 hl h1 hn;omega)) d q he)
   | false=>
    simp only[YaO,if_false];have hx:ka O (arrOf τ) (lo+m)=ka O (arrOf τ) (lo+m - 1):=Yeb (O:=O.toKeyOrd) eg ew;refine wpS_pure ⟨e+1,rfl,hT,more _ (fun _=>rfl) eg,by (clear hsz h3 h2 hl h1 hn;omega),fun i i1 i2=>?_⟩;rw[show lo+(m+1) - 1=lo+m by (clear i2 i1 hsz q h3 h2 hl h1 hn;omega)];rcases Ybd i m with z | z
    ·rw[hx];exact he i (by (clear z i2 hsz q h3 h2 hl h1 hn;omega)) z
    ·obtain rfl:i=m:=by (clear i1 hsz q h3 h2 hl h1 hn;omega)
     rfl
theorem Zj3 {nrem:Nat}{Q:Option Nat->SortSt->Prop} (hA:Asks prog w A s O knd ok) (h0:∀ x∈b₀.toList,ok x) (hF:FB knd b₀ p₀ lo st) (hn:lo+nrem<=b₀.size) (h1:1<=nrem)
  (h:∀ m τ,FB knd b₀ p₀ lo τ->1<=m->m<=nrem->Up O lo m (arrOf τ)->Q (some m) τ):wpS (model prog w) A E s (countRun' lo nrem) Q st:=by
 refine wpS_bind (Zcb (a:=1) hA h0 hF hn (Yap 1) h1 (fun i j hij hj=>?_) fun n n1 n2 u hor=>?_)
 ·obtain rfl:i=j:=by (clear h1 hn;omega)
  exact Yb7 _
 dsimp only;by_cases c:n=nrem
 ·rw[if_pos (by simpa using c)];exact wpS_pure (h n st hF n1 n2 u)
 rw[if_neg (by simpa using c)];have hlt:=hor.resolve_left c;have hsz:lo+n<=(arrOf st).size:=by rw[hF.size];(clear c hor n1 h1;omega)
 by_cases cg:n > 1
 ·rw[if_pos cg];refine wpS_bind (ZcV hA h0 hF (by (clear cg hsz c hor n2 n1;omega)) (by (clear cg hsz c hor n1;omega)) ?_)
  cases e:O.blt (ka O (arrOf st) lo) (ka O (arrOf st) (lo+n - 1)) with
  | true=>
   simp only[if_true];exact wpS_pure (h n st hF n1 n2 u)
  | false=>
   simp only[YaO,if_false];have all:∀ k,lo<=k->k<lo+n->ka O (arrOf st) k=ka O (arrOf st) (lo+n - 1):=by
    intro k k1 k2;have a1:=u 0 (k - lo) (by (clear k2 k1 cg hsz c hor n2 n1 h1 hn;omega)) (by (clear k1 cg hsz c hor n2 h1 hn;omega));have a2:=u (k - lo) (n - 1) (by (clear k1 cg hsz c hor n2 n1 h1 hn;omega)) (by (clear k2 k1 cg hsz c hor n2 h1 hn;omega));rw[show lo+(k - lo)=k by (clear k2 cg hsz c hor n2 n1 h1 hn;omega)] at a1 a2;rw[show lo+(n - 1)=lo+n - 1 by (clear k2 k1 cg hsz c hor n2 h1 hn;omega)] at a2;exact Yeb a2 (Ycy (O:=O.toKeyOrd) e a1)
   refine wpS_bind (Zbv ?_);have hF7:=FB.mir hF (i:=lo) (j:=lo+n) (Yap _) (by (clear cg hsz c hor n1 h1;omega));have d7:Dn O lo (n+1) (arrOf (setArr st (mirror (arrOf st) lo (lo+n) ((lo+n - lo) / 2)))):=by
    intro i j hij hj;show O.kle (ka O (mirror (arrOf st) _ _ _) _) (ka O (mirror (arrOf st) _ _ _) _);rw[Zb5 hsz all,Zb5 hsz all];rcases Ybd j n with z | z
    ·rw[all _ (by (clear z hj hij cg hsz c hor n2 n1 h1 hn;omega)) (show lo+j<lo+n by (clear hj hij cg hsz c hor n2 n1 h1 hn;omega)),all _ (by (clear z hj hij cg hsz c hor n2 n1 h1 hn;omega)) (show lo+i<lo+n by (clear hj cg hsz c hor n2 n1 h1 hn;omega))];exact Yb7 _
    ·obtain rfl:j=n:=by (clear hij cg hsz c hor n2 n1 h1 hn;omega)
     rcases Ybd i j with y | y
     ·rw[all _ (by (clear y z hj cg hsz c hor n2 n1 hij h1 hn;omega)) (show lo+i<lo+j by (clear z hj cg hsz c hor n2 n1 hij h1 hn;omega))];exact Ycb hlt
     ·obtain rfl:i=j:=by (clear z hj cg hsz c hor n2 n1 h1 hn;omega)
      exact Yb7 _
   refine wpS_bind (wpS_lift (wpAny_rule ⟨rfl,?_⟩));refine wpS_bind (ZfT hA h0 hF7 hn (by (clear cg hsz c hor n2 n1 h1 hn;omega)) (by (clear cg hsz hor n1 h1 hn;omega)) d7 fun m e τ hT m1 m2 d q he=>?_);dsimp only;have hsz:lo+m<=(arrOf τ).size:=by rw[hT.size];(clear q m1 cg hsz c hor n2 n1 h1;omega)
   have eq1:∀ k,lo+m - (e+1)<=k->k<lo+m->ka O (arrOf τ) k=ka O (arrOf τ) (lo+m - 1):=fun k k1 k2=>by
    have:=he (k - lo) (by (clear k2 hsz q m2 m1 cg c hor n2 n1 h1 hn;omega)) (by (clear k1 hsz q m2 cg c hor n2 n1 h1 hn;omega))
    rwa [show lo+(k - lo)=k by (clear k2 hsz m2 m1 cg c hor n2 n1 h1 hn;omega)] at this
   refine ZaE (fun _=>?_) (fun _=>?_)
   ·refine wpS_bind (Zbv ?_);have hF8:=FB.mir hT (i:=lo+m - (e+1)) (j:=lo+m) (by (clear hsz m2 m1 cg c hor n2 n1 h1 hn;omega)) (by (clear hsz q m1 cg c hor n2 n1 h1;omega));have d8:Dn O lo m (arrOf (setArr τ (mirror (arrOf τ) (lo+m - (e+1)) (lo+m) ((lo+m - (lo+m - (e+1))) / 2)))):=by
     intro i j hij hj;show O.kle (ka O (mirror (arrOf τ) _ _ _) _) (ka O (mirror (arrOf τ) _ _ _) _);rw[Zb5 hsz eq1,Zb5 hsz eq1];exact d i j hij hj
    refine wpS_bind (Zbv ?_);have hF9:=FB.mir hF8 (i:=lo) (j:=lo+m) (Yap _) (by (clear hsz q m1 cg c hor n2 n1 h1;omega));refine wpS_bind (Zcb hA h0 hF9 hn (by (clear hsz q m2 cg c hor n2 n1 h1 hn;omega)) m2 (ZfX d8 (by rw[FB.size hF8];(clear hsz q m1 cg c hor n2 n1 h1;omega))) fun m' m1' m2' u' _=>wpS_pure (h m' _ hF9 (by (clear m2' hsz q m2 cg c hor n2 n1 h1 hn;omega)) m2' u'))
   ·
    refine wpS_bind (Zbv ?_);have hF9:=FB.mir hT (i:=lo) (j:=lo+m) (Yap _) (by (clear hsz q m1 cg c hor n2 n1 h1;omega));refine wpS_bind (Zcb hA h0 hF9 hn (by (clear hsz q m2 cg c hor n2 n1 h1 hn;omega)) m2 (ZfX d (by rw[FB.size hT];(clear hsz q m1 cg c hor n2 n1 h1;omega))) fun m' m1' m2' u' _=>wpS_pure (h m' _ hF9 (by (clear m2' hsz q m2 cg c hor n2 n1 h1 hn;omega)) m2' u'))
 ·rw[if_neg cg];obtain rfl:n=1:=by (clear hsz c hor n2 h1 hn;omega)
  have d7:Dn O lo (1+1) (arrOf st):=by
   intro i j hij hj;rcases Ybd i j with y | y
   ·obtain rfl:i=0:=by (clear hij cg hsz c hor n2 n1 h1 hn;omega)
    obtain rfl:j=1:=by (clear hij cg hsz c hor n2 n1 h1 hn;omega)
    exact Ycb hlt
   ·obtain rfl:i=j:=by (clear hj cg hsz c hor n2 n1 h1 hn;omega)
    exact Yb7 _
  refine wpS_bind (wpS_lift (wpAny_rule ⟨rfl,?_⟩));refine wpS_bind (ZfT hA h0 hF hn (by (clear cg hsz c hor n2 n1 h1 hn;omega)) (by (clear cg hsz hor n2 n1 hn;omega)) d7 fun m e τ hT m1 m2 d q he=>?_);dsimp only;have hsz:lo+m<=(arrOf τ).size:=by rw[hT.size];(clear q m1 cg hsz c hor n2 n1 h1;omega)
  have eq1:∀ k,lo+m - (e+1)<=k->k<lo+m->ka O (arrOf τ) k=ka O (arrOf τ) (lo+m - 1):=fun k k1 k2=>by
   have:=he (k - lo) (by (clear k2 hsz q m2 m1 cg c hor n2 n1 h1 hn;omega)) (by (clear k1 hsz q m2 cg c hor n2 n1 h1 hn;omega))
   rwa [show lo+(k - lo)=k by (clear k2 hsz m2 m1 cg c hor n2 n1 h1 hn;omega)] at this
  refine ZaE (fun _=>?_) (fun _=>?_)
  ·refine wpS_bind (Zbv ?_);have hF8:=FB.mir hT (i:=lo+m - (e+1)) (j:=lo+m) (by (clear hsz m2 m1 cg c hor n2 n1 h1 hn;omega)) (by (clear hsz q m1 cg c hor n2 n1 h1;omega));have d8:Dn O lo m (arrOf (setArr τ (mirror (arrOf τ) (lo+m - (e+1)) (lo+m) ((lo+m - (lo+m - (e+1))) / 2)))):=by
    intro i j hij hj;show O.kle (ka O (mirror (arrOf τ) _ _ _) _) (ka O (mirror (arrOf τ) _ _ _) _);rw[Zb5 hsz eq1,Zb5 hsz eq1];exact d i j hij hj
   refine wpS_bind (Zbv ?_);have hF9:=FB.mir hF8 (i:=lo) (j:=lo+m) (Yap _) (by (clear hsz q m1 cg c hor n2 n1 h1;omega));refine wpS_bind (Zcb hA h0 hF9 hn (by (clear hsz q m2 cg c hor n2 n1 h1 hn;omega)) m2 (ZfX d8 (by rw[FB.size hF8];(clear hsz q m1 cg c hor n2 n1 h1;omega))) fun m' m1' m2' u' _=>wpS_pure (h m' _ hF9 (by (clear m2' hsz q m2 cg c hor n2 n1 h1 hn;omega)) m2' u'))
  ·
   refine wpS_bind (Zbv ?_);have hF9:=FB.mir hT (i:=lo) (j:=lo+m) (Yap _) (by (clear hsz q m1 cg c hor n2 n1 h1;omega));refine wpS_bind (Zcb hA h0 hF9 hn (by (clear hsz q m2 cg c hor n2 n1 h1 hn;omega)) m2 (ZfX d (by rw[FB.size hT];(clear hsz q m1 cg c hor n2 n1 h1;omega))) fun m' m1' m2' u' _=>wpS_pure (h m' _ hF9 (by (clear m2' hsz q m2 cg c hor n2 n1 h1 hn;omega)) m2' u'))
end
end
end L2
namespace L2
open PySem PyProof.Rows
section
variable {prog:Program}{w:World}{A:Around}{E:Value->Shared->Prop}{s:Shared}{O:KO}{knd:SortKind}{ok:Keyed->Prop}{st:SortSt}{b₀:Array Keyed}{p₀:Array (Nat × Nat × Nat)}{lo:Nat}
theorem ZlO {l r:Nat} (h:l<r):l<=(l+r) / 2/\(l+r) / 2<r:=by omega
theorem Zmy {l r k x N:Nat} (m1:l<=(l+r) / 2) (m2:(l+r) / 2<r) (hx:x<N) (e2:r<=k) (e3:r - l<=k - x):(l+r) / 2 - l<=k - (x+1):=by (clear e2 hx m2 m1;omega)
theorem Zmx {l r k x N:Nat} (m1:l<=(l+r) / 2) (m2:(l+r) / 2<r) (hx:x<N) (e2:r<=k) (e3:r - l<=k - x):r - ((l+r) / 2+1)<=k - (x+1):=by (clear e2 hx m2 m1;omega)
theorem Zj4 {n m:Nat}{Q:Bool->SortSt->Prop} (hA:Asks prog w A s O knd ok) (h0:∀ x∈b₀.toList,ok x) (hF:FB knd b₀ p₀ lo st) (hn:lo+n<=b₀.size) (h1:1<=m) (hm:m<=n) (hu:Up O lo m (arrOf st))
  (h:∀ τ,FB knd b₀ p₀ lo τ->Up O lo n (arrOf τ)->Q true τ):wpS (model prog w) A E s (binarySort' lo n m) Q st:=by
 rw[binarySort'_eq,Nat.max_eq_left h1];refine wpS_bind (wpS_mono (wpS_forRange (I:=fun k c τ=>c=(none,())/\FB knd b₀ p₀ lo τ/\Up O lo k (arrOf τ))
  (Q:=fun c τ=>c=(none,())/\FB knd b₀ p₀ lo τ/\Up O lo n (arrOf τ)) ?go ?out ⟨rfl,hF,hu⟩) ?fin)
 case fin=>
  rintro c τ ⟨rfl,hT,u⟩;exact wpS_pure (h τ hT u)
 case out=>
  rintro c τ ⟨hc,hT,u⟩;rw[Ydv hm] at u;exact⟨hc,hT,u⟩
 case go=>
  rintro k c τ k1 k2 ⟨rfl,hT,u⟩;refine wpS_bind (wpS_mono (wpS_forRange (I:=fun x c τ'=>τ'=τ/\∃ l r,c=(none,l,r)/\l<=r/\r<=k/\r - l<=k - x /\
    (∀ i,i<l->O.kle (ka O (arrOf τ) (lo+i)) (ka O (arrOf τ) (lo+k)))/\∀ i,r<=i->i<k->O.klt (ka O (arrOf τ) (lo+k)) (ka O (arrOf τ) (lo+i)))
   (Q:=fun c τ'=>τ'=τ/\∃ l,c=(none,l,l)/\l<=k/\(∀ i,i<l->O.kle (ka O (arrOf τ) (lo+i)) (ka O (arrOf τ) (lo+k)))/\∀ i,l<=i->i<k->O.klt (ka O (arrOf τ) (lo+k)) (ka O (arrOf τ) (lo+i))) ?go2 ?out2
   ⟨rfl,0,k,rfl,YaX _,Yap _,Yap _,fun i hi=>absurd hi (YdI _),fun i i1 i2=>absurd i2 (Nat.not_lt.mpr i1)⟩) ?fin2)
  case out2=>
   rintro c τ' ⟨rfl,l,r,rfl,e1,e2,e3,e4,e5⟩;obtain rfl:l=r:=by (clear e2 k2 k1 hm h1 hn;omega)
   exact⟨rfl,l,rfl,e2,e4,e5⟩
  case go2=>
   rintro x c τ' _ hx ⟨rfl,l,r,rfl,e1,e2,e3,e4,e5⟩;dsimp only;by_cases hge:l ≥ r
   ·rw[if_pos hge];obtain rfl:l=r:=by (clear e3 e2 hx k2 k1 hm h1 hn;omega)
    exact wpS_pure ⟨rfl,l,rfl,e2,e4,e5⟩
   rw[if_neg hge];obtain⟨m1,m2⟩:=ZlO (Nat.lt_of_not_le hge);have mk:(l+r) / 2<k:=Yag m2 e2;have kn:lo+k<b₀.size:=Yag (Yes k2 lo) hn;refine wpS_bind (ZcV hA h0 hT kn (Nat.lt_trans (Yes mk lo) kn) ?_)
   cases e:O.blt (ka O (arrOf τ') (lo+k)) (ka O (arrOf τ') (lo+(l+r) / 2)) with
   | true=>
    simp only[if_true];exact wpS_pure ⟨rfl,l,(l+r) / 2,rfl,m1,Ybc mk,Zmy m1 m2 hx e2 e3,e4,fun i i1 i2=>KeyOrd.klt_of_klt_of_kle e (u _ _ i1 i2)⟩
   | false=>
    simp only[YaO,if_false];exact wpS_pure ⟨rfl,(l+r) / 2+1,r,rfl,m2,e2,Zmx m1 m2 hx e2 e3,fun i i1=>Ycy (u i ((l+r) / 2) (Nat.le_of_lt_succ i1) mk) e,e5⟩
  case fin2=>
   rintro c τ' ⟨rfl,l,rfl,e2,e4,e5⟩;dsimp only;rw[moveDown'_eq];have hks:lo+k<(arrOf τ').size:=by rw[hT.size];(clear e2 k1 hm h1;omega)
   refine wpS_bind (wpS_modify (wpS_pure ⟨rfl,hT.put (bubble_perm _ _ _) (fun i hi=>?_),?_⟩))
   ·rw[getElem?_bubble hks _ (by (clear hi hks e2 k2 k1 hm h1 hn;omega)),if_neg (by (clear hks e2 k2 k1 hm h1 hn;omega)),if_neg (by (clear hks e2 k2 k1 hm h1 hn;omega))]
   ·intro i j hij hj;show O.kle (ka O (bubble (arrOf τ') (lo+k) (lo+k - (lo+l))) _) (ka O (bubble (arrOf τ') (lo+k) (lo+k - (lo+l))) _);rw[ZjU hks (by (clear hj hij hks e2 k2 k1 hm h1 hn;omega)),ZjU hks (by (clear hj hij hks e2 k2 k1 hm h1 hn;omega)),show lo+k - (lo+k - (lo+l))=lo+l by (clear hj hij hks k2 k1 hm h1 hn;omega)]
    repeat' split
    all_goals first
     | (exfalso;omega)
     | exact Yb7 _
     | exact e4 _ (by omega)
     | (rw[show lo+j - 1=lo+(j - 1) by (clear hj hij hks e2 k2 k1 hm h1 hn;omega)];exact Ycb (e5 _ (by (clear hj hij hks e2 k2 k1 hm h1 hn;omega)) (by (clear hj hij hks e2 k2 k1 hm h1 hn;omega))))
     | exact Ycb (e5 _ (by omega) (by omega))
     | (rw[show lo+i - 1=lo+(i - 1) by (clear hj hij hks e2 k2 k1 hm h1 hn;omega),show lo+j - 1=lo+(j - 1) by (clear hj hij hks e2 k2 k1 hm h1 hn;omega)];exact u _ _ (by (clear hj hks e2 k2 k1 hm h1 hn;omega)) (by (clear hj hij hks e2 k2 k1 hm h1 hn;omega)))
     | (rw[show lo+j - 1=lo+(j - 1) by (clear hj hij hks e2 k2 k1 hm h1 hn;omega)];exact u _ _ (by (clear hj hks e2 k2 k1 hm h1 hn;omega)) (by (clear hj hij hks e2 k2 k1 hm h1 hn;omega)))
     | exact u _ _ (by (clear hj hks e2 k2 k1 hm h1 hn;omega)) (by (clear hij hks k2 k1 hm h1 hn;omega))
def pos:Nat->List (List Keyed)->List (Nat × Nat)
 | _,[]=>[]
 | o,r::rs=>(o,r.length)::pos (o+r.length) rs
theorem ZbN:∀ (o:Nat) (xs ys:List (List Keyed)),pos o (xs++ys)=pos o xs++pos (o+xs.flatten.length) ys
 | o,[],ys=>by simp[pos]
 | o,r::rs,ys=>by
  simp only[YcD,pos,ZbN,YaM,Yai];rw[Nat.add_assoc]
theorem Zcv:∀ (o:Nat) (xs:List (List Keyed)),(pos o xs).length=xs.length
 | _,[]=>rfl
 | o,r::rs=>by simp only[pos,Ya3,Zcv]
def pr (p:Nat × Nat × Nat):Nat × Nat:=(p.1,p.2.1)
structure RI (O:KO) (knd:SortKind) (a₀:List Keyed) (runs:List (List Keyed)) (rest:List Keyed) (st:SortSt):Prop where
 arr:(arrOf st).toList=runs.flatten++rest
 perm:(arrOf st).toList.Perm a₀
 srt:∀ r∈runs,O.Srt r
 ne:∀ r∈runs,1<=r.length
 kind:kindOf st=knd
 failed:failedOf st=none
 pend:(pendingOf st).toList.map pr=pos 0 runs
theorem Zdv:∀ (l:List Keyed) (n sa:Nat) (xs:Array Keyed) (P M S:List Keyed),xs.toList=P++M++S->M.length=l.length->P.length=sa+n ->
  ((l.zipIdx n).foldl (fun a (q:Keyed × Nat)=>a.setIfInBounds (sa+q.2) q.1) xs).toList=P++l++S
 | [],n,sa,xs,P,M,S,e,h1,h2=>by
  have:M=[]:=Ybl.mp h1;subst this;simpa using e
 | x::l,n,sa,xs,P,[],S,e,h1,h2=>by cases h1
 | x::l,n,sa,xs,P,y::M,S,e,h1,h2=>by
  rw[Yds,List.foldl_cons];have q:=Zdv l (n+1) sa (xs.setIfInBounds (sa+n) x) (P++[x]) M S ?_ (by simpa using h1) (by simp;(clear h1;omega))
  ·rw[q];simp
  ·rw[YdF,e,<- h2];simp
theorem ZhU {α β:Type}{f:α->β}{l:List α}{X Z:List β}{x y:β} (h:l.map f=X++x::y::Z):∃ P p q S,l=P++p::q::S/\P.map f=X/\f p=x/\f q=y/\S.map f=Z:=by
 obtain⟨P,l2,e1,e2,e3⟩:=List.map_eq_append_iff.mp h;obtain⟨p,l3,e4,e5,e6⟩:=Yej.mp e3;obtain⟨q,S,e7,e8,e9⟩:=Yej.mp e6;exact⟨P,p,q,S,by rw[e1,e4,e7],e2,e5,e8,e9⟩
theorem ZcG {α:Type}{pre m post:List α}{l:List α}{i:Nat} (e:l=pre++m++post) (hi:i<m.length):l[pre.length+i]?=m[i]?:=by
 rw[e,YaK,Yax (by (clear hi;omega)),Yc0,Yas hi]
theorem ZjM {xs:Array Keyed}{pre m post:List Keyed} (e:xs.toList=pre++m++post) (sm:O.Srt m):∀ p q x y,pre.length<=p->p<=q->q<pre.length+m.length->xs[p]?=some x->xs[q]?=some y->O.le x y:=by
 intro p q x y h1 h2 h3 e1 e2;have f1:=ZcG (i:=p - pre.length) e (by omega);have f2:=ZcG (i:=q - pre.length) e (by omega);rw[show pre.length+(p - pre.length)=p by (clear h3 h2;omega),Yam,e1] at f1;rw[show pre.length+(q - pre.length)=q by (clear h3;omega),Yam,e2] at f2;exact Zcg sm (by (clear h3 h1;omega)) f1.symm f2.symm
theorem Zie {xs:Array Keyed}{P M S:List Keyed}{i j:Nat} (e:xs.toList=P++M++S) (hi:i=P.length) (hj:j=P.length+M.length):(xs.extract i j).toList=M:=by
 rw[Zeo,e,hi,hj,YaK,List.drop_left,Yc0,YcS]
theorem srt3 {x y z:List Keyed} (hx:O.Srt x) (hy:O.Srt y) (hz:O.Srt z) (xy:∀ p∈x,∀ q∈y,O.le p q) (yz:∀ p∈y,∀ q∈z,O.le p q) (xz:∀ p∈x,∀ q∈z,O.le p q):O.Srt (x++y++z):=by
 refine YaS.mpr ⟨YaS.mpr ⟨hx,hy,xy⟩,hz,fun p hp q hq=>?_⟩;rcases Yar.mp hp with hp | hp
 ·exact xz p hp q hq
 ·exact yz p hp q hq
theorem Zj2 {M:Model}{σ:Type}{x y:σ}{Q:PUnit->σ->Prop} (h:Q ⟨⟩ x):wpS M A E s (set x:StateT σ Sem PUnit) Q y:=by
 unfold wpS;rw[StateT.run_set];exact wpAny_pure ⟨rfl,h⟩
theorem ZbW {a₀ rest:List Keyed}{R1 R2:List (List Keyed)}{a b:List Keyed}{i:Nat}{Q:Bool->SortSt->Prop} (hA:Asks prog w A s O knd ok) (h0:∀ x∈a₀,ok x) (hR:RI O knd a₀ (R1++a::b::R2) rest st) (hi:R1.length=i)
  (h:∀ m τ,m.Perm (a++b)->RI O knd a₀ (R1++m::R2) rest τ->Q true τ):wpS (model prog w) A E s (mergeAt' i) Q st:=by
 have hp:=hR.pend;rw[ZbN] at hp;obtain⟨P,p,q,S,ep,e1,e2,e3,e4⟩:=ZhU hp;obtain⟨p1,p2,w1⟩:=p;obtain⟨q1,q2,w2⟩:=q;simp only[pr,Prod.mk.injEq,Ybt] at e2 e3;obtain⟨rfl,rfl⟩:=e2;obtain⟨rfl,rfl⟩:=e3;have hP:P.length=i:=by rw[<- hi,<- Zcv 0 R1,<- e1,Yaa]
 have g1:(pendingOf st)[i]?=some (R1.flatten.length,a.length,w1):=by
  rw[<- Yam,ep,Yax (by (clear hi;omega)),hP,Nat.sub_self];rfl
 have g2:(pendingOf st)[i+1]?=some (R1.flatten.length+a.length,b.length,w2):=by
  rw[<- Yam,ep,Yax (by (clear hi;omega)),hP,Yc0];rfl
 have ea:(arrOf st).toList=R1.flatten++a++(b++(R2.flatten++rest)):=by
  rw[hR.arr];simp
 have eb:(arrOf st).toList=(R1.flatten++a)++b++(R2.flatten++rest):=by
  rw[hR.arr];simp
 have sa:O.Srt a:=hR.srt a (by simp);have sb:O.Srt b:=hR.srt b (by simp);have la:1<=a.length:=hR.ne a (by simp);have lb:1<=b.length:=hR.ne b (by simp);have oks:∀ x∈(arrOf st).toList,ok x:=fun x hx=>h0 x (hR.perm.mem_iff.mp hx);have oka:∀ x∈a,ok x:=fun x hx=>oks x (by rw[ea];simp[hx]);have okb:∀ x∈b,ok x:=fun x hx=>oks x (by rw[eb];simp[hx]);have fin:∀ (τ:SortSt) (m:List Keyed),m.Perm (a++b)->O.Srt m->(arrOf τ).toList=R1.flatten++m++(R2.flatten++rest)->kindOf τ=knd->failedOf τ=none->(pendingOf τ).toList=P++(R1.flatten.length,a.length+b.length,w1)::S->Q true τ:=by
  intro τ m pm sm em k1 k2 k3;have lm:m.length=a.length+b.length:=by rw[pm.length_eq,Yai]
  refine h m τ pm ⟨by rw[em];simp,?_,?_,?_,k1,k2,?_⟩
  ·refine Ydg ?_ hR.perm;rw[em,ea];have:=Yb2 R1.flatten (YcW (R2.flatten++rest) pm);simpa using this
  ·intro r hr;rcases Yar.mp hr with hr | hr
   ·exact hR.srt r (YaT _ hr)
   ·rcases Yal.mp hr with hr | hr
    ·rw[hr];exact sm
    ·exact hR.srt r (by simp[hr])
  ·intro r hr;rcases Yar.mp hr with hr | hr
   ·exact hR.ne r (YaT _ hr)
   ·rcases Yal.mp hr with hr | hr
    ·rw[hr];(clear lb hP hi;omega)
    ·exact hR.ne r (by simp[hr])
  ·rw[k3,ZbN,YaP,e1,Yav,e4,Ybt];simp only[pos,pr,lm,Nat.add_assoc]
 have new:(((pendingOf st).setIfInBounds i (R1.flatten.length,a.length+b.length,w1)).eraseIdxIfInBounds (i+1)).toList=P++(R1.flatten.length,a.length+b.length,w1)::S:=by
  rw[Array.toList_eraseIdxIfInBounds,YdF,ep,<- hP];simp[List.eraseIdx_append_of_length_le]
 refine wpS_bind (wpS_get ?_);rw[show (pendingOf st)[i]?=_ from g1,show (pendingOf st)[i+1]?=_ from g2];dsimp only;refine wpS_bind (Zj2 ?_);have eb0:(arrOf st).toList[(R1.flatten++a).length+0]?=b[0]?:=ZcG eb (by (clear la hP hi;omega));have hb0:b[0]?=some b[0]:=Yae lb;have eb1:(arrOf st)[R1.flatten.length+a.length]?=some b[0]:=by
  rw[<- Yam,<- hb0,<- eb0,Yai,Nat.add_zero]
 have mb0:b[0]∈b:=Ycl _;refine wpS_bind (Zak eb1 ?_);have hlen:(arrOf st).size=R1.flatten.length+a.length+b.length+(R2.flatten++rest).length:=by
  rw[<- Ya7,eb];simp only[Yai]
 refine wpS_bind (ZbX hA hR.kind (okb _ mb0) oks (show R1.flatten.length+a.length<=(arrOf st).size by (clear la hP hi;omega)) (ZjM ea sa) (by (clear hlen hP hi;omega)) fun k hk1 u1 u2=>?_);have ka1:∀ z∈a.take k,O.le z b[0]:=by
  intro z hz;obtain⟨j,hj,e⟩:=ZaO hz;refine u1 j z hj ?_;rw[<- Yam,ZcG ea (by (clear hlen la hP hi;omega))];exact e
 have ka2:∀ z∈a.drop k,O.blt (O.ky b[0]) (O.ky z)=true:=by
  intro z hz;obtain⟨j,hj,e⟩:=ZaP hz;have hj2:j<a.length:=(Yab.mp e).1
  refine u2 j z hj hj2 ?_;rw[<- Yam,ZcG ea hj2];exact e
 have bb:∀ z∈b,O.le b[0] z:=fun z hz=>Zcy sb hb0 z (by simpa using hz);dsimp only;by_cases ck:a.length - k=0
 ·rw[if_pos (by simpa using ck)];have ek:a.take k=a:=Ybu (by (clear hk1 hlen la hP hi;omega));rw[ek] at ka1;refine wpS_pure (fin _ (a++b) (Yen _) (YaS.mpr ⟨sa,sb,fun x hx y hy=>KO.le_trans (ka1 x hx) (bb y hy)⟩) ?_ hR.kind hR.failed new);show (arrOf st).toList=_;rw[ea];simp
 rw[if_neg (by simpa using ck)];have hla:a[a.length - 1]?=some a[a.length - 1]:=Yae (by (clear ck hk1 hlen hP hi;omega));have mla:a[a.length - 1]∈a:=Ycl _;have mla2:a[a.length - 1]∈a.drop k:=by
  refine List.mem_iff_getElem?.mpr ⟨a.length - 1 - k,?_⟩;rw[YbF,show k+(a.length - 1 - k)=a.length - 1 by (clear hk1 hP hi;omega)];exact hla
 have ela:(arrOf st)[R1.flatten.length+k+(a.length - k) - 1]?=some a[a.length - 1]:=by
  rw[<- Yam,show R1.flatten.length+k+(a.length - k) - 1=R1.flatten.length+(a.length - 1) by (clear ck hP hi;omega),ZcG ea (by (clear ck hk1 hP hi;omega))];exact hla
 refine wpS_bind (Zak ela ?_);refine wpS_bind (Za3 hA hR.kind (oka _ mla) oks (show R1.flatten.length+a.length+b.length<=(arrOf st).size by (clear ck hk1 hP hi;omega)) (by rw[<- Yai];exact ZjM eb sb) (by (clear ck hk1 hP hi;omega)) fun n hn1 v1 v2=>?_);have kb1:∀ z∈b.take n,O.blt (O.ky z) (O.ky a[a.length - 1])=true:=by
  intro z hz;obtain⟨j,hj,e⟩:=ZaO hz;refine v1 j z hj ?_;rw[<- Yam,<- Yai,ZcG eb (by (clear ck hk1 hP hi;omega))];exact e
 have kb2:∀ z∈b.drop n,O.le a[a.length - 1] z:=by
  intro z hz;obtain⟨j,hj,e⟩:=ZaP hz;have hj2:j<b.length:=(Yab.mp e).1
  refine v2 j z hj hj2 ?_;rw[<- Yam,<- Yai,ZcG eb hj2];exact e
 have hn0:1<=n:=by
  rcases Ydf n with z | z
  ·subst z;have q1:=ka2 _ mla2;rw[show O.blt (O.ky b[0]) (O.ky a[a.length - 1])=false from kb2 b[0] (by simpa using mb0)] at q1;cases q1
  ·exact z
 have aa:∀ z∈a,O.le z a[a.length - 1]:=fun z hz=>ZhZ sa hla z (by rw[show a.length - 1+1=a.length by (clear hn0 hn1 ck hk1 hP hi;omega),YaR];exact hz);dsimp only;rw[if_neg (by simp;(clear hn1 ck hk1 hP hi;omega))];have exx:((arrOf st).extract (R1.flatten.length+k) (R1.flatten.length+a.length)).toList=a.drop k :=
  Zie (P:=R1.flatten++a.take k) (S:=b++(R2.flatten++rest)) (by rw[ea];simp[<- YaK];simp[YaK,YaQ]) (by simp;(clear hn0 hn1 ck hP hi;omega)) (by simp;(clear hn0 hn1 ck hk1 hP hi;omega))
 have exy:((arrOf st).extract (R1.flatten.length+a.length) (R1.flatten.length+a.length+n)).toList=b.take n :=
  Zie (P:=R1.flatten++a) (S:=b.drop n++(R2.flatten++rest)) (by rw[eb];simp only[YaK];rw[<- YaK (b.take n),YaQ]) (by simp) (by simp;(clear hn0 ck hk1 hP hi;omega))
 have sx:O.Srt (a.drop k):=sa.drop;have sy:O.Srt (b.take n):=sb.take;have after:∀ (r:Array Keyed) (τ:SortSt),Gal (Ydc (kindOf st) (arrOf st) (((pendingOf st).setIfInBounds i (R1.flatten.length,a.length+b.length,w1)).eraseIdxIfInBounds (i+1)) (gallopOf st) (failedOf st)) τ->Mg O (a.drop k) (b.take n) r.toList ->
   Q true (Ydc (kindOf τ) (r.toList.zipIdx.foldl (fun a (q:Keyed × Nat)=>a.setIfInBounds (R1.flatten.length+k+q.2) q.1) (arrOf τ)) (pendingOf τ) (gallopOf τ) (failedOf τ)):=by
  intro r τ hG hM;have mem:∀ z∈r.toList,z∈a.drop k∨z∈b.take n:=fun z hz=>Yar.mp (hM.1.mem_iff.mp hz);refine fin _ (a.take k++r.toList++b.drop n) ?_ (srt3 sa.take hM.2 sb.drop (fun p hp q hq=>?_) (fun p hp q hq=>?_) fun p hp q hq=>?_) ?_ (hG.1.trans hR.kind) (hG.2.2.2.trans hR.failed) (by rw[show pendingOf τ=_ from hG.2.2.1];exact new)
  ·have p1:(a.take k++r.toList++b.drop n).Perm (a.take k++(a.drop k++b.take n)++b.drop n):=YcW _ (Yb2 _ hM.1);refine p1.trans (List.Perm.of_eq ?_);rw[<- YaK,YaQ,YaK,YaQ]
  ·rcases mem q hq with m | m
   ·refine (YaS.mp (show O.Srt (a.take k++a.drop k) from by rw[YaQ];exact sa)).2.2 p hp q m
   ·exact KO.le_trans (ka1 p hp) (bb q (Ya4 m))
  ·rcases mem p hp with m | m
   ·exact KO.le_trans (aa p (YbT m)) (kb2 q hq)
   ·refine (YaS.mp (show O.Srt (b.take n++b.drop n) from by rw[YaQ];exact sb)).2.2 p m q hq
  ·exact KO.le_trans (ka1 p hp) (bb q (YbT hq))
  ·show (YdS _ (arrOf τ) _).toList=_;rw[show arrOf τ=arrOf st from hG.2.1];have:=Zdv r.toList 0 (R1.flatten.length+k) (arrOf st) (R1.flatten++a.take k) (a.drop k++b.take n) (b.drop n++(R2.flatten++rest)) ?_ (by rw[hM.1.length_eq]) (by simp;(clear hn0 hn1 ck hP hi;omega))
   ·rw[this];simp
   ·rw[eb];simp only[YaK];rw[<- YaK (a.take k),YaQ,<- YaK (b.take n),YaQ]
 have xsz:((arrOf st).extract (R1.flatten.length+k) (R1.flatten.length+a.length)).size=a.length - k:=by
  rw[<- Ya7,exx,YaU]
 have ysz:((arrOf st).extract (R1.flatten.length+a.length) (R1.flatten.length+a.length+n)).size=n:=by
  rw[<- Ya7,exy,YaL];(clear xsz hn0 ck hk1 hP hi;omega)
 have y0:∀ y,((arrOf st).extract (R1.flatten.length+a.length) (R1.flatten.length+a.length+n))[0]?=some y->y=b[0]:=by
  intro y e;rw[<- Yam,exy,Ya9 (by (clear ysz xsz hn1 ck hk1 hP hi;omega)),hb0] at e;exact (Yau e).symm
 have xl:∀ z,((arrOf st).extract (R1.flatten.length+k) (R1.flatten.length+a.length))[((arrOf st).extract (R1.flatten.length+k) (R1.flatten.length+a.length)).size - 1]?=some z->z=a[a.length - 1]:=by
  intro z e;rw[xsz,<- Yam,exx,YbF,show k+(a.length - k - 1)=a.length - 1 by (clear ysz xsz hn0 hn1 hk1 hP hi;omega),hla] at e;exact (Yau e).symm
 have hx1:1<=((arrOf st).extract (R1.flatten.length+k) (R1.flatten.length+a.length)).size:=by rw[xsz];(clear ysz xsz hn0 hn1 hk1 hP hi;omega)
 have hy1:1<=((arrOf st).extract (R1.flatten.length+a.length) (R1.flatten.length+a.length+n)).size:=by rw[ysz];(clear hx1 ysz xsz hn1 ck hk1 hP hi;omega)
 refine ZaE (fun _=>?_) (fun _=>?_)
 ·refine wpS_bind (Zfh hA hR.kind (by rw[exx];exact fun x hx=>oka x (YbT hx)) (by rw[exy];exact fun x hx=>okb x (Ya4 hx)) (by rw[exx];exact sx) (by rw[exy];exact sy) hx1 hy1 ?_ ?_ ?_)
  ·intro y e x hx;rw[y0 y e];rw[exx] at hx;exact KO.le_of_lt (ka2 x hx)
  ·intro z e y hy;rw[xl z e];rw[exy] at hy;exact kb1 y hy
  ·intro r τ hG hM;rw[exx,exy] at hM;refine wpS_bind (wpS_modify (wpS_bind (wpS_get ?_)));have e9:failedOf τ=none:=hG.2.2.2.trans hR.failed;refine wpS_pure ?_;show Q (failedOf τ).isNone _;rw[e9];exact after r τ hG hM
 ·refine wpS_bind (Zfi hA hR.kind (by rw[exx];exact fun x hx=>oka x (YbT hx)) (by rw[exy];exact fun x hx=>okb x (Ya4 hx)) (by rw[exx];exact sx) (by rw[exy];exact sy) hx1 hy1 ?_ ?_ ?_)
  ·intro y e x hx;rw[y0 y e];rw[exx] at hx;exact ka2 x hx
  ·intro z e y hy;rw[xl z e];rw[exy] at hy;exact KO.le_of_lt (kb1 y hy)
  ·intro r τ hG hM;rw[exx,exy] at hM;refine wpS_bind (wpS_modify (wpS_bind (wpS_get ?_)));have e9:failedOf τ=none:=hG.2.2.2.trans hR.failed;refine wpS_pure ?_;show Q (failedOf τ).isNone _;rw[e9];exact after r τ hG hM
end
end L2
namespace L2
open PySem PyProof.Rows
section
variable {prog:Program}{w:World}{A:Around}{E:Value->Shared->Prop}{s:Shared}{O:KO}{knd:SortKind}{ok:Keyed->Prop}{st τ:SortSt}
theorem ZkL {c:Prop} [Decidable c] {a b n:Nat} (h1:a<=n) (h2:b<=n):(if c then a else b)<=n:=by split <;> assumption
theorem Zcf {α:Type}:∀ {l:List α}{i:Nat},i+1<l.length->∃ R1 a b R2,l=R1++a::b::R2/\R1.length=i
 | [],_,h=>by simp at h
 | [_],_,h=>by simp at h
 | a::b::l,0,_=>⟨[],a,b,l,rfl,rfl⟩
 | a::b::l,i+1,h=>by
  obtain⟨R1,x,y,R2,e,q⟩:=Zcf (l:=b::l) (i:=i) (by simpa using h);exact⟨a::R1,x,y,R2,by rw[e];rfl,by simp[q]⟩
theorem RI.len {a₀ rest:List Keyed}{runs:List (List Keyed)} (h:RI O knd a₀ runs rest st):(pendingOf st).size=runs.length:=by
 rw[<- Ya7,<- Zcv 0 runs,<- h.pend,Yaa]
theorem RI.size {a₀ rest:List Keyed}{runs:List (List Keyed)} (h:RI O knd a₀ runs rest st):(arrOf st).size=runs.flatten.length+rest.length:=by
 rw[<- Ya7,h.arr,Yai]
theorem RI.size0 {a₀ rest:List Keyed}{runs:List (List Keyed)} (h:RI O knd a₀ runs rest st):(arrOf st).size=a₀.length:=by
 rw[<- Ya7,h.perm.length_eq]
theorem Zhp:∀ {runs:List (List Keyed)},(∀ r∈runs,1<=r.length)->runs.length<=runs.flatten.length
 | [],_=>by simp
 | r::rs,h=>by
  have q:=Zhp (runs:=rs) fun x hx=>h x (by simp[hx]);have:=h r (by simp);simp only[Ya3,YaM,Yai];omega
theorem Zl4 {a₀ rest:List Keyed}{runs:List (List Keyed)}{n:Nat} (h:RI O knd a₀ runs rest st) (hF:FB knd (arrOf st) (pendingOf st) runs.flatten.length τ) (hu:Up O runs.flatten.length n (arrOf τ)) (hn:n<=rest.length) :
  ∃ r rest',r.length=n/\O.Srt r/\rest.length=n+rest'.length/\RI O knd a₀ runs (r++rest') τ:=by
 have hpm:=YdG.mp hF.perm;have hsz:(arrOf τ).size=runs.flatten.length+rest.length:=by rw[hF.size,h.size]
 have e1:(arrOf τ).toList.take runs.flatten.length=runs.flatten:=by
  have:(arrOf τ).toList.take runs.flatten.length=(arrOf st).toList.take runs.flatten.length:=by
   apply YeE;intro i;rcases Ybd i runs.flatten.length with hi | hi
   ·rw[Ya9 hi,Ya9 hi,Yam,Yam];exact hF.keep i hi
   ·rw[Yca (by rw[YaL];(clear hsz hn;omega)),Yca (by rw[YaL];(clear hsz hn;omega))]
  rw[this,h.arr,YcS]
 have e2:(arrOf τ).toList=runs.flatten++(arrOf τ).toList.drop runs.flatten.length:=by
  conv=>lhs;rw[<- YaQ runs.flatten.length (arrOf τ).toList,e1]
 have lr:((arrOf τ).toList.drop runs.flatten.length).length=rest.length:=by
  rw[YaU,Ya7];(clear hn;omega)
 refine⟨((arrOf τ).toList.drop runs.flatten.length).take n,((arrOf τ).toList.drop runs.flatten.length).drop n,by rw[YaL];(clear hsz;omega),?_,by rw[YaU];(clear hsz;omega),⟨by rw[YaQ];exact e2,hpm.trans h.perm,h.srt,h.ne,hF.kind,hF.failed,by rw[hF.pend];exact h.pend⟩⟩;refine YdL.mpr fun i j hi hj hij=>?_;rw[YaL] at hi hj;have q:=hu i j (by (clear hj hi lr hsz hn;omega)) (by (clear hij hi lr hsz hn;omega));rw[Ydk,Ydk,YeD,YeD];have g:∀ k (hk:runs.flatten.length+k<(arrOf τ).toList.length),ka O (arrOf τ) (runs.flatten.length+k)=O.ky ((arrOf τ).toList[runs.flatten.length+k]):=by
  intro k hk;unfold ka;rw[<- Yam,Yae hk];rfl
 have hlt:(arrOf τ).toList.length=runs.flatten.length+rest.length:=by rw[Ya7];exact hsz
 rw[g i (by (clear hij hj lr hsz;omega)),g j (by (clear hij lr hsz;omega))] at q;exact q
theorem RI.push {a₀ rest r:List Keyed}{runs:List (List Keyed)}{lo n:Nat} (h:RI O knd a₀ runs (r++rest) st) (hs:O.Srt r) (hr:r.length=n) (hn:1<=n) (hl:lo=runs.flatten.length):RI O knd a₀ (runs++[r]) rest (setPending st ((pendingOf st).push (lo,n,0))):=by
 refine⟨?_,h.perm,?_,?_,h.kind,h.failed,?_⟩
 ·show (arrOf st).toList=_;rw[h.arr];simp
 ·intro x hx;rcases Yar.mp hx with hx | hx
  ·exact h.srt x hx
  ·rw[YaI.mp hx];exact hs
 ·intro x hx;rcases Yar.mp hx with hx | hx
  ·exact h.ne x hx
  ·rw[YaI.mp hx];(clear hl;omega)
 ·show ((pendingOf st).push (lo,n,0)).toList.map pr=_;rw[Ycu,YaP,h.pend,ZbN,hl,<- hr];simp[pos,pr]
theorem RI.pow {a₀ rest:List Keyed}{runs:List (List Keyed)}{pw:Nat} (h:RI O knd a₀ runs rest st):RI O knd a₀ runs rest (setPending st ((pendingOf st).modify ((pendingOf st).size - 1) fun x=>(x.1,x.2.1,pw))):=by
 refine⟨h.arr,h.perm,h.srt,h.ne,h.kind,h.failed,?_⟩;show ((pendingOf st).modify _ _).toList.map pr=_;rw[<- h.pend];apply YeE;intro i;rw[Yaf,Yaf,Yam,Yam,Yc2];split
 ·cases (pendingOf st)[i]? <;> rfl
 ·rfl
theorem Zfg {a₀:Array Keyed}{Q:Unit->SortSt->Prop} (hA:Asks prog w A s O knd ok) (h0:∀ x∈a₀.toList,ok x) (ha:arrOf st=a₀) (hk:kindOf st=knd) (hf:failedOf st=none) (hp:pendingOf st=#[])
  (h:∀ τ,(arrOf τ).toList.Perm a₀.toList->failedOf τ=none->O.Srt (arrOf τ).toList->Q () τ):wpS (model prog w) A E s sortRuns' Q st:=by
 refine wpS_bind (wpS_get ?_);dsimp only;have hN:(arrOf st).size=a₀.size:=by rw[ha]
 have hN2:a₀.toList.length=a₀.size:=Ya7;rw[hN];refine wpS_bind (wpS_mono (wpS_forRange
  (I:=fun x c τ=>∃ lo runs rest,c=((none:Option Unit),lo)/\RI O knd a₀.toList runs rest τ/\lo=runs.flatten.length/\(x<=lo))
  (Q:=fun c τ=>∃ lo runs,c=((none:Option Unit),lo)/\RI O knd a₀.toList runs [] τ) ?go ?out ⟨0,[],a₀.toList,rfl,⟨by rw[ha];simp,by rw[ha],(fun r hr=>nomatch hr),(fun r hr=>nomatch hr),hk,hf,by rw[hp];rfl⟩,rfl,Yap 0⟩) ?fin)
 case out=>
  rintro c τ ⟨lo,runs,rest,rfl,hR,e1,e2⟩;have q1:=hR.size;have q2:=hR.size0;have q3:=hN2;have:rest=[]:=Ybl.mp (by
   have q4:max 0 a₀.size<=lo:=e2
   (clear q4 q3 hN;omega))
  subst this;exact⟨lo,runs,rfl,hR⟩
 case fin=>
  rintro c τ ⟨lo,runs,rfl,hR⟩;dsimp only;have q1:=hR.size;have q2:=Zhp hR.ne;have q3:=hN2;have q4:=hR.size0;refine wpS_bind (wpS_mono (wpS_forRange (I:=fun x c τ'=>c=((none:Option Unit),())/\∃ runs',RI O knd a₀.toList runs' [] τ'/\runs'.length+x<=a₀.size)
   (Q:=fun c τ'=>c=((none:Option Unit),())/\∃ runs',RI O knd a₀.toList runs' [] τ'/\runs'.length<=1) ?g2 ?o2 ⟨rfl,runs,hR,by simp only[List.length_nil] at q1;(clear q3 hN;omega)⟩) ?f2)
  case o2=>
   rintro c τ' ⟨hc,runs',hR',e⟩;have e:runs'.length+max 0 a₀.size<=a₀.size:=e;exact⟨hc,runs',hR',by (clear e q4 q3 q2 q1 hN2 hN;omega)⟩
  case f2=>
   rintro c τ' ⟨rfl,runs',hR',e⟩;refine wpS_pure (h τ' hR'.perm hR'.failed ?_);rw[hR'.arr,Ybj]
   match runs',e,hR' with
   | [],_,_=>exact Ycn
   | [r],_,hR'=>simpa using hR'.srt r (by simp)
  case g2=>
   rintro x c τ' _ _ ⟨rfl,runs',hR',e⟩;refine wpS_bind (wpS_get ?_);by_cases c1:(pendingOf τ').size<=1
   ·rw[if_pos c1];exact wpS_pure ⟨rfl,runs',hR',by rw[<- hR'.len];exact c1⟩
   rw[if_neg c1];have key:∀ j,j<=(pendingOf τ').size - 2->wpS (model prog w) A E s (mergeAt' j) (fun b τ3=>b=true/\∃ runs',RI O knd a₀.toList runs' [] τ3/\runs'.length+(x+1)<=a₀.size) τ':=by
    intro j hj;obtain⟨R1,a,b,R2,e3,e4⟩:=Zcf (l:=runs') (i:=j) (by rw[<- hR'.len];(clear e q4 q3 q2 q1 hN2 hN;omega));subst e3;refine ZbW hA h0 hR' e4 fun m τ3 pm hR3=>⟨rfl,_,hR3,?_⟩
    simp only[Yai,Ya3] at e ⊢
    (clear e4 hj c1 q4 q3 q2 q1 hN2 hN;omega)
   refine wpS_bind (wpS_mono (key _ ?_) ?_)
   ·have:=hR'.len;rw[show (pendingOf τ').size=runs'.length from this];exact ZkL (by (clear this c1 e q4 q3 q2 q1 hN2 hN;omega)) (by (clear this c1 e q4 q3 q2 q1 hN2 hN;omega))
   ·rintro b τ3 ⟨rfl,runs3,hR3,e3⟩;simp only[YcZ,YaO,if_false];exact wpS_pure ⟨rfl,runs3,hR3,e3⟩
 case go=>
  rintro x c τ _ hx ⟨lo,runs,rest,rfl,hR,e1,e2⟩;have q1:=hR.size;have q2:=hR.size0;have q3:=hN2;dsimp only;by_cases c0:lo ≥ a₀.size
  ·rw[if_pos c0];have:rest=[]:=Ybl.mp (by (clear q3 e2 hx hN;omega));subst this;exact wpS_pure ⟨lo,runs,rfl,hR⟩
  rw[if_neg c0];have oks:∀ x∈(arrOf τ).toList,ok x:=fun x hx=>h0 x (hR.perm.mem_iff.mp hx);refine wpS_bind (Zj3 (b₀:=arrOf τ) (p₀:=pendingOf τ) (lo:=lo) hA oks ⟨Array.Perm.refl _,fun _ _=>rfl,hR.kind,hR.failed,rfl⟩ (by (clear c0 q3 e2 hx hN;omega)) (by (clear q3 q2 q1 e2 e1 hx hN2 hN;omega)) fun m τ1 hF m1 m2 u=>?_);dsimp only;refine ZaE (fun cm=>?_) (fun cm=>?_)
  ·refine wpS_bind (wpS_lift (wpAny_rule ⟨rfl,?_⟩));refine wpS_bind (Zj4 hA oks hF (by (clear cm m2 m1 c0 q3 e2 hx hN;omega)) m1 (by (clear m1 c0 q3 q2 q1 e2 e1 hx hN2 hN;omega)) u fun τ2 hF2 u2=>?_);simp only[YcZ,YaO,if_false];rw[e1] at hF2 u2;obtain⟨r,rest',hr,hs,hl,hR2⟩:=Zl4 hR hF2 u2 (by (clear cm m2 m1 c0 q3 e2 e1 hx hN;omega));rw[<- e1] at hr;have h1n:1<=r.length:=by (clear hl m2 m1 q3 q2 q1 e2 e1 hx hN2 hN;omega)
   rw[hr] at h1n;refine wpS_bind (wpS_get ?_)
   cases eb:(pendingOf τ2).back? with
   | none=>
    dsimp only;exact wpS_bind (wpS_modify (wpS_pure ⟨_,runs++[r],rest',rfl,hR2.push hs hr h1n e1,by simp[hr,e1],by (clear h1n hl hr m2 m1 c0 q3 q2 q1 e1 hN2 hN;omega)⟩))
   | some p=>
    obtain⟨s1,n1,w1⟩:=p;dsimp only;refine wpS_bind (wpS_mono (wpS_forRange (I:=fun _ c τ'=>c=((none:Option Unit),())/\∃ runs',RI O knd a₀.toList runs' (r++rest') τ'/\runs'.flatten.length=lo)
     (Q:=fun c τ'=>c=((none:Option Unit),())/\∃ runs',RI O knd a₀.toList runs' (r++rest') τ'/\runs'.flatten.length=lo) ?g2 (fun _ _ z=>z) ⟨rfl,runs,hR2,e1.symm⟩) ?f2)
    case f2=>
     rintro c τ' ⟨rfl,runs',hR',e⟩;exact wpS_bind (wpS_modify (wpS_bind (wpS_modify (wpS_pure ⟨_,runs'++[r],rest',rfl,hR'.pow.push hs hr h1n e.symm,by simp[hr,e],by (clear e h1n hl hr m2 m1 c0 q3 q2 q1 e1 hN2 hN;omega)⟩))))
    case g2=>
     rintro y c τ' _ _ ⟨rfl,runs',hR',e⟩;refine wpS_bind (wpS_get ?_);by_cases c1:(pendingOf τ').size > 1
     ·rw[if_pos c1]
      cases ep:(pendingOf τ')[(pendingOf τ').size - 2]? with
      | none=>exact wpS_pure ⟨rfl,runs',hR',e⟩
      | some p=>
       obtain⟨s3,n3,w3⟩:=p;dsimp only;refine ZaE (fun _=>wpS_pure ⟨rfl,runs',hR',e⟩) (fun _=>?_);obtain⟨R1,a,b,R2,e3,e4⟩:=Zcf (l:=runs') (i:=(pendingOf τ').size - 2) (by rw[<- hR'.len];(clear e h1n hl hr cm m2 m1 c0 q3 q2 q1 e2 e1 hx hN2 hN;omega));subst e3;refine wpS_bind (ZbW hA h0 hR' e4 fun m τ3 pm hR3=>?_);simp only[YcZ,YaO,if_false];refine wpS_pure ⟨rfl,_,hR3,?_⟩;rw[<- e];have:=pm.length_eq;simp only[YbL,YaM,Yai] at this ⊢
       (clear e e4 c1 h1n hl hr cm m2 m1 c0 q3 q2 q1 e2 e1 hx hN2 hN;omega)
     ·rw[if_neg c1];exact wpS_pure ⟨rfl,runs',hR',e⟩
  ·rw[e1] at hF u;obtain⟨r,rest',hr,hs,hl,hR2⟩:=Zl4 hR hF u (by (clear cm m1 c0 q3 e2 hx hN;omega));have h1n:1<=m:=m1;refine wpS_bind (wpS_get ?_)
   cases eb:(pendingOf τ1).back? with
   | none=>
    dsimp only;exact wpS_bind (wpS_modify (wpS_pure ⟨_,runs++[r],rest',rfl,hR2.push hs hr h1n e1,by simp[hr,e1],by (clear h1n hl hr cm m2 c0 q3 q2 q1 e1 hx hN2 hN;omega)⟩))
   | some p=>
    obtain⟨s1,n1,w1⟩:=p;dsimp only;refine wpS_bind (wpS_mono (wpS_forRange (I:=fun _ c τ'=>c=((none:Option Unit),())/\∃ runs',RI O knd a₀.toList runs' (r++rest') τ'/\runs'.flatten.length=lo)
     (Q:=fun c τ'=>c=((none:Option Unit),())/\∃ runs',RI O knd a₀.toList runs' (r++rest') τ'/\runs'.flatten.length=lo) ?g2 (fun _ _ z=>z) ⟨rfl,runs,hR2,e1.symm⟩) ?f2)
    case f2=>
     rintro c τ' ⟨rfl,runs',hR',e⟩;exact wpS_bind (wpS_modify (wpS_bind (wpS_modify (wpS_pure ⟨_,runs'++[r],rest',rfl,hR'.pow.push hs hr h1n e.symm,by simp[hr,e],by (clear e h1n hl hr cm m2 c0 q3 q2 q1 e1 hx hN2 hN;omega)⟩))))
    case g2=>
     rintro y c τ' _ _ ⟨rfl,runs',hR',e⟩;refine wpS_bind (wpS_get ?_);by_cases c1:(pendingOf τ').size > 1
     ·rw[if_pos c1]
      cases ep:(pendingOf τ')[(pendingOf τ').size - 2]? with
      | none=>exact wpS_pure ⟨rfl,runs',hR',e⟩
      | some p=>
       obtain⟨s3,n3,w3⟩:=p;dsimp only;refine ZaE (fun _=>wpS_pure ⟨rfl,runs',hR',e⟩) (fun _=>?_);obtain⟨R1,a,b,R2,e3,e4⟩:=Zcf (l:=runs') (i:=(pendingOf τ').size - 2) (by rw[<- hR'.len];(clear e h1n hl hr cm m2 m1 c0 q3 q2 q1 e2 e1 hx hN2 hN;omega));subst e3;refine wpS_bind (ZbW hA h0 hR' e4 fun m τ3 pm hR3=>?_);simp only[YcZ,YaO,if_false];refine wpS_pure ⟨rfl,_,hR3,?_⟩;rw[<- e];have:=pm.length_eq;simp only[YbL,YaM,Yai] at this ⊢
       (clear e e4 c1 h1n hl hr cm m2 m1 c0 q3 q2 q1 e2 e1 hx hN2 hN;omega)
     ·rw[if_neg c1];exact wpS_pure ⟨rfl,runs',hR',e⟩
end
end L2
namespace L2
open PySem PyProof.Rows
section
variable {prog:Program}{w:World}{A:Around}{E:Value->Shared->Prop}{s:Shared}{O:KO}{knd:SortKind}{ok:Keyed->Prop}
def Ord2 (O:KO) (b:Bool) (us:List Value):Prop:=us.Pairwise fun u v=>if b=true then O.le (v,v) (u,u) else O.le (u,u) (v,v)
theorem ZlF {vs:List Value}{out:List Keyed} (hp:out.Perm (vs.zip vs)) (hs:O.Srt out) (b:Bool):∃ us:List Value,(if b=true then (out.map (·.2)).reverse else out.map (·.2))=us/\us.Perm vs/\Ord2 O b us:=by
 have hm:∀ p∈out,p=(p.2,p.2):=fun p hp'=>by
  have:=(mem_zip_self (hp.mem_iff.mp hp')).1
  exact Yeq this rfl
 have p1:(out.map (·.2)).Perm vs:=by
  have:=hp.map (·.2)
  rwa [List.map_snd_zip (Yap _)] at this
 have s1:(out.map (·.2)).Pairwise fun u v=>O.le (u,u) (v,v):=by
  rw[YcX];refine hs.imp_of_mem fun {x y} hx hy q=>?_;rw[hm x hx,hm y hy] at q;exact q
 cases b with
 | false=>exact⟨_,rfl,p1,by simpa[Ord2] using s1⟩
 | true=>exact⟨_,rfl,(Ydj _).trans p1,by simp only[Ord2,if_true,List.pairwise_reverse];exact s1⟩
theorem Zhn {a:Addr}{vs:List Value}{n:Nat}{h:Heap} (ho:h.get? a=some (seqObj "list" vs.toArray n)) {b:Addr}{o:Obj} (hb:h.get? b=some o) (hne:b≠a):(((h.update a (YbO fun _=>#[])).push (seqObj "tuple" vs.toArray 0)).push (seqObj "list" #[] 0)).get? b=some o :=
 Yac _ (Yac _ (by rw[YcI _ _ _ _ hne];exact hb))
theorem ZiV {a:Addr}{vs:List Value}{n:Nat}{P:PySem.Fin->Shared->Prop} (ho:s.heap.get? a=some (seqObj "list" vs.toArray n)) (hz:vs.length<=sizeLine)
  (hkk:∀ h',(∀ b o,s.heap.get? b=some o->b≠a->h'.get? b=some o)->2<=vs.length->∀ Q:SortKind->Shared->Prop,Q knd { s with heap:=h' }->wpAny (model prog w) A (keyKind' vs.toArray) Q E { s with heap:=h' })
  (hA:∀ h',(∀ b o,s.heap.get? b=some o->b≠a->h'.get? b=some o)->Asks prog w A { s with heap:=h' } O knd ok) (hok:∀ v∈vs,ok (v,v))
  (h:∀ us:List Value,us.Perm vs->Ord2 O false us->P (.done (.ret .none)) { s with heap:=sortedHeap s.heap a vs us.toArray }):wpAny (model prog w) A (Builtin.«list.sort» ⟨[.ref a],[]⟩) P E s:=by
 have ha:a<s.heap.objs.size:=Yaj ho;have keep:=fun (b:Addr) (o:Obj) (hb:s.heap.get? b=some o) (hne:b≠a)=>Zhn ho hb hne;obtain⟨e1,ho1⟩:∃ c,(s.heap.update a (YbO fun _=>#[])).get? a=some (seqObj "list" #[] c):=⟨_,get?_update_seq ho (fun _=>#[])⟩
 have ho6:=Yac (seqObj "list" #[] 0) (Yac (seqObj "tuple" vs.toArray 0) ho1);have hsv:vs.toArray.size=vs.length:=Yaw;have hz1:vs.toArray.size<=sizeLine:=by rw[hsv];exact hz
 have fin:∀ (τ:SortSt),(arrOf τ).toList.Perm (vs.zip vs)->O.Srt (arrOf τ).toList->P (.done (.ret .none)) { s with heap:=sortedHeap s.heap a vs ((arrOf τ).map (·.2)) }:=by
  intro τ hp hs;obtain⟨us,e,p1,p2⟩:=ZlF hp hs false;have e2:(arrOf τ).map (·.2)=us.toArray:=by rw[<- e];apply Array.toList_inj.mp;simp
  rw[e2];exact h us p1 p2
 have osz:∀ τ:SortSt,(arrOf τ).toList.Perm (vs.zip vs)->((arrOf τ).map (·.2)).size<=sizeLine+1:=by
  intro τ hp;rw[Array.size_map,<- Ya7,hp.length_eq,List.length_zip]
  (clear hz1 hsv ha;omega)
 rw[list_sort_plain];refine wpAny_bind (listItems_at ho rfl (wpAny_bind (listUpdate_at ho rfl ?_ hz1 (YaX _))));refine wpAny_bind (seqEpoch_at ho1 rfl (wpAny_bind (wpAny_newTuple ?_ hz)));refine wpAny_bind (wpAny_newList ?_ (YaX _));refine wpAny_holding ?_;show wpAny (model prog w) A _ P E ({ s with heap:=((s.heap.update a (YbO fun _=>#[])).push (seqObj "tuple" vs.toArray 0)).push (seqObj "list" #[] 0) }:Shared);dsimp only;by_cases h2:vs.toArray.size<2
 ·rw[if_pos h2,if_pos h2];refine wpAny_bind (wpAny_pure ?_);rw[StateT.run_pure];have hp0:(vs.toArray.zip vs.toArray).toList.Perm (vs.zip vs):=by simp
  refine wpAny_bind (wpAny_pure (wpAny_bind (seqEpoch_at ho6 rfl (wpAny_bind (listUpdate_at ho6 rfl ?_ (YaX _) (osz (Ydc general' (vs.toArray.zip vs.toArray) #[] 7 none) hp0))))));simp only[bne_self_eq_false,YaO,if_false];refine wpAny_pure (fin (Ydc general' (vs.toArray.zip vs.toArray) #[] 7 none) hp0 ?_);show O.Srt (vs.toArray.zip vs.toArray).toList;rw[show (vs.toArray.zip vs.toArray).toList=vs.zip vs by simp]
  match vs,h2 with
  | [],_=>exact Ycn
  | [v],_=>exact YdU _ _
 ·rw[if_neg h2,if_neg h2];refine wpAny_bind (hkk _ keep (by (clear hz1 ha hz;omega)) _ ?_);refine wpAny_bind (wpAny_mono (Zfg (a₀:=vs.toArray.zip vs.toArray) (st:=Ydc knd (vs.toArray.zip vs.toArray) #[] 7 none) (Q:=fun _ τ=>(arrOf τ).toList.Perm (vs.zip vs)/\failedOf τ=none/\O.Srt (arrOf τ).toList)
   (hA _ keep) (fun x hx=>?_) rfl rfl rfl rfl fun τ a1 a2 a3=>⟨by simpa using a1,a2,a3⟩) ?_ fun _ _ z=>z)
  ·have hx:x∈vs.zip vs:=by simpa using hx
   have q:=mem_zip_self hx;rw[show x=(x.1,x.1) from Yeq rfl q.1.symm];exact hok _ q.2
  ·rintro⟨⟨⟩,τ⟩ s' ⟨rfl,hp,hf,hs⟩;refine wpAny_bind (seqEpoch_at ho6 rfl (wpAny_bind (listUpdate_at ho6 rfl ?_ (YaX _) (osz τ hp))));dsimp only;rw[hf];simp only[bne_self_eq_false,YaO,if_false];exact wpAny_pure (fin τ hp hs)
theorem ZgA {l:Addr}{vs:List Value} (h:Heap):∀ b o,h.get? b=some o->(((h.push (seqObj "list" #[] 0)).update h.objs.size (YbO (·++vs.toArray))).push (seqObj "list" vs.toArray 0)).get? b=some o:=by
 intro b o q;have hlt:b<h.objs.size:=Yaj q;refine Yac _ ?_;rw[YcI _ _ _ _ (YaF hlt)];exact Yac _ q
structure Sortable (prog:Program) (w:World) (s:Shared) (O:KO) (vs:List Value):Prop where
 ex:∃ (knd:SortKind) (ok:Keyed->Prop),(∀ v∈vs,ok (v,v))/\(∀ A h',(∀ b o,s.heap.get? b=some o->h'.get? b=some o)->Asks prog w A { s with heap:=h' } O knd ok) /\
  ∀ (A:Around) (E:Value->Shared->Prop) h',(∀ b o,s.heap.get? b=some o->h'.get? b=some o)->2<=vs.length->∀ Q:SortKind->Shared->Prop,Q knd { s with heap:=h' }->wpAny (model prog w) A (keyKind' vs.toArray) Q E { s with heap:=h' }
theorem Zft {l:Addr}{vs:List Value}{Q:Value->Shared->Prop} (hl:s.heap.IsList l vs.toArray) (hz:vs.length<=sizeLine) (hS:Sortable prog w s O vs)
  (h:∀ us:List Value,us.Perm vs->Ord2 O false us->Q (.ref (s.heap.objs.size+1)) { s with heap:=sortedAll s.heap vs us.toArray }):wpAny (model prog w) A (call (.builtin "sorted") [.ref l]) Q E s:=by
 obtain⟨knd,ok,h1,h2,h3⟩:=hS.ex;have zz:((s.heap.push (seqObj "list" #[] 0)).update s.heap.objs.size (YbO (·++vs.toArray))).objs.size=s.heap.objs.size+1:=by rw[Heap.size_update,size_push']
 have at1:(((s.heap.push (seqObj "list" #[] 0)).update s.heap.objs.size (YbO (·++vs.toArray))).push (seqObj "list" vs.toArray 0)).get? (s.heap.objs.size+1)=some (seqObj "list" vs.toArray 0):=by
  have:=YaB ((s.heap.push (seqObj "list" #[] 0)).update s.heap.objs.size (YbO (·++vs.toArray))) (o:=seqObj "list" vs.toArray 0) rfl
  rwa [zz] at this
 refine Calls.call_function_entry kind_sorted plain_sorted entry_sorted (args_sorted1 _) ?_;unfold Builtin.«sorted»;refine wpAny_bind (m:=checkCount "sorted" 1 1 _) (wpAny_pure (wpAny_bind (collect_list hl (wpAny_bind (wpAny_newList ?_ hz)) hz)));show wpAny _ _ _ _ _ { s with heap:=((s.heap.push (seqObj "list" #[] 0)).update s.heap.objs.size (YbO (·++vs.toArray))).push (seqObj "list" vs.toArray 0) };rw[zz];have up:∀ h':Heap,(∀ b o,(((s.heap.push (seqObj "list" #[] 0)).update s.heap.objs.size (YbO (·++vs.toArray))).push (seqObj "list" vs.toArray 0)).get? b=some o->b≠s.heap.objs.size+1->h'.get? b=some o)->∀ b o,s.heap.get? b=some o->h'.get? b=some o:=fun h' k b o q=>
  k b o (ZgA (l:=l) s.heap b o q) (YaF (Ydq (Yaj q)))
 exact wpAny_bind (wpAny_holding (wpAny_call_entry slot_list_sort ⟨_,at1,rfl⟩ entry_list_sort (ZiV at1 hz (fun h' k hl2 Q' q=>h3 _ _ h' (up h' k) hl2 Q' q) (fun h' k=>h2 _ h' (up h' k)) h1 fun us p1 p2=>⟨_,rfl,wpAny_pure ⟨_,rfl,h us p1 p2⟩⟩) (args_list_sort _)))
def KOi:KO where
 α:=Int
 blt a b:=decide (a<b)
 irrefl a:=by simp
 trans a b c h1 h2:=by simp only[decide_eq_true_eq] at *;omega
 negTrans a b c h:=by simp only[decide_eq_true_eq] at *;omega
 total a b h1 h2:=by simp only[decide_eq_false_iff_not] at *;omega
 ky p:=numOf p.1
theorem Zd3 {vs:List Value}{ns:List Int} (hI:IntsAre vs ns):Sortable prog w s KOi vs:=by
 refine⟨oneType',(fun p=>∃ n t,p.1=.int n t),fun v hv=>?_,fun A h' _ x y hx hy E Q q=>?_,fun A E h' _ h2 Q q=>?_⟩
 ·obtain⟨n,t,e⟩:=hI.all v hv;exact⟨n,t,e⟩
 ·obtain⟨n,t,e1⟩:=hx;obtain⟨m,u,e2⟩:=hy;rw[keyLt'_oneType,e1,e2];refine oneLt_int ?_;have q:Q (decide (numOf x.1<numOf y.1)) { s with heap:=h' }:=q;rw[e1,e2] at q;exact q
 ·match vs,h2,hI with
  | v1::v2::r,_,hI=>
   rw[keyKind_ints hI];exact wpAny_pure q
theorem Zi8 {us:List Value}{ms:List Int}{b:Bool} (hI:IntsAre us ms) (h:Ord2 KOi b us):if b=true then ms.Pairwise (· ≥ ·) else ms.Pairwise (·<=·):=by
 have e:=hI.nums;subst e
 cases b with
 | false=>
  simp only[YaO,if_false,Ord2] at h ⊢;rw[YcX];exact h.imp fun {x y} q=>by
   have q:decide (numOf y<numOf x)=false:=q;simpa using q
 | true=>
  simp only[if_true,Ord2] at h ⊢;rw[YcX];exact h.imp fun {x y} q=>by
   have q:decide (numOf x<numOf y)=false:=q;simpa using q
theorem Zh5 {vs us:List Value}{ns:List Int} (hI:IntsAre vs ns) (hp:us.Perm vs):∃ ms,IntsAre us ms/\ms.Perm ns:=by
 refine⟨us.map numOf,intsAre_map us fun v hv=>hI.all v (hp.mem_iff.mp hv),?_⟩;rw[<- hI.nums];exact hp.map _
end
end L2
namespace L2
open PySem PySem.Spec PyProof.Rows PySem.SeqAt
section
variable {X:Cx}
theorem ZcB:Zca X (.builtin "sorted") (fun xs H Q=>∃ (a:Addr) (ns:List Int),xs=[.ref a]/\SqL X.K H a (ns.map V.int)/\∀ (l:Addr) (ms:List Int),H l=none->ms.Perm ns->ms.Pairwise (·<=·)->Q (.ref l) (upd H l (.lst (ms.map V.int)))):=by
 intro pins s σ H xs us Q I r h;obtain⟨a,ns,rfl,hq,q⟩:=h;obtain⟨u,rfl,r1⟩:=ZdV r;cases r1;obtain⟨its,rv,p,hz⟩:=I.list hq;have hl:its.length=ns.length:=by rw[<- rv.length,Yaa]
 rw[Yaa] at hz;refine Zft p.isList (by rw[hl];exact hz) (Zd3 (ZdO rv)) fun us p1 p2=>?_;obtain⟨ms,hI,pm⟩:=Zh5 (ZdO rv) p1;obtain⟨e,he⟩:=sortedAll_at s.heap its us.toArray;have hle:s.heap.objs.size<=s.heap.objs.size+1:=Ycw _;refine⟨.ref (s.heap.objs.size+1),_,I.laid (a:=s.heap.objs.size+1) (o:=.lst (ms.map V.int)) (t':=s.toks) (fun b o q=>sortedAll_old q) hle ⟨?_,us,e,ZeG hI,he⟩,rfl,q _ ms (I.hok.fresh hle) pm (Zi8 hI p2)⟩;rw[Yaa,pm.length_eq];exact hz
end
end L2
namespace Lv
open PySem L2
def prs:Nat->List (List Int)->List Nat->List (Int × Nat)
 | k,x::N,m::ms=>(x.drop m).map (fun z=>(z,k))++prs (k+1) N ms
 | _,_,_=>[]
def ZlP (p q:Int × Nat):Prop:=p.1<q.1∨(p.1=q.1/\p.2<=q.2)
structure MgS (N:List (List Int)) (m:List Nat) (tk:List (Int × Nat)):Prop where
 inm:InM N m
 perm:(tk++prs 0 N m).Perm (prs 0 N (N.map fun _=>0))
 srt:tk.Pairwise ZlP
 le:∀ p∈tk,∀ q∈prs 0 N m,ZlP p q
 sm:m.sum=tk.length
theorem Zlm {a b:List Int} (h:a.Perm b) (h1:a.Pairwise (·<=·)) (h2:b.Pairwise (·<=·)):a=b :=
 List.Perm.eq_of_pairwise (fun a b _ _ h1 h2=>Int.le_antisymm h1 h2) h1 h2 h
def SeqI (H:Hp) (r:Addr) (xs:List V):Prop:=H r=some (.lst xs)∨H r=some (.tup xs)
theorem SeqI.both {H:Hp}{r:Addr}{xs:List V} (h:SeqI H r xs):∃ b,∀ (K:Yad) (H':Hp),Same H H'->SqB b K H' r xs:=by
 rcases h with h | h
 ·exact⟨true,fun K H' s=>SqL.of (s _ _ h)⟩
 ·exact⟨false,fun K H' s=>SqT.of (s _ _ h)⟩
structure RwS (H:Hp) (a:Addr) (rs:List Addr) (N:List (List Int)):Prop where
 top:SeqI H a (rs.map V.ref)
 len:rs.length=N.length
 row:∀ (j:Nat) r xs,rs[j]?=some r->N[j]?=some xs->SeqI H r (xs.map V.int)
theorem RwS.of {H:Hp}{a:Addr}{rs:List Addr}{N:List (List Int)} (h1:H a=some (.lst (rs.map V.ref))) (h2:LLs H rs N):RwS H a rs N:=⟨.inl h1,h2.1,fun j r xs e1 e2=>.inl (h2.2 j r xs e1 e2)⟩
theorem RwS.get {H:Hp}{a:Addr}{rs:List Addr}{N:List (List Int)} (h:RwS H a rs N) {i:Nat}{x:V} (hx:(rs.map V.ref)[i]?=some x):∃ r xs,x=.ref r/\rs[i]?=some r/\N[i]?=some xs/\SeqI H r (xs.map V.int):=by
 have hi:=(Yab.mp hx).1
 rw[Yaa] at hi;have e:rs[i]?=some rs[i]:=Yae hi;have hN:i<N.length:=by rw[<- h.len];exact hi
 have e2:N[i]?=some N[i]:=Yae hN;refine⟨rs[i],N[i],?_,e,e2,h.row i _ _ e e2⟩;rw[Yaf,e] at hx;exact (Yau hx).symm
theorem Ze1 {N:List (List Int)}{i:Nat}{xs:List Int} (h:N[i]?=some xs):(N.take (i+1)).flatten=(N.take i).flatten++xs:=by
 rw[Yba,h,YcL,YbL];simp
theorem ZkU {N:List (List Int)} (i:Nat):(N.take i).flatten.length<=(lenN N).sum:=by
 have:(lenN N).sum=N.flatten.length:=by unfold lenN;rw[YbJ]
 rw[this]
 conv=>rhs;rw[<- YaQ i N,YbL,Yai]
 (clear this;omega)
theorem Zju {N:List (List Int)}{i j:Nat}{xs:List Int} (h:N[i]?=some xs) (hj:j<=xs.length):(N.take i).flatten.length+j<=(lenN N).sum:=by
 have:=ZkU (N:=N) (i+1);rw[Ze1 h,Yai] at this;omega
structure GoodT (N:List (List Int)):Prop where
 many:N.length<=12
 tot:(lenN N).sum<=400
 bnd:∀ xs∈N,∀ z∈xs,-Zdu<z/\z<Zdu
 srt:∀ xs∈N,xs.Pairwise (·<=·)
structure GoodB (b:Nat) (N:List (List Int)):Prop where
 len:∀ xs∈N,xs.length<=b
 bnd:∀ xs∈N,∀ z∈xs,-Zdu<z/\z<Zdu
 srt:∀ xs∈N,xs.Pairwise (·<=·)
end Lv
namespace L2
open PySem PySem.Spec PyProof.Rows PySem.SeqAt
section
variable {P:Program}{w:World}{H:Hp}{s:Shared}
end
section
variable {X:Cx}
end
end L2
namespace L2
open PySem PySem.Spec PyProof.Rows PySem.SeqAt
def LBs (H:Hp) (rs:List Addr) (N:List (List Bool)):Prop:=rs.length=N.length/\∀ (j:Nat) r xs,rs[j]?=some r->N[j]?=some xs->H r=some (.lst (xs.map V.bl))
theorem LBs.same {H H':Hp}{rs:List Addr}{N:List (List Bool)} (h:LBs H rs N) (s:Same H H'):LBs H' rs N:=⟨h.1,fun j r xs a b=>s _ _ (h.2 j r xs a b)⟩
theorem LBs.lst {H:Hp}{rs:List Addr}{N:List (List Bool)}{acc:Addr}{ys:List V} (h:LBs H rs N) (e:acc ∉ rs):LBs (upd H acc (.lst ys)) rs N:=⟨h.1,fun j r xs a b=>by
 rw[upd_ne (by intro z;subst z;exact e (Yah a))];exact h.2 j r xs a b⟩
theorem LBs.snoc {H:Hp}{rs:List Addr}{N:List (List Bool)}{r:Addr}{x:List Bool} (h:LBs H rs N) (e:H r=some (.lst (x.map V.bl))):LBs H (rs++[r]) (N++[x]):=⟨by simp[h.1],fun j r' xs a b=>by
 rcases ZbM a with a | ⟨a,rfl⟩
 ·rcases ZbM b with b | ⟨b,_⟩
  ·exact h.2 j r' xs a b
  ·have:=(Yab.mp a).1;have:=h.1;omega
 ·rcases ZbM b with b | ⟨_,rfl⟩
  ·have:=(Yab.mp b).1;have:=h.1;omega
  ·exact e⟩
section
variable {X:Cx}
end
end L2
namespace Lv
open PySem L2
def Fr (S:List Addr) (H H':Hp):Prop:=∀ b o,H b=some o->b ∉ S->H' b=some o
abbrev Rows:=List (Option (List Int))
def datO:Option (List Int)->PyData
 | none=>.none
 | some xs=>.list (xs.map PyData.int)
def Zmp (ds:Rows):PyData:=.list (ds.map datO)
def shp (D:List Rows):List (List Bool):=D.map fun ds=>ds.map Option.isSome
abbrev Cell:=Option (Addr × List Int)
abbrev Reel:=Addr × List Cell
def cA:Cell->List Addr
 | none=>[]
 | some (r,_)=>[r]
def tA (t:Reel):List Addr:=t.1::t.2.flatMap cA
def TB (H:Hp) (tr:List Addr) (B:List (List Bool)):Prop:=tr.length=B.length/\∀ (j:Nat) r bs,tr[j]?=some r->B[j]?=some bs->H r=some (.tup (bs.map V.bl))
end Lv
namespace Lv
open PySem L2
def St (S:List Addr) (H:Hp) (Φ:Hp->Prop):Prop:=∀ H',Fr S H H'->Φ H'
structure Bld (S:List Addr) (H:Hp) (us:List V) (rs tr:List Addr) (D:List Rows) (R:List (List Int)):Prop where
 due:St S H fun H'=>RdL H' us (D.map Zmp)
 rows:St S H fun H'=>LLs H' rs R
 lay:St S H fun H'=>TB H' tr (shp D)
end Lv
namespace Lv
open PySem L2
end Lv
namespace Lv
open PySem L2
def les (m x:Int):Int:=if x - m > 0 then x - m else 0
def Zk0 (c:List Int) (out:Nat) (m:Int):List Int:=(c.map (les m)).set out m
def ZmN (a b:List Int):Prop:=a.length=b.length/\∀ j:Nat,a.getD j 0<=b.getD j 0
def Cov (c L:List Int):Prop:=∃ l:List Int,l.Perm (c)/\ZmN l (L++[0])
end Lv
namespace L2
open PySem PySem.Spec PyProof.Rows PySem.SeqAt
section
variable {X:Cx}
end
end L2
namespace L2
open PySem PySem.Spec PyProof.Rows PySem.SeqAt
section
variable {X:Cx}
end
end L2
namespace L2
open PySem PySem.Spec PyProof.Rows PySem.SeqAt
section
variable {X:Cx}
end
end L2
namespace Lv
open PySem L2
def CovL (L r:List Int):Prop:=∀ j,j<L.length->r.getD j 0<=L.getD j 0
instance (L r:List Int):Decidable (CovL L r):=inferInstanceAs (Decidable (∀ j,j<L.length->r.getD j 0<=L.getD j 0))
def big:Int:=1000000000000000000000000000000000000000000000000000000000000
structure Stand (p:Nat) (st:List Int):Prop where
 p2:2<=p
 p7:p<=7
 len:st.length=p+1
 nn:∀ x∈st,0<=x
 le:∀ x∈st,x<=big
 zero:(0:Int)∈st
 pos:∃ x∈st,1<=x
def mxl:List Int->Int
 | []=>0
 | x::r=>if mxl r > x then mxl r else x
def mn (a b:Int):Int:=if b<a then b else a
def ph (p:Nat) (c:List Int) (n:Nat):Int:=mn (hd p n) (mxl c)
structure On (p:Nat) (c:List Int) (n:Nat):Prop where
 len:c.length=p+1
 cov:Cov c (cnt p n)
 nn:∀ x∈c,0<=x
 pos:∃ x∈c,1<=x
end Lv
namespace Lv
open PySem L2
end Lv
namespace Lv
open PySem L2
theorem Zj7 {p:Nat} (hp:2<=p) {m n:Nat} (h:m<n):tot p m+1<=tot p n:=by
 have h1:=ZjI hp m;have h2:=ZbK hp (show m+1<=n from h)
 (clear h hp;omega)
end Lv
namespace L2
open PySem PySem.Spec PyProof.Rows
section
variable {X:Cx}
end
end L2
namespace Lv
open PySem L2
end Lv
namespace L2
open PySem PySem.Spec PyProof.Rows
def DK (h h':Heap):Prop:=∀ (b:Nat) (o:Obj),h.objs[b]?=some o->∃ o':Obj,h'.objs[b]?=some o'/\o'.dict=o.dict
theorem DK.refl (h:Heap):DK h h:=fun _ o e=>⟨o,e,rfl⟩
theorem DK.trans {a b c:Heap} (x:DK a b) (y:DK b c):DK a c:=fun i o e=>by
 obtain⟨o1,e1,d1⟩:=x i o e;obtain⟨o2,e2,d2⟩:=y i o1 e1;exact⟨o2,e2,d2.trans d1⟩
theorem ZjN {h:Heap}{a:Addr}{o:Obj} (e:h.get? a=some o):h.objs[a]?=some o:=(YcQ.mp e).1
theorem DK.at {h h':Heap}{a:Addr}{o o':Obj} (x:DK h h') (e:h.get? a=some o) (e':h'.get? a=some o'):o'.dict=o.dict:=by
 obtain⟨o2,q1,q2⟩:=x a o (ZjN e);rw[ZjN e'] at q1;cases q1;exact q2
theorem DK.push (h:Heap) (o:Obj):DK h (h.push o):=fun b ob e=>⟨ob,by
 have hb:b<h.objs.size:=(YbN.mp e).1
 unfold Heap.push;show (h.objs.push o)[b]?=some ob;rw[Array.getElem?_push_lt hb];exact (YbN.mp e).2 ▸ rfl,rfl⟩
theorem DK.update (h:Heap) (a:Addr) (f:Obj->Obj) (hf:∀ o,(f o).dict=o.dict):DK h (h.update a f):=fun b ob e=>by
 by_cases z:a=b
 ·subst z;exact⟨f ob,by unfold Heap.update;simp[Yc2,e],hf ob⟩
 ·exact⟨ob,by unfold Heap.update;simp[Yc2,z,e],rfl⟩
def DC {α:Type}:Sem α->Prop
 | .pure _=>True
 | .raise _=>True
 | .unsupported _=>True
 | .rule _ k=>DC (k ())
 | .at _ k=>DC (k ())
 | .load _ _ k=>∀ o,DC (k o)
 | .update _ _ f k=>(∀ o,(f o).dict=o.dict)/\DC (k ())
 | .alloc _ k=>∀ a,DC (k a)
 | .loadIfAlive _ k=>∀ o,DC (k o)
 | .point _ k=>DC (k ())
 | .fresh k=>∀ t,DC (k t)
 | .ask k=>∀ x,DC (k x)
 | .handled _ k=>∀ v,DC (k v)
 | .stack k=>∀ l,DC (k l)
 | _=>False
theorem Zbg {α β:Type}{m:Sem α}{f:α->Sem β} (hm:DC m) (hf:∀ a,DC (f a)):DC (m >>= f):=by
 show DC (m.bind f)
 induction m with
 | pure a=>exact hf a
 | raise e=>trivial
 | unsupported w=>trivial
 | rule t k ih=>exact ih () hm
 | «at» p k ih=>exact ih () hm
 | load a p k ih=>exact fun o=>ih o (hm o)
 | update a p g k ih=>exact⟨hm.1,ih () hm.2⟩
 | alloc o k ih=>exact fun a=>ih a (hm a)
 | loadIfAlive a k ih=>exact fun o=>ih o (hm o)
 | point l k ih=>exact ih () hm
 | fresh k ih=>exact fun a=>ih a (hm a)
 | ask k ih=>exact fun a=>ih a (hm a)
 | handled w k ih=>exact fun a=>ih a (hm a)
 | stack k ih=>exact fun a=>ih a (hm a)
 | finish _=>exact hm.elim
 | register _ _ _=>exact hm.elim
 | choose _ _ _ _=>exact hm.elim
 | os _ _ _ _=>exact hm.elim
 | call _ _ _ _ _ _=>exact hm.elim
 | newGen _ _ _=>exact hm.elim
 | genState _ _ _=>exact hm.elim
 | resume _ _ _ _ _=>exact hm.elim
 | yield _ _ _ _ _=>exact hm.elim
 | fork _ _ _=>exact hm.elim
 | thread _ _=>exact hm.elim
 | await _ _ _ _ _ _=>exact hm.elim
theorem Zme {α:Type} (M:Model) (Γ:PySem.Ctx) {t:Sem α} (d:DC t):∀ (Q:α->Pos->Shared->Prop) (E:Value->Pos->Shared->Prop) (p:Pos) (s:Shared),Sem.wp M Γ t Q E p s ->
  Sem.wp M Γ t (fun a p' s'=>Q a p' s'/\DK s.heap s'.heap) (fun e p' s'=>E e p' s'/\DK s.heap s'.heap) p s:=by
 have up:∀ {α:Type}{t:Sem α}{Q:α->Pos->Shared->Prop}{E:Value->Pos->Shared->Prop}{p:Pos}{s:Shared}{h0 h1:Heap},DK h0 h1 ->
   Sem.wp M Γ t (fun a p' s'=>Q a p' s'/\DK h1 s'.heap) (fun e p' s'=>E e p' s'/\DK h1 s'.heap) p s->Sem.wp M Γ t (fun a p' s'=>Q a p' s'/\DK h0 s'.heap) (fun e p' s'=>E e p' s'/\DK h0 s'.heap) p s:=fun k h=>
  Sem.wp_mono M Γ _ (fun _ _ _ z=>⟨z.1,k.trans z.2⟩) (fun _ _ _ z=>⟨z.1,k.trans z.2⟩) _ _ h
 induction t with
 | pure a=>exact fun _ _ _ _ h=>⟨h,.refl _⟩
 | raise e=>exact fun _ _ _ _ h=>⟨h,.refl _⟩
 | unsupported w=>exact fun _ _ _ _ h=>h
 | rule t k ih=>exact fun _ _ _ _ h=>ih () d _ _ _ _ h
 | «at» p k ih=>exact fun _ _ _ _ h=>ih () d _ _ _ _ h
 | load a p k ih=>exact fun _ _ _ _ ⟨o,ho,h⟩=>⟨o,ho,ih o (d o) _ _ _ _ h⟩
 | update a p g k ih=>exact fun _ _ _ _ ⟨ho,h⟩=>⟨ho,up (.update _ _ _ d.1) (ih () d.2 _ _ _ _ h)⟩
 | alloc o k ih=>exact fun _ _ _ _ h=>up (.push _ _) (ih _ (d _) _ _ _ _ h)
 | loadIfAlive a k ih=>exact fun _ _ _ _ h=>ih _ (d _) _ _ _ _ h
 | point l k ih=>exact fun _ _ _ _ h=>ih () d _ _ _ _ h
 | fresh k ih=>exact fun _ _ _ _ h=>ih _ (d _) _ _ _ _ h
 | ask k ih=>exact fun _ _ _ _ h=>ih _ (d _) _ _ _ _ h
 | handled w k ih=>exact fun _ _ _ _ h=>ih _ (d _) _ _ _ _ h
 | stack k ih=>exact fun _ _ _ _ h=>ih _ (d _) _ _ _ _ h
 | finish _=>exact d.elim
 | register _ _ _=>exact d.elim
 | choose _ _ _ _=>exact d.elim
 | os _ _ _ _=>exact d.elim
 | call _ _ _ _ _ _=>exact d.elim
 | newGen _ _ _=>exact d.elim
 | genState _ _ _=>exact d.elim
 | resume _ _ _ _ _=>exact d.elim
 | yield _ _ _ _ _=>exact d.elim
 | fork _ _ _=>exact d.elim
 | thread _ _=>exact d.elim
 | await _ _ _ _ _ _=>exact d.elim
theorem ZbI {α:Type}{M:Model}{A:Around}{t:Sem α}{Q:α->Shared->Prop}{E:Value->Shared->Prop}{s:Shared} (d:DC t) (h:wpAny M A t (fun a s'=>DK s.heap s'.heap->Q a s') (fun e s'=>DK s.heap s'.heap->E e s') s):wpAny M A t Q E s :=
 fun Γ p hΓ=>Sem.wp_mono M Γ t (fun _ _ _ z=>z.1 z.2) (fun _ _ _ z=>z.1 z.2) p s (Zme M Γ d _ _ _ _ (h Γ p hΓ))
theorem ZfQ {a:Addr}:DC (load a):=fun _=>trivial
theorem Zeq:DC stack:=fun _=>trivial
theorem ZkX {o:Obj}{f:Array Value->Array Value}:(Ycf f o).dict=o.dict:=by
 unfold Ycf;split <;> rfl
theorem Zer {v:Value}{i:Nat}:DC (field v i):=by
 unfold field fieldsOf
 repeat (first | trivial | exact ZfQ | (refine Zbg ?_ fun _=>?_) | split)
theorem Zdg {v:Value}{i:Nat}{x:Value}:DC (setField v i x):=by
 unfold setField updateField
 repeat (first | trivial | exact ZfQ | exact⟨fun _=>ZkX,trivial⟩ | (refine Zbg ?_ fun _=>?_) | split)
theorem ZbD {v:Value}{f:Option Addr}:DC (setFlight v f):=by
 unfold setFlight
 repeat (first | trivial | exact Zer | exact Zdg | (refine Zbg ?_ fun _=>?_) | split)
theorem Zgm:∀ l:List Env,DC (readyFrames l)
 | []=>trivial
 | env::outer=>by
  unfold readyFrames behindIsImport keptBack underTheClaimsCaller
  repeat (first | trivial | exact ZfQ | exact Zeq | exact Zer | exact Zgm outer | exact⟨fun _=>rfl,trivial⟩ | (refine Zbg ?_ fun _=>?_) | split)
theorem ZgS {env:Env}:DC (PySem.frameOf env):=by
 unfold PySem.frameOf frameEnvs;refine Zbg (Zbg Zeq fun _=>trivial) fun l=>Zbg ?_ fun o=>?_
 ·generalize (List.dropWhile (fun x=>x.frame != env.frame) l)=m
  cases m with
  | nil=>trivial
  | cons e r=>exact Zbg (Zgm _) fun _=>trivial
 ·split <;> trivial
theorem ZbE {e:Value}{env:Env}:DC (noteFrame e env):=by
 unfold noteFrame EntryCells.newEntry newFields newObj newObjAsIs entryPlaceOf
 repeat (first | trivial | exact Zer | exact Zdg | exact ZgS | exact Zeq | exact fun _=>trivial | (refine Zbg ?_ fun _=>?_) | split)
theorem ZdQ {e:Value}{env:Env}:DC (leaving env e):=Zbg ZbE fun _=>ZbD
end L2
namespace L2
open PySem PySem.Spec PyProof.Rows
theorem ObjOk.there {P:Program}{w:World}{H:Hp}{h:Heap}{a:Addr}{o:HO} (x:ObjOk P w H h a o):∃ ob,h.get? a=some ob:=by
 cases o with
 | lst xs=>obtain⟨_,_,_,_,e⟩:=x;exact⟨_,e⟩
 | tup xs=>obtain⟨_,_,_,o,e,_⟩:=x;exact⟨_,e⟩
 | dK kvs=>obtain⟨_,_,_,_,o,_,_,e,_⟩:=x;exact⟨_,e⟩
 | dT kvs=>obtain⟨_,_,_,_,o,_,_,e,_⟩:=x;exact⟨_,e⟩
 | set S n=>obtain⟨o,_,_,_,e,_⟩:=x;exact⟨_,e⟩
 | ins C dx fs=>obtain⟨_,_,_,e,_⟩:=x;exact⟨_,e⟩
 | own y=>exact x
 | xd fs=>obtain⟨_,⟨_,_,_,e,_⟩,_⟩:=x;exact⟨_,e⟩
 | rng lo hi=>obtain⟨_,_,_,e⟩:=x;exact⟨_,e⟩
 | frz ob u=>obtain⟨e,_⟩:=x;exact⟨_,e⟩
 | tbl ps=>exact⟨_,(show h.get? a=some _ from x)⟩
 | met f y=>exact⟨_,(show h.get? a=some _ from x)⟩
 | ext φ=>obtain⟨_,e,_⟩:=x;exact e
theorem HOk.none_of {P:Program}{w:World}{H:Hp}{h:Heap}{a:Addr} (x:HOk P w H h) (e:h.get? a=none):H a=none:=by
 cases q:H a with
 | none=>rfl
 | some o=>obtain⟨ob,z⟩:=(x a o q).there;rw[e] at z;cases z
def Zbu (h:Heap):List Addr->Heap
 | []=>h
 | a::r=>(Zbu h r).hide a
theorem ZaG {h:Heap}:∀ {l:List Addr}{a:Addr},a∈l->(Zbu h l).get? a=none
 | b::r,a,m=>by
  by_cases e:a=b
  ·subst e;exact Heap.hide_self _ _
  ·rw[Zbu,Heap.hide_ne _ e];exact ZaG ((Yal.mp m).resolve_left e)
theorem Zbr {h:Heap}:∀ {l:List Addr}{a:Addr},a ∉ l->(Zbu h l).get? a=h.get? a
 | [],_,_=>rfl
 | b::r,a,n=>by
  rw[Zbu,Heap.hide_ne _ (fun e=>n (by rw[e];exact YaA))];exact Zbr fun z=>n (Yao _ z)
theorem Zbq {h:Heap}{l:List Addr}:(Zbu h l).StaysIn h:=fun b o e=>by
 by_cases m:b∈l
 ·rw[ZaG m] at e;cases e
 ·rwa [Zbr m] at e
theorem Zbb {h base B:Heap}:∀ {l:List Env},h.FunFrames base l->(∀ b∈frs l,B.get? b=none)->h.FunFrames B l
 | [],_,_=>trivial
 | env::rest,⟨hk,⟨L,o,hf,hn,ho,hd⟩,hr⟩,n=>⟨hk,⟨L,o,hf,n L (by unfold frs;rw[YaH,hf];exact YaA),ho,hd⟩,Zbb hr fun b hb=>n b (by
   unfold frs;rw[YaH,hf];exact Yao _ hb)⟩
theorem Un.hide {fs Z:List Addr}{H H':Hp}{h h1 h2:Heap} (u:Un fs [] H H' h h1) (hz:∀ z∈Z,z∈fs∨h.get? z=none) (k:∀ b o,h1.get? b=some o->b ∉ Z->h2.get? b=some o)
  (ks:∀ b∈fs,∀ o,h1.get? b=some o->∃ sl,h2.get? b=some { o with slots:=sl }):Un fs [] H H' h h2 where
 keep:=fun b o e n hb hx=>k b o (u.keep b o e n hb hx) fun z=>by
  rcases hz b z with y | y
  ·exact hb y
  ·rw[e] at y;cases y
 slot:=fun b o e n hb hx=>by
  obtain⟨sl,e1⟩:=u.slot b o e n hb hx;obtain⟨sl',e2⟩:=ks b hb _ e1;exact⟨sl',e2⟩
 free:=u.free
 there:=fun b o e hx=>by
  obtain⟨o',e1⟩:=u.there b o e hx;by_cases m:b∈Z
  ·rcases hz b m with y | y
   ·obtain⟨sl,e2⟩:=ks b y _ e1;exact⟨_,e2⟩
   ·rw[e] at y;cases y
  ·exact⟨_,k b _ e1 m⟩
 tups:=u.tups
 frzs:=u.frzs
 tbls:=u.tbls
theorem HOk.hide {P:Program}{w:World}{H:Hp}{h1 h2:Heap}{Z:List Addr} (x:HOk P w H h1) (hz:∀ z∈Z,H z=none) (k:∀ b o,h1.get? b=some o->b ∉ Z->h2.get? b=some o):HOk P w H h2:=fun a o e=>
 (x a o e).stay (fun b u hb hu=>k b u hu fun z=>by
  have:=hz b z;rcases hb with rfl | hb
  ·rw[e] at this;cases this
  ·rw[hb] at this;cases this) (fun _ z=>z) fun _ _ z=>z
def Fly (H:Hp) (h0 h:Heap) (ea:Addr) (cls:Value) (od:Option Addr) (fl:Value):Prop :=
 ∃ (a0:Value) (T:Addr) (oe oT:Obj) (vs ts:Array Value),(H ea=none/\H T=none/\h0.get? ea=none/\h0.get? T=none) /\
  h.get? ea=some oe/\((oe.cls=cls/\vs[0]?=some a0)/\oe.dict=od)/\oe.data=.fields vs/\vs[1]?=some (.ref T)/\T≠ea/\h.get? T=some oT/\oT.data=.fields ts/\ts[3]?=some fl
def CX1 (P:Program) (w:World):CXT:=fun outer H s E e s'=>∃ (ea:Addr) (cls:Value) (od:Option Addr) (H':Hp),e=.ref ea/\s'.os=s.os/\AllBare s'.gens/\Un (frs outer) [] H H' s.heap s'.heap/\HOk P w H' s'.heap/\Fly H' s.heap s'.heap ea cls od .none/\E cls od H'
theorem Zid {P:Program}{w:World}{l:List Env}{H:Hp}{h0 h1 h2 base:Heap}{ea:Addr}{cls a0 fl:Value}{od:Option Addr}{Z:List Addr} (hok:HOk P w H h1) (hZ:∀ z∈Z,z ∉ frs l->z≠ea->H z=none/\h0.get? z=none) (hea:H ea=none) (he0:h0.get? ea=none)
  (hl:h1.FunFrames base l) (hs:h1.UpToSlots h2) (h01:∀ b o,h0.get? b=some o->∃ o',h1.get? b=some o') (t:h2.TracedAtW (Zbu h1 Z) ea cls a0 fl) (hod:∀ o,h2.get? ea=some o->o.dict=od):Fly H h0 h2 ea cls od fl:=by
 obtain⟨oe,vs,T,oT,ts,he,hc,hd,hv1,hnT,hTe,hT,hdT,h3⟩:=t;refine⟨a0,T,oe,oT,vs,ts,?_,he,⟨hc,hod oe he⟩,hd,hv1,hTe,hT,hdT,h3⟩;have hTf:T ∉ frs l:=fun m=>by
  obtain⟨_,o,ho,hnf⟩:=hl.mem m;obtain⟨sl,hs'⟩:=hs T o ho hnf;rw[hT] at hs';cases hs';exact hnf ts hdT
 by_cases m:T∈Z
 ·obtain⟨q1,q2⟩:=hZ T m hTf hTe;exact⟨hea,q1,he0,q2⟩
 ·rw[Zbr m] at hnT;refine⟨hea,hok.none_of hnT,he0,?_⟩
  cases q:h0.get? T with
  | none=>rfl
  | some o=>obtain⟨o',z⟩:=h01 T o q;rw[hnT] at z;cases z
def Zmd (X:Cx) (E:XK):Prop:=∀ (pins:List (Addr × Obj)) (σ:St) (H:Hp) (s:Shared) (ea:Addr) (oe:Obj) (vs:Array Value) (a0:Value),Inv X pins σ H s->H ea=none->X.s₀.heap.get? ea=none->s.heap.get? ea=some oe->oe.data=.fields vs->vs[1]?=some .none->vs[0]?=some a0->E oe.cls oe.dict H->X.xe (.ref ea) s
section
variable {P:Program}{w:World}{K:Yad}{mg:Str->Option Value}{base:Heap}{N:List Str}{qual:Str}{scope:Scope}{f:Addr}{cd:Value}{A:Around}{outer:List Env}{s:Shared}{H:Hp}{E:XK}
theorem ZhX (X:Cx) (hs:X.stack=X.env::X.outer) (hf:X.env.frame=some X.env.locals):frs X.stack=X.env.locals::X.fs:=by
 unfold Cx.fs frs;rw[hs,YaH,hf]
theorem Zld:Zmd (cxOf (CX1 P w) P w K mg base N qual scope f cd A outer s H E) E:=by
 intro pins σ H1 s1 ea oe vs a0 I hea hen he hd h1 h0 hE
 let X:=cxOf (CX1 P w) P w K mg base N qual scope f cd A outer s H E
 have hst:frs X.stack=X.env.locals::X.fs:=ZhX X rfl rfl;have hfr:X.A.frames=some (X.env::outer):=I.ok.frames;have hff:s1.heap.FunFrames X.base X.stack:=I.stack;have hB:∀ b∈frs X.stack,(Zbu s1.heap (ea::frs X.stack)).get? b=none:=fun b hb=>ZaG (Yao _ hb);refine ZbI ZdQ (wpAny_leaving_firstW (base:=Zbu s1.heap (ea::frs X.stack)) hfr (Zbb hff hB) rfl he Zbq (ZaG YaA) hd h1 h0 fun h' hL dk=>?_);obtain⟨k1,k2,k3,k4⟩:=hL;have hkeep:∀ b o,s1.heap.get? b=some o->b ∉ (ea::frs X.stack)->h'.get? b=some o:=fun b o e n=>k1 b o (by rw[Zbr n];exact e);have hloc:X.s₀.heap.get? X.env.locals=none:=Ych I.ok.above;have hzl:∀ z∈ea::frs X.stack,z∈frs outer∨X.s₀.heap.get? z=none:=fun z hz=>by
  rcases Yal.mp hz with rfl | hz
  ·exact .inr hen
  ·rw[hst] at hz;rcases Yal.mp hz with rfl | hz
   ·exact .inr hloc
   ·exact .inl hz
 refine⟨ea,oe.cls,oe.dict,H1,rfl,I.os,I.bare,Un.hide (Z:=ea::frs X.stack) I.base hzl hkeep ?_,I.hok.hide (Z:=ea::frs X.stack) ?_ hkeep,?_,hE⟩
 ·intro b hb o e;have hm:b∈frs X.stack:=by rw[hst];exact Yao _ hb
  obtain⟨_,o',ho',hnf⟩:=hff.mem hm;rw[e] at ho';cases ho';exact k4 b o e hnf
 ·intro z hz;rcases Yal.mp hz with rfl | hz
  ·exact hea
  ·exact I.stkFree z hz
 ·refine Zid (l:=X.stack) (Z:=ea::frs X.stack) I.hok (fun z hz hf hne=>?_) hea hen hff k4 (fun b o e=>I.base.there b o e (by intro z;cases z)) k3 (fun o q=>dk.at he q);rcases Yal.mp hz with z | z
  ·exact absurd z hne
  ·exact absurd z hf
theorem Zkw:ZbV (CX1 P w) (cxOf (CX1 P w) P w K mg base N qual scope f cd A outer s H E) E:=by
 intro pins σ H1 s1 e s' I hcx;obtain⟨ea,cls,od,H',rfl,os',bare',un',hok',hfly,hE⟩:=hcx
 let X:=cxOf (CX1 P w) P w K mg base N qual scope f cd A outer s H E
 have J:Inv X pins σ H' s':=I.call' (ch:=[]) os' un' hok' bare' fun b z=>absurd z (by simp);obtain⟨a0,T,oe,oT,vs,ts,⟨f1,f2,f3,f4⟩,he,⟨hc,hod⟩,hd,hv1,hTe,hT,hdT,h3⟩:=hfly;have hst:frs X.stack=X.env.locals::X.fs:=ZhX X rfl rfl;have hfr:X.A.frames=some (X.env::outer):=J.ok.frames;have hff:s'.heap.FunFrames X.base X.stack:=J.stack;have h01:∀ b o,X.s₀.heap.get? b=some o->∃ o',s1.heap.get? b=some o':=fun b o e=>I.base.there b o e (by intro z;cases z);have n0:∀ z,s1.heap.get? z=none->X.s₀.heap.get? z=none:=fun z e=>by
  cases q:X.s₀.heap.get? z with
  | none=>rfl
  | some o=>obtain⟨o',y⟩:=h01 z o q;rw[e] at y;cases y
 let Z:=ea::T::frs X.stack
 have hB:∀ b∈frs X.stack,(Zbu s'.heap Z).get? b=none:=fun b hb=>ZaG (Yao _ (Yao _ hb));refine ZbI ZdQ (wpAny_leaves_onW (base:=Zbu s'.heap Z) hfr rfl ⟨Zbq,ZaG YaA,Zbb hff hB,⟨oe,vs,T,oT,ts,he,hc,hd,hv1,ZaG (Yao _ YaA),hTe,hT,hdT,h3⟩⟩ fun h' hL k4 dk=>?_);obtain⟨k1,k2,k2',k3⟩:=hL;have hkeep:∀ b o,s'.heap.get? b=some o->b ∉ Z->h'.get? b=some o:=fun b o e n=>k1 b o (by rw[Zbr n];exact e);have hloc:X.s₀.heap.get? X.env.locals=none:=Ych J.ok.above;have hzl:∀ z∈Z,z∈frs outer∨X.s₀.heap.get? z=none:=fun z hz=>by
  rcases Yal.mp hz with rfl | hz
  ·exact .inr (n0 _ f3)
  ·rcases Yal.mp hz with rfl | hz
   ·exact .inr (n0 _ f4)
   ·rw[hst] at hz;rcases Yal.mp hz with rfl | hz
    ·exact .inr hloc
    ·exact .inl hz
 refine⟨ea,cls,od,H',rfl,J.os,J.bare,Un.hide (Z:=Z) J.base hzl hkeep ?_,J.hok.hide (Z:=Z) ?_ hkeep,?_,hE⟩
 ·intro b hb o e;have hm:b∈frs X.stack:=by rw[hst];exact Yao _ hb
  obtain⟨_,o',ho',hnf⟩:=hff.mem hm;rw[e] at ho';cases ho';exact k4 b o e hnf
 ·intro z hz;rcases Yal.mp hz with rfl | hz
  ·exact f1
  ·rcases Yal.mp hz with rfl | hz
   ·exact f2
   ·exact J.stkFree z hz
 ·refine Zid (l:=X.stack) (Z:=Z) J.hok (fun z hz hf hne=>?_) f1 (n0 _ f3) hff k4 (fun b o e=>J.base.there b o e (by intro z;cases z)) k3 (fun o q=>(dk.at he q).trans hod);rcases Yal.mp hz with z | z
  ·exact absurd z hne
  ·rcases Yal.mp z with rfl | z
   ·exact⟨f2,n0 _ f4⟩
   ·exact absurd z hf
end
end L2
namespace L2
open PySem PySem.Spec PyProof.Rows PySem.W
section
variable {prog:Program}{w:World}{A:Around}{E:Value->Shared->Prop}{s:Shared}{K:Frag}{x C D:Addr}{ox:Obj}
def ZcA (K:Frag) (C:Addr):Bool:=findIn K (.ref C) "__getattribute__" == some (some (.builtin "BaseException.__getattribute__")) && (findIn K (.ref C) "__getattr__" == some none &&
 (findIn K (.ref C) "__class__" == some (some (.builtin "object.__class__")) && (mroIn K C (.type "object") == some true && (mroIn K C (.type "BaseException") == some true && ((clsIn K C).isSome &&
 (specialIn K (.builtin "object.__class__") "__get__" == some (some (.builtin "getset_descriptor.__get__")) && takesIn K (.builtin "object.__class__") == some true))))))
def Zl5 (K:Frag) (C:Addr):Bool:=excIn K C [.type "ValueError",.type "Exception",.type "BaseException",.type "object"] "ValueError.__new__" && ZcA K C
def ZjF (ea C:Addr) (od:Option Addr) (h:Heap):Prop:=∃ oe,h.get? ea=some oe/\oe.cls=.ref C/\oe.dict=od/\∃ vs,oe.data=.fields vs
end
section
variable {X:Cx}
def Zcz (ea C:Addr) (od:Option Addr:=none):HO:=.ext (ZjF ea C od)
theorem Zjw {H:Hp}{P:Program}{w:World}{h:Heap}{ea C:Addr}{od:Option Addr} (x:HOk P w H h) (e:H ea=some (Zcz ea C od)):ZjF ea C od h:=(show ObjOk P w H h ea (Zcz ea C od) from x _ _ e).1
end
end L2
namespace L2
open PySem PySem.Spec PyProof.Rows PySem.W
section
variable {P:Program}{w:World}{K:Yad}{mg:Str->Option Value}{base:Heap}
theorem Fun.okE {x qual:Str}{st:Stmt}{f:Addr}{fd:FuncData}{N ps:List Str}{k:Nat}{sp:Sp} (F:Fun K x qual st f fd) (S:FnScope N ps (Zac st)) (len:∀ vs H Q E,sp vs H Q E->vs.length=ps.length)
  (hbody:∀ (cdv:Value) (A:Around) (outer:List Env) (s:Shared) (H:Hp) (vs:List V) (Q:VK) (E:XK),Room k (A.deeper (envOfC qual (Zac st) s.heap.objs.size f cdv))->sp vs H Q E ->
   ∃ t,PSs (cxOf (CX1 P w) P w K mg base N qual (Zac st) f cdv A outer s H E) (Zaj st) t/\t { nx:=fun _ H'=>Q .non H',rt:=Q } (ZcH N vs) H):FnOk P w K mg base (CX1 P w) (k+1) f fd ps sp:=by
 obtain⟨oc,od,kV,doc,pm,an,cdv,ct,osl,rfl,lk,hcd⟩:=F.ex;exact ZkT lk hcd S len fun A outer s H vs Q E hr hsp=>hbody cdv A outer s H vs Q E hr hsp
theorem FnOk.toE {k:Nat}{f:Addr}{fd:FuncData}{ps:List Str}{sp:Sp} (F:FnOk P w K mg base CX0 k f fd ps sp):FnOk P w K mg base (CX1 P w) k f fd ps sp :=
 ⟨F.len,fun A outer s H args us vs Q E hr he hb hv hs=>codeAny_mono (F.run A outer s H args us vs Q E hr he hb hv hs) fun r s' q=>by
  cases r with
  | error e=>exact q.elim
  | ok fl=>cases fl <;> exact q⟩
end
structure CalE (P:Program) (w:World) (K:Yad) (mg:Str->Option Value) (base:Heap) (k:Nat) (x:Str) (ps:List Str) (dvs:List V) (sp:Sp) (f:Addr) (fd:FuncData):Prop where
 ok:FnOk P w K mg base (CX1 P w) k f fd ps sp
 mg:mg x=some (.ref f)
 kp:Yay K (.ref f)=true
 bd:∃ ds,Binds K fd ps ds/\Vals dvs ds
section
variable {X:Cx}
theorem ZfE {k:Nat}{x:Str}{ps:List Str}{dvs:List V}{sp:Sp}{f:Addr}{fd:FuncData}{e:Expr}{es:List Expr}{t:TA}{p pos:Pos}{E:XK} (C:CalE X.prog X.w X.K X.mg X.base k x ps dvs sp f fd) (hr:Room k X.A) (hx:ZbV (CX1 X.prog X.w) X E) (hg:Gl X x) (ha:PA X (e::es) t)
  (hdb:(x == ("__debug__":Str))=false:=by decide) (he:starEach (e::es) X.env=(false,eval e X.env)::starEach es X.env:=by rfl) (hpl:(backTo pos (starEach es X.env)).any (·.1)=false:=by rfl) :
  PE X (.Call (.Name x p) (e::es) [] pos) (ZiO sp dvs E t):=by
 obtain⟨ds,h1,h2⟩:=C.bd;exact ZfD C.ok hr hg C.mg C.kp h1 h2 hx ha hdb he hpl
inductive FParts (X:Cx):List Expr->List TE->Prop
 | nil:FParts X [] []
 | con {x:Str}{j pos}{es:List Expr}{ts:List TE} (h:x.length<=1000) (r:FParts X es ts):FParts X (.Constant (.str x) j pos::es) ts
 | val {v:Expr}{t:TE}{pos:Pos}{es:List Expr}{ts:List TE} (h:PE X v t) (r:FParts X es ts):FParts X (.FormattedValue v (-1) none pos::es) (t::ts)
end
abbrev Cx.inTry (X:Cx) (pn':List (Addr × Obj)) (xe':Value->Shared->Prop):Cx:={ X with pn:=pn',xe:=xe' }
abbrev Cx.inSuite (X:Cx) (ea:Addr):Cx:={ X with A:=X.A.mark (some (.ref ea)),calm:=false,xe:=fun _ _=>False }
section
variable {X:Cx}{pins:List (Addr × Obj)}{σ:St}{H:Hp}{s:Shared}
theorem Cx.Ok.inTry (ok:X.Ok) (pn':List (Addr × Obj)) (xe':Value->Shared->Prop):(X.inTry pn' xe').Ok :=
 ⟨ok.mod,ok.kind,ok.glob,ok.blt,ok.above,ok.inj,ok.has,ok.cab,ok.hd,ok.frames,ok.stk,ok.exf,ok.bs,ok.bsz,ok.noex,ok.exfs,ok.funs,ok.frf⟩
theorem Cx.Ok.outTry {pn':List (Addr × Obj)}{xe':Value->Shared->Prop} (ok:(X.inTry pn' xe').Ok):X.Ok :=
 ⟨ok.mod,ok.kind,ok.glob,ok.blt,ok.above,ok.inj,ok.has,ok.cab,ok.hd,ok.frames,ok.stk,ok.exf,ok.bs,ok.bsz,ok.noex,ok.exfs,ok.funs,ok.frf⟩
theorem Cx.Ok.inSuite (ok:X.Ok) (ea:Addr):(X.inSuite ea).Ok :=
 ⟨ok.mod,ok.kind,ok.glob,ok.blt,ok.above,ok.inj,ok.has,ok.cab,fun z=>Bool.noConfusion z,ok.frames,ok.stk,ok.exf,ok.bs,ok.bsz,ok.noex,ok.exfs,ok.funs,ok.frf⟩
theorem Inv.inTry (I:Inv X pins σ H s) (xe':Value->Shared->Prop):Inv (X.inTry (X.pn++pins) xe') [] σ H s :=
 ⟨I.ok.inTry _ _,I.os,I.bare,I.base,I.loc,I.cell,I.free,I.freeC,fun p hp=>I.pin p (by simpa using hp),I.hok,I.len⟩
theorem Inv.outTry {xe':Value->Shared->Prop}{q:List (Addr × Obj)} (I:Inv (X.inTry (X.pn++pins) xe') q σ H s):Inv X pins σ H s :=
 ⟨I.ok.outTry,I.os,I.bare,I.base,I.loc,I.cell,I.free,I.freeC,fun p hp=>I.pin p (YaT _ hp),I.hok,I.len⟩
theorem Inv.inSuite (I:Inv X pins σ H s) (ea:Addr):Inv (X.inSuite ea) pins σ H s :=
 ⟨I.ok.inSuite _,I.os,I.bare,I.base,I.loc,I.cell,I.free,I.freeC,I.pin,I.hok,I.len⟩
theorem Inv.outSuite {ea:Addr} (ok:X.Ok) (I:Inv (X.inSuite ea) pins σ H s):Inv X pins σ H s :=
 ⟨ok,I.os,I.bare,I.base,I.loc,I.cell,I.free,I.freeC,I.pin,I.hok,I.len⟩
theorem Un.ext {fs ex:List Addr}{H H':Hp}{h h':Heap}{ea:Addr}{o:HO} (u:Un fs ex H H' h h') (h1:H' ea=none) (h2:h.get? ea=none):Un fs ex H (upd H' ea o) h h' where
 keep:=u.keep
 slot:=u.slot
 free:=fun b ob e n hx=>by rw[upd_ne (fun z=>by rw[z,h2] at e;cases e)];exact u.free b ob e n hx
 there:=u.there
 tups:=fun b xs e=>by rw[upd_ne (Zaf (u.tups b xs e) h1)];exact u.tups b xs e
 frzs:=fun b ob xs e=>by rw[upd_ne (Zaf (u.frzs b ob xs e) h1)];exact u.frzs b ob xs e
 tbls:=fun b ps e=>by
  obtain⟨more,q⟩:=u.tbls b ps e;exact⟨more,by rw[upd_ne (Zaf q h1)];exact q⟩
theorem HOk.ext {P:Program}{w:World}{H:Hp}{h:Heap}{ea C:Addr}{od:Option Addr} (x:HOk P w H h) (h1:H ea=none) (h2:ZjF ea C od h):HOk P w (upd H ea (Zcz ea C od)) h:=fun a o e=>by
 by_cases ha:a=ea
 ·subst ha;rw[Zab] at e;cases e;obtain⟨oe,e1,e2⟩:=h2;exact⟨⟨oe,e1,e2⟩,⟨oe,e1⟩,fun g1 g2 ⟨o1,z1,z2⟩ k=>⟨o1,k _ z1,z2⟩⟩
 ·rw[upd_ne ha] at e;exact (x a o e).stay (fun _ _ _ z=>z) (fun b z=>by rw[upd_ne (Zaf z h1)];exact z) fun b xs z=>by rw[upd_ne (Zaf z h1)];exact z
theorem Zcd {M:Model}{A:Around}{E:Value->Shared->Prop}{i:Nat}{x:Str}{pos:Pos}{Q:Unit->Shared->Prop} (I:Inv X pins σ H s) (hN:X.N.Nodup) (hi:X.N[i]?=some x) (hx:X.env.scope.names.lookup x=some .local)
  (h:∀ s',Inv X pins (σ.set i none) H s'->Q () s'):wpAny M A (do bindName X.env x .none;unbindBehindTheSuite X.env x pos) Q E s:=by
 obtain⟨m,hn,hl⟩:=id I.loc;have hcls:(X.env.scope.kind == .class || (X.env.scope.kind == .module && X.env.locals != X.env.globals))=false:=by rw[I.ok.kind];rfl
 have cne:=I.cne;obtain⟨oL,_,_,hoL,_⟩:=id hn;refine wpAny_nameGoes_keeps hx hn hcls fun h' v hn' hs=>?_;have far:∀ {b:Addr}{o:Obj},X.s₀.heap.get? b=some o->b≠X.env.locals:=fun e=>YaF (Yag (Yaj e) I.ok.above);refine h _ ⟨I.ok,I.os,I.bare,⟨fun b o e n hb hx=>(hs.2 b (far e)).trans (I.base.keep b o e n hb hx),fun b o e n hb hx=>?_,I.base.free,fun b o e hx=>?_,I.base.tups,I.base.frzs,I.base.tbls⟩,⟨_,hn',fun j y v' e1 e2 e3=>?_⟩,fun y c e=>?_,I.free,I.freeC,fun p hp=>?_,fun b ob e=>?_,by simpa using I.len⟩
 ·obtain⟨sl,q⟩:=I.base.slot b o e n hb hx;exact⟨sl,(hs.2 b (far e)).trans q⟩
 ·obtain⟨o',q⟩:=I.base.there b o e hx;exact⟨o',(hs.2 b (far e)).trans q⟩
 ·have hj:j≠i:=fun z=>by
   subst z;rw[List.getElem?_set] at e2;split at e2
   ·split at e2 <;> cases e2
   ·exact absurd rfl ‹¬ j=j›
  rw[YaY (YbA hj)] at e2;obtain⟨u',r',q⟩:=hl j y v' e1 e2 e3;refine⟨u',r',?_⟩;rcases q with ⟨k,q⟩ | ⟨k,c,q,z⟩
  ·have hy:y≠x:=fun z=>hj (Zei hN e1 (z ▸ hi));exact .inl ⟨k,by simp[hy,q]⟩
  ·exact .inr ⟨k,c,q,z.sameBut hs (cne y c q)⟩
 ·obtain⟨w',z⟩:=I.cell y c e;exact⟨w',z.sameBut hs (cne y c e)⟩
 ·obtain⟨e,n,ne,nf,d⟩:=I.pin p hp;exact⟨(hs.2 p.1 ne).trans e,n,ne,nf,d⟩
 ·refine (I.hok b ob e).stay (fun c w' hc q=>(hs.2 c ?_).trans q) (fun _ q=>q) fun _ _ q=>q;rintro rfl;rcases hc with rfl | hc
  ·rw[I.free] at e;cases e
  ·rw[I.free] at hc;cases hc
end
def Ends.without (D:Ends) (i:Nat):Ends:={ nx:=fun σ H=>D.nx (σ.set i none) H,rt:=D.rt,bk:=fun σ H=>D.bk (σ.set i none) H,ct:=fun σ H=>D.ct (σ.set i none) H }
def ZmJ (K:Frag) (n i:Nat) (c:Value) (ts:TS) (D:Ends):XK:=fun cls od H'=>∃ C:Addr,cls=.ref C/\exmOne K cls c=some true/\∀ ea,H' ea=none->ts (D.without i) ((Yak n none).set i (some (.ref ea))) (upd H' ea (Zcz ea C od))
def tTry (K:Frag) (n i:Nat) (c:Value) (tb:XK->TS) (ts:TS):TS:=fun D σ H=>tb (ZmJ K n i c ts D) D σ H
section
variable {X:Cx}
theorem Zlx {body:List Stmt}{b0:Stmt}{suite:List Stmt}{cx n:Str}{c:Addr}{np hpos pos:Pos}{i:Nat}{tb:XK->TS}{ts:TS} (hN:X.N.Nodup) (hi:X.N[i]?=some n) (hx:X.env.scope.names.lookup n=some .local) (hg:Gl X cx) (hm:X.mg cx=some (.ref c))
  (hb:∀ (Ex:XK) (pn':List (Addr × Obj)) (xe':Value->Shared->Prop),ZbV (CX1 X.prog X.w) (X.inTry pn' xe') Ex->PSs (X.inTry pn' xe') body (tb Ex)) (hs:∀ ea:Addr,PSs (X.inSuite ea) (b0::suite) ts)
  (hst:X.stack=X.env::X.outer:=by rfl) (hf:X.env.frame=some X.env.locals:=by rfl) (hd:(cx == ("__debug__":Str))=false:=by decide) :
  PS X (.Try body [.ExceptHandler (some (.Name cx np)) (some n) (b0::suite) hpos] [] [] pos) (tTry X.K X.N.length i (.ref c) tb ts):=by
 intro pins s σ H D I h;refine wpAny_Try_except (wpAny_mono (hb _ (X.pn++pins) _ ?_ [] s σ H D (I.inTry _) h) (fun f s1 q=>?_) fun _ _ z=>z)
 ·intro pins2 σ2 H2 s2 e s2' J hcx;obtain⟨ea,cls,od,H',rfl,os',bare',un',hok',⟨a0,T,oe,oT,vs,ts',⟨f1,f2,f3,f4⟩,he,⟨hc,hod⟩,hdd,hv1,hTe,hT,hdT,h3⟩,C,rfl,hex,hrd⟩:=hcx;have J1:Inv (X.inTry (X.pn++pins) _) pins2 σ2 H' s2':=J.call' (ch:=[]) os' un' hok' bare' fun b z=>absurd z (by simp);have hfr:X.A.frames=some (X.env::X.outer):=J.ok.frames.trans (by rw[<- hst]);have hff:s2'.heap.FunFrames X.base X.stack:=J1.stack
  let Z:=ea::T::frs X.stack
  have hB:∀ b∈frs X.stack,(Zbu s2'.heap Z).get? b=none:=fun b hb=>ZaG (Yao _ (Yao _ hb));have hff2:s2'.heap.FunFrames (Zbu s2'.heap Z) (X.env::X.outer):=by rw[<- hst];exact Zbb hff hB
  have at_:∀ h':Heap,Heap.FlyingW (Zbu s2'.heap Z) (X.env::X.outer) ea (.ref C) a0 h'->s2'.heap.UpToSlots h'->DK s2'.heap h'->Inv (X.inSuite ea) pins (Yak X.N.length none) (upd H' ea (Zcz ea C od)) { s2' with heap:=h' }:=fun h' hfl up dk=>by
   have hkeep:∀ b o,s2'.heap.get? b=some o->b ∉ Z->h'.get? b=some o:=fun b o e n=>hfl.1 b o (by rw[Zbr n];exact e);have hzl:∀ z∈Z,z∈frs X.stack∨s2.heap.get? z=none:=fun z hz=>by
    rcases Yal.mp hz with rfl | hz
    ·exact .inr f3
    ·rcases Yal.mp hz with rfl | hz
     ·exact .inr f4
     ·exact .inl hz
   have hzn:∀ z∈Z,H' z=none:=fun z hz=>by
    rcases Yal.mp hz with rfl | hz
    ·exact f1
    ·rcases Yal.mp hz with rfl | hz
     ·exact f2
     ·exact J1.stkFree z hz
   have u2:Un (frs X.stack) [] H2 H' s2.heap h':=un'.hide hzl hkeep fun b hb o e=>by
    obtain⟨_,o',ho',hnf⟩:=hff.mem hb;rw[e] at ho';cases ho';exact up b o e hnf
   have hx2:ZjF ea C od h':=by
    obtain⟨ob,ws,q1,q2,q3,_⟩:=hfl.first
    exact⟨ob,q1,q2,(dk.at he q1).trans hod,ws,q3⟩
   have J2:Inv (X.inTry (X.pn++pins) _) pins2 σ2 (upd H' ea (Zcz ea C od)) { s2' with heap:=h' }:=J.call' (ch:=[]) os' (u2.ext f1 f3) ((hok'.hide hzn hkeep).ext f1 hx2) bare' fun b z=>absurd z (by simp);have J3:Inv X pins σ2 (upd H' ea (Zcz ea C od)) { s2' with heap:=h' }:=J2.outTry;exact (J3.weak (σ':=Yak X.N.length none) (by rw[YbD];exact J3.len.symm) fun j v z=>by
    rw[YdV] at z;split at z <;> cases z).inSuite ea
  have hX:X.Ok:=I.ok;refine ZbI ZbE (wpAny_looks_onW (base:=Zbu s2'.heap Z) hfr hf ⟨Zbq,ZaG YaA,hff2,⟨oe,vs,T,oT,ts',he,hc,hdd,hv1,ZaG (Yao _ YaA),hTe,hT,hdT,h3⟩⟩ fun h1 held up1 dk1=>?_);refine ZbI ZbD (wpAny_landsW held fun h2 fly2 up2 dk2=>?_);have JS:=at_ h2 fly2 (up1.trans up2) (dk1.trans dk2);refine wpAny_handleBy_cons (codeAny_handlers_test ?_) (by intro q;cases q);refine Zek JS hg hm ?_ hd;have LT:Looks (model X.prog X.w) h2 (typeOf (.ref ea)) (.ref C):=by
   obtain⟨ob,e1,e2⟩:=fly2.there;rw[<- e2];exact (Looks.ld e1).andThen .now
  refine (exm_one JS.kIn LT hex).here ?_;refine codeAny_handlers_suite_as (ZbI ZbD (lands_againW fly2 fun h3' fly3 up3 dk3=>?_));have JS3:=at_ h3' fly3 ((up1.trans up2).trans up3) ((dk1.trans dk2).trans dk3);refine ZcL (X:=X.inSuite ea) JS3 hN hi (.inl hx) (v:=.ref ea) rfl (fun s4 J4=>?_) (.inr hx);refine wpAny_mono (hs ea pins s4 _ _ _ J4 (hrd ea f1)) (fun f s5 q=>?_) fun _ _ z=>YbH z
  cases f with
  | next=>
   obtain⟨σ',H'',I',r⟩:=q;exact Zcd (I'.outSuite hX) hN hi hx fun s6 I6=>⟨_,_,I6,r⟩
  | brk=>
   obtain⟨σ',H'',I',r⟩:=q;exact Zcd (I'.outSuite hX) hN hi hx fun s6 I6=>⟨_,_,I6,r⟩
  | cont=>
   obtain⟨σ',H'',I',r⟩:=q;exact Zcd (I'.outSuite hX) hN hi hx fun s6 I6=>⟨_,_,I6,r⟩
  | ret u=>
   obtain⟨v,σ',H'',I',rv,r⟩:=q;exact Zcd (I'.outSuite hX) hN hi hx fun s6 I6=>⟨v,_,_,I6,rv,r⟩
 ·cases f with
  | next=>
   obtain⟨σ',H',I',r⟩:=q;exact wpAny_execs_nil ⟨σ',H',I'.outTry,r⟩
  | brk=>obtain⟨σ',H',I',r⟩:=q;exact⟨σ',H',I'.outTry,r⟩
  | cont=>obtain⟨σ',H',I',r⟩:=q;exact⟨σ',H',I'.outTry,r⟩
  | ret u=>obtain⟨v,σ',H',I',rv,r⟩:=q;exact⟨v,σ',H',I'.outTry,rv,r⟩
end
end L2
namespace Lv
open PySem L2 PySem.W
structure ExcTab (K:Frag) (reel C:Addr) (all:List Addr):Prop where
 ok:Zl5 K C=true
 exm:exmOne K (.ref C) (.ref reel)=some true
 isR:kitOne K (.ref C) (.ref reel)=some true
 isV:kitOne K (.ref C) (.type "ValueError")=some true
 one:∀ D∈all,kitOne K (.ref C) (.ref D)=some (D == C)
structure Excs (K:Frag) (mg:Str->Option Value) where
 reel:Addr
 nWays:Addr
 nRoom:Addr
 nLevel:Addr
 nStand:Addr
 tMany:Addr
 tFew:Addr
 nPlace:Addr
 nText:Addr
 nLine:Addr
 nBack:Addr
 nPhase:Addr
 clash:Addr
 mReel:mg "ReelError"=some (.ref reel)
 mWays:mg "NoWays"=some (.ref nWays)
 mRoom:mg "NoRoom"=some (.ref nRoom)
 mLevel:mg "NoLevel"=some (.ref nLevel)
 mStand:mg "NoStanding"=some (.ref nStand)
 mMany:mg "TooMany"=some (.ref tMany)
 mFew:mg "TooFew"=some (.ref tFew)
 mPlace:mg "NoPlace"=some (.ref nPlace)
 mText:mg "NoText"=some (.ref nText)
 mLine:mg "NoLine"=some (.ref nLine)
 mBack:mg "NoBack"=some (.ref nBack)
 mPhase:mg "NoPhase"=some (.ref nPhase)
 mClash:mg "Clash"=some (.ref clash)
 nd:([nWays,nRoom,nLevel,nStand,tMany,tFew,nPlace,nText,nLine,nBack,nPhase,clash]:List Addr).Nodup
def Excs.all {K:Frag}{mg:Str->Option Value} (X:Excs K mg):List Addr:=[X.nWays,X.nRoom,X.nLevel,X.nStand,X.tMany,X.tFew,X.nPlace,X.nText,X.nLine,X.nBack,X.nPhase,X.clash]
def anT:List String:=["NoneType","bool","int","str","list","tuple","dict"]
theorem Zb4 {K:Yad}{T:String} (h:T∈anT):YcK K (.type T) (.type "bool")=some (decide (T="bool")):=by
 simp only[anT,Yal,YbY,or_false] at h;rcases h with rfl | rfl | rfl | rfl | rfl | rfl | rfl
 all_goals with_unfolding_all rfl
structure Thing (K:Frag) (H:Hp) (v:V) (T:String):Prop where
 ty:TyOf K H v (.type T)
 mem:T∈anT
def NotIn (lo hi:Int) (v:V) (T:String):Prop:=T≠"int"∨∃ i,v=.int i/\¬ (lo<=i/\i<=hi)
theorem FnOk.or {P:Program}{w:World}{K:Frag}{mg:Str->Option Value}{base:Heap}{CX:CXT}{k:Nat}{f:Addr}{fd:FuncData}{ps:List Str}{sp sp':Sp} (F:FnOk P w K mg base CX k f fd ps sp) (F':FnOk P w K mg base CX k f fd ps sp') :
  FnOk P w K mg base CX k f fd ps (fun vs H Q E=>sp vs H Q E∨sp' vs H Q E) :=
 ⟨fun vs H Q E h=>h.elim (F.len vs H Q E) (F'.len vs H Q E),fun A outer s H args us vs Q E hr he hb hv h=>h.elim (F.run A outer s H args us vs Q E hr he hb hv) (F'.run A outer s H args us vs Q E hr he hb hv)⟩
end Lv
namespace Lv
open PySem L2 PySem.W
end Lv
namespace Lv
open PySem L2 PySem.W
end Lv
namespace Lv
open PySem L2 PySem.W
end Lv
namespace L2
open PySem PySem.Spec PyProof.Rows PySem.W
end L2
namespace Lv
open PySem L2 PySem.W
end Lv
namespace L2
open PySem PySem.Spec PyProof.Rows PySem.W
abbrev VB:List Value:=[.type "ValueError",.type "Exception",.type "BaseException",.type "object"]
def Zig (K:Frag) (C:Addr):Bool:=match K.lookup C with
 | some ⟨.type "type",_,.cls cd,sl⟩=>(match cd.mro,sl.toList with
  | .ref D::bm,[_,_,_,_,some (.builtin n),_]=>D == C && (n == "ValueError.__new__" && (!cd.hasDel && (tailIn K VB bm && (nsOkIn K cd.ns && cd.hasDict))))
  | _,_=>false)
 | _=>false
def ZaN (K:Frag) (C fI:Addr):Bool:=Zig K C && (ZcA K C && (findIn K (.ref C) "__setattr__" == some (some (.builtin "object.__setattr__")) && (findIn K (.ref C) "at" == some none && (isFn K (.ref fI) && (keepIn K (.ref C) && findIn K (.ref C) "__init__" == some (some (.ref fI)))))))
theorem ZcT {K:Frag}{h:Heap}{C:Addr} (X:K.In h) (q:Zig K C=true):∃ bm N nm qn bs sn sub ab col dd k0 k1 k2 k3 k5 cd,
  h.get? C=some (excClassObj nm qn C N bs bm true sn sub ab col dd k0 k1 k2 k3 k5 "ValueError.__new__")/\OwnTail h VB bm/\clsIn K C=some cd/\cd.hasDict=true/\cd.mro=.ref C::bm:=by
 unfold Zig at q;split at q
 ·rename_i dd cd sl lk;split at q
  ·rename_i C1 bm k0 k1 k2 k3 n1 k5 e1 e2;simp only[Ya6,beq_iff_eq,Bool.not_eq_true'] at q;obtain⟨c1,c2,c3,c4,c5,c7⟩:=q;have hcl:clsIn K C=some cd:=by unfold clsIn;rw[lk]
   obtain⟨nm,bs,mro,ns,qn,hd,sn,sub,ab,col,del⟩:=cd;obtain⟨ls⟩:=sl;dsimp only at e1 e2 c3 c5 c7;subst c1 c2 c3 e1 e2 c7;refine⟨bm,ns,nm,qn,bs,sn,sub,ab,col,dd,k0,k1,k2,k3,k5,_,X _ _ lk,tail_of_in X c4,hcl,rfl,rfl⟩
  ·cases q
 ·cases q
theorem Zfl {h:Heap}{bm:List Value} (T:OwnTail h VB bm) (self:Value):refuseLoop self "__setattr__" bm=pure ():=by
 induction T with
 | base=>exact PySem.F.store_ValueError.passes self
 | own _ _ _ _ ih=>rw[refuseLoop_ref];exact ih
section
variable {prog:Program}{w:World}{A:Around}{E:Value->Shared->Prop}{s:Shared}{K:Frag}{x C fI:Addr}{v:Value}
theorem Zkh {ws:Array Value}{sl:Array (Option Value)}{Q:Unit->Shared->Prop} (X:K.In s.heap) (z:ZaN K C fI=true) (he:s.heap.get? x=some ⟨.ref C,none,.fields ws,sl⟩)
  (h:∀ h',h'.get? x=some ⟨.ref C,some s.heap.objs.size,.fields ws,sl⟩->h'.Ns1 s.heap.objs.size (fun y=>if y="at" then some v else none)->(∀ b o,b≠x->s.heap.get? b=some o->h'.get? b=some o)->Q () { s with heap:=h',toks:=s.toks+2 }) :
  wpAny (model prog w) A (setAttr (.ref x) "at" v) Q E s:=by
 simp only[ZaN,Ya6,beq_iff_eq] at z;obtain⟨z1,z2,z3,z4,z5,z6,hfind⟩:=z;obtain⟨bm,N,nm,qn,bs,sn,sub,ab,col,dd,k0,k1,k2,k3,k5,cd,hC,T,hcd,hdi,hmro⟩:=ZcT X z1;have J:InstAt s.heap x ⟨.ref C,none,.fields ws,sl⟩ C none:=⟨he,rfl,rfl,Ycv⟩
 refine set_plain X J z3 ?_;have SF:=PySem.F.store_object;have hob:mroIn K C (.type "object")=some true:=by
  simp only[ZcA,Ya6,beq_iff_eq] at z2;exact z2.2.2.2.1
 have sb:Looks (model prog w) s.heap (isInstance (.ref x) (.type "object")) true:=J.type.andThen (looks_mroIn X hob);refine codeAny_call_builtin SF.slot.plain SF.entry (@check_slot (model prog w) _ _ { s with toks:=s.toks+1 } "object.__setattr__" "object" "__setattr__" (.ref x) [.str "at" s.toks,v] [] _ SF.kind SF.split sb (SF.args (.ref x) (.str "at" s.toks) v) ?_);have hm:Looks (model prog w) s.heap (mroOf (.ref C)) cd.mro:=(looks_clsIn X hcd).andThen .now;rw[osa_eq,refuse_eq];refine wpAny_bind (wpAny_bind (Yc3 (s:={ s with toks:=s.toks+1 }) J.type (wpAny_bind (Yc3 (s:={ s with toks:=s.toks+1 }) hm ?_))));rw[hmro,refuseLoop_ref,Zfl T];refine wpAny_pure (wpAny_bind (Yc3 (s:={ s with toks:=s.toks+1 }) J.type (wpAny_bind (Yc3 (s:={ s with toks:=s.toks+1 }) (looks_findIn X z4) (wpAny_bind (wpAny_pure ?_))))));refine wpAny_bind (wpAny_pure (wpAny_bind (wpAny_bind (wpAny_loadPart he (wpAny_bind (Yc3 (s:={ s with toks:=s.toks+1 }) (looks_clsIn X hcd) ?_))))));rw[hdi];have xs:x≠s.heap.objs.size:=YaF (Yaj he);have e1:(s.heap.push { cls:=.type "dict",data:=.dict #[] }).get? x=some ⟨.ref C,none,.fields ws,sl⟩:=Yac _ he;refine wpAny_bind (wpAny_alloc' (wpAny_bind (wpAny_update' e1 (wpAny_pure ?_))))
 let h1:=(s.heap.push { cls:=.type "dict",data:=.dict #[] }).update x fun o=>{ cls:=o.cls,dict:=some s.heap.objs.size,data:=o.data,slots:=o.slots }
 have gx:h1.get? x=some ⟨.ref C,some s.heap.objs.size,.fields ws,sl⟩:=Ycz _ e1 rfl;have gd:h1.get? s.heap.objs.size=some { cls:=.type "dict",data:=.dict #[] }:=(YcI _ _ _ _ xs.symm).trans (Ydl rfl rfl);have nd:h1.Ns s.heap.objs.size (fun _=>none):=⟨_,#[],_,gd,rfl,fun e he=>absurd he (by simp),fun _=>rfl⟩
 show wpAny _ _ (YcY s.heap.objs.size (.str "at" s.toks) "at" v) _ _ _;unfold YcY YeF;refine wpAny_bind (wpAny_pure (wpAny_bind (wpAny_nsSet1 (Heap.Ns1.of_empty nd) fun h2 n2 b2=>?_)));obtain⟨oD,esD,epD,hoD,hdD,hcD⟩:=n2.count (Within.cons "at" v Within.nil);refine wpAny_bind (wpAny_lookBehind hoD (by rw[hdD];exact pastItsLine_dict (Ybk hcD (by rw[Ya3,List.length_nil,sizeLine_eq];(clear hcD xs;omega)))) ?_);refine wpAny_pure (h h2 ((b2.2 x xs).trans gx) n2 fun b o hb e=>?_);exact (b2.2 b (YaF (Yaj e))).trans ((YcI _ _ _ _ hb).trans (Yac _ e))
theorem ZfJ {od:Obj}{ox:Obj}{tk:Tok}{n:Str}{Q:Fin->Shared->Prop} (X:K.In s.heap) (J:InstAt s.heap x ox C (some od)) (hf:findObj K C (some od) n=some (.value v)) (hq:Q (.done (.ret v)) s) :
  wpAny (model prog w) A (Builtin.«object.__getattribute__» ⟨[.ref x,.str n tk],[]⟩) Q E s:=by
 have L0:=J.type (M:=model prog w);have L1:=looks_find (M:=model prog w) X J hf;obtain⟨hh,gg,d,t,os⟩:=s;unfold Builtin.«object.__getattribute__»;refine wpAny_bind (wpAny_pure (wpAny_bind (wpAny_pure (wpAny_bind (L0.at (wpAny_bind (L1.at ?_)))))));dsimp only;exact wpAny_pure hq
theorem ZkP {od ox:Obj}{b:Bool}{Q:Value->Shared->Prop} (X:K.In s.heap) (z:ZcA K C=true) (J:InstAt s.heap x ox C (some od)) (hf:findObj K C (some od) "at"=some (.value v)) (hh:handedIn v=true)
  (h:Q v { s with toks:=s.toks+1 }):wpAny (model prog w) A (getAttr (.ref x) "at" b) Q E s:=by
 simp only[ZcA,Ya6,beq_iff_eq] at z;obtain⟨z2,z3,z4,z5,z6,z7,z8,z9⟩:=z;have L0:=J.type (M:=model prog w);have L1:=looks_findIn (M:=model prog w) X z2;have L2:=looks_findIn (M:=model prog w) X z3;have L3:=looks_mroIn (M:=model prog w) X z6;obtain⟨hp,g,d,t,os⟩:=s;unfold getAttr getAttrBy;refine wpAny_bind (wpAny_mkText (wpAny_holding (wpAny_bind (L0.at (wpAny_bind (L1.at ?_))))));have hx2:(Value.builtin "BaseException.__getattribute__" == Value.builtin "object.__getattribute__")=false:=by decide +kernel
 dsimp only;rw[hx2,Bool.and_false,if_neg YaC];unfold getAttrByItsOwn hookBefore onTheHeap;dsimp only;rw[if_pos rfl];refine wpAny_bind (L2.at (wpAny_bind (wpAny_attempt (wpAny_holding ?_))));unfold callGetattribute boundAndCalled onTheHeap;dsimp only;rw[Bool.and_false,if_neg YaC];have f3:=F.attr_ValueError.ga.bind (.ref x);refine wpAny_bind (wpAny_of_eq f3 ?_);refine wpAny_call (codeAny_call_builtin F.attr_ValueError.ga.plain F.entry_bexc_ga ?_);have hk1:builtinKind "BaseException.__getattribute__"=some .slot:=by decide +kernel
 have hs1:splitId "BaseException.__getattribute__"=some ("BaseException","__getattribute__"):=by decide +kernel
 have ha:=F.args_bexc_ga (.ref x) (.str "at" t);simp only[checkBuiltinCall,hk1,hs1];refine wpAny_bind ?_;unfold isInstance;refine wpAny_bind (L0.at ?_);refine L3.at ?_;rw[if_neg (by decide)];have hho:handedOut v=pure v:=handedOut_of hh
 repeat (first | assumption | refine ZfJ (s:=⟨hp,g,d,t+1,os⟩) X J hf ?_ | (rw[hho];exact wpAny_pure h) | wp_step)
abbrev newExc (C t:Addr):Obj:={ cls:=.ref C,data:=.fields #[.ref t,.none,.none,.none,.bool false,.none] }
theorem Zif {rest:List Value}{Q:Value->Shared->Prop} (X:K.In s.heap) (z:ZaN K C fI=true) (hrest:rest.length<=sizeLine)
  (hq:∀ h' e,Heap.MadeExcOf s.heap h' e (.ref C) rest->wpAny (model prog w) (A.under (.builtin "type.__call__" ⟨.ref C::rest,[]⟩)) (call (.ref fI) (.ref e::rest)) (fun r s'=>r=.none/\Q (.ref e) s') E { s with heap:=h' }) :
  wpAny (model prog w) A (call (.ref C) rest) Q E s:=by
 simp only[ZaN,Ya6,beq_iff_eq] at z;obtain⟨z1,z2,z3,z4,z5,z6,hfind⟩:=z;obtain⟨bm,N,nm,qn,bs,sn,sub,ab,col,dd,k0,k1,k2,k3,k5,cd,hC,T,hcd,hdi,hmro⟩:=ZcT X z1;have FB:=PySem.F.excBase_ValueError;have hfn:typeIn K (.ref fI)=some (.type "function"):=beq_iff_eq.mp z5;obtain⟨h,g,d,t,os⟩:=s;dsimp only at X hC T hq
 let h2:=(h.push { cls:=.type "tuple",data:=.seq rest.toArray }).push (newExc C h.objs.size)
 have kp:∀ b o,h.get? b=some o->h2.get? b=some o:=fun b o e=>Yac _ (Yac _ e);have X2:K.In h2:=X.keeps kp;have ge:h2.get? (h.objs.size+1)=some (newExc C h.objs.size):=by heap_get
 have hm2:Heap.MadeExcOf h h2 (h.objs.size+1) (.ref C) rest:=⟨kp,Ych (Ycw _),h.objs.size,ge,Ych (Yap _),Yac _ (Ydl rfl rfl)⟩
 have hC2:=kp _ _ hC;have f1:=tc_lookup;have f2:=tc_bind (.ref C);have hT:(⟨h,g,d,t,os⟩:Shared).TypeIs (.ref C) "type":=⟨_,hC,rfl⟩
 have hcC:(YbC C::bm).contains (.ref C)=true:=by simp
 refine wpAny_call (codeAny_of_tree ?_);show wpAny _ _ (callAny (.ref C) _) _ _ _
 repeat (any_goals (first | with_reducible refine wpAny_loadPart_at hC ?_ | assumption | wp_step))
 refine⟨rfl,codeAny_call_builtin_at (Yew _ (by decide +kernel)) entry_typeCall (wpAny_check_type_call_sub hC ?_)⟩
 repeat (first | with_reducible refine wpAny_madeBy_exc hC ?_ | with_reducible refine wpAny_loadPart_at hC ?_ | wp_step)
 refine codeAny_call_builtin_code (Yew _ FB.quiet) (wpAny_check_new_subT FB T hC (codeAny_exc_new_subT FB T hC ?_ hrest));show wpAny _ _ _ _ _ _;unfold isInstance
 repeat (first | with_reducible refine wpAny_loadPart_at ge ?_ | (with_reducible refine wpAny_isSubtype_exc hC2 ?_;rw[hcC]) | wp_step)
 show wpAny _ _ (isSubtype (.ref C) (.ref C)) _ _ _;refine wpAny_isSubtype_exc hC2 ?_;rw[hcC];have J:InstAt h2 (h.objs.size+1) (newExc C h.objs.size) C none:=⟨ge,rfl,rfl,Ycv⟩
 refine wpAny_bind (wpAny_holding (special_fn (s:=⟨h2,g,d,t,os⟩) X2 J hfind hfn (wpAny_mono (hq h2 _ hm2) (fun r s' hr=>?_) fun _ _ q=>q)));obtain⟨rfl,q⟩:=hr;exact wpAny_pure q
end
end L2
namespace L2
open PySem PySem.Spec PyProof.Rows PySem.W
def Zds (ea C:Addr):HO:=.ext fun h=>∃ t,h.get? ea=some (newExc C t)
def ZdM (ea C dx:Addr):HO:=.ext fun h=>∃ t,h.get? ea=some { newExc C t with dict:=some dx }
def Zhm (C:Addr):Sp:=fun vs H Q _=>∃ (ea:Addr) (v:V),vs=[.ref ea,v]/\H ea=some (Zds ea C)/\∀ dx,H dx=none->dx≠ea->Q .non (upd (upd H dx (.xd [("at",v)])) ea (ZdM ea C dx))
def Zmg (K:Frag) (C fI:Addr) (ta tv:TE):TS:=fun D σ H=>tv σ H fun y H1=>ta σ H1 fun x H2=>∃ ea,x=.ref ea/\H2 ea=some (Zds ea C)/\ZaN K C fI=true/\∀ dx,H2 dx=none->dx≠ea->D.nx σ (upd (upd H2 dx (.xd [("at",y)])) ea (ZdM ea C dx))
theorem Zhv {h:Heap}{o ob:Obj}{b:Addr} (q:(h.push o).get? b=some ob) (hb:b≠h.objs.size):h.get? b=some ob:=by
 obtain⟨e,f⟩:=YcQ.mp q;refine YcQ.mpr ⟨?_,f⟩;have e:(h.objs.push o)[b]?=some ob:=e;rw[Array.getElem?_push] at e;split at e
 ·exact absurd ‹_› hb
 ·exact e
section
variable {X:Cx}{o value:Expr}{pos pos':Pos}{ta tv:TE}{C fI:Addr}
theorem Zks (ha:PE X o ta) (hv:PE X value tv) (hs:swapsWith value (some (.Attribute o "at" pos')) pos.line X.env=pure false):PS X (.Assign [.Attribute o "at" pos'] value pos) (Zmg X.K C fI ta tv):=by
 intro pins s σ H D I h;refine plainObj_wpAny_Assign_Attribute (thn (hv pins s σ H _ I h) fun u s1 ⟨y,H1,I1,ry,q⟩=>thn (ha pins s1 σ H1 _ I1 q) fun ov s2 ⟨x,H2,I2,rx,ea,ex,he,hz,k⟩=>?_) hs;subst ex;obtain rfl:ov=YbC ea:=rx;obtain⟨⟨t,ht⟩,_⟩:=(show ObjOk X.prog X.w H2 s2.heap ea (Zds ea C) from I2.hok _ _ he)
 refine Zkh I2.kIn hz ht fun h' e1 n1 k1=>?_
 let dx:=s2.heap.objs.size
 have hdx:H2 dx=none:=I2.hok.fresh (Yap _);have hne:dx≠ea:=Ybp (Yaj ht);obtain⟨od,es,ep,hod,r⟩:=id n1;have fr:od.isFreed=false:=(YcQ.mp hod).2
 have g1:(s2.heap.push od).get? dx=some od:=Ydl rfl fr;have I3:Inv X pins σ (upd H2 dx (.xd [("at",y)])) { s2 with heap:=s2.heap.push od,toks:=s2.toks }:=by
  refine I2.laid (a:=dx) (t':=s2.toks) (fun b ob q=>Yac _ q) (Yap _) ⟨_,⟨od,es,ep,g1,r⟩,fun f=>?_⟩;show RelO (List.lookup f [("at",y)]) (if f="at" then some u else none);by_cases hf:f="at"
  ·rw[if_pos hf,hf];exact ry
  ·rw[if_neg hf];have:(f == ("at":Str))=false:=beq_eq_false_iff_ne.mpr hf;rw[Ybs,this];exact Ycv
 have h3:upd H2 dx (.xd [("at",y)]) ea=some (Zds ea C):=by rw[upd_ne hne.symm];exact he
 refine⟨σ,_,I3.write (x:=ea) (e:=ea) (t':=s2.toks+2) (h':=h') (o:=ZdM ea C dx) (by rw[h3];exact Ycv) (.inl rfl) (fun b ob hb q=>?_) ⟨_,e1⟩ ?_,k dx hdx hne⟩
 ·by_cases hbd:b=dx
  ·subst hbd;rw[show (s2.heap.push od).get? dx=some od from g1] at q;cases q;exact hod
  ·exact k1 b ob hb (Zhv q hbd)
 ·exact⟨⟨t,e1⟩,⟨_,e1⟩,fun g1 g2 ⟨t1,z1⟩ kk=>⟨t1,kk _ z1⟩⟩
theorem HOk.track {P:Program}{w:World}{H:Hp}{h:Heap}{a:Addr}{o:HO} (x:HOk P w H h) (h1:H a=none) (new:ObjOk P w (upd H a o) h a o):HOk P w (upd H a o) h:=fun b u e=>by
 by_cases hb:b=a
 ·subst hb;rw[Zab] at e;cases e;exact new
 ·rw[upd_ne hb] at e;exact (x b u e).stay (fun _ _ _ z=>z) (fun c z=>by rw[upd_ne (Zaf z h1)];exact z) fun c xs z=>by rw[upd_ne (Zaf z h1)];exact z
theorem ZgI {M:Model}{A:Around}{E:Value->Shared->Prop}{s:Shared}{env:Env}{x:Sem Value}{K:Frag}{C fI:Addr}{Q:Flow->Shared->Prop} (z:ZaN K C fI=true) (hh:A.handled=none)
  (h:wpAny M A x (fun v s1=>∃ e t dx,v=.ref e/\K.In s1.heap/\s1.heap.get? e=some { newExc C t with dict:=dx }/\E (.ref e) s1) E s):wpAny M A (raiseStmt env (some x) none) Q E s:=by
 simp only[ZaN,Ya6,beq_iff_eq] at z;obtain⟨z1,zr,_⟩:=z;simp only[ZcA,Ya6,beq_iff_eq] at zr;obtain⟨z2,z3,z4,z5,z6,z7,z8,z9⟩:=zr;unfold raiseStmt;refine wpAny_bind (wpAny_mono h (fun v s1 q=>?_) fun _ _ q=>q);obtain⟨e,t,dx,rfl,X,he,hE⟩:=q;have L3:=looks_mroIn (M:=M) X z6;obtain⟨bm,N,nm,qn,bs,sn,sub,ab,col,dd,k0,k1,k2,k3,k5,cd,hC,_⟩:=ZcT X z1;obtain⟨hp,g,d,tk,os⟩:=s1;dsimp only at he X L3 hC
 repeat (first | with_reducible refine wpAny_loadPart_at he ?_ | with_reducible refine wpAny_loadPart_at hC ?_ | (show wpAny _ _ (isSubtype (.ref C) (.type "BaseException")) _ _ _;refine Yc3 (s:=⟨hp,g,d,tk,os⟩) L3 ?_) | wp_step)
 exact wpAny_raiseNew_none hh hE
def Zka (C:Addr) (E:XK) (t:TA):TS:=fun _ σ H=>t σ H fun vs H1=>∃ v:V,vs=[v]/\∀ dx,H1 dx=none->E (.ref C) (some dx) (upd H1 dx (.xd [("at",v)]))
theorem Zhx {E:XK}{x:Str}{k:Nat}{fd:FuncData}{e0:Expr}{t:TA}{np cpos pos:Pos} (hT:Zmd X E) (hg:Gl X x) (hm:X.mg x=some (.ref C)) (hz:ZaN X.K C fI=true)
  (F:FnOk X.prog X.w X.K X.mg X.base CX0 k fI fd ["self","at"] (Zhm C)) (hb:Binds X.K fd ["self","at"] []) (hr:Room (k+1) X.A) (ha:PA X [e0] t) (hc:X.calm=true:=by rfl) (hex:X.ex=[]:=by rfl)
  (he:starEach [e0] X.env=(false,eval e0 X.env)::starEach [] X.env:=by rfl) (hd:(x == ("__debug__":Str))=false:=by decide) :
  PS X (.Raise (some (.Call (.Name x np) [e0] [] cpos)) none pos) (Zka C E t):=by
 intro pins s σ H D I h;rw[arm_exec_Raise];refine wpAny_bind (wpAny_standAt (ZgI (K:=X.K) (C:=C) (fI:=fI) hz (I.ok.hd hc) (wpAny_bind (wpAny_mono (wpAny_Call_ofName (Zek I hg hm ?_ hd)) (fun v s₃ h₃=>wpAny_bind (wpAny_standAt (wpAny_pure h₃))) fun _ _ x=>x))));have hkp:keepIn X.K (.ref C)=true:=by
  simp only[ZaN,Ya6] at hz;exact hz.2.2.2.2.2.1
 refine Yd3 (h₀:=X.base) I.ok.mod.kin hkp (thn (ha cpos pins s σ H _ I h) fun us s1 ⟨vs,H1,I1,r,v,ev,hE⟩=>⟨I1.kIn,?_⟩) he rfl;subst ev;obtain⟨u,rfl,ru⟩:∃ u,us=[u]/\RelV v u:=by
  cases r with
  | cons r1 r2=>cases r2;exact⟨_,rfl,r1⟩
 have hz2:1<=sizeLine:=by decide
 refine Zif I1.kIn hz hz2 fun h' e hm2=>?_;obtain⟨tt,ge,_,_⟩:=hm2.there;have H1e:H1 e=none:=I1.hok.none_of hm2.new;have hok2:HOk X.prog X.w (upd H1 e (Zds e C)) h':=(I1.hok.kept hm2.keeps).track H1e ⟨⟨tt,ge⟩,⟨_,ge⟩,fun g1 g2 ⟨t1,z1⟩ kk=>⟨t1,kk _ z1⟩⟩;have I2:Inv X pins σ (upd H1 e (Zds e C)) { s1 with heap:=h' }:=I1.call' (ch:=[]) rfl ((Un.kept hm2.keeps).ext H1e hm2.new) hok2 I1.bare fun b z=>absurd z (by simp);refine wpAny_call (codeAny_mono (F.run _ X.stack _ (upd H1 e (Zds e C)) ⟨[.ref e,u],[]⟩ [.ref e,u] [.ref e,v] (fun rv Hn=>rv=.non/\∃ dx,upd H1 e (Zds e C) dx=none/\dx≠e/\Hn=upd (upd (upd H1 e (Zds e C)) dx (.xd [("at",v)])) e (ZdM e C dx)) E0
  (hr.make C [u] []) (I2.env0.make C [u] []) (hb _ [.ref e,u] I2.kIn rfl) (.cons rfl (.cons ru .nil)) ⟨e,v,rfl,Zab,fun dx a b=>⟨rfl,dx,a,b,rfl⟩⟩) fun rr s' hq'=>?_)
 cases rr with
 | error er=>exact YbH hq'
 | ok fl=>
  cases fl with
  | next=>exact YbH hq'
  | brk=>exact YbH hq'
  | cont=>exact YbH hq'
  | ret u'=>
   obtain⟨rv,Hn,os',bare',un,hok',rel,erv,dx,hd1,hd2,eHn⟩:=hq';subst erv eHn;obtain⟨⟨t3,ge3⟩,_⟩:=(show ObjOk X.prog X.w _ s'.heap e (ZdM e C dx) from hok' e _ Zab)
   have I3:=I2.call' (s':=s') (ch:=[]) os' un hok' bare' fun b z=>absurd z (by simp);have H1d:H1 dx=none:=by rw[upd_ne hd2] at hd1;exact hd1
   have heq:∀ b,b≠e->upd (upd (upd H1 e (Zds e C)) dx (.xd [("at",v)])) e (ZdM e C dx) b=upd H1 dx (.xd [("at",v)]) b:=fun b hb=>by
    rw[upd_ne hb];by_cases hd:b=dx
    ·rw[hd,Zab,Zab]
    ·rw[upd_ne hd,upd_ne hb,upd_ne hd]
   have H4e:upd H1 dx (.xd [("at",v)]) e=none:=by rw[upd_ne hd2.symm];exact H1e
   have nb:∀ b o,s1.heap.get? b=some o->b≠e:=fun b o q z=>by rw[z,hm2.new] at q;cases q
   have un4:Un (frs X.stack) [] H1 (upd H1 dx (.xd [("at",v)])) s1.heap s'.heap:={
    keep:=fun b o q n hb hx=>un.keep b o (hm2.keeps _ _ q) (by rw[upd_ne (nb b o q)];exact n) hb hx
    slot:=fun b o q n hb hx=>un.slot b o (hm2.keeps _ _ q) (by rw[upd_ne (nb b o q)];exact n) hb hx
    free:=fun b o q n hx=>by
     have z:=un.free b o (hm2.keeps _ _ q) (by rw[upd_ne (nb b o q)];exact n) hx;rw[heq b (nb b o q)] at z;exact z
    there:=fun b o q hx=>un.there b o (hm2.keeps _ _ q) hx
    tups:=fun b xs q=>by rw[upd_ne (Zaf q H1d)];exact q
    frzs:=fun b o xs q=>by rw[upd_ne (Zaf q H1d)];exact q
    tbls:=fun b ps q=>⟨#[],by rw[upd_ne (Zaf q H1d),q];simp⟩ }
   have hok4:HOk X.prog X.w (upd H1 dx (.xd [("at",v)])) s'.heap:=fun a o q=>by
    have hae:a≠e:=Zaf q H4e;refine (hok' a o (by rw[heq a hae];exact q)).stay (fun _ _ _ z=>z) (fun b z=>?_) fun b xs z=>?_
    ·by_cases hb:b=e
     ·subst hb;rw[Zab] at z;cases z
     ·rw[<- heq b hb];exact z
    ·by_cases hb:b=e
     ·subst hb;rw[Zab] at z;cases z
     ·rw[<- heq b hb];exact z
   have I4:Inv X pins σ (upd H1 dx (.xd [("at",v)])) s':=I1.call' (ch:=[]) os' un4 hok4 bare' fun b z=>absurd z (by simp);refine⟨rel,e,t3,some dx,rfl,I3.kIn,ge3,?_⟩;refine hT pins σ _ s' e _ _ _ I4 H4e ?_ ge3 rfl rfl rfl (hE dx H1d)
   cases q:X.s₀.heap.get? e with
   | none=>rfl
   | some o=>
    obtain⟨o',z⟩:=I1.base.there e o q (by rw[hex];intro y;cases y);rw[hm2.new] at z;cases z
def tAt (K:Frag) (ta:TE):TE:=fun σ H Q=>ta σ H fun x H1=>∃ (ea C fI dx:Addr) (fs:List (Str × V)) (v:V),x=.ref ea/\H1 ea=some (Zcz ea C (some dx))/\ZaN K C fI=true/\H1 dx=some (.xd fs)/\fs.lookup ("at":Str)=some v/\Q v H1
theorem Zmu (K:Frag) {e:Expr} (he:PE X e ta) (hb:attributeBase e "at" X.env (eval e X.env)=eval e X.env) (hK:X.K=K:=by rfl):PE X (.Attribute e "at" pos) (tAt K ta):=by
 subst hK;intro pins s σ H Q I h;refine Zk3 hb (thn (he pins s σ H _ I h) fun u s1 ⟨x,H1,I1,rx,ea,C,fI,dx,fs,v,ex,h1,hz,h2,l,q⟩=>?_);subst ex;obtain rfl:u=YbC ea:=rx;obtain⟨oe,e1,e2,e3,ws,e4⟩:=Zjw I1.hok h1;obtain⟨mA,n1,rl⟩:=(show ObjOk X.prog X.w H1 s1.heap dx (.xd fs) from I1.hok _ _ h2)
 obtain⟨od,ho,hl⟩:=ZeU n1;have J:InstAt s1.heap ea oe C (some od):=⟨e1,e2,by unfold notCls;rw[e4],by rw[e3];exact ho⟩
 obtain⟨u,hu,ru⟩:=RelO.some_of (v:=v) (o:=mA "at") (by rw[<- l];exact rl "at");have hz0:=hz;simp only[ZaN,Ya6,beq_iff_eq] at hz;obtain⟨z1,z2,z3,z4,z5,z6,hfind⟩:=hz;obtain⟨bm,N,nm,qn,bs,sn,sub,ab,col,dd,k0,k1,k2,k3,k5,cd,hC,T,hcd,hdi,hmro⟩:=ZcT I1.kIn z1;have hh:hasDictIn X.K C=true:=by unfold hasDictIn;rw[hcd];exact hdi
 exact ZkP I1.kIn z2 J (findObj_own hh z4 rfl (by rw[hl,hu])) (Zh9 ru) ⟨v,H1,I1.tok _,ru,q⟩
end
end L2
namespace Lv
open PySem L2 PySem.W
structure ExcTabI (K:Frag) (reel C fI:Addr) (all:List Addr):Prop where
 ok:ZaN K C fI=true
 exm:exmOne K (.ref C) (.ref reel)=some true
 exmS:exmOne K (.ref C) (.ref C)=some true
 isR:kitOne K (.ref C) (.ref reel)=some true
 isV:kitOne K (.ref C) (.type "ValueError")=some true
 one:∀ D∈all,kitOne K (.ref C) (.ref D)=some (D == C)
def ZmD (s:Stmt) (i:Nat):Stmt:=match s with
 | .ClassDef _ _ _ b _ _ _ _ _ _ _=>b.getD i (.Pass ⟨0,0,0,0⟩)
 | s=>s
end Lv
namespace Lv
open PySem L2
def PhOk (c:List Int) (out m:Int):Prop:=(0<=out/\out<(c.length:Int))/\(c.getD out.toNat 0<=0/\(1<=m/\m<=mxl c))
instance (c:List Int) (out m:Int):Decidable (PhOk c out m):=by unfold PhOk;infer_instance
end Lv
namespace Lv
open PySem L2
def prT (p:Int × Int):List Int:=[p.1,p.2]
def wk:List Int->List (Int × Int)->Nat->Except Nat (List Int)
 | c,[],_=>.ok c
 | c,(o,m)::r,i=>if PhOk c o m then wk (Zk0 c o.toNat m) r (i+1) else .error i
def fin (c:List Int) (ps:List (Int × Int)):Except Nat (List Int):=match wk c ps 0 with
 | .ok d=>if 1<d.sum then .error ps.length else .ok d
 | .error i=>.error i
structure Way (c0:List Int) (ps:List (Int × Int)) (i:Nat) (c:List Int):Prop where
 wk:wk c0 ps 0=wk c (ps.drop i) i
 len:c.length=c0.length
 nn:∀ x∈c,0<=x
structure Cts (p:Nat) (c:List Int):Prop where
 len:c.length=p+1
 nn:∀ x∈c,0<=x
 le:∀ x∈c,x<=big
 pos:∃ x∈c,1<=x
end Lv
namespace Lv
open PySem L2
end Lv
namespace Lv
open PySem L2
def srt (xs:List Int):List Int:=xs.mergeSort fun a b=>decide (a<=b)
theorem ZbL (xs:List Int):(srt xs).Perm xs:=List.mergeSort_perm _ _
theorem Zf1 (xs:List Int):(srt xs).Pairwise (·<=·):=by
 have h:=List.pairwise_mergeSort (le:=fun a b:Int=>decide (a<=b)) (fun a b c h1 h2=>by simp at *;omega) (fun a b=>by simp;omega) xs;exact h.imp fun h=>by simpa using h
theorem ZdA {ms xs:List Int} (h:ms.Perm xs) (hs:ms.Pairwise (·<=·)):ms=srt xs:=Zlm (h.trans (ZbL xs).symm) hs (Zf1 xs)
theorem Zd4 {n:Nat} (h:n<=15001):n<sizeLine:=by rw[sizeLine_eq];omega
def ZcN:Sp:=fun vs H Q _=>∃ (a:Addr) (rs:List Addr) (N:List (List Int)),vs=[.ref a]/\RwS H a rs N/\(lenN N).sum<=15000/\∀ l (ms:List Int) H',H l=none->H' l=some (.lst (ms.map V.int))->ms.Perm N.flatten->ms.Pairwise (·<=·)->Same H H'->Q (.ref l) H'
end Lv
namespace Lv
open PySem L2
def fstN (N:List (List Int)):List Int:=(N.headD []).map (·+1)
def Zmv (N:List (List Int)):List (List Int):=(N.tail.map (fstN N++·))++[fstN N]
def num0 (p:Nat):List (List Int):=[0]::Yak (p - 1) []
def num (p:Nat):Nat->List (List Int)
 | 0=>num0 p
 | n+1=>Zmv (num p n)
def lens (N:List (List Int)):List Int:=N.map fun l=>(l.length:Int)
theorem ZlR {c:List Int} (h:∀ x∈c,0<=x) {x:Int} (hx:x∈c):x<=c.sum:=by
 induction c with
 | nil=>cases hx
 | cons a r ih=>
  have nn:∀ l:List Int,(∀ x∈l,0<=x)->0<=l.sum:=by
   intro l
   induction l with
   | nil=>intro _;simp
   | cons x y ih=>
    intro h;rw[YaJ];have:=h x (by simp);have:=ih fun z hz=>h z (by simp[hz])
    (clear ih;omega)
  rw[YaJ];have ha:=h a (by simp);have hr:∀ x∈r,0<=x:=fun x hx=>h x (by simp[hx]);rcases Yal.mp hx with rfl | hx
  ·have:=nn r hr
   (clear ha ih;omega)
  ·have:=ih hr hx
   (clear ih;omega)
theorem Zby {n:Nat} (h:n<=8000):n<sizeLine:=YeA h (by decide)
def Zd1:Sp:=fun vs H Q _=>∃ p n:Nat,vs=[.int p,.int n]/\2<=p/\p<=7/\n<=300/\tot p n<=4000/\∀ H',Same H H'->Q .non H'
theorem Zaq {rs:List Addr}{i:Nat}{x:V} (h:(rs.map V.ref)[i]?=some x):∃ r,rs[i]?=some r/\x=.ref r:=by
 rw[Yaf] at h
 cases e:rs[i]? with
 | none=>rw[e] at h;cases h
 | some p=>rw[e] at h;exact⟨p,rfl,(Yau h).symm⟩
def Zkf:Sp:=fun vs H Q _=>∃ i,vs=[.int i]/\i<=4000/\Q .non H
end Lv
namespace L2
open PySem PySem.Spec PyProof.Rows
def Zgd:Expr->Bool
 | .Starred ..=>false
 | _=>true
theorem Zgz {e:Expr}{es:List Expr}{env:Env} (h:Zgd e=true):starEach (e::es) env=(false,eval e env)::starEach es env:=by
 cases e <;> first | rfl | (cases h)
structure WA (X:Cx) (es:List Expr) (t:TA):Prop where
 out:PA X es t
structure WS (X:Cx) (st:Stmt) (t:TS):Prop where
 out:PS X st t
structure WSs (X:Cx) (sts:List Stmt) (t:TS):Prop where
 out:PSs X sts t
section
variable {X:Cx}{st:Stmt}{rest a b:List Stmt}{t u:TS}{c e:Expr}{tc:TT}{pos:Pos}{es:List Expr}{te:TE}{ta:TA}
theorem Zae (h1:WS X st t) (h2:WSs X rest u):WSs X (st::rest) (tSeq t u):=⟨Zar h1.out h2.out⟩
theorem Zas (h:WS X st t):WSs X [st] t:=⟨Zax h.out⟩
theorem Zbe:WSs X [] Zlh:=⟨Zcu⟩
theorem wss {sts:List Stmt} (h:PSs X sts t):WSs X sts t:=⟨h⟩
theorem ZcU (hc:PT X c tc) (ha:WSs X a t) (hb:WSs X b u):WS X (.If c a b pos) (tIfS tc t u):=⟨ZgJ hc ha.out hb.out⟩
theorem ws (h:PS X st t):WS X st t:=⟨h⟩
theorem Zk9:WA X [] tNil:=⟨Zad⟩
theorem ZdU (hn:Zgd e=true) (ha:PE X e te) (hr:WA X es ta):WA X (e::es) (Zlj te ta):=⟨Zaa ha hr.out (Zgz hn)⟩
end
section
variable {P:Program}{w:World}{K:Yad}{mg:Str->Option Value}{base:Heap}
theorem okW {x qual:Str}{st:Stmt}{f:Addr}{fd:FuncData}{N ps:List Str}{k:Nat}{sp:Sp} (F:Fun K x qual st f fd) (S:FnScope N ps (Zac st)) (len:∀ vs H Q E,sp vs H Q E->vs.length=ps.length)
  (hbody:∀ (cdv:Value) (A:Around) (outer:List Env) (s:Shared) (H:Hp) (vs:List V) (Q:VK) (E:XK),Room k (A.deeper (envOfC qual (Zac st) s.heap.objs.size f cdv))->sp vs H Q E ->
   ∃ t,WSs (cxOf CX0 P w K mg base N qual (Zac st) f cdv A outer s H E).nox (Zaj st) t/\t { nx:=fun _ H'=>Q .non H',rt:=Q } (ZcH N vs) H):FnOk P w K mg base CX0 (k+1) f fd ps sp :=
 F.ok S len fun cdv A outer s H vs Q E hr hsp=>by
  obtain⟨t,h,q⟩:=hbody cdv A outer s H vs Q E hr hsp;exact⟨t,h.out,q⟩
theorem okWE {x qual:Str}{st:Stmt}{f:Addr}{fd:FuncData}{N ps:List Str}{k:Nat}{sp:Sp} (F:Fun K x qual st f fd) (S:FnScope N ps (Zac st)) (len:∀ vs H Q E,sp vs H Q E->vs.length=ps.length)
  (hbody:∀ (cdv:Value) (A:Around) (outer:List Env) (s:Shared) (H:Hp) (vs:List V) (Q:VK) (E:XK),Room k (A.deeper (envOfC qual (Zac st) s.heap.objs.size f cdv))->sp vs H Q E ->
   ∃ t,WSs (cxOf (CX1 P w) P w K mg base N qual (Zac st) f cdv A outer s H E) (Zaj st) t/\t { nx:=fun _ H'=>Q .non H',rt:=Q } (ZcH N vs) H):FnOk P w K mg base (CX1 P w) (k+1) f fd ps sp :=
 F.okE S len fun cdv A outer s H vs Q E hr hsp=>by
  obtain⟨t,h,q⟩:=hbody cdv A outer s H vs Q E hr hsp;exact⟨t,h.out,q⟩
end
end L2
namespace L2
open PySem PySem.Spec PyProof.Rows PySem.SeqAt
section
variable {X:Cx}{pins:List (Addr × Obj)}{σ:St}{H:Hp}{s:Shared}{a:Addr}{u v:HO}{kvs:List (Key × V)}
end
section
variable {X:Cx}
end
section
variable {X:Cx}
end
section
variable {prog:Program}{w:World}{A:Around}{R:Result->Shared->Prop}{s:Shared}
end
section
variable {X:Cx}{pins:List (Addr × Obj)}{σ:St}{H H':Hp}{s s':Shared}{scope:Scope}{own:List Str}{js:List Nat}{C:Addr}{fp:List Addr}
end
section
variable {X:Cx}{scope:Scope}{own:List Str}{js:List Nat}{kx vx iter target:Expr}{ifs:List Expr}{wi:TI}{g:TG}{tt:TT}{tk tv:TE}{pos:Pos}
end
end L2
namespace L2
open PySem PySem.Spec PyProof.Rows PySem.SeqAt
section
variable {prog:Program}{w:World}{A:Around}{E:Value->Shared->Prop}{s:Shared}{O:KO}
end
section
variable {X:Cx}{pins:List (Addr × Obj)}{σ:St}{H:Hp}{s:Shared}{h':Heap}
end
abbrev dI (ps:List (Int × Int)):HO:=.dK (ps.map fun q=>(Ydm q.1,V.int q.2))
section
variable {X:Cx}
end
end L2
namespace L2
open PySem PySem.Spec PyProof.Rows
structure WE (X:Cx) (e:Expr) (t:TE):Prop where
 out:PE X e t
section
variable {X:Cx}{a b e k v:Expr}{ta tb te tk tv:TE}{pos:Pos}{es:List Expr}{t:TA}
theorem Zk8 (h:WA X es t):WE X (.List es pos) (tLst t):=⟨ZaF h.out⟩
end
end L2
namespace Lv
open PySem L2
end Lv
namespace L2
open PySem PySem.Spec PyProof.Rows
section
variable {X:Cx}
end
end L2
namespace Lv
open PySem L2
def rl (p n i:Nat):List Int:=(num p n).getD i []
end Lv
namespace Lv
open PySem L2
end Lv
namespace Lv
open PySem L2
section
variable {α:Type}
structure Adds (g:List α->Int):Prop where
 nil:g []=0
 app:∀ a b,g (a++b)=g a+g b
def dt (g:List α->Int):List (List α)->List Int->Int
 | r::rs,n::ns=>n*g r+dt g rs ns
 | _,_=>0
def sg (g:List α->Int) (rs:List (List α)):Int:=(rs.map g).sum
def es:List Int->(Nat->Int)->Int
 | [],_=>0
 | n::ns,h=>(n+1)*h 0+es ns fun j=>h (j+1)
end
def rot {β:Type} (a:Nat) (l:List β):List β:=l.drop a++l.take a
theorem Zd6 {β:Type} (a:Nat) (l:List β):(rot a l).length=l.length:=by
 simp[rot];omega
theorem Zkn {β γ:Type} (f:β->γ) (a:Nat) (l:List β):(rot a l).map f=rot a (l.map f):=by simp[rot,List.map_drop,List.map_take]
theorem Zhr {β:Type}{a:Nat}{l:List β}{x:β}:x∈rot a l↔x∈l:=by
 unfold rot;rw[Yar];constructor
 ·rintro (h | h)
  ·exact YbT h
  ·exact Ya4 h
 ·intro h;rw[<- YaQ a l] at h;rcases Yar.mp h with h | h
  ·exact .inr h
  ·exact .inl h
theorem Zkm {β:Type}{p a:Nat}{l:List β}{v:β} (hl:l.length=p+1) (ha:a<=p):(rot a l).set (p - a) v=rot a (l.set p v):=by
 unfold rot;have h:(l.take a).set p v=l.take a:=List.set_eq_of_length_le (by rw[YaL];(clear hl;omega));rw[List.set_append_left _ _ (by rw[YaU];omega),List.drop_set,List.take_set,if_neg (by (clear hl;omega)),h]
theorem Zhs {β:Type}{a b:Nat}{l:List β} (h:a+b<=l.length):rot a (rot b l)=rot (a+b) l:=by
 unfold rot;rw[List.drop_append_of_le_length (by rw[YaU];omega),List.take_append_of_le_length (by rw[YaU];omega),List.drop_drop,YaK];congr 1
 ·congr 1
  (clear h;omega)
 ·rw[show l.take (a+b)=l.take b++(l.drop b).take a by rw[Nat.add_comm,List.take_add]]
theorem Zkp {β:Type}{l:List β}:rot l.length l=rot 0 l:=by simp[rot]
theorem Zko {β:Type}{p a:Nat}{l:List β} (hl:l.length=p+1) (ha:a<=p):(rot a l)[p - a]?=l[p]?:=by
 unfold rot;rw[Yas (by rw[YaU];omega),YbF,show a+(p - a)=p by (clear hl;omega)]
theorem Zhq {β:Type}{p a i:Nat}{l:List β}{v:β} (ha:a<=p) (hl:l.length=p) {x:β} (h:(rot a (l++[v]))[i]?=some x) (hi:i≠p - a):x∈l:=by
 have hll:(l++[v]).length=p+1:=by simp[hl]
 unfold rot at h;by_cases z:i<((l++[v]).drop a).length
 ·rw[Yas z,YbF] at h;rw[YaU,hll] at z;rw[Yas (by (clear hll ha;omega))] at h;exact Yah h
 ·rw[Yax (by (clear hll hi hl ha;omega))] at h;have h2:=(Yab.mp h).1
  rw[YaL,YaU,hll] at h2;rw[Ya9 (by rw[YaU,hll];(clear z hll hi hl ha;omega))] at h;rw[Yas (by rw[YaU,hll];(clear z hll hi;omega))] at h;exact Yah h
end Lv
namespace Lv
open PySem L2
section
variable {S:List Addr}{H H':Hp}{a w:Addr}
end
end Lv
namespace Lv
open PySem L2
section
variable {α:Type}
def ones (RR:List (List (List α))):List (List Int):=RR.map fun R=>R.map fun _=>1
def tl (g:List α->Int) (RR:List (List (List α))):Int:=(RR.map fun R=>sg g R).sum
end
end Lv
namespace L2
open PySem PySem.Spec PyProof.Rows PySem.SeqAt
theorem ZdI {α:Type}:∀ ys:List α,(Yan ys.length).filterMap (ys[·]?)=ys
 | []=>rfl
 | y::ys=>by
  rw[Ya3,Yd2,YaH];show y::(List.map Nat.succ (Yan ys.length)).filterMap ((y::ys)[·]?)=_;rw[Yb4];exact congrArg (y::·) (ZdI ys)
theorem Zgi {α β:Type}{f g:α->Option β}:∀ {l:List α},(∀ x∈l,f x=g x)->l.filterMap f=l.filterMap g
 | [],_=>rfl
 | x::l,h=>by rw[YaH,YaH,h x (by simp),Zgi fun y hy=>h y (by simp[hy])]
theorem Zdr (its:List Value):slicePick its.toArray none none (some (-1))=its.reverse.toArray:=by
 unfold slicePick;have e1:sliceBounds none none (some (-1)) its.toArray.size=((its.length:Int) - 1,-1,-1):=by
  simp[sliceBounds]
 rw[e1];have e2:sliceRange ((its.length:Int) - 1) (-1) (-1)=(Yan its.length).map fun k=>its.length - 1 - k:=by
  unfold sliceRange;have:(if (its.length:Int) - 1 > -1 then ((its.length:Int) - 1 - (-1) - (-1) - 1) / (-(-1)) else 0).toNat=its.length:=by
   by_cases h:(its.length:Int) - 1 > -1
   ·rw[if_pos h,show (-(-1):Int)=1 by decide,Int.ediv_one]
    (clear h;omega)
   ·rw[if_neg h];omega
  dsimp only;rw[if_neg (by decide),this];apply Ybe;intro k hk;have:=Ybf.mp hk
  (clear this;omega)
 show (List.filterMap _ (sliceRange ((its.length:Int) - 1) (-1) (-1))).toArray=_;rw[e2,Yb4];congr 1;have e3:=ZdI its.reverse;rw[Ybb] at e3;rw[<- e3];apply Zgi;intro k hk;have:=Ybf.mp hk;show its.toArray[its.length - 1 - k]?=_;rw[List.getElem?_toArray,YbP this]
def Zmr (K:Yad):V->Hp->VK->Prop:=fun x H Q=>∃ a xs,x=.ref a/\SqL K H a xs/\∀ p,H p=none->Q (.ref p) (upd H p (.lst xs.reverse))
def Zlg (K:Yad) (te:TE) (ts:TO):TE:=fun σ H Q=>te σ H fun x H1=>ts σ H1 fun k H2=>k=some (-1)/\Zmr K x H2 Q
section
variable {X:Cx}{e st:Expr}{te:TE}{ts:TO}{pos p2:Pos}
theorem ZeQ (he:PE X e te) (hst:PO X (some st) ts):PE X (.Subscript e (.Slice none none (some st) p2) pos) (Zlg X.K te ts):=by
 intro pins s σ H Q I h;refine Subscript_ (thn (he pins s σ H _ I h) fun v s1 ⟨x,H1,I1,r1,q1⟩=>?_);refine wpAny_Slice ?_;rw[evalPart_none];refine wpAny_pure ?_;refine wpAny_pure ?_;refine thn (hst pins s1 σ H1 _ I1 q1) fun vu s3 ⟨u,H3,I3,pu,ek,q3⟩=>?_;subst ek;obtain⟨a,xs,rfl,hx,q⟩:=q3;cases r1;have I4:Inv X pins σ H3 { s3 with heap:=s3.heap.push { cls:=.type "slice",data:=.fields #[.none,.none,vu] } }:=I3.kept (t':=s3.toks) fun b ob q=>Yac _ q;obtain⟨its,r,ht,hz⟩:=I4.list hx;have hlen:=r.length;show wpAny (model X.prog X.w) X.A (subscriptTail e (.Slice none none (some st) p2) (.ref a) (.ref s3.heap.objs.size)) (EP X pins σ Q) X.xe { s3 with heap:=s3.heap.push { cls:=.type "slice",data:=.fields #[.none,.none,vu] } };refine tail_any (ops:=[.ref a,.ref s3.heap.objs.size]) ht.isList.typeIs slot_list_getitem.lookup ?_ (by with_unfolding_all rfl);refine wpAny_getItem_list_slice ht.isList (Ydw ..) .none .none pu (by simp) ?_ (by rw[Yaw] <;> omega);rw[Zdr];refine⟨.ref (s3.heap.push { cls:=.type "slice",data:=.fields #[.none,.none,vu] }).objs.size,_,I4.laid (t':=s3.toks) (o:=.lst xs.reverse) (fun b ob q=>Yac _ q) (Yap _) ?_,rfl,q _ (I4.hok.fresh (Yap _))⟩;exact⟨by rw[Ybb];(clear hlen;omega),_,0,Vals.reverse r,YaB _ rfl⟩
end
end L2
namespace Lv
open PySem L2
def pre:Int->List Int->List Int
 | _,[]=>[]
 | s,x::r=>(s+x)::pre (s+x) r
end Lv
namespace L2
open PySem PySem.Spec PyProof.Rows PySem.SeqAt
section
variable {X:Cx}
end
end L2
namespace Lv
open PySem L2
def up1 (A:List Int):List Int:=A.map (·+1)
def Zcx (N:List (List Int)):List Int:=N.map fun xs=>(xs.length:Int)
def Zmo (r:List (List Int)) (t:Nat):List Int:=r.getD t []
def S (q:Int) (g:Nat->List Int) (a:List Int):Int:=((Yan a.length).map fun t=>((g t).count q:Int)*a.getD t 0).sum
def pot (q:Int):List (List (List Int))->List (List Int)->Int
 | r::R,a::N=>S q (Zmo r) a+pot q R N
 | _,_=>0
end Lv
namespace Lv
open PySem L2
end Lv
namespace Lv
open PySem L2
end Lv
namespace Lv
open PySem L2
theorem LLs.get {H:Hp}{as:List Addr}{Rw:List (List Int)}{x:Addr} (h:LLs H as Rw) (hx:x∈as):∃ xs:List Int,H x=some (.lst (xs.map V.int)):=by
 obtain⟨i,hi,rfl⟩:=Yem hx;have:=h.1;exact⟨Rw[i]'(by omega),h.2 i _ _ (Yae hi) (Yae (by omega))⟩
end Lv
namespace L2
open PySem PySem.Spec PyProof.Rows PySem.SeqAt
section
variable {X:Cx}{scope:Scope}{own:List Str}{js fr:List Nat}{elt i1 t1 i2 t2:Expr}{f1 f2:List Expr}{wi wi2:TI}{g1 g2:TG}{tt1 tt2:TT}{te:TE}{pos:Pos}
theorem Zf8 {i:Nat}{y:Str}{py spos:Pos} (hN:X.N.Nodup) (hy:X.N[i]?=some y) (hyl:X.env.scope.names.lookup y=some .local) (c:CompOk X scope own js) (hc:X.calm=true) (hi:PI X t1 i1 wi) (hgk:Zgv own fr g1) (hgt:Zff fr g2)
  (hg:∀ s H C fp pins,PG (X.blk scope own js s H C fp pins) t1 g1) (ht:∀ s H C fp pins,PTs (X.blk scope own js s H C fp pins) f1 tt1) (hi2:∀ s H C fp pins,PI (X.blk scope own js s H C fp pins) t2 i2 wi2)
  (hg2:∀ s H C fp pins,PG (X.blk scope own js s H C fp pins) t2 g2) (ht2:∀ s H C fp pins,PTs (X.blk scope own js s H C fp pins) f2 tt2) (he:∀ s H C fp pins,PE (X.blk scope own js s H C fp pins) elt te)
  (hsw:swapsWith (two elt t1 i1 f1 t2 i2 f2 scope pos) (some (.Name y py)) spos.line X.env=pure true:=by rfl)
  (hs:∀ x,foldedSetIterable i1 X.env x=pure x:=by intro _;rfl) (hs2:∀ env x,foldedSetIterable i2 env x=pure x:=by intro _ _;rfl):PS X (.Assign [.Name y py] (two elt t1 i1 f1 t2 i2 f2 scope pos) spos) (tAsg (ZjL own js wi g1 tt1 wi2 g2 tt2 te) (Zdd i)):=by
 intro pins s σ H D I h;rw[exec_Assign_Name_used _ _ _ _ hsw];refine wpAny_bind (wpAny_standAt (wpAny_bind ?_));show wpAny _ X.A (do let _ <- comprehension (two elt t1 i1 f1 t2 i2 f2 scope pos) scope X.env _ (newList []) false (eval i1 X.env) (some (assign (.Name y py) X.env))) _ _ s;refine wpAny_bind (wpAny_mono (wpAny_comprehension_free (use:=some (assign (.Name y py) X.env)) (Q:=fun _ s'=>SP X pins D .next s') rfl hs (Zbk (c.cl I)) c.kind c.names
  (thn (hi pins s σ H _ I h) fun v s1 h1=>thn h1 fun itv s2 h2=>?_)) (fun _ s' hq=>wpAny_pure (wpAny_pure hq)) fun _ _ e=>e)
 obtain⟨it,fp,tn,J,H2,e,I2,T,st2,f2',hw⟩:=h2;subst e;refine Zgt (Q:=fun x H1=>Zdd i x σ H1 D.nx) (RR:=fun acc C=>compPost (model X.prog X.w) X.A X.xe (some (assign (.Name y py) X.env)) (fun _ s'=>SP X pins D .next s') acc C) c hc hgk hgt hg ht hi2 hg2 ht2 he hs2 I2 T st2 f2' hw ?_;intro acc C H' s' m hCs hCn I' hn q;have hL:C≠X.env.locals:=Ybp (Yag I2.lt hCs);have hcell:∀ x a,X.env.cells.lookup x=some a->a≠C:=by
  intro x a e z;obtain⟨v,q⟩:=I2.cell x a e;exact absurd (Yag q.lt (by rw[z];exact hCs)) (Ya8 _)
 refine wpAny_assign_Name (ZcY I' hN hy (.inl hyl) (v:=.ref acc) rfl (fun s2 I'' hch=>?_) (.inr hyl));obtain⟨a,sb,ha⟩:=hch;have hCa:C≠a:=by
  rcases ha with rfl | ha
  ·exact hL
  ·exact YbA (hcell _ _ ha)
 refine⟨m,hn.sameBut sb hCa,fun h' hs'=>⟨_,H',I''.other hs' hCn hL (Ybk I2.sz hCs) hcell ?_,q⟩⟩;intro p hp z;exact absurd (Yag (Yaj (I2.pin p hp).1) (by rw[z];exact hCs)) (Ya8 _)
end
end L2
namespace L2
open PySem PySem.Spec PyProof.Rows PySem.SeqAt
section
variable {b:Bool}{K:Yad}{g2:TG}{tt2:TT}{te:TE}{τ:St}{H6:Hp}{a acc:Addr}{xs:List V}
end
end L2
namespace Lv
open PySem L2
def intW:V->Int
 | .int i=>i
 | _=>0
def kf (H:Hp) (p:Addr):List Int:=match H p with
 | some (.tup vs)=>vs.map intW
 | _=>[]
theorem ZlS {H:Hp}{p:Addr}{k:List Int} (h:H p=some (.tup (k.map V.int))):kf H p=k:=by
 unfold kf;rw[h];show (k.map V.int).map intW=k;rw[YaW];exact (Ybe fun _ _=>rfl).trans (List.map_id k)
def TuM (H:Hp) (ps:List Addr) (ks:List (List Int)):Prop:=(∀ p∈ps,∃ k:List Int,k≠[]/\H p=some (.tup (k.map V.int)))/\ps.map (kf H)=ks
theorem TuM.nil {H:Hp}:TuM H [] []:=⟨fun p hp=>(nomatch hp),rfl⟩
theorem TuM.keep {H H':Hp}{ps:List Addr}{ks:List (List Int)} (h:TuM H ps ks) (k:∀ p∈ps,H' p=H p):TuM H' ps ks:=by
 refine⟨fun p hp=>by rw[k p hp];exact h.1 p hp,?_⟩;rw[<- h.2];refine Ybe fun p hp=>?_;unfold kf;rw[k p hp]
theorem TuM.same {H H':Hp}{ps:List Addr}{ks:List (List Int)} (h:TuM H ps ks) (s:Same H H'):TuM H' ps ks:=h.keep fun p hp=>by
 obtain⟨k,_,e⟩:=h.1 p hp;rw[e,s _ _ e]
theorem TuM.snoc {H:Hp}{ps:List Addr}{ks:List (List Int)}{p:Addr}{k:List Int} (h:TuM H ps ks) (e:H p=some (.tup (k.map V.int))) (hk:k≠[]):TuM H (ps++[p]) (ks++[k]):=by
 refine⟨fun q hq=>?_,by rw[YaP,h.2,Yav,Yc4,ZlS e]⟩;rcases Yar.mp hq with hq | hq
 ·exact h.1 q hq
 ·rw[YaI.mp hq];exact⟨k,hk,e⟩
theorem TuM.at {H:Hp}{ps:List Addr}{ks:List (List Int)} (h:TuM H ps ks) {j:Nat}{p:Addr} (e:ps[j]?=some p):∃ k,ks[j]?=some k/\H p=some (.tup (k.map V.int)):=by
 obtain⟨k,_,e2⟩:=h.1 p (Yah e);exact⟨k,by rw[<- h.2,Yaf,e,Option.map_some,ZlS e2],e2⟩
theorem TuM.len {H:Hp}{ps:List Addr}{ks:List (List Int)} (h:TuM H ps ks):ps.length=ks.length:=by rw[<- h.2,Yaa]
end Lv
namespace L2
open PySem PySem.Spec PyProof.Rows PySem.SeqAt
end L2
namespace Lv
open PySem L2
end Lv
namespace Lv
open PySem L2
def phO (p t:Nat):Int:=((p:Int) - t) % ((p:Int)+1)
def phs (p n:Nat):Nat->List (List Int)
 | 0=>[]
 | t+1=>phs p n t++[[phO p t,hd p (n - 1 - t)]]
theorem ZhD (p n:Nat):∀ t,(phs p n t).length=t
 | 0=>rfl
 | t+1=>by rw[phs,Yai,ZhD p n t];rfl
end Lv
namespace Lv
open PySem L2
def mxAt:List Int->Nat
 | []=>0
 | x::r=>if r.all (·<=x) then 0 else mxAt r+1
structure IsTop (d:List Int) (r:Nat):Prop where
 lt:r<d.length
 ge:∀ j (h:j<d.length),d[j]<=d[r]
 fst:∀ j (h:j<r),d[j]<d[r]
def ZmB (c v:List Int):List Int:=Ycx (· - ·) c v
def came (p:Nat):Nat->Nat × List Int
 | 0=>(0,Yak p 0)
 | n+1=>
  let L:=if (came p n).2=cnt p (came p n).1 then (came p n).1+1 else (came p n).1
  let r:=mxAt (ZmB (cnt p L) (came p n).2)
  (L,(came p n).2.set r ((came p n).2.getD r 0+1))
end Lv
namespace Lv
open PySem L2
end Lv
namespace Lv
open PySem L2
end Lv
namespace Lv
open PySem L2
def fill (x y:Int):List Bool:=Yak x.toNat false++Yak y.toNat true
def layB (c v:List Int):List (List Bool):=Ycx (fun x y=>fill (x - y) y) c v
def lay (p n:Nat):List (List Bool):=layB (cnt p (came p n).1) (came p n).2
end Lv
namespace L2
open PySem PySem.Spec PyProof.Rows
end L2
namespace Lv
open PySem L2
end Lv
namespace Lv
open PySem L2
def gl (r:List Int):Int:=(r.length:Nat)
def phL (p:Nat):Nat->Nat->List (Int × Int)
 | _,0=>[]
 | t,m+1=>(phO p t,hd p m)::phL p (t+1) m
theorem ZhC (p n:Nat):∀ (m t:Nat),t+m=n->phs p n t++(phL p t m).map prT=phs p n n
 | 0,t,h=>by
  have:t=n:=by omega
  rw[phL,Yc4,Ybj,this]
 | m+1,t,h=>by
  rw[<- ZhC p n m (t+1) (by omega),phL,phs,Yav,YaK,Yd4,show n - 1 - t=m by omega];rfl
theorem Zec (p n:Nat):phs p n n=(phL p 0 n).map prT:=by
 rw[<- ZhC p n n 0 (by omega)];rfl
theorem ZhE (p t:Nat):phO p t=((p - t % (p+1):Nat):Int):=by
 unfold phO;have h1:=Ydp t (show 0<p+1 by omega);have h2:=Nat.mod_add_div t (p+1);have e:(p:Int) - t=((p - t % (p+1):Nat):Int)+((p:Int)+1)*(-((t / (p+1):Nat):Int)):=by
  have:((p:Int)+1)*(-((t / (p+1):Nat):Int)) = -(((p+1)*(t / (p+1)):Nat):Int):=by
   rw[Int.mul_neg];congr 1
  rw[this]
  (clear this;omega)
 rw[e,Int.add_mul_emod_self_left];exact Int.emod_eq_of_lt (by (clear e h2 h1;omega)) (by (clear e h2 h1;omega))
theorem Zf0 (p t:Nat):(t+1) % (p+1)=if t % (p+1)=p then 0 else t % (p+1)+1:=by
 have h1:=Ydp t (show 0<p+1 by omega);rw[Nat.add_mod];split
 ·next h=>
  rw[h];by_cases z:p=0
  ·subst z;rfl
  ·rw[Ydu (show 1<p+1 by (clear h h1;omega)),Nat.mod_self]
 ·next h=>
  rw[Ydu (show 1<p+1 by omega),Ydu (by omega)]
end Lv
namespace L2
open PySem PySem.Spec PyProof.Rows PySem.SeqAt
section
variable {prog:Program}{w:World}{A:Around}{E:Value->Shared->Prop}{s:Shared}
end
section
variable {X:Cx}{tg:Expr}
end
end L2
namespace L2
open PySem PySem.Spec PyProof.Rows
section
variable {X:Cx}{tg:Expr}
end
end L2
namespace Lv
open PySem L2
inductive Chain (p:Nat):Int->List Int->List (List Int)->Prop
 | one (m x:Int):Chain p m [x] []
 | step (m:Int) (th T rest:List Int) (L:List (List Int)) (h1:th.Perm (T++rest)) (h2:T≠[]) (h3:T.length<=p) (h:Chain p (m+1) (rest++[m]) L):Chain p m th (T::L)
def pw (p D:Nat) (f:Int->Nat) (xs:List Int):Nat:=(xs.map fun x=>p ^ (D - f x)).sum
inductive Built (p r:Nat):List (List Int)->List Int->Prop
 | nil:Built p r [] ((Yan r).map fun (i:Nat)=>(i:Int))
 | snoc (L:List (List Int)) (th T rest:List Int) (h:Built p r L th) (h1:th.Perm (T++rest)) (h2:T≠[]) (h3:T.length<=p):Built p r (L++[T]) (rest++[((r+L.length:Nat):Int)])
end Lv
namespace L2
open PySem PySem.Spec PyProof.Rows PySem.SeqAt
section
variable {X:Cx}
end
end L2
namespace L2
open PySem PySem.Spec PyProof.Rows PySem.SeqAt
end L2
namespace L2
open PySem PySem.Spec PyProof.Rows PySem.SeqAt
end L2
namespace Lv
open PySem L2
theorem Same.sqB {b:Bool}{K:Yad}{H H':Hp}{a:Addr}{xs:List V} (e:Same H H') (h:SqB b K H a xs):SqB b K H' a xs:=by
 cases b with
 | true=>exact e.seq h
 | false=>exact e.tup h
theorem Zbi {b:Bool}{K:Yad}{own:List Str}{js:List Nat}{g:TG}{te:TE}{σ:L2.St}{H1:Hp}{Q:VK}{a:Addr}{xs:List V} (ys:List V) (hq:SqB b K H1 a xs) (hl:xs.length=ys.length) (hlen:xs.length<=20000)
  (hs:∀ (i:Nat) x y,xs[i]?=some x->ys[i]?=some y->∀ H,Same H1 H->∀ R:VK,(∀ H',Same H H'->R y H')->g x (blkσ own js σ) H fun τ H4=>te τ H4 R)
  (hd:∀ acc H,H1 acc=none->Same H1 H->H acc=some (.lst ys)->Q (.ref acc) H):ZaR own js g ZbZ te σ (ItlB b K a) H1 Q:=by
 refine Zdj (b:=b) (K:=K) (a:=a) (xs:=xs) (fun acc i H=>Same H1 H/\H acc=some (.lst (ys.take i))) (fun acc h0=>⟨Same.new h0,Zab⟩) (fun acc i H h0 _ z=>?_) ?_ ?_
 ·exact Same.sqB z.1 hq
 ·rintro acc i x H h0 hx ⟨s1,hacc⟩;have hi:=(Yab.mp hx).1
  have hy:=Yae (l:=ys) (i:=i) (by (clear hlen;omega));refine (cast ?_ (hs i x _ hx hy H s1 (fun y H6=>∃ zs,H6 acc=some (.lst zs)/\zs.length<sizeLine/\(i+1<=xs.length/\(Same H1 (upd H6 acc (.lst (zs++[y])))/\upd H6 acc (.lst (zs++[y])) acc=some (.lst (ys.take (i+1)))))) fun H' s'=>?_))
  ·unfold ZbZ;simp only[if_true]
  ·refine⟨_,s' _ _ hacc,?_,hi,(s1.trans s').put h0,?_⟩
   ·rw[sizeLine_eq,YaL];omega
   ·rw[Zab,Yba,hy];simp
 ·rintro acc H h0 ⟨s1,hacc⟩;rw[hl,YaR] at hacc;exact hd acc H h0 s1 hacc
end Lv
namespace L2
open PySem PySem.Spec PyProof.Rows PySem.SeqAt
section
variable {X:Cx}{tg:Expr}
end
end L2
namespace L2
open PySem PySem.Spec PyProof.Rows
section
variable {own:List Str}{js:List Nat}{g:TG}{tt:TT}{te:TE}{σ:L2.St}{H1:Hp}{Q:VK}
theorem Ze6 {b1 b2:Bool}{K:Yad}{a b:Addr}{xs ys:List V} (zs:List V) (hq1:SqB b1 K H1 a xs) (hq2:SqB b2 K H1 b ys) (hl:ys.length<=xs.length) (hz:zs.length=ys.length) (hlen:ys.length<=20000)
  (hs:∀ (i:Nat) x y z,xs[i]?=some x->ys[i]?=some y->zs[i]?=some z->∀ p H,Same H1 H->H p=some (.tup [x,y])->∀ R:VK,(∀ H',Same H H'->R z H')->g (.ref p) (blkσ own js σ) H fun τ H4=>te τ H4 R)
  (hd:∀ acc H,H1 acc=none->Same H1 H->H acc=some (.lst zs)->Q (.ref acc) H):ZaR own js g ZbZ te σ (ItzB b1 b2 K a b) H1 Q:=by
 refine Ziq (xs:=xs) (ys:=ys) hl (fun acc i H=>Same H1 H/\H acc=some (.lst (zs.take i))) (fun acc h0=>⟨Same.new h0,Zab⟩) (fun acc i H h0 _ z=>⟨Lv.Same.sqB z.1 hq1,Lv.Same.sqB z.1 hq2⟩) ?_ ?_
 ·rintro acc i x y p H h0 hx hy ⟨s1,hacc⟩ hp;have hi:=(Yab.mp hy).1
  have hy':=Yae (l:=zs) (i:=i) (by (clear hlen hl;omega));have s2:Same H (upd H p (.tup [x,y])):=Same.new hp;refine (cast ?_ (hs i x y _ hx hy hy' p _ (s1.trans s2) Zab (fun y H6=>∃ zs',H6 acc=some (.lst zs')/\zs'.length<sizeLine/\(i+1<=ys.length/\(Same H1 (upd H6 acc (.lst (zs'++[y])))/\upd H6 acc (.lst (zs'++[y])) acc=some (.lst (zs.take (i+1)))))) fun H' s'=>?_))
  ·unfold ZbZ;simp only[if_true]
  ·refine⟨_,s' _ _ (s2 _ _ hacc),?_,hi,((s1.trans s2).trans s').put h0,?_⟩
   ·rw[sizeLine_eq,YaL]
    (clear hl;omega)
   ·rw[Zab,Yba,hy'];simp
 ·rintro acc H h0 ⟨s1,hacc⟩;rw[<- hz,YaR] at hacc;exact hd acc H h0 s1 hacc
theorem Zdt {f:Nat->Option V} (i:Nat):(Yan (i+1)).filterMap f=(Yan i).filterMap f++(f i).toList:=by
 rw[YcG,Yd9];cases e:f i <;> simp[e]
theorem Ze2 (f:Nat->Option V) (i:Nat):((Yan i).filterMap f).length<=i:=by
 have:=YbE f (Yan i)
 rwa [YbI] at this
theorem ZbF {b:Bool}{K:Yad}{a:Addr}{xs:List V} (f:Nat->Option V) (hq:SqB b K H1 a xs) (hlen:xs.length<=20000)
  (hs:∀ i x,xs[i]?=some x->∀ H,Same H1 H->∀ (A:VK) (B:Hp->Prop),(match f i with | some y=>∀ H',Same H H'->A y H' | none=>∀ H',Same H H'->B H')->g x (blkσ own js σ) H fun τ H4=>tt τ H4 fun c H5=>if c=true then te τ H5 A else B H5)
  (hd:∀ acc H,H1 acc=none->Same H1 H->H acc=some (.lst ((Yan xs.length).filterMap f))->Q (.ref acc) H):ZaR own js g tt te σ (ItlB b K a) H1 Q:=by
 refine Zdj (b:=b) (K:=K) (a:=a) (xs:=xs) (fun acc i H=>Same H1 H/\H acc=some (.lst ((Yan i).filterMap f))) (fun acc h0=>⟨Same.new h0,Zab⟩) (fun acc i H h0 _ z=>Lv.Same.sqB z.1 hq) ?_ fun acc H h0 ⟨s1,hacc⟩=>hd acc H h0 s1 hacc;rintro acc i x H h0 hx ⟨s1,hacc⟩;have hi:=(Yab.mp hx).1
 refine hs i x hx H s1 _ _ ?_;have e:=Zdt (f:=f) i
 cases ef:f i with
 | none=>
  intro H' s';rw[ef] at e;exact⟨hi,s1.trans s',by rw[e,s' _ _ hacc];simp⟩
 | some y=>
  intro H' s';rw[ef] at e;have:=Ze2 f i;exact⟨_,s' _ _ hacc,by rw[sizeLine_eq];omega,hi,(s1.trans s').put h0,by rw[Zab,e];rfl⟩
end
theorem Zeg (K:Yad) {X:Cx} (hK:X.K=K:=by rfl):OpR X (compareOp .NotIn) (rIn K true):=by
 subst hK;exact ZeR
theorem ZcQ (K:Yad) {X:Cx} (hK:X.K=K:=by rfl):SlR X (rSlL K):=by subst hK;exact Zfu
end L2
namespace L2
open PySem PySem.Spec PyProof.Rows
section
variable {own:List Str}{js:List Nat}{g:TG}{te:TE}{σ:St}{H1:Hp}{Q:VK}
end
end L2
namespace L2
open PySem PySem.Spec PyProof.Rows PySem.SeqAt Lv
end L2
namespace L2
open PySem PySem.Spec PyProof.Rows PySem.SeqAt
end L2
namespace L2
open PySem PySem.Spec PyProof.Rows
end L2
namespace PySem.AutoSeq1
open PySem PySem.Spec PyProof.Rows
end PySem.AutoSeq1
namespace L2
open PySem PySem.Spec PyProof.Rows
section
variable {X:Cx}
end
end L2
namespace Lv
open PySem L2
theorem Zjt (N:List (List Int)):(N.flatten.length:Int)=(Zcx N).sum:=by
 induction N with
 | nil=>rfl
 | cons A N ih=>
  rw[YaM,Yai];show ((A.length+N.flatten.length:Nat):Int)=((A.length:Int)::Zcx N).sum;rw[YaJ,<- ih]
  (clear ih;omega)
end Lv
namespace Lv
open PySem L2
def tfst (N:List (List Int)):List Int:=(N.headD []).reverse.map (·+1)
def ZeS (N:List (List Int)):List (List Int):=(N.tail++[[]]).map (·++tfst N)
def tnum (p:Nat):Nat->List (List Int)
 | 0=>num0 p
 | n+1=>ZeS (tnum p n)
theorem ZiN (N:List (List Int)):(tfst N).length=(N.headD []).length:=by simp[tfst]
theorem ZgQ (N:List (List Int)):Zcx (ZeS N)=Zbt (Zcx N):=by
 cases N with
 | nil=>simp[ZeS,Zcx,tfst,Zbt]
 | cons A r=>
  simp only[ZeS,Zcx,Zbt,tfst,List.headD_cons,List.tail_cons,YaP,Yav,Yc4,YaW];congr 1
  ·apply Ybe;intro x _;simp;omega
  ·simp
theorem ZaW {p:Nat} (hp:1<=p):∀ n,Zcx (tnum p n)=cnt p n
 | 0=>by simp[tnum,Zcx,num0,cnt,Zdf]
 | n+1=>by rw[tnum,ZgQ,ZaW hp n];rfl
theorem Za0 {p:Nat} (hp:1<=p) (n:Nat):(tnum p n).length=p:=by
 have:=congrArg YbK (ZaW hp n);rw[Zbc hp] at this;simpa[Zcx] using this
theorem Zg5 {p:Nat} (hp:1<=p) (n:Nat):((tnum p n).flatten.length:Int)=tot p n:=by
 rw[Zjt,ZaW hp];rfl
def ZmA (r:List (List Int)):List Int:=r.getLastD []
def wr (L:List (List (List Int))):List Int:=(L.map ZmA).flatten
end Lv
namespace Lv
open PySem L2
def Zfr:Sp:=fun vs H Q _=>∃ (a:Addr) (rs:List Addr) (N:List (List Int)),vs=[.ref a]/\H a=some (.lst (rs.map V.ref))/\LLs H rs N/\2<=N.length/\N.length<=7/\(∀ xs∈N,xs.length<=4000)/\∀ l qs H',H l=none->H' l=some (.lst (qs.map V.ref))->LLs H' qs (ZeS N)->qs.Nodup->(∀ q∈qs,H q=none/\q≠l)->Same H H'->Q (.ref l) H'
def Zhi:Sp:=fun vs H Q _=>∃ p n:Nat,vs=[.int p,.int n]/\2<=p/\p<=7/\n<=300/\tot p n<=4000/\∀ l qs H',H l=none->H' l=some (.lst (qs.map V.ref))->LLs H' qs (tnum p n)->qs.Nodup->(∀ q∈qs,H q=none/\q≠l)->Same H H'->Q (.ref l) H'
def evB (x:Int):Bool:=decide (x % 2=0)
def upsT (N:List (List Int)):List (List Bool):=N.map fun xs=>xs.map evB
def Zhh:Sp:=fun vs H Q _=>∃ p n:Nat,vs=[.int p,.int n]/\2<=p/\p<=7/\n<=300/\tot p n<=4000/\∀ l qs H',H l=none->H' l=some (.lst (qs.map V.ref))->LBs H' qs (upsT (tnum p n))->qs.Nodup->(∀ q∈qs,H q=none/\q≠l)->Same H H'->Q (.ref l) H'
theorem Zfk {p n:Nat} (hp:1<=p) {xs:List Int} (h:xs∈tnum p n):(xs.length:Int)<=tot p n:=by
 have h1:(xs.length:Int)∈Zcx (tnum p n):=YaV.mpr ⟨xs,h,rfl⟩;rw[ZaW hp] at h1;exact ZlR (ZbQ p n).2 h1
theorem Zl7 (r0:V) (rr:List V):cutV (r0::rr) (some 1) none=rr:=by
 unfold cutV;show ((r0::rr).drop (HT.sIx (r0::rr).length 0 (some ((1:Nat):Int)))).take (HT.sIx (r0::rr).length (r0::rr).length none - HT.sIx (r0::rr).length 0 (some ((1:Nat):Int)))=_;rw[HT.sIx_nat];rw[show min 1 (r0::rr).length=1 by simp];show rr.take ((r0::rr).length - 1)=_;rw[Ybu (by simp)]
theorem Zcw {qs:List Addr}{q:Addr} (h:qs.Nodup) (hn:q ∉ qs):(qs++[q]).Nodup:=by
 rw[List.nodup_append];refine⟨h,by simp,fun a ha b hb z=>?_⟩;have:b=q:=by simpa using hb
 subst this;subst z;exact hn ha
theorem LLs.none {H:Hp}{qs:List Addr}{N:List (List Int)}{q:Addr} (h:LLs H qs N) (hq:H q=Ydr):q ∉ qs:=fun z=>by
 obtain⟨xs,e⟩:=LLs.get h z;rw[e] at hq;cases hq
theorem LBs.get {H:Hp}{as:List Addr}{Rw:List (List Bool)}{x:Addr} (h:LBs H as Rw) (hx:x∈as):∃ xs:List Bool,H x=some (.lst (xs.map V.bl)):=by
 obtain⟨i,hi,rfl⟩:=Yem hx;have:=h.1;exact⟨Rw[i]'(by omega),h.2 i _ _ (Yae hi) (Yae (by omega))⟩
theorem LBs.none {H:Hp}{qs:List Addr}{N:List (List Bool)}{q:Addr} (h:LBs H qs N) (hq:H q=Ydr):q ∉ qs:=fun z=>by
 obtain⟨xs,e⟩:=LBs.get h z;rw[e] at hq;cases hq
def PotT (H:Hp) (p:Addr):Prop:=∃ a b:Int,H p=some (.lst [.int a,.int b])/\0<=b/\b<2147483648
theorem PotT.put {H:Hp}{p q:Addr}{o:HO} (h:PotT H p) (hq:H q=none):PotT (upd H q o) p:=by
 obtain⟨a,b,e,z⟩:=h;exact⟨a,b,by rw[upd_ne (Zaf e hq)];exact e,z⟩
theorem PotT.ne {H:Hp}{p q:Addr} (h:PotT H p) (hq:H q=none):q≠p:=by
 obtain⟨a,b,e,_⟩:=h;exact YbA (Zaf e hq)
theorem PotT.same {H H':Hp}{p:Addr} (h:PotT H p) (s:Same H H'):PotT H' p:=by
 obtain⟨a,b,e,z⟩:=h;exact⟨a,b,s p _ e,z⟩
def Zhj (K:Yad):Sp:=fun vs H Q _=>∃ (a:Addr) (ns:List Int) (k:Int),vs=[.ref a,.int k]/\SqL K H a (ns.map V.int)/\0<=k/\k<=1000/\∀ p H',H p=none->PotT H' p->Same H H'->Q (.ref p) H'
def ZdZ:Sp:=fun vs H Q _=>∃ p m,vs=[.ref p,.int m]/\PotT H p/\0<m/\Ybr m<=8000/\∀ d H',0<=d->d<m->PotT H' p->Sm p H H'->Q (.int d) H'
theorem Zms:(0:Int)<10 ^ Ydh 60*10 ^ Ydh 60*10 ^ Ydh 60/\Ybr ((10:Int) ^ Ydh 60)<=1000/\Ybr ((10:Int) ^ Ydh 60*10 ^ Ydh 60)<=1000:=by decide +kernel
end Lv
namespace L2
open PySem PySem.Spec PyProof.Rows PySem.SeqAt
end L2
namespace Fw
open PySem L2
def val (ns:List Int) (p:Int):Int:=ns.getD p.toNat 0
def upto (n:Nat):List Int:=(Yan n).map fun (i:Nat)=>(i:Int)
def there (n:Nat) (r:Int) (w:List Int):List Int:=(upto (min n (w.length+r.toNat))).filter fun p=>!w.contains p
def fits (ns w:List Int) (p:Int):Bool:=w.isEmpty || decide (val ns (w.getLast?.getD 0)<=val ns p)
def cand (ns hs w:List Int):List Int:=if (hs.filter (fits ns w)).isEmpty then hs else hs.filter (fits ns w)
def pick (ns:List Int):List Int->Int
 | []=>0
 | b::c=>(b::c).foldl (fun b p=>if val ns p<val ns b then p else b) b
def writ (ns:List Int) (r:Int):Nat->List Int
 | 0=>[]
 | t+1=>writ ns r t++[pick ns (cand ns (there ns.length r (writ ns r t)) (writ ns r t))]
structure Good (n:Nat) (r:Int) (w:List Int):Prop where
 nd:w.Nodup
 lt:∀ q∈w,0<=q/\q<n/\q+1<w.length+r
end Fw
namespace Fw
open PySem L2
end Fw
namespace Fw
open PySem L2
abbrev Key2:=Nat × Int
def kle (a b:Key2):Prop:=a.1<b.1∨(a.1=b.1/\a.2<=b.2)
def nxtK (k:Option Key2) (v:Int):Key2:=match k with | none=>(0,v) | some (r,l)=>(if v<l then r+1 else r,v)
def Zgf:Option Key2->List Int->List Key2
 | _,[]=>[]
 | k,v::vs=>nxtK k v::Zgf (some (nxtK k v)) vs
def wk (ns:List Int) (r:Int) (t:Nat):List Key2:=Zgf none ((writ ns r t).map (val ns))
def lk (ns:List Int) (r:Int) (t:Nat):Option Key2:=(wk ns r t).getLast?
structure Holds (n:Nat) (r:Int) (v:List Int):Prop where
 nd:v.Nodup
 lt:∀ (i:Nat) p,v[i]?=some p->0<=p/\p<n/\p<i+r
end Fw
namespace Lv
open PySem L2 Fw
end Lv
namespace L2
open PySem PySem.Spec PyProof.Rows PySem.SeqAt
def rEqE (K:Yad):R2:=fun x y H Q=>∃ (a b:Addr) (xs:List V),x=.ref a/\y=.ref b/\SqL K H a xs/\SqL K H b []/\Q (.bl xs.isEmpty) H
theorem ZjS {X:Cx} (hu:X.A.units<cLine):OpR X (compareOp .Eq) (rEqE X.K):=by
 intro pins s σ H x y v u Q I rx ry h;obtain⟨a,b,xs,rfl,rfl,ha,hb,q⟩:=h;cases rx;cases ry;obtain⟨its,r1,p1,_⟩:=I.list ha;obtain⟨its2,r2,p2,_⟩:=I.list hb;have l1:its.toArray.size=xs.length:=by rw[Yaw,<- r1.length]
 have l2:its2.toArray.size=0:=by rw[Yaw,<- r2.length];rfl
 cases xs with
 | nil=>
  have z1:its.toArray.size=0:=l1;refine eq_listAt (e:=fun _=>true) p1.isList p2.isList (by rw[z1,l2]) hu (fun j h1 h2=>absurd h1 (by (clear h2 h1 l1 l2 hu;omega))) ?_;rw[ZiF];exact⟨.bl true,H,I,rfl,q⟩
 | cons x r=>
  refine eq_list_lengthsAt p1.isList p2.isList (by rw[l1,l2];simp) hu ?_;exact⟨.bl false,H,I,rfl,q⟩
end L2
namespace Lv
open PySem L2 Fw
structure Rws3 (H0 H:Hp) (l:Addr) (rf:List Addr) (R:List (List Int)):Prop where
 top:H l=some (.lst (rf.map V.ref))
 rows:LLs H rf R
 own:∀ q∈rf,H0 q=none/\q≠l
 nd:rf.Nodup
end Lv
namespace Lv
open PySem L2
abbrev TD:=Option (Bool × List Int)
def TV (Hb H:Hp) (v:V):TD->Prop
 | none=>v=.non
 | some d=>∃ q t:Addr,v=.ref q/\H q=some (.tup [.bl d.1,.ref t])/\H t=some (.lst (d.2.map V.int))/\Hb t=none
theorem TV.same {Hb H H':Hp}{v:V}{d:TD} (h:TV Hb H v d) (s:Same H H'):TV Hb H' v d:=by
 cases d with
 | none=>exact h
 | some d=>
  obtain⟨q,t,e,a,b,c⟩:=h;exact⟨q,t,e,s _ _ a,s _ _ b,c⟩
theorem TV.base {Hb Hc H:Hp}{v:V}{d:TD} (h:TV Hb H v d) (s:∀ a,Hb a=none->Hc a=none):TV Hc H v d:=by
 cases d with
 | none=>exact h
 | some d=>
  obtain⟨q,t,e,a,b,c⟩:=h;exact⟨q,t,e,a,b,s _ c⟩
def TVs (Hb H:Hp) (vs:List V) (ds:List TD):Prop:=vs.length=ds.length/\∀ (i:Nat) v d,vs[i]?=some v->ds[i]?=some d->TV Hb H v d
theorem TVs.same {Hb H H':Hp}{vs:List V}{ds:List TD} (h:TVs Hb H vs ds) (s:Same H H'):TVs Hb H' vs ds:=⟨h.1,fun i v d a b=>(h.2 i v d a b).same s⟩
theorem TVs.base {Hb Hc H:Hp}{vs:List V}{ds:List TD} (h:TVs Hb H vs ds) (s:∀ a,Hb a=none->Hc a=none):TVs Hc H vs ds:=⟨h.1,fun i v d a b=>(h.2 i v d a b).base s⟩
theorem TVs.nil (Hb H:Hp):TVs Hb H [] []:=⟨rfl,fun i v d a=>by simp at a⟩
theorem TVs.cons {Hb H:Hp}{v:V}{d:TD}{vs:List V}{ds:List TD} (h:TV Hb H v d) (t:TVs Hb H vs ds):TVs Hb H (v::vs) (d::ds):=by
 refine⟨by rw[Ya3,Ya3,t.1],fun i w e a b=>?_⟩
 cases i with
 | zero=>cases a;cases b;exact h
 | succ i=>exact t.2 i w e a b
theorem TVs.uncons {Hb H:Hp}{v:V}{d:TD}{vs:List V}{ds:List TD} (h:TVs Hb H (v::vs) (d::ds)):TV Hb H v d/\TVs Hb H vs ds :=
 ⟨h.2 0 v d rfl rfl,by have:=h.1;simpa using this,fun i w e a b=>h.2 (i+1) w e a b⟩
theorem TVs.take {Hb H:Hp}{vs:List V}{ds:List TD} (h:TVs Hb H vs ds) (m:Nat):TVs Hb H (vs.take m) (ds.take m):=by
 refine⟨by rw[YaL,YaL,h.1],fun i v d a b=>?_⟩;rw[List.getElem?_take] at a b;split at a
 ·rename_i hi;rw[if_pos hi] at b;exact h.2 i v d a b
 ·cases a
theorem TVs.rev {Hb H:Hp}{vs:List V}{ds:List TD} (h:TVs Hb H vs ds):TVs Hb H vs.reverse ds.reverse:=by
 refine⟨by rw[Ybb,Ybb,h.1],fun i v d a b=>?_⟩;have hi:i<vs.length:=by
  have:=(Yab.mp a).1
  rwa [Ybb] at this
 rw[YbP hi] at a;rw[YbP (by rw[<- h.1];exact hi),<- h.1] at b;exact h.2 _ v d a b
theorem TVs.app {Hb H:Hp}:∀ {vs ws:List V}{ds es:List TD},TVs Hb H vs ds->TVs Hb H ws es->TVs Hb H (vs++ws) (ds++es)
 | [],_,[],_,_,h=>h
 | [],_,_::_,_,h,_=>absurd h.1 (by simp)
 | _::_,_,[],_,h,_=>absurd h.1 (by simp)
 | v::vs,ws,d::ds,es,h,g=>TVs.cons h.uncons.1 (TVs.app h.uncons.2 g)
theorem TVs.at {Hb H:Hp}{vs:List V}{ds:List TD} (h:TVs Hb H vs ds) {i:Nat}{v:V} (a:vs[i]?=some v):∃ d,ds[i]?=some d/\TV Hb H v d:=by
 have hi:=(Yab.mp a).1
 have hj:i<ds.length:=by rw[<- h.1];exact hi
 have e:ds[i]?=some ds[i]:=Yae hj;exact⟨_,e,h.2 i v _ a e⟩
def ZaA (ds:List TD):List (Bool × List Int):=ds.filterMap id
def tm (ds:List TD):TD:=match ZaA ds with
 | []=>none
 | d::r=>if d.1 then some (false,(srt ((d::r).map (·.2)).flatten).reverse) else some (true,srt ((d::r).map (·.2)).flatten)
def NoCl (ds:List TD):Prop:=¬ (true∈(ZaA ds).map (·.1)/\false∈(ZaA ds).map (·.1))
def tth (ds:List TD):Int:=((ZaA ds).map fun d=>(d.2.length:Int)).sum
def tkT (D:List (List TD)) (m i:Nat):List TD:=D.filterMap fun r=>(r.reverse.take m)[i]?
def phT (D:List (List TD)) (o m:Nat):List (List TD):=(D.map fun r=>r.take (r.length - m)).set o ((Yan m).map fun i=>tm (tkT D m i))
def rdT (D:List (List TD)) (m:Nat):List Int:=D.map fun r=>tth (r.reverse.take m)
abbrev RT:=Addr × Addr × (Bool × List Int)
def RTok (Hb H:Hp) (r:RT):Prop:=H r.1=some (.tup [.bl r.2.2.1,.ref r.2.1])/\H r.2.1=some (.lst (r.2.2.2.map V.int))/\Hb r.2.1=none
theorem RTok.same {Hb H H':Hp}{r:RT} (h:RTok Hb H r) (s:Same H H'):RTok Hb H' r:=⟨s _ _ h.1,s _ _ h.2.1,h.2.2⟩
def nonV:V->Option V
 | .non=>none
 | v=>some v
theorem TVs.reals {Hb H:Hp}:∀ {vs:List V}{ds:List TD},TVs Hb H vs ds->∃ rs:List RT,vs.filterMap nonV=rs.map (fun r=>V.ref r.1)/\rs.map (·.2.2)=ZaA ds/\∀ r∈rs,RTok Hb H r
 | [],[],_=>⟨[],rfl,rfl,fun r hr=>(nomatch hr)⟩
 | [],_::_,h=>absurd h.1 (by simp)
 | _::_,[],h=>absurd h.1 (by simp)
 | v::vs,d::ds,h=>by
  obtain⟨h1,h2⟩:=h.uncons;obtain⟨rs,a,b,c⟩:=h2.reals
  cases d with
  | none=>
   have:v=.non:=h1;subst this;refine⟨rs,?_,?_,c⟩
   ·rw[YaH];exact a
   ·rw[b];rfl
  | some d=>
   obtain⟨q,t,rfl,e1,e2,e3⟩:=h1;refine⟨(q,t,d)::rs,?_,?_,fun r hr=>?_⟩
   ·rw[YaH,Yav,<- a];rfl
   ·rw[Yav,b];rfl
   ·rcases Yal.mp hr with rfl | hr
    ·exact⟨e1,e2,e3⟩
    ·exact c r hr
theorem ZbP {α β:Type} (g:α->Option β):∀ l:List α,(Yan l.length).filterMap (fun j=>l[j]?.bind g)=l.filterMap g
 | []=>rfl
 | x::l=>by
  have ih:=ZbP g l;rw[Ya3,Yd2,YaH,Yb4,YaH];have e:((fun j=>(x::l)[j]?.bind g) ∘ Nat.succ)=fun j=>l[j]?.bind g:=by
   funext j
   simp
  rw[e,ih];simp
def ZiR:Sp:=fun vs H Q _=>∃ (l:Addr) (as:List Addr) (W:List (List V)) (i:Nat),vs=[.ref l,.int i]/\H l=some (.lst (as.map V.ref))/\as.length=W.length/\(∀ (j:Nat) a ws,as[j]?=some a->W[j]?=some ws->H a=some (.lst ws))/\as.length<=20/\∀ a H',H a=none->H' a=some (.lst (W.filterMap (·[i]?)))->Same H H'->Q (.ref a) H'
def Zkg:Sp:=fun vs H Q _=>∃ (l:Addr) (as:List Addr) (N:List (List Int)),vs=[.ref l]/\H l=some (.lst (as.map V.ref))/\LLs H as N/\N.length<=15000/\∀ H',Same H H'->Q (.int (N.map fun xs=>(xs.length:Int)).sum) H'
def Zf3:Sp:=fun vs H Q _=>∃ (v:V) (d:TD),vs=[v]/\TV (fun _=>none) H v d/\∀ v' H',TV H H' v' d->Same H H'->Q v' H'
def ZeL:Sp:=fun vs H Q _=>∃ (l:Addr) (ws:List V) (ds:List TD) (at_:Int),vs=[.ref l,.int at_]/\H l=some (.lst ws)/\TVs (fun _=>none) H ws ds/\ws.length<=20/\NoCl ds/\(((ZaA ds).map (·.2)).flatten).length<=15000/\∀ v H',TV H H' v (tm ds)->Same H H'->Q v H'
def ZiS:Sp:=fun vs H Q _=>∃ (l:Addr) (ws:List V) (ds:List TD),vs=[.ref l]/\H l=some (.lst ws)/\TVs (fun _=>none) H ws ds/\ws.length<=15000/\∀ H',Same H H'->Q (.int (tth ds)) H'
end Lv
namespace Lv
open PySem L2
def wT (g:List Int->Int):TD->Int
 | none=>0
 | some d=>g d.2
structure WT (h:TD->Int):Prop where
 non:h none=0
 tm:∀ ds,h (tm ds)=(ds.map h).sum
theorem ZeF {g:List Int->Int} (hg:Adds g):∀ ds:List TD,(ds.map (wT g)).sum=g ((ZaA ds).map (·.2)).flatten
 | []=>hg.nil.symm
 | none::ds=>by
  have ih:=ZeF hg ds;rw[Yav,YaJ,ih];show 0+_=g ((ZaA ds).map (·.2)).flatten;rw[Ycd]
 | some d::ds=>by
  have ih:=ZeF hg ds;rw[Yav,YaJ,ih];show g d.2+g ((ZaA ds).map (·.2)).flatten=g (d.2++((ZaA ds).map (·.2)).flatten);rw[hg.app]
theorem Zla {g:List Int->Int} (hg:Adds g) (hp:∀ a b:List Int,a.Perm b->g a=g b):WT (wT g):=⟨rfl,fun ds=>by
 rw[ZeF hg];unfold tm
 cases e:ZaA ds with
 | nil=>exact hg.nil.symm
 | cons d r=>
  dsimp only;split
  ·exact hp _ _ ((Ydj _).trans (ZbL _))
  ·exact hp _ _ (ZbL _)⟩
def gl58 (xs:List Int):Int:=(xs.length:Int)
theorem ZeZ:Adds gl58:=⟨rfl,fun a b=>by unfold gl58;rw[Yai];omega⟩
def lenT:TD->Int:=wT gl58
theorem ZhY:WT lenT:=Zla ZeZ fun a b h=>by unfold gl58;rw[h.length_eq]
def gc58 (x:Int) (xs:List Int):Int:=(xs.count x:Int)
theorem Zdc (x:Int):Adds (gc58 x):=⟨rfl,fun a b=>by unfold gc58;rw[List.count_append];omega⟩
theorem ZkZ (x:Int):WT (wT (gc58 x)):=Zla (Zdc x) fun a b h=>by unfold gc58;rw[h.count_eq]
def dtT (h:TD->Int):List TD->List Int->Int
 | d::ds,n::ns=>n*h d+dtT h ds ns
 | _,_=>0
def ptT (h:TD->Int):List (List TD)->List (List Int)->Int
 | ds::D,ws::W=>dtT h ds ws+ptT h D W
 | _,_=>0
def ez:List Int->(Nat->Int)->Int
 | [],_=>0
 | n::ns,k=>n*k 0+ez ns fun j=>k (j+1)
theorem ZjX:∀ (ns:List Int) (h k:Nat->Int),ez ns (fun j=>h j+k j)=ez ns h+ez ns k
 | [],_,_=>rfl
 | n::ns,h,k=>by
  rw[ez,ez,ez,ZjX ns (fun j=>h (j+1)) fun j=>k (j+1),Int.mul_add];omega
theorem ZfL:∀ ns:List Int,ez ns (fun _=>0)=0
 | []=>rfl
 | n::ns=>by rw[ez,ZfL ns];omega
theorem Zen:∀ (ns:List Int) (h k:Nat->Int),(∀ j,j<ns.length->h j=k j)->ez ns h=ez ns k
 | [],_,_,_=>rfl
 | n::ns,h,k,e=>by
  rw[ez,ez,e 0 (by simp),Zen ns (fun j=>h (j+1)) (fun j=>k (j+1)) fun j hj=>e (j+1) (by simpa using hj)]
theorem Zij {h:TD->Int} (h0:h none=0):∀ (ds:List TD) (ns:List Int),dtT h ds ns=ez ns fun j=>h (ds.getD j none)
 | [],ns=>by
  have e:(fun j:Nat=>h (([]:List TD).getD j none))=fun _=>(0:Int):=funext fun j=>by simpa using h0
  rw[e,ZfL];cases ns <;> rfl
 | d::ds,[]=>rfl
 | d::ds,n::ns=>by
  rw[dtT,ez,Zij h0 ds ns];rfl
theorem colT {h:TD->Int} (h0:h none=0) (A:List Int):∀ T:List (List TD),(T.map fun r=>dtT h r A).sum=ez A fun j=>((T.filterMap (·[j]?)).map h).sum
 | []=>by
  have e:(fun j:Nat=>((([]:List (List TD)).filterMap (·[j]?)).map h).sum)=fun _=>(0:Int):=rfl;rw[e,ZfL];rfl
 | r::T=>by
  rw[Yav,YaJ,colT h0 A T,Zij h0,<- ZjX];refine Zen A _ _ fun j _=>?_;rw[YaH,Yat]
  cases r[j]? with
  | none=>show h none+_=_;rw[h0,Ycd]
  | some d=>show h d+_=_;rw[Yav,YaJ]
theorem newT {h:TD->Int} (hh:WT h) (A:List Int) (T:List (List TD)):dtT h ((Yan A.length).map fun i=>tm (T.filterMap (·[i]?))) A=(T.map fun r=>dtT h r A).sum:=by
 rw[colT hh.non,Zij hh.non];refine Zen A _ _ fun j hj=>?_;rw[Yat,Yaf,Yby hj];exact hh.tm _
theorem Zii (h:TD->Int):∀ (ds:List TD) (A:List Int),ds.length<=A.length->dtT h ds (A.map (·+1))=dtT h ds A+(ds.map h).sum
 | [],A,_=>by cases A <;> rfl
 | d::ds,[],z=>by simp at z
 | d::ds,n::ns,z=>by
  rw[Yav,dtT,dtT,Zii h ds ns (by simpa using z),Yav,YaJ,Int.add_mul]
  (clear z;omega)
theorem ZfN (h:TD->Int):∀ (ds:List TD) (m:Nat),ds.length<=m->dtT h ds (Yak m 1)=(ds.map h).sum
 | [],m,_=>by cases m <;> rfl
 | d::ds,0,z=>by simp at z
 | d::ds,m+1,z=>by
  rw[YbV,dtT,ZfN h ds m (by simpa using z),Yav,YaJ]
  (clear z;omega)
theorem ZfO (h:TD->Int):∀ {a b:List TD}{x y:List Int},a.length=x.length->dtT h (a++b) (x++y)=dtT h a x+dtT h b y
 | [],b,[],y,_=>by show dtT h b y=0+_;rw[Ycd]
 | [],_,_::_,_,z=>by simp at z
 | _::_,_,[],_,z=>by simp at z
 | d::a,b,n::x,y,z=>by
  rw[YcD,YcD,dtT,dtT,ZfO h (by simpa using z)]
  (clear z;omega)
theorem Zih (h:TD->Int):∀ (a:List TD) (x:List Int),a.length=x.length->dtT h a.reverse x.reverse=dtT h a x
 | [],[],_=>rfl
 | [],_::_,z=>by simp at z
 | _::_,[],z=>by simp at z
 | d::a,n::x,z=>by
  have z':a.length=x.length:=by simpa using z
  rw[Ybx,Ybx,ZfO h (by rw[Ybb,Ybb];exact z'),Zih h a x z',dtT,dtT];have e:dtT h [] []=0:=rfl;rw[e]
  (clear e z' z;omega)
def dirT (up:Bool) (xs:List Int):List Int:=if up then srt xs else (srt xs).reverse
def GdT (fl:Bool) (d:TD) (x:Int):Prop:=∀ e,d=some e->e.1=(evB x != fl)/\e.2=dirT e.1 e.2
def GdR (fl:Bool):List TD->List Int->Prop
 | [],[]=>True
 | d::ds,x::xs=>GdT fl d x/\GdR fl ds xs
 | _,_=>False
def GdD (fl:Bool):List (List TD)->List (List Int)->Prop
 | [],[]=>True
 | d::ds,x::xs=>GdR fl d x/\GdD fl ds xs
 | _,_=>False
theorem GdR.len {fl:Bool}:∀ {ds:List TD}{xs:List Int},GdR fl ds xs->ds.length=xs.length
 | [],[],_=>rfl
 | [],_::_,h=>h.elim
 | _::_,[],h=>h.elim
 | d::ds,x::xs,h=>by rw[Ya3,Ya3,GdR.len h.2]
theorem GdD.len {fl:Bool}:∀ {ds:List (List TD)}{xs:List (List Int)},GdD fl ds xs->ds.length=xs.length
 | [],[],_=>rfl
 | [],_::_,h=>h.elim
 | _::_,[],h=>h.elim
 | d::ds,x::xs,h=>by rw[Ya3,Ya3,GdD.len h.2]
theorem GdR.app {fl:Bool}:∀ {a b:List TD}{x y:List Int},GdR fl a x->GdR fl b y->GdR fl (a++b) (x++y)
 | [],_,[],_,_,k=>k
 | [],_,_::_,_,h,_=>h.elim
 | _::_,_,[],_,h,_=>h.elim
 | d::a,b,n::x,y,h,k=>⟨h.1,GdR.app h.2 k⟩
theorem GdR.rev {fl:Bool}:∀ {a:List TD}{x:List Int},GdR fl a x->GdR fl a.reverse x.reverse
 | [],[],_=>trivial
 | [],_::_,h=>h.elim
 | _::_,[],h=>h.elim
 | d::a,n::x,h=>by
  rw[Ybx,Ybx];exact GdR.app (GdR.rev h.2) ⟨h.1,trivial⟩
theorem GdR.split {fl:Bool}:∀ {ds:List TD}{x y:List Int},GdR fl ds (x++y)->∃ c t,ds=c++t/\GdR fl c x/\GdR fl t y
 | ds,[],y,h=>⟨[],ds,rfl,trivial,h⟩
 | [],x::xs,y,h=>h.elim
 | d::ds,x::xs,y,h=>by
  obtain⟨c,t,rfl,a,b⟩:=GdR.split (x:=xs) (y:=y) h.2;exact⟨d::c,t,rfl,⟨h.1,a⟩,b⟩
theorem GdR.at {fl:Bool}:∀ {ds:List TD}{xs:List Int},GdR fl ds xs->∀ {i:Nat}{d:TD},ds[i]?=some d->∃ x,xs[i]?=some x/\GdT fl d x
 | [],[],_,i,d,e=>by simp at e
 | [],_::_,h,_,_,_=>h.elim
 | _::_,[],h,_,_,_=>h.elim
 | d::ds,x::xs,h,0,e,z=>by cases z;exact⟨x,rfl,h.1⟩
 | d::ds,x::xs,h,i+1,e,z=>GdR.at h.2 (i:=i) (by simpa using z)
theorem GdR.of {fl:Bool}:∀ {ds:List TD}{xs:List Int},ds.length=xs.length->(∀ (i:Nat) d x,ds[i]?=some d->xs[i]?=some x->GdT fl d x)->GdR fl ds xs
 | [],[],_,_=>trivial
 | [],_::_,z,_=>by simp at z
 | _::_,[],z,_=>by simp at z
 | d::ds,x::xs,z,h=>⟨h 0 d x rfl rfl,GdR.of (by simpa using z) fun i e y a b=>h (i+1) e y (by simpa using a) (by simpa using b)⟩
theorem GdD.at {fl:Bool}:∀ {ds:List (List TD)}{xs:List (List Int)},GdD fl ds xs->∀ {i:Nat}{d:List TD},ds[i]?=some d->∃ x,xs[i]?=some x/\GdR fl d x
 | [],[],_,i,d,e=>by simp at e
 | [],_::_,h,_,_,_=>h.elim
 | _::_,[],h,_,_,_=>h.elim
 | d::ds,x::xs,h,0,e,z=>by cases z;exact⟨x,rfl,h.1⟩
 | d::ds,x::xs,h,i+1,e,z=>GdD.at h.2 (i:=i) (by simpa using z)
theorem GdD.of {fl:Bool}:∀ {ds:List (List TD)}{xs:List (List Int)},ds.length=xs.length->(∀ (i:Nat) d x,ds[i]?=some d->xs[i]?=some x->GdR fl d x)->GdD fl ds xs
 | [],[],_,_=>trivial
 | [],_::_,z,_=>by simp at z
 | _::_,[],z,_=>by simp at z
 | d::ds,x::xs,z,h=>⟨h 0 d x rfl rfl,GdD.of (by simpa using z) fun i e y a b=>h (i+1) e y (by simpa using a) (by simpa using b)⟩
theorem GdD.set {fl:Bool}:∀ {D:List (List TD)}{W:List (List Int)} (i:Nat) {ds:List TD}{ws:List Int},GdD fl D W->GdR fl ds ws->GdD fl (D.set i ds) (W.set i ws)
 | [],[],_,_,_,_,_=>trivial
 | [],_::_,_,_,_,h,_=>h.elim
 | _::_,[],_,_,_,h,_=>h.elim
 | d::D,w::W,0,_,_,h,k=>⟨k,h.2⟩
 | d::D,w::W,i+1,_,_,h,k=>⟨h.1,GdD.set i h.2 k⟩
theorem Zhw (h:TD->Int):∀ {D:List (List TD)}{W:List (List Int)}{i:Nat}{ds:List TD}{ws:List Int},D.length=W.length->D[i]?=some []->W[i]?=some []->ptT h (D.set i ds) (W.set i ws)=ptT h D W+dtT h ds ws
 | [],_,_,_,_,_,e,_=>by simp at e
 | _::_,[],_,_,_,z,_,_=>by simp at z
 | d::D,w::W,0,ds,ws,_,e,k=>by
  cases e;cases k;show dtT h ds ws+ptT h D W=0+ptT h D W+dtT h ds ws;omega
 | d::D,w::W,i+1,ds,ws,z,e,k=>by
  show dtT h d w+ptT h (D.set i ds) (W.set i ws)=dtT h d w+ptT h D W+dtT h ds ws;rw[Zhw h (by simpa using z) (by simpa using e) (by simpa using k)]
  (clear z;omega)
def cutT {α:Type} (f:Nat) (l:List α):List α:=l.take (l.length - f)
def Shp (A:List Int) (ws:List Int):Prop:=ws=[]∨∃ w,ws=w++(A.map (·+1)).reverse
theorem Zes {α:Type}{f:Nat}:cutT f ([]:List α)=[]:=YdT
theorem ZiY {fl:Bool}{ds:List TD}{w A:List Int} (h:GdR fl ds (w++(A.map (·+1)).reverse)):GdR fl (cutT A.length ds) w/\GdR fl (ds.reverse.take A.length) (A.map (·+1))/\∀ hh:TD->Int,dtT hh ds (w++(A.map (·+1)).reverse)=dtT hh (cutT A.length ds) w+dtT hh (ds.reverse.take A.length) (A.map (·+1)):=by
 obtain⟨c,t,rfl,hc,ht⟩:=h.split;have l1:=hc.len;have l2:=ht.len;have l3:t.length=A.length:=by simpa using l2
 have e1:cutT A.length (c++t)=c:=by
  unfold cutT;rw[Yai,show c.length+t.length - A.length=c.length by (clear l2 l1;omega),YcS]
 have e2:(c++t).reverse.take A.length=t.reverse:=by
  rw[Ycp,<- l3,<- Ybb (as:=t),YcS]
 rw[e1,e2];refine⟨hc,by have:=ht.rev;rwa [Yeh] at this,fun hh=>?_⟩;rw[ZfO hh l1,<- Zih hh t ((A.map (·+1)).reverse) l2,Yeh]
theorem Zjx {w A:List Int}:cutT A.length (w++(A.map (·+1)).reverse)=w:=by
 unfold cutT;rw[Yai,Ybb,Yaa,Nat.add_sub_cancel,YcS]
theorem ZeP {fl:Bool}{A:List Int}:∀ {D:List (List TD)}{W:List (List Int)},GdD fl D W->(∀ ws∈W,Shp A ws)->GdD fl (D.map (cutT A.length)) (W.map (cutT A.length))/\(∀ ds∈D,GdR fl (ds.reverse.take A.length) (A.map (·+1))∨ds=[])/\∀ h:TD->Int,ptT h D W=ptT h (D.map (cutT A.length)) (W.map (cutT A.length))+(D.map fun ds=>dtT h (ds.reverse.take A.length) (A.map (·+1))).sum
 | [],[],_,_=>⟨trivial,fun _ z=>by simp at z,fun h=>rfl⟩
 | [],_::_,h,_=>h.elim
 | _::_,[],h,_=>h.elim
 | d::D,w::W,g,s=>by
  obtain⟨i1,i2,i3⟩:=ZeP g.2 fun ws hw=>s ws (Yao _ hw);rcases s w YaA with rfl | ⟨v,rfl⟩
  ·have hd:d=[]:=Ybl.mp g.1.len;subst hd;refine⟨⟨by rw[Zes,Zes];trivial,i1⟩,fun ds hds=>?_,fun h=>?_⟩
   ·rcases Yal.mp hds with rfl | z
    ·exact .inr rfl
    ·exact i2 ds z
   ·have e9:dtT h [] []=0:=rfl;have e:dtT h (([]:List TD).reverse.take A.length) (A.map (·+1))=0:=by rw[YcC,YdT];cases A <;> rfl
    rw[Yav,Yav,Yav,YaJ,ptT,ptT,Zes,Zes,e,e9,i3 h]
    (clear e e9;omega)
  ·obtain⟨j1,j2,j3⟩:=ZiY g.1;refine⟨⟨by rw[Zjx];exact j1,i1⟩,fun ds hds=>?_,fun h=>?_⟩
   ·rcases Yal.mp hds with rfl | z
    ·exact .inl j2
    ·exact i2 ds z
   ·rw[Yav,Yav,Yav,YaJ,ptT,ptT,j3 h,Zjx,i3 h];omega
theorem Zgl (x:Int):evB (x+1) = !evB x:=by
 unfold evB;by_cases h:x % 2=0
 ·rw[decide_eq_true h,decide_eq_false (by omega)];rfl
 ·rw[decide_eq_false h,decide_eq_true (by omega)];rfl
theorem ZiQ (s:List Int):srt (srt s)=srt s:=(ZdA (Yen _) (Zf1 s)).symm
theorem Zke (s:List Int):srt (srt s).reverse=srt s:=(ZdA (Ydj _).symm (Zf1 s)).symm
theorem realT_mem {ds:List TD}{e:Bool × List Int}:e∈ZaA ds↔some e∈ds:=by
 unfold ZaA;rw[Ybi];exact⟨fun ⟨a,h,z⟩=>by cases z;exact h,fun h=>⟨_,h,rfl⟩⟩
theorem Zg6 {fl:Bool}{x:Int}{ds:List TD} (h:∀ d∈ds,GdT fl d (x+1)):NoCl ds/\GdT fl (tm ds) x:=by
 have hr:∀ e∈ZaA ds,e.1=(evB (x+1) != fl):=fun e he=>(h _ (realT_mem.mp he) e rfl).1
 refine⟨fun ⟨a,b⟩=>?_,fun e z=>?_⟩
 ·obtain⟨e1,h1,z1⟩:=YaV.mp a;obtain⟨e2,h2,z2⟩:=YaV.mp b;have q1:=hr e1 h1;have q2:=hr e2 h2;rw[z1] at q1;rw[z2,<- q1] at q2;cases q2
 ·unfold tm at z
  cases q:ZaA ds with
  | nil=>rw[q] at z;cases z
  | cons d r=>
   have hd:=hr d (by rw[q];exact YaA);rw[q] at z;dsimp only at z;rw[Zgl] at hd;split at z
   ·next u=>
    cases z;rw[u] at hd;refine⟨?_,?_⟩
    ·revert hd
     generalize evB x=q;cases q <;> cases fl <;> first | exact fun _=>rfl | exact fun z=>(nomatch z)
    ·show _=(srt (srt _).reverse).reverse;rw[Zke]
   ·next u=>
    cases z;have u:d.1=false:=by simpa using u
    rw[u] at hd;refine⟨?_,?_⟩
    ·revert hd
     generalize evB x=q;cases q <;> cases fl <;> first | exact fun _=>rfl | exact fun z=>(nomatch z)
    ·show _=srt (srt _);rw[ZiQ]
theorem Zjo {fl:Bool}{A:List Int}{D:List (List TD)} (h:∀ ds∈D,GdR fl (ds.reverse.take A.length) (A.map (·+1))∨ds=[]):(∀ i,i<A.length->NoCl (tkT D A.length i))/\GdR fl ((Yan A.length).map fun i=>tm (tkT D A.length i)) A:=by
 have key:∀ (i:Nat) x,A[i]?=some x->∀ d∈tkT D A.length i,GdT fl d (x+1):=fun i x hx d hd=>by
  unfold tkT at hd;obtain⟨ds,hds,e⟩:=Ybi.mp hd;rcases h ds hds with g | rfl
  ·obtain⟨y,hy,gy⟩:=g.at e;rw[Yaf,hx] at hy;cases hy;exact gy
  ·simp at e
 refine⟨fun i hi=>(Zg6 (key i _ (Yae hi))).1,GdR.of (by simp) fun i d x hd hx=>?_⟩;have hi:=(Yab.mp hx).1
 rw[Yaf,Yby hi] at hd;cases hd;exact (Zg6 (key i x hx)).2
def Tm (p m:Nat):List (List Int):=tnum p m++[[]]
theorem ZbU {p:Nat} (hp:2<=p) (m:Nat):(Tm p m).length=p+1:=by rw[Tm,Yai,Za0 (by omega)];rfl
theorem ZiG {p:Nat} (hp:2<=p) (k a:Nat) (ha:a<=p):∃ A r,tnum p k=A::r/\(∀ ws∈rot a (Tm p (k+1)),Shp A ws) /\
  (rot a (Tm p (k+1)))[p - a]?=some []/\((rot a (Tm p (k+1))).map (cutT A.length)).set (p - a) A=rot (if a=p then 0 else a+1) (Tm p k):=by
 have hpl:=Za0 (show 1<=p by (clear ha;omega)) k;obtain⟨A,r,e⟩:∃ A r,tnum p k=A::r:=by
  cases q:tnum p k with
  | nil=>rw[q] at hpl;simp at hpl;(clear ha;omega)
  | cons A r=>exact⟨A,r,rfl⟩
 have hr:r.length+1=p:=by rw[e] at hpl;simpa using hpl
 have e2:tnum p (k+1)=(r++[[]]).map (·++(A.map (·+1)).reverse):=by
  show ZeS (tnum p k)=_;rw[e,<- Yb0];rfl
 have hl:=ZbU hp (k+1);refine⟨A,r,e,fun ws hw=>?_,?_,?_⟩
 ·rw[Zhr,Tm,e2] at hw;rcases Yar.mp hw with hw | hw
  ·obtain⟨y,_,rfl⟩:=YaV.mp hw;exact .inr ⟨y,rfl⟩
  ·exact .inl (by simpa using hw)
 ·rw[Zko hl ha,Tm,Yax (by rw[Za0 (by (clear hl hr hpl ha;omega))];(clear hl hr hpl ha hp;omega)),Za0 (by (clear hl hr hpl ha;omega))];simp
 ·have hm:(Tm p (k+1)).map (cutT A.length)=r++[[],[]]:=by
   rw[Tm,e2,YaP,YaW];have h1:(cutT A.length ∘ (·++(A.map (·+1)).reverse))=id:=funext fun y=>Zjx;rw[h1,List.map_id];simp[cutT]
  rw[Zkn,hm];have hl2:(r++[([]:List Int),[]]).length=p+1:=by simp;(clear hl hpl ha hp;omega)
  rw[Zkm hl2 ha];have hs:(r++[([]:List Int),[]]).set p A=rot 1 (Tm p k):=by
   rw[List.set_append_right _ _ (by (clear hl2 hl hpl ha hp;omega)),show p - r.length=1 by (clear hl2 hl hpl ha hp;omega),Tm,e];simp[rot]
  rw[hs];by_cases z:a=p
  ·rw[if_pos z,Zhs (by rw[ZbU hp];(clear z hl2 hl hr hpl hp;omega)),z,show p+1=(Tm p k).length from (ZbU hp k).symm,Zkp]
  ·rw[if_neg z,Zhs (by rw[ZbU hp];(clear z hl2 hl hr hpl hp;omega))]
theorem ZdW (D:List (List TD)) (m i:Nat):tkT D m i=(D.map fun r=>r.reverse.take m).filterMap (·[i]?):=by
 unfold tkT;rw[Yb4];rfl
theorem ph58 {p:Nat} (hp:2<=p) {k a:Nat} (ha:a<=p) {fl:Bool}{D:List (List TD)} (hG:GdD fl D (rot a (Tm p (k+1)))):∃ f:Nat,hd p k=f/\D[p - a]?=some []/\(∀ i,i<f->NoCl (tkT D f i)) /\
  GdD fl (phT D (p - a) f) (rot (if a=p then 0 else a+1) (Tm p k))/\∀ h:TD->Int,WT h->ptT h D (rot a (Tm p (k+1)))=ptT h (phT D (p - a) f) (rot (if a=p then 0 else a+1) (Tm p k))+(D.map fun ds=>((ds.reverse.take f).map h).sum).sum:=by
 obtain⟨A,r,ek,hS,h0,hn⟩:=ZiG hp k a ha;have hx:hd p k=(A.length:Nat):=by
  unfold hd;rw[<- ZaW (show 1<=p by (clear ha;omega)),ek];rfl
 obtain⟨g1,g2,g3⟩:=ZeP hG hS;obtain⟨n1,n2⟩:=Zjo g2;have hl:=hG.len;have hll:(rot a (Tm p (k+1))).length=p+1:=by rw[Zd6,ZbU hp]
 have hDn:D[p - a]?=some []:=by
  have hi:p - a<D.length:=by (clear hx ha hp;omega)
  obtain⟨W,e1,e2⟩:=hG.at (Yae hi);rw[h0] at e1;cases e1;rw[Yae hi,Ybl.mp e2.len]
 refine⟨A.length,hx,hDn,n1,?_,fun h hh=>?_⟩
 ·rw[<- hn];exact GdD.set _ g1 n2
 ·rw[g3 h,<- hn];have e1:ptT h (phT D (p - a) A.length) (((rot a (Tm p (k+1))).map (cutT A.length)).set (p - a) A)=ptT h (D.map (cutT A.length)) ((rot a (Tm p (k+1))).map (cutT A.length))+dtT h ((Yan A.length).map fun i=>tm (tkT D A.length i)) A :=
   Zhw h (by rw[Yaa,Yaa,hl]) (by rw[Yaf,hDn];simp[cutT]) (by rw[Yaf,h0];simp[cutT])
  have e2:(fun i=>tm (tkT D A.length i))=fun i=>tm ((D.map fun r=>r.reverse.take A.length).filterMap (·[i]?)):=funext fun i=>by rw[ZdW]
  have e3:=newT hh A (D.map fun r=>r.reverse.take A.length);rw[e1,e2,e3,YaW];have e4:∀ E:List (List TD),(E.map fun ds=>dtT h (ds.reverse.take A.length) (A.map (·+1))).sum=(E.map ((fun r=>dtT h r A) ∘ fun r=>r.reverse.take A.length)).sum+(E.map fun ds=>((ds.reverse.take A.length).map h).sum).sum:=fun E=>by
   induction E with
   | nil=>rfl
   | cons d E ih=>
    rw[Yav,Yav,Yav,YaJ,YaJ,YaJ,ih,Zii h _ A (by rw[YaL];(clear ih e3 e1 hll hl hx ha hp;omega))];show _=(dtT h (d.reverse.take A.length) A+_)+_
    (clear ih e3 e1 hll hl hx ha hp;omega)
  rw[e4]
  (clear e3 e1 hll hl hx ha hp;omega)
def totT (h:TD->Int) (D:List (List TD)):Int:=(D.map fun ds=>(ds.map h).sum).sum
theorem Zce (h:TD->Int) (d:List TD) (E:List (List TD)):totT h (d::E)=(d.map h).sum+totT h E:=by
 unfold totT;rw[Yav,YaJ]
theorem ZfZ (h:TD->Int):∀ {D:List (List TD)}{i:Nat}{ds:List TD},D[i]?=some []->totT h (D.set i ds)=totT h D+(ds.map h).sum
 | [],_,_,e=>by simp at e
 | d::D,0,ds,e=>by
  cases e;show (ds.map h).sum+totT h D=0+totT h D+(ds.map h).sum;omega
 | d::D,i+1,ds,e=>by
  show (d.map h).sum+totT h (D.set i ds)=(d.map h).sum+totT h D+(ds.map h).sum;rw[ZfZ h (by simpa using e)];omega
theorem ZkY (h:TD->Int) (m:Nat) (ds:List TD):(ds.map h).sum=((cutT m ds).map h).sum+((ds.reverse.take m).map h).sum:=by
 unfold cutT;have e:(ds.reverse.take m)=(ds.drop (ds.length - m)).reverse:=by
  rw[YeC]
 rw[e,Yb0,List.sum_reverse,<- Ydy,<- YaP,YaQ]
theorem ZjH {h:TD->Int} (hh:WT h) {D:List (List TD)}{o m:Nat} (ho:D[o]?=some []):totT h (phT D o m)=totT h D:=by
 have e1:totT h (phT D o m)=totT h (D.map (cutT m))+(((Yan m).map fun i=>tm (tkT D m i)).map h).sum:=ZfZ h (by rw[Yaf,ho];simp[cutT]);have e2:(((Yan m).map fun i=>tm (tkT D m i)).map h).sum=(D.map fun ds=>((ds.reverse.take m).map h).sum).sum:=by
  rw[<- ZfN h _ m (by simp)];have e3:=newT hh (Yak m 1) (D.map fun r=>r.reverse.take m);rw[YbD] at e3;have e4:(fun i=>tm (tkT D m i))=fun i=>tm ((D.map fun r=>r.reverse.take m).filterMap (·[i]?)):=funext fun i=>by rw[ZdW]
  rw[e4,e3,YaW];congr 1;refine Ybe fun ds _=>?_;exact ZfN h _ m (by rw[YaL];(clear e3 e1;omega))
 have e5:∀ E:List (List TD),totT h E=totT h (E.map (cutT m))+(E.map fun ds=>((ds.reverse.take m).map h).sum).sum:=fun E=>by
  induction E with
  | nil=>rfl
  | cons d E ih=>
   rw[Yav,Yav,YaJ,Zce,Zce,ih,ZkY h m d]
   (clear ih e2 e1;omega)
 rw[e1,e2,e5 D]
def HasT (D:List (List TD)):Prop:=∃ ds∈D,∃ e,some e∈ds
theorem tm_some {ds:List TD}:(∃ e,tm ds=some e)↔∃ e,some e∈ds:=by
 unfold tm
 cases q:ZaA ds with
 | nil=>
  refine⟨fun ⟨e,z⟩=>(nomatch z),fun ⟨e,z⟩=>?_⟩;have:=realT_mem.mpr z;rw[q] at this;simp at this
 | cons d r=>
  refine⟨fun _=>⟨d,realT_mem.mp (by rw[q];exact YaA)⟩,fun _=>?_⟩;dsimp only;split
  ·exact⟨_,rfl⟩
  ·exact⟨_,rfl⟩
theorem Zl3 {D:List (List TD)}{o m:Nat} (ho:D[o]?=some []):HasT (phT D o m)↔HasT D:=by
 have hi:=(Yab.mp ho).1
 constructor
 ·rintro⟨ds,hds,e,he⟩;rcases YcT hds with z | rfl
  ·obtain⟨ds',h',rfl⟩:=YaV.mp z;exact⟨ds',h',e,Ya4 he⟩
  ·obtain⟨i,_,z⟩:=YaV.mp he;obtain⟨e',h'⟩:=tm_some.mp ⟨e,z⟩;unfold tkT at h';obtain⟨r,hr,h2⟩:=Ybi.mp h';exact⟨r,hr,e',Ybo.mp (Ya4 (Yah h2))⟩
 ·rintro⟨ds,hds,e,he⟩;by_cases z:some e∈ds.reverse.take m
  ·obtain⟨i,hz⟩:=Ybg z;have hm:i<m:=by
    have:=(Yab.mp hz).1
    rw[YaL] at this
    (clear hi;omega)
   obtain⟨e',h'⟩:=tm_some.mpr ⟨e,(show some e∈tkT D m i from Ybi.mpr ⟨ds,hds,hz⟩)⟩;refine⟨_,Yah (i:=o) (show (phT D o m)[o]?=some _ by unfold phT;rw[Ybh (by rw[Yaa];exact hi)]),e',YaV.mpr ⟨i,Ybf.mpr hm,h'⟩⟩
  ·obtain⟨j,hj⟩:=Ybg hds;have hne:j≠o:=fun q=>by rw[q,ho] at hj;cases hj;simp at he
   refine⟨ds.take (ds.length - m),Yah (i:=j) (show (phT D o m)[j]?=some _ by unfold phT;rw[YaY (YbA hne),Yaf,hj];rfl),e,?_⟩;rw[<- YaQ (ds.length - m) ds] at he;rcases Yar.mp he with he | he
   ·exact he
   ·rw[YeC,Ybo] at z;exact absurd he z
def plT:List (List TD)->List (Int × Int)->List (List TD)
 | D,[]=>D
 | D,(o,m)::r=>plT (phT D o.toNat m.toNat) r
def rdTP:List (List TD)->List Int->List (Int × Int)->List Int
 | _,rd,[]=>rd
 | D,rd,(o,m)::r=>rdTP (phT D o.toNat m.toNat) (Ycx (·+·) rd (rdT D m.toNat)) r
def OkP:List (List TD)->List (Int × Int)->Prop
 | _,[]=>True
 | D,(o,m)::r=>(0<=o/\0<=m/\D[o.toNat]?=some []/\∀ i,i<m.toNat->NoCl (tkT D m.toNat i))/\OkP (phT D o.toNat m.toNat) r
theorem Zc4 (D:List (List TD)) (o m:Nat):(phT D o m).length=D.length:=by unfold phT;rw[YbU,Yaa]
theorem Zj5 (ds:List TD):tth ds=(ds.map lenT).sum:=by
 induction ds with
 | nil=>rfl
 | cons d ds ih=>
  rw[Yav,YaJ,<- ih];unfold tth
  cases d with
  | none=>show _=0+_;rw[Ycd];rfl
  | some d=>rfl
theorem Zkq (D:List (List TD)) (m:Nat):(rdT D m).sum=(D.map fun ds=>((ds.reverse.take m).map lenT).sum).sum:=by
 unfold rdT;congr 1;exact Ybe fun ds _=>Zj5 _
theorem Zg9:∀ {a b:List Int},a.length=b.length->(Ycx (·+·) a b).sum=a.sum+b.sum
 | [],[],_=>rfl
 | [],_::_,z=>by simp at z
 | _::_,[],z=>by simp at z
 | x::a,y::b,z=>by
  rw[List.zipWith_cons_cons,YaJ,YaJ,YaJ,Zg9 (by simpa using z)]
  (clear z;omega)
theorem Zgu {p:Nat}{h:TD->Int}:∀ {D:List (List TD)}{W:List (List Int)},(∀ ws∈W,∀ x∈ws,x=0)->ptT h D W=0
 | [],W,_=>by cases W <;> rfl
 | _::_,[],_=>rfl
 | d::D,w::W,z=>by
  rw[ptT,Zgu (p:=p) fun ws hw=>z ws (Yao _ hw),dz d w (z w YaA)];rfl
where
 dz:∀ (d:List TD) (w:List Int),(∀ x∈w,x=0)->dtT h d w=0
  | [],w,_=>by cases w <;> rfl
  | _::_,[],_=>rfl
  | e::d,x::w,z=>by rw[dtT,dz d w fun y hy=>z y (Yao _ hy),z x YaA];omega
theorem ZfR {p a:Nat}:∀ ws∈rot a (Tm p 0),∀ x∈ws,x=0:=fun ws hw x hx=>by
 rw[Zhr,Tm] at hw;have e:tnum p 0=num0 p:=rfl;rw[e] at hw;rcases Yar.mp hw with h | h
 ·unfold num0 at h;rcases Yal.mp h with rfl | h
  ·simpa using hx
  ·have:=List.eq_of_mem_replicate h;rw[this] at hx;simp at hx
 ·have:ws=[]:=by simpa using h
  rw[this] at hx;simp at hx
theorem ZjO {p:Nat} (hp:2<=p) {fl:Bool}:∀ (m t:Nat) (D:List (List TD)),GdD fl D (rot (t % (p+1)) (Tm p m))->OkP D (phL p t m)/\GdD fl (plT D (phL p t m)) (rot ((t+m) % (p+1)) (Tm p 0)) /\
  (∀ rd:List Int,rd.length=D.length->(rdTP D rd (phL p t m)).sum=rd.sum+ptT lenT D (rot (t % (p+1)) (Tm p m)))/\(∀ h,WT h->totT h (plT D (phL p t m))=totT h D)/\(HasT (plT D (phL p t m))↔HasT D)
 | 0,t,D,h=>⟨trivial,h,fun rd _=>by rw[Zgu (p:=p) ZfR];simp[phL,rdTP],fun _ _=>rfl,Iff.rfl⟩
 | m+1,t,D,h=>by
  have ha:t % (p+1)<=p:=by have:=Ydp t (show 0<p+1 by (clear hp;omega));(clear hp;omega)
  obtain⟨f,e1,hn,hc,hG,hpt⟩:=ph58 hp ha h;rw[<- Zf0] at hG hpt;obtain⟨i1,i2,i3,i4,i5⟩:=ZjO hp m (t+1) _ hG;have e2:(phO p t).toNat=p - t % (p+1):=by rw[ZhE,YaN]
  have e3:(hd p m).toNat=f:=by rw[e1,YaN]
  have eP:plT D (phL p t (m+1))=plT (phT D (p - t % (p+1)) f) (phL p (t+1) m):=by rw[phL,plT,e2,e3]
  have et:t+1+m=t+(m+1):=by (clear e3 e2 i5 e1 ha hp;omega)
  rw[et] at i2;rw[eP];refine⟨?_,i2,fun rd hrd=>?_,fun g hg=>(i4 g hg).trans (ZjH hg hn),i5.trans (Zl3 hn)⟩
  ·rw[phL,OkP,e2,e3];exact⟨⟨by rw[ZhE];(clear et e3 e2 i5 e1 ha hp;omega),by rw[e1];(clear et e3 e2 i5 e1 ha hp;omega),hn,hc⟩,i1⟩
  ·rw[phL,rdTP,e2,e3,i3 _ (by rw[Zc4,Yel,rdT,Yaa,hrd];(clear hrd et e3 e2 i5 e1 ha hp;omega)),Zg9 (by rw[rdT,Yaa,hrd]),Zkq,hpt lenT ZhY]
   (clear hrd et e3 e2 i5 e1 ha hp;omega)
theorem ZkV {p:Nat} (hp:2<=p) {a:Nat}{fl:Bool}{D:List (List TD)} (hG:GdD fl D (rot a (Tm p 0))):∃ d,D.flatten=[d]/\GdT fl d 0:=by
 have hlen:∀ {D:List (List TD)}{W:List (List Int)},GdD fl D W->D.flatten.length=W.flatten.length:=fun {D}=>by
  induction D with
  | nil=>intro W h;cases W with
   | nil=>rfl
   | cons=>exact h.elim
  | cons d D ih=>intro W h;cases W with
   | nil=>exact h.elim
   | cons w W=>rw[YaM,YaM,Yai,Yai,ih h.2,h.1.len]
 have h2:(rot a (Tm p 0)).flatten.length=1:=by
  have h3:(Tm p 0).flatten.length=1:=by
   have e:tnum p 0=num0 p:=rfl;unfold Tm;rw[e];simp[num0,YbJ]
  rw[<- YaQ a (Tm p 0),YbL,Yai] at h3;unfold rot;rw[YbL,Yai]
  (clear hp;omega)
 rw[<- hlen hG] at h2;obtain⟨d,e⟩:=YbM.mp h2;refine⟨d,e,?_⟩;have hm:d∈D.flatten:=by rw[e];exact YbW d
 obtain⟨ds,hds,hd⟩:=YbZ.mp hm;obtain⟨i,hi⟩:=Ybg hds;obtain⟨ws,hw,g⟩:=hG.at hi;obtain⟨j,hj⟩:=Ybg hd;obtain⟨x,hx,gx⟩:=g.at hj;rw[ZfR ws (Yah hw) x (Yah hx)] at gx;exact gx
def Zdq (D:List (List TD)):List Int:=((ZaA D.flatten).map (·.2)).flatten
theorem Zfj {g:List Int->Int} (hg:Adds g):∀ D:List (List TD),totT (wT g) D=g (Zdq D)
 | []=>hg.nil.symm
 | ds::D=>by
  have ih:=Zfj hg D;show (ds.map (wT g)).sum+totT (wT g) D=g (Zdq (ds::D));rw[ih,ZeF hg];unfold Zdq ZaA;rw[YaM,Yd9,YaP,YbL,hg.app]
theorem Zmc {p n:Nat} (hp:2<=p) {fl:Bool}{D:List (List TD)} (hG:GdD fl D (Tm p n)):OkP D (phL p 0 n)/\∃ d,(plT D (phL p 0 n)).flatten=[d]/\(∀ rd:List Int,rd.length=D.length->(rdTP D rd (phL p 0 n)).sum=rd.sum+ptT lenT D (Tm p n))/\(d=none↔¬ HasT D)/\∀ e,d=some e->e=(!fl,dirT (!fl) (Zdq D)):=by
 have e0:∀ l:List (List Int),rot (0 % (p+1)) l=l:=fun l=>by rw[Nat.zero_mod];simp[rot]
 obtain⟨i1,i2,i3,i4,i5⟩:=ZjO hp (fl:=fl) n 0 D (by rw[e0];exact hG);obtain⟨d,ed,gd⟩:=ZkV hp i2;rw[e0] at i3;have hh:HasT (plT D (phL p 0 n))↔d≠none:=by
  constructor
  ·rintro⟨ds,hds,e,he⟩ z;have:some e∈(plT D (phL p 0 n)).flatten:=YbZ.mpr ⟨ds,hds,he⟩;rw[ed,YaI,z] at this;cases this
  ·intro z
   cases d with
   | none=>exact absurd rfl z
   | some e=>
    have:some e∈(plT D (phL p 0 n)).flatten:=by rw[ed];exact YbW _
    obtain⟨ds,hds,he⟩:=YbZ.mp this;exact⟨ds,hds,e,he⟩
 refine⟨i1,d,ed,i3,⟨fun z h=>hh.mp (i5.mpr h) z,fun z=>?_⟩,fun e he=>?_⟩
 ·cases d with
  | none=>rfl
  | some e=>exact absurd (i5.mp (hh.mpr (fun q=>by cases q))) z
 ·subst he;obtain⟨u,v⟩:=gd e rfl;have pm:e.2.Perm (Zdq D):=by
   rw[List.perm_iff_count];intro x;have h1:=i4 _ (ZkZ x);rw[Zfj (Zdc x),Zfj (Zdc x)] at h1;have h2:Zdq (plT D (phL p 0 n))=e.2:=by unfold Zdq;rw[ed];simp[ZaA]
   rw[h2] at h1;unfold gc58 at h1
   (clear hh i5 hp;omega)
  have u':e.1 = !fl:=by rw[u];cases fl <;> decide
  have sv:srt e.2=srt (Zdq D):=ZdA ((ZbL _).trans pm) (Zf1 _);rw[u'] at v;refine Yeq u' ?_;show e.2=dirT (!fl) (Zdq D);rw[v];unfold dirT at v ⊢;have:∀ b:Bool,(if b=true then srt e.2 else (srt e.2).reverse)=if b=true then srt (Zdq D) else (srt (Zdq D)).reverse:=fun b=>by rw[sv]
  rw[<- v];rw[v,this]
end Lv
namespace Lv
open PySem L2
theorem Zdl {b:Bool}{K:Yad}{own:List Str}{js:List Nat}{g:TG}{te:TE}{σ:L2.St}{H1:Hp}{Q:VK}{a:Addr}{xs:List V} (Ph:Addr->Nat->Hp->V->Prop) (hq:SqB b K H1 a xs) (hlen:xs.length<=20000)
  (st1:∀ {acc i H H' y},Ph acc i H y->Same H H'->Ph acc i H' y) (st2:∀ {acc i H zs ys y},H acc=some (.lst zs)->Ph acc i H y->Ph acc i (upd H acc (.lst ys)) y)
  (hs:∀ acc,H1 acc=none->∀ (i:Nat) x,xs[i]?=some x->∀ H,Same H1 H->H acc≠none->∀ R:VK,(∀ y H',Same H H'->Ph acc i H' y->R y H')->g x (blkσ own js σ) H fun τ H4=>te τ H4 R)
  (hd:∀ acc ys H,H1 acc=none->H acc=some (.lst ys)->ys.length=xs.length->(∀ (i:Nat) y,ys[i]?=some y->Ph acc i H y)->Same H1 H->Q (.ref acc) H):ZaR own js g ZbZ te σ (ItlB b K a) H1 Q:=by
 refine Zdj (b:=b) (K:=K) (a:=a) (xs:=xs) (fun acc i H=>∃ ys,H acc=some (.lst ys)/\ys.length=i/\(∀ (j:Nat) y,ys[j]?=some y->Ph acc j H y)/\Same H1 H) (fun acc h0=>⟨[],Zab,rfl,fun j y z=>by simp at z,Same.new h0⟩) (fun acc i H h0 _ z=>?_) ?_ ?_
 ·obtain⟨_,_,_,_,s⟩:=z;exact Same.sqB s hq
 ·rintro acc i x H h0 hx ⟨ys,hacc,hl,hP,s1⟩;have hi:=(Yab.mp hx).1
  refine (cast ?_ (hs acc h0 i x hx H s1 (by rw[hacc];exact fun z=>nomatch z) (fun y H6=>∃ zs,H6 acc=some (.lst zs)/\zs.length<sizeLine/\(i+1<=xs.length/\∃ ys,upd H6 acc (.lst (zs++[y])) acc=some (.lst ys)/\ys.length=i+1/\(∀ (j:Nat) y',ys[j]?=some y'->Ph acc j (upd H6 acc (.lst (zs++[y]))) y')/\Same H1 (upd H6 acc (.lst (zs++[y]))))) fun y H6 s6 hy=>?_))
  ·unfold ZbZ;simp only[if_true]
  ·have h6:=s6 _ _ hacc;refine⟨ys,h6,by rw[sizeLine_eq];omega,hi,_,Zab,by simp[hl],fun j y' hj=>?_,(s1.trans s6).put h0⟩;rcases Ybd j ys.length with z | z
   ·rw[Yas z] at hj;exact st2 h6 (st1 (hP j y' hj) s6)
   ·rw[Yax z] at hj;obtain⟨h1,h2⟩:=Yab.mp hj;have:j=i:=by simp at h1;(clear hi hlen;omega)
    subst this;have:y=y':=by simpa using h2
    subst this;exact st2 h6 hy
 ·rintro acc H h0 ⟨ys,hacc,hl,hP,s1⟩;exact hd acc ys H h0 hacc hl hP s1
theorem Zis {own:List Str}{js:List Nat}{g:TG}{te:TE}{σ:L2.St}{H1:Hp}{Q:VK}{lo:Int}{n:Nat} (Ph:Addr->Nat->Hp->V->Prop) (hlen:n<=20000)
  (st1:∀ {acc i H H' y},Ph acc i H y->Same H H'->Ph acc i H' y) (st2:∀ {acc i H zs ys y},H acc=some (.lst zs)->Ph acc i H y->Ph acc i (upd H acc (.lst ys)) y)
  (hs:∀ acc,H1 acc=none->∀ (i:Nat),i<n->∀ H,Same H1 H->H acc≠none->∀ R:VK,(∀ y H',Same H H'->Ph acc i H' y->R y H')->g (.int (lo+i)) (blkσ own js σ) H fun τ H4=>te τ H4 R)
  (hd:∀ acc ys H,H1 acc=none->H acc=some (.lst ys)->ys.length=n->(∀ (i:Nat) y,ys[i]?=some y->Ph acc i H y)->Same H1 H->Q (.ref acc) H):ZaR own js g ZbZ te σ (Itr lo n) H1 Q:=by
 refine ZaT (fun acc i H=>∃ ys,H acc=some (.lst ys)/\ys.length=i/\(∀ (j:Nat) y,ys[j]?=some y->Ph acc j H y)/\Same H1 H) (fun acc h0=>⟨[],Zab,rfl,fun j y z=>by simp at z,Same.new h0⟩) ?_ ?_
 ·rintro acc i H h0 hi ⟨ys,hacc,hl,hP,s1⟩;refine (cast ?_ (hs acc h0 i hi H s1 (by rw[hacc];exact fun z=>nomatch z) (fun y H6=>∃ zs,H6 acc=some (.lst zs)/\zs.length<sizeLine/\(i+1<=n/\∃ ys,upd H6 acc (.lst (zs++[y])) acc=some (.lst ys)/\ys.length=i+1/\(∀ (j:Nat) y',ys[j]?=some y'->Ph acc j (upd H6 acc (.lst (zs++[y]))) y')/\Same H1 (upd H6 acc (.lst (zs++[y]))))) fun y H6 s6 hy=>?_))
  ·unfold ZbZ;simp only[if_true]
  ·have h6:=s6 _ _ hacc;refine⟨ys,h6,by rw[sizeLine_eq];omega,hi,_,Zab,by simp[hl],fun j y' hj=>?_,(s1.trans s6).put h0⟩;rcases Ybd j ys.length with z | z
   ·rw[Yas z] at hj;exact st2 h6 (st1 (hP j y' hj) s6)
   ·rw[Yax z] at hj;obtain⟨h1,h2⟩:=Yab.mp hj;have:j=i:=by simp at h1;(clear hi hlen;omega)
    subst this;have:y=y':=by simpa using h2
    subst this;exact st2 h6 hy
 ·rintro acc H h0 ⟨ys,hacc,hl,hP,s1⟩;exact hd acc ys H h0 hacc hl hP s1
theorem pick {P:Nat->Addr->Prop}:∀ {ys:List V},(∀ (i:Nat) y,ys[i]?=some y->∃ q,y=.ref q/\P i q)->∃ qs:List Addr,ys=qs.map V.ref/\∀ (i:Nat) q,qs[i]?=some q->P i q:=fun {ys}=>by
 induction ys generalizing P with
 | nil=>exact fun _=>⟨[],rfl,fun i q z=>by simp at z⟩
 | cons y ys ih=>
  intro h;obtain⟨q,rfl,hq⟩:=h 0 y rfl;obtain⟨qs,rfl,hqs⟩:=ih (P:=fun i=>P (i+1)) fun i z hz=>h (i+1) z (by simpa using hz);refine⟨q::qs,rfl,fun i r hr=>?_⟩
  cases i with
  | zero=>cases hr;exact hq
  | succ i=>exact hqs i r (by simpa using hr)
theorem Zmt {P:Nat->Addr->List V->Prop}:∀ {qs:List Addr},(∀ (i:Nat) q,qs[i]?=some q->∃ vs,P i q vs)->∃ Vs:List (List V),qs.length=Vs.length/\∀ (i:Nat) q vs,qs[i]?=some q->Vs[i]?=some vs->P i q vs:=fun {qs}=>by
 induction qs generalizing P with
 | nil=>exact fun _=>⟨[],rfl,fun i q vs z=>by simp at z⟩
 | cons q qs ih=>
  intro h;obtain⟨vs,hq⟩:=h 0 q rfl;obtain⟨Vs,hl,hqs⟩:=ih (P:=fun i=>P (i+1)) fun i z hz=>h (i+1) z (by simpa using hz);refine⟨vs::Vs,by rw[Ya3,Ya3,hl],fun i r ws hr hw=>?_⟩
  cases i with
  | zero=>cases hr;cases hw;exact hq
  | succ i=>exact hqs i r ws (by simpa using hr) (by simpa using hw)
def RL (H:Hp) (as:List Addr) (Vs:List (List V)):Prop:=as.length=Vs.length/\∀ (j:Nat) a vs,as[j]?=some a->Vs[j]?=some vs->H a=some (.lst vs)
theorem RL.same {H H':Hp}{as:List Addr}{Vs:List (List V)} (h:RL H as Vs) (s:Same H H'):RL H' as Vs:=⟨h.1,fun j a vs x y=>s _ _ (h.2 j a vs x y)⟩
theorem RL.off {H:Hp}{as:List Addr}{Vs:List (List V)}{a:Addr}{o:HO} (h:RL H as Vs) (n:∀ q∈as,q≠a):RL (upd H a o) as Vs:=⟨h.1,fun j q vs x y=>by rw[upd_ne (n q (Yah x))];exact h.2 j q vs x y⟩
theorem RL.set {H:Hp}{as:List Addr}{Vs:List (List V)}{o:Nat}{q:Addr}{vs:List V} (h:RL H as Vs) (e:H q=some (.lst vs)):RL H (as.set o q) (Vs.set o vs):=⟨by rw[YbU,YbU,h.1],fun j r ws x y=>by
 by_cases z:o=j
 ·subst z;have h1:=(Yab.mp x).1
  rw[YbU] at h1;rw[Ybh h1] at x;rw[Ybh (by rw[<- h.1];exact h1)] at y;cases x;cases y;exact e
 ·rw[YaY z] at x y;exact h.2 j r ws x y⟩
theorem RL.at {H:Hp}{as:List Addr}{Vs:List (List V)} (h:RL H as Vs) {j:Nat}{a:Addr} (e:as[j]?=some a):∃ vs,Vs[j]?=some vs/\H a=some (.lst vs):=by
 have hi:=(Yab.mp e).1
 have hj:j<Vs.length:=by rw[<- h.1];exact hi
 have e2:Vs[j]?=some Vs[j]:=Yae hj;exact⟨_,e2,h.2 j a _ e e2⟩
def TVD (Hb H:Hp) (Vs:List (List V)) (D:List (List TD)):Prop:=Vs.length=D.length/\∀ (j:Nat) vs ds,Vs[j]?=some vs->D[j]?=some ds->TVs Hb H vs ds
theorem TVD.same {Hb H H':Hp}{Vs:List (List V)}{D:List (List TD)} (h:TVD Hb H Vs D) (s:Same H H'):TVD Hb H' Vs D:=⟨h.1,fun j a vs x y=>(h.2 j a vs x y).same s⟩
theorem TVD.base {Hb Hc H:Hp}{Vs:List (List V)}{D:List (List TD)} (h:TVD Hb H Vs D) (s:∀ a,Hb a=none->Hc a=none):TVD Hc H Vs D:=⟨h.1,fun j a vs x y=>(h.2 j a vs x y).base s⟩
theorem TVD.at {Hb H:Hp}{Vs:List (List V)}{D:List (List TD)} (h:TVD Hb H Vs D) {j:Nat}{vs:List V} (e:Vs[j]?=some vs):∃ ds,D[j]?=some ds/\TVs Hb H vs ds:=by
 have hi:=(Yab.mp e).1
 have hj:j<D.length:=by rw[<- h.1];exact hi
 have e2:D[j]?=some D[j]:=Yae hj;exact⟨_,e2,h.2 j vs _ e e2⟩
theorem TVD.map {Hb H:Hp}{Vs:List (List V)}{D:List (List TD)} (h:TVD Hb H Vs D) {f:List V->List V}{g:List TD->List TD} (k:∀ vs ds,TVs Hb H vs ds->TVs Hb H (f vs) (g ds)):TVD Hb H (Vs.map f) (D.map g):=⟨by rw[Yaa,Yaa,h.1],fun j vs ds x y=>by
 rw[Yaf] at x y
 cases e1:Vs[j]? with
 | none=>rw[e1] at x;cases x
 | some v=>
  cases e2:D[j]? with
  | none=>rw[e2] at y;cases y
  | some d=>
   rw[e1] at x;rw[e2] at y;cases x;cases y;exact k _ _ (h.2 j v d e1 e2)⟩
theorem TVD.set {Hb H:Hp}{Vs:List (List V)}{D:List (List TD)}{o:Nat}{vs:List V}{ds:List TD} (h:TVD Hb H Vs D) (e:TVs Hb H vs ds):TVD Hb H (Vs.set o vs) (D.set o ds):=⟨by rw[YbU,YbU,h.1],fun j r ws x y=>by
 by_cases z:o=j
 ·subst z;have h1:=(Yab.mp x).1
  rw[YbU] at h1;rw[Ybh h1] at x;rw[Ybh (by rw[<- h.1];exact h1)] at y;cases x;cases y;exact e
 ·rw[YaY z] at x y;exact h.2 j r ws x y⟩
theorem TVD.uncons {Hb H:Hp}{vs:List V}{Vs:List (List V)}{ds:List TD}{D:List (List TD)} (h:TVD Hb H (vs::Vs) (ds::D)):TVs Hb H vs ds/\TVD Hb H Vs D :=
 ⟨h.2 0 vs ds rfl rfl,by have:=h.1;simpa using this,fun i w e a b=>h.2 (i+1) w e a b⟩
theorem TVD.col {Hb H:Hp} (i:Nat):∀ {Vs:List (List V)}{D:List (List TD)},TVD Hb H Vs D->TVs Hb H (Vs.filterMap (·[i]?)) (D.filterMap (·[i]?))
 | [],[],_=>TVs.nil _ _
 | [],_::_,h=>absurd h.1 (by simp)
 | _::_,[],h=>absurd h.1 (by simp)
 | vs::Vs,ds::D,h=>by
  obtain⟨h1,h2⟩:=h.uncons;have ih:=TVD.col i h2;rw[YaH,YaH];by_cases z:i<vs.length
  ·have z2:i<ds.length:=by rw[<- h1.1];exact z
   have e1:vs[i]?=some vs[i]:=Yae z;have e2:ds[i]?=some ds[i]:=Yae z2;rw[e1,e2];exact TVs.cons (h1.2 i _ _ e1 e2) ih
  ·have e1:vs[i]?=none:=Yca (by omega);have e2:ds[i]?=none:=Yca (by have:=h1.1;omega);rw[e1,e2];exact ih
theorem TVD.flat {Hb H:Hp}:∀ {Vs:List (List V)}{D:List (List TD)},TVD Hb H Vs D->TVs Hb H Vs.flatten D.flatten
 | [],[],_=>TVs.nil _ _
 | [],_::_,h=>absurd h.1 (by simp)
 | _::_,[],h=>absurd h.1 (by simp)
 | vs::Vs,ds::D,h=>by
  obtain⟨h1,h2⟩:=h.uncons;rw[YaM,YaM];exact h1.app h2.flat
theorem TV.put {Hb H:Hp}{v:V}{d:TD}{a:Addr}{zs:List V}{o:HO} (h:TV Hb H v d) (e:H a=some (.lst zs)) (x:Hb a≠none):TV Hb (upd H a o) v d:=by
 cases d with
 | none=>exact h
 | some d=>
  obtain⟨q,t,e1,e2,e3,e4⟩:=h;refine⟨q,t,e1,?_,?_,e4⟩
  ·rw[upd_ne (fun z=>by rw[z,e] at e2;cases e2)];exact e2
  ·rw[upd_ne (fun z=>x (by rw[<- z];exact e4))];exact e3
theorem TVs.put {Hb H:Hp}{vs:List V}{ds:List TD}{a:Addr}{zs:List V}{o:HO} (h:TVs Hb H vs ds) (e:H a=some (.lst zs)) (x:Hb a≠none):TVs Hb (upd H a o) vs ds:=⟨h.1,fun i v d y z=>(h.2 i v d y z).put e x⟩
theorem TVD.put {Hb H:Hp}{vs:List (List V)}{ds:List (List TD)}{a:Addr}{zs:List V}{o:HO} (h:TVD Hb H vs ds) (e:H a=some (.lst zs)) (x:Hb a≠none):TVD Hb (upd H a o) vs ds:=⟨h.1,fun i v d y z=>(h.2 i v d y z).put e x⟩
theorem ZbJ {H:Hp}{a:Addr}{o:HO}:upd H a o a≠none:=by rw[Zab];exact fun z=>nomatch z
theorem Zeh {H H1:Hp}{a t:Addr}{o:HO} (s:Same H1 H) (h:H a≠none) (e:H t=none):upd H1 a o t=none:=by
 rw[upd_ne fun z=>h (by rw[<- z];exact e)];exact s.free e
theorem Zaz {H1:Hp}{a t:Addr}{o:HO} (e:upd H1 a o t=none):H1 t=none:=by
 by_cases z:t=a
 ·rw[z,Zab] at e;cases e
 ·rw[upd_ne z] at e;exact e
theorem TV.old {Hb H:Hp}{v:V}{d:TD}{a:Addr}{o:HO} (h:TV Hb H v d) (e:H a=none):TV (upd Hb a o) H v d:=by
 cases d with
 | none=>exact h
 | some d=>
  obtain⟨q,t,e1,e2,e3,e4⟩:=h;exact⟨q,t,e1,e2,e3,by rw[upd_ne fun z=>by rw[z,e] at e3;cases e3];exact e4⟩
theorem TVD.oldD {Hb H:Hp}{vs:List (List V)}{ds:List (List TD)}{a:Addr}{o:HO} (h:TVD Hb H vs ds) (e:H a=none):TVD (upd Hb a o) H vs ds:=⟨h.1,fun i v d y z=>⟨(h.2 i v d y z).1,fun j w c p q=>((h.2 i v d y z).2 j w c p q).old e⟩⟩
theorem ZbR {b:Bool}{K:Yad}{own:List Str}{js:List Nat}{g:TG}{te:TE}{σ:L2.St}{H1:Hp}{Q:VK}{a:Addr}{xs:List V} (F:Nat->List V) (hq:SqB b K H1 a xs) (hlen:xs.length<=20000)
  (hs:∀ (i:Nat) x,xs[i]?=some x->∀ H,Same H1 H->∀ R:VK,(∀ q H',H q=none->H' q=some (.lst (F i))->Same H H'->R (.ref q) H')->g x (blkσ own js σ) H fun τ H4=>te τ H4 R)
  (hd:∀ acc (qs:List Addr) H,H1 acc=none->H acc=some (.lst (qs.map V.ref))->qs.length=xs.length->(∀ (j:Nat) q,qs[j]?=some q->q≠acc/\H1 q=none/\H q=some (.lst (F j)))->Same H1 H->Q (.ref acc) H):ZaR own js g ZbZ te σ (ItlB b K a) H1 Q:=by
 refine Zdl (fun acc i H y=>∃ q,y=.ref q/\q≠acc/\H1 q=none/\H q=some (.lst (F i))) hq hlen (fun h s=>?_) (fun e h=>?_) (fun acc h0 i x hx H s1 na R hR=>?_) fun acc ys H h0 ha hl hP s1=>?_
 ·obtain⟨q,e,n,f,z⟩:=h;exact⟨q,e,n,f,s _ _ z⟩
 ·obtain⟨q,e1,n,f,z⟩:=h;exact⟨q,e1,n,f,by rw[upd_ne n];exact z⟩
 ·exact hs i x hx H s1 R fun q H' hq hq2 s=>hR _ H' s ⟨q,rfl,fun z=>na (by rw[<- z];exact hq),s1.free hq,hq2⟩
 ·obtain⟨qs,rfl,hqs⟩:=pick hP;exact hd acc qs H h0 ha (by rw[<- hl,Yaa]) hqs s1
theorem Zgo {b:Bool}{K:Yad}{own:List Str}{js:List Nat}{g:TG}{te:TE}{σ:L2.St}{H1:Hp}{Q:VK}{a:Addr}{xs:List V} (F:Nat->TD) (hq:SqB b K H1 a xs) (hlen:xs.length<=20000)
  (hs:∀ (i:Nat) x,xs[i]?=some x->∀ H,Same H1 H->∀ R:VK,(∀ y H',TV H H' y (F i)->Same H H'->R y H')->g x (blkσ own js σ) H fun τ H4=>te τ H4 R)
  (hd:∀ acc ys H,H1 acc=none->H acc=some (.lst ys)->TVs (upd H1 acc (.lst [])) H ys ((Yan xs.length).map F)->Same H1 H->Q (.ref acc) H):ZaR own js g ZbZ te σ (ItlB b K a) H1 Q:=by
 refine Zdl (fun acc i H y=>TV (upd H1 acc (.lst [])) H y (F i)) hq hlen (fun h s=>h.same s) (fun e h=>h.put e ZbJ) (fun acc h0 i x hx H s1 na R hR=>?_) fun acc ys H h0 ha hl hP s1=>?_
 ·exact hs i x hx H s1 R fun y H' h s=>hR _ H' s (h.base fun t ht=>Zeh s1 na ht)
 ·refine hd acc ys H h0 ha ⟨by simp[hl],fun i v d hv hd'=>?_⟩ s1;have hi:i<xs.length:=by rw[<- hl];exact (Yab.mp hv).1
  rw[Yaf,Yby hi] at hd';cases hd';exact hP i v hv
theorem Zir {own:List Str}{js:List Nat}{g:TG}{te:TE}{σ:L2.St}{H1:Hp}{Q:VK}{lo:Int}{n:Nat} (F:Nat->TD) (hlen:n<=20000)
  (hs:∀ (i:Nat),i<n->∀ H,Same H1 H->∀ R:VK,(∀ y H',TV H H' y (F i)->Same H H'->R y H')->g (.int (lo+i)) (blkσ own js σ) H fun τ H4=>te τ H4 R)
  (hd:∀ acc ys H,H1 acc=none->H acc=some (.lst ys)->TVs (upd H1 acc (.lst [])) H ys ((Yan n).map F)->Same H1 H->Q (.ref acc) H):ZaR own js g ZbZ te σ (Itr lo n) H1 Q:=by
 refine Zis (fun acc i H y=>TV (upd H1 acc (.lst [])) H y (F i)) hlen (fun h s=>h.same s) (fun e h=>h.put e ZbJ) (fun acc h0 i hx H s1 na R hR=>?_) fun acc ys H h0 ha hl hP s1=>?_
 ·exact hs i hx H s1 R fun y H' h s=>hR _ H' s (h.base fun t ht=>Zeh s1 na ht)
 ·refine hd acc ys H h0 ha ⟨by simp[hl],fun i v d hv hd'=>?_⟩ s1;have hi:i<n:=by rw[<- hl];exact (Yab.mp hv).1
  rw[Yaf,Yby hi] at hd';cases hd';exact hP i v hv
theorem Zdk {b:Bool}{K:Yad}{own:List Str}{js:List Nat}{g:TG}{te:TE}{σ:L2.St}{H1:Hp}{Q:VK}{a:Addr}{xs:List V} (F:Nat->List TD) (hq:SqB b K H1 a xs) (hlen:xs.length<=20000)
  (hs:∀ (i:Nat) x,xs[i]?=some x->∀ H,Same H1 H->∀ R:VK,(∀ q ys H',H q=none->H' q=some (.lst ys)->TVs H H' ys (F i)->Same H H'->R (.ref q) H')->g x (blkσ own js σ) H fun τ H4=>te τ H4 R)
  (hd:∀ acc (qs:List Addr) (Vs:List (List V)) H,H1 acc=none->H acc=some (.lst (qs.map V.ref))->qs.length=xs.length->RL H qs Vs->(∀ q∈qs,q≠acc/\H1 q=none)->TVD (upd H1 acc (.lst [])) H Vs ((Yan xs.length).map F)->Same H1 H->Q (.ref acc) H):ZaR own js g ZbZ te σ (ItlB b K a) H1 Q:=by
 refine Zdl (fun acc i H y=>∃ q,y=.ref q/\∃ ys,q≠acc/\H1 q=none/\H q=some (.lst ys)/\TVs (upd H1 acc (.lst [])) H ys (F i)) hq hlen (fun h s=>?_) (fun e h=>?_) (fun acc h0 i x hx H s1 na R hR=>?_) fun acc ys H h0 ha hl hP s1=>?_
 ·obtain⟨q,e,ys,n,f,z,t⟩:=h;exact⟨q,e,ys,n,f,s _ _ z,t.same s⟩
 ·obtain⟨q,e1,ys,n,f,z,t⟩:=h;exact⟨q,e1,ys,n,f,by rw[upd_ne n];exact z,t.put e ZbJ⟩
 ·exact hs i x hx H s1 R fun q ys H' hq hq2 t s=>hR _ H' s ⟨q,rfl,ys,fun z=>na (by rw[<- z];exact hq),s1.free hq,hq2,t.base fun t ht=>Zeh s1 na ht⟩
 ·obtain⟨qs,rfl,hqs⟩:=pick hP;obtain⟨Vs,hVl,hVs⟩:=Zmt hqs;have hl':qs.length=xs.length:=by rw[<- hl,Yaa]
  refine hd acc qs Vs H h0 ha hl' ⟨hVl,fun j q vs x y=>(hVs j q vs x y).2.2.1⟩ (fun q hq'=>?_) ⟨by simp[<- hVl,hl'],fun j vs ds x y=>?_⟩ s1
  ·obtain⟨j,hj⟩:=Ybg hq';obtain⟨_,a1,a2,_⟩:=hqs j q hj;exact⟨a1,a2⟩
  ·have hi:j<xs.length:=by rw[<- hl',hVl];exact (Yab.mp x).1
   rw[Yaf,Yby hi] at y;cases y;have hj:qs[j]?=some (qs[j]'(by (clear hVl hl hlen;omega))):=Yae (by (clear hVl hl hlen;omega));exact (hVs j _ vs hj x).2.2.2
theorem _root_.L2.pe_revK (K:Yad) {X:Cx}{e st:Expr}{te:TE}{ts:TO}{pos p2:Pos} (he:PE X e te) (hst:PO X (some st) ts) (hK:X.K=K:=by rfl):PE X (.Subscript e (.Slice none none (some st) p2) pos) (Zlg K te ts):=by subst hK;exact ZeQ he hst
theorem Zdh (xs:List V) (c:Nat):cutV xs none (some (c:Int))=xs.take c:=by
 unfold cutV;show (xs.drop 0).take (HT.sIx xs.length xs.length (some (c:Int)) - 0)=_;rw[HT.sIx_nat,Nat.sub_zero,List.drop_zero];by_cases h:c<=xs.length
 ·rw[Nat.min_eq_left h]
 ·rw[Nat.min_eq_right (by omega),YaR,Ybu (by omega)]
theorem Zgn (xs:List V) (m:Nat):cutV xs none (some (if (0:Int) > (xs.length:Int) - (m:Int) then 0 else (xs.length:Int) - (m:Int)))=cutT m xs:=by
 have e:(if (0:Int) > (xs.length:Int) - (m:Int) then 0 else (xs.length:Int) - (m:Int))=((xs.length - m:Nat):Int):=by
  split <;> omega
 rw[e,Zdh];rfl
theorem Zg0 {g:List Int->Int} (hg:∀ xs,0<=g xs):∀ d:TD,0<=wT g d
 | none=>Ycq _
 | some d=>hg _
theorem Zc7 (d:TD):0<=lenT d:=Zg0 (fun xs=>Int.natCast_nonneg _) d
theorem Zbx:∀ ds:List TD,0<=(ds.map lenT).sum
 | []=>Ycq _
 | d::ds=>by
  have h1:=Zbx ds;have h2:=Zc7 d;rw[Yav,YaJ];omega
theorem Zge:∀ {ds:List TD}{d:TD},d∈ds->lenT d<=(ds.map lenT).sum
 | [],d,h=>by simp at h
 | e::ds,d,h=>by
  rw[Yav,YaJ];rcases Yal.mp h with rfl | h
  ·have:=Zbx ds;omega
  ·have:=Zge h;have:=Zc7 e;omega
theorem Ze7 (m i:Nat):∀ D:List (List TD),((tkT D m i).map lenT).sum<=totT lenT D
 | []=>Ycq _
 | d::D=>by
  have ih:=Ze7 m i D;have h0:=Zbx d;rw[Zce];unfold tkT at ih ⊢;rw[YaH]
  cases e:(d.reverse.take m)[i]? with
  | none=>dsimp only;omega
  | some x=>
   dsimp only;rw[Yav,YaJ];have:=Zge (Ybo.mp (Ya4 (Yah e)))
   (clear h0;omega)
theorem Zgp {D:List (List TD)}{m:Nat} (h:totT lenT D<=15000) (i:Nat):(((ZaA (tkT D m i)).map (·.2)).flatten).length<=15000:=by
 have h1:=Ze7 m i D;unfold lenT at h1;rw[ZeF ZeZ] at h1;unfold lenT at h;have e:∀ xs:List Int,gl58 xs=(xs.length:Int):=fun _=>rfl;rw[e] at h1;omega
def spLW (K:Yad):Sp:=fun vs H Q _=>∃ (p n:Nat) (a:Addr),vs=[.int p,.ref a]/\2<=p/\p<=7/\SqT K H a ((cnt p n).map V.int)/\∀ H',Same H H'->Q (.int n) H'
def SzT (D:List (List TD)):Prop:=D.length<=20/\(∀ r∈D,r.length<=15000)/\totT lenT D<=15000
theorem Zea:∀ (D:List (List TD)) (ps:List (Int × Int)) (o m:Int),plT D (ps++[(o,m)])=phT (plT D ps) o.toNat m.toNat
 | D,[],o,m=>rfl
 | D,(a,b)::ps,o,m=>Zea (phT D a.toNat b.toNat) ps o m
theorem Zc1:∀ (D:List (List TD)) (rd:List Int) (ps:List (Int × Int)) (o m:Int),rdTP D rd (ps++[(o,m)])=Ycx (·+·) (rdTP D rd ps) (rdT (plT D ps) m.toNat)
 | D,rd,[],o,m=>rfl
 | D,rd,(a,b)::ps,o,m=>Zc1 (phT D a.toNat b.toNat) _ ps o m
theorem Zeb:∀ (D:List (List TD)) (ps:List (Int × Int)),(plT D ps).length=D.length
 | D,[]=>rfl
 | D,(a,b)::ps=>by rw[plT,Zeb,Zc4]
theorem Zd8:∀ (D:List (List TD)) (rd:List Int) (ps:List (Int × Int)),rd.length=D.length->(rdTP D rd ps).length=D.length
 | D,rd,[],h=>h
 | D,rd,(a,b)::ps,h=>by rw[rdTP,Zd8 _ _ ps (by rw[Zc4,Yel,rdT,Yaa,h];(clear h;omega)),Zc4]
theorem OkP.at:∀ {D:List (List TD)}{ps:List (Int × Int)}{i:Nat}{o m:Int},OkP D ps->ps[i]?=some (o,m)->0<=o/\0<=m/\(plT D (ps.take i))[o.toNat]?=some []/\∀ j,j<m.toNat->NoCl (tkT (plT D (ps.take i)) m.toNat j)
 | D,[],i,o,m,_,e=>by simp at e
 | D,(a,b)::ps,0,o,m,h,e=>by cases e;exact h.1
 | D,(a,b)::ps,i+1,o,m,h,e=>OkP.at (D:=phT D a.toNat b.toNat) h.2 (i:=i) (by simpa using e)
theorem SzT.ph {D:List (List TD)}{o m:Nat} (h:SzT D) (ho:D[o]?=some []) (hm:m<=15000):SzT (phT D o m):=by
 refine⟨by rw[Zc4];exact h.1,fun r hr=>?_,by rw[ZjH ZhY ho];exact h.2.2⟩;rcases YcT hr with hr | rfl
 ·obtain⟨r',hr',rfl⟩:=YaV.mp hr;have:=h.2.1 r' hr';rw[YaL]
  (clear hm;omega)
 ·simp;exact hm
theorem OkP.sz:∀ {D:List (List TD)}{ps:List (Int × Int)},OkP D ps->SzT D->(∀ q∈ps,q.2<=15000)->∀ i,SzT (plT D (ps.take i))
 | D,ps,_,h,_,0=>by rw[YbQ];exact h
 | D,[],_,h,_,i+1=>h
 | D,(a,b)::ps,ok,h,hb,i+1=>OkP.sz (D:=phT D a.toNat b.toNat) ok.2 (h.ph ok.1.2.2.1 (by have:b<=15000:=hb (a,b) YaA;omega)) (fun q hq=>hb q (Yao _ hq)) i
theorem Zl2 {p:Nat} (hp:2<=p) (n:Nat):hd p n<=tot p n:=by
 have:=ZfY hp n;have h1:tot p n<=tot p (n+1):=ZbK hp (Ycw n);exact Zll (ZbQ p n).2
theorem Zc5 {p:Nat} (hp:2<=p):∀ (m t:Nat),∀ q∈phL p t m,q.2<=tot p m
 | 0,t,q,h=>by simp[phL] at h
 | m+1,t,q,h=>by
  rw[phL] at h;have h1:tot p m<=tot p (m+1):=ZbK hp (Ycw m);rcases Yal.mp h with rfl | h
  ·have:=Zl2 hp m;show hd p m<=_
   (clear hp;omega)
  ·have:=Zc5 hp m (t+1) q h
   (clear hp;omega)
theorem Zej:∀ {xs:List Int}{x:Int},(∀ y∈xs,0<=y)->x∈xs->x<=xs.sum
 | [],x,_,h=>by simp at h
 | y::xs,x,h0,h=>by
  have h1:0<=xs.sum:=nn fun z hz=>h0 z (Yao _ hz);have h2:=h0 y YaA;rw[YaJ];rcases Yal.mp h with rfl | h
  ·(clear h2;omega)
  ·have:=Zej (fun z hz=>h0 z (Yao _ hz)) h
   (clear h1;omega)
where
 nn:∀ {ys:List Int},(∀ z∈ys,0<=z)->0<=ys.sum
  | [],_=>Ycq _
  | y::ys,h=>by
   have h1:=nn fun z hz=>h z (Yao _ hz);have h2:=h y YaA;rw[YaJ];omega
theorem Zbn {α:Type} (l:List α) (d:α):(Yan l.length).map (fun j=>l.getD j d)=l:=by
 refine YeJ (by simp) fun i h1 h2=>?_;rw[List.getElem_map,List.getElem_range,Yat,Yae h2];rfl
theorem RL.snoc {H:Hp}{as:List Addr}{Vs:List (List V)}{q:Addr}{vs:List V} (h:RL H as Vs) (e:H q=some (.lst vs)):RL H (as++[q]) (Vs++[vs]):=⟨by simp[h.1],fun j a ws x y=>by
 by_cases z:j<as.length
 ·rw[Yas z] at x;rw[Yas (by rw[<- h.1];exact z)] at y;exact h.2 j a ws x y
 ·rw[Yax (by omega)] at x;rw[Yax (by rw[<- h.1];omega)] at y;have hj:=(Yab.mp x).1
  have:j - as.length=0:=by simp at hj;(clear z;omega)
  rw[this] at x;rw[<- h.1,this] at y;cases x;cases y;exact e⟩
theorem TVD.snoc {Hb H:Hp}{Vs:List (List V)}{D:List (List TD)}{vs:List V}{ds:List TD} (h:TVD Hb H Vs D) (e:TVs Hb H vs ds):TVD Hb H (Vs++[vs]) (D++[ds]):=⟨by simp[h.1],fun j a ws x y=>by
 by_cases z:j<Vs.length
 ·rw[Yas z] at x;rw[Yas (by rw[<- h.1];exact z)] at y;exact h.2 j a ws x y
 ·rw[Yax (by omega)] at x;rw[Yax (by rw[<- h.1];omega)] at y;have hj:=(Yab.mp x).1
  have:j - Vs.length=0:=by simp at hj;(clear z;omega)
  rw[this] at x;rw[<- h.1,this] at y;cases x;cases y;exact e⟩
theorem ZdP:∀ {i:Nat}{Ws:List (List V)},i<=Ws.length->(∀ (j:Nat) ws,Ws[j]?=some ws->ws.length<=15000)->((Ws.take i).flatten).length<=i*15000
 | 0,Ws,_,_=>by simp
 | i+1,[],h,_=>by simp at h
 | i+1,w::Ws,h,hb=>by
  have h1:=ZdP (i:=i) (Ws:=Ws) (by simpa using h) fun j ws e=>hb (j+1) ws (by simpa using e);have h2:=hb 0 w rfl;rw[List.take_succ_cons,YaM,Yai]
  (clear h;omega)
def Zhl:Sp:=fun vs H Q _=>∃ (Hb:Hp) (l q:Addr) (as:List Addr) (Vs:List (List V)) (D:List (List TD)) (o m:Nat) (g:Int),vs=[.ref l,.ref q,.int g]/\H l=some (.lst (as.map V.ref))/\RL H as Vs/\TVD Hb H Vs D/\(∀ a,H a=none->Hb a=none)/\H q=some (.tup [.int o,.int m])/\D[o]?=some []/\m<=15000/\SzT D/\(∀ i,i<m->NoCl (tkT D m i)) /\
 ∀ t b e bs Ws H',H' t=some (.tup [.ref b,.ref e])->H' b=some (.lst (bs.map V.ref))->RL H' bs Ws->TVD Hb H' Ws (phT D o m)->H' e=some (.lst ((rdT D m).map V.int))->H b=none->H e=none->Same H H'->Q (.ref t) H'
def RLb (b:Bool) (H:Hp) (as:List Addr) (Vs:List (List V)):Prop:=as.length=Vs.length/\∀ (j:Nat) a vs,as[j]?=some a->Vs[j]?=some vs->H a=some (if b then .lst vs else .tup vs)
theorem RLb.at {b:Bool}{H:Hp}{as:List Addr}{Vs:List (List V)} (h:RLb b H as Vs) {j:Nat}{a:Addr} (e:as[j]?=some a):∃ vs,Vs[j]?=some vs/\H a=some (if b then .lst vs else .tup vs):=by
 have hi:=(Yab.mp e).1
 have hj:j<Vs.length:=by rw[<- h.1];exact hi
 have e2:Vs[j]?=some Vs[j]:=Yae hj;exact⟨_,e2,h.2 j a _ e e2⟩
theorem RLb.lst {H:Hp}{as:List Addr}{Vs:List (List V)} (h:RL H as Vs):RLb true H as Vs:=h
def Zfq (K:Yad):Sp:=fun vs H Q _=>∃ (b:Bool) (p n:Nat) (l:Addr) (as:List Addr) (Vs:List (List V)) (D:List (List TD)) (d:TD) (r:List TD),vs=[.int p,.ref l]/\2<=p/\p<=7/\n<=300/\tot p n<=4000/\SqB b K H l (as.map V.ref)/\RLb b H as Vs/\TVD (fun _=>none) H Vs D/\D.map (fun r=>(r.length:Int))=cnt p n/\totT lenT D<=15000/\OkP (D++[[]]) (phL p 0 n)/\(plT (D++[[]]) (phL p 0 n)).flatten=d::r /\
 ∀ t e v H',H' t=some (.tup [v,.ref e])->TV (upd H e (.lst [])) H' v d->H' e=some (.lst ((rdTP (D++[[]]) (Yak (p+1) 0) (phL p 0 n)).map V.int))->H e=none->Same H H'->Q (.ref t) H'
end Lv
namespace L2
open PySem PySem.Spec PyProof.Rows PySem.SeqAt
section
variable {X:Cx}
end
end L2
namespace Lv
open PySem L2
theorem Sm.putL {p q:Addr}{H H2:Hp}{o:HO} (s:Sm p H H2) (h:H q=none):Sm p H (upd H2 q o):=fun b u e n=>by
 rw[L2.upd_ne (Zaf e h)];exact s b u e n
theorem PotT.lst {H:Hp}{p:Addr} (h:PotT H p):∃ zs,H p=some (.lst zs):=by
 obtain⟨a,b,e,_⟩:=h;exact⟨_,e⟩
theorem PotT.some {H:Hp}{p:Addr} (h:PotT H p):H p≠none:=by
 obtain⟨a,b,e,_⟩:=h;rw[e];exact fun z=>nomatch z
theorem PotT.off {H:Hp}{p q:Addr}{o:HO} (h:PotT H p) (hq:q≠p):PotT (upd H q o) p:=by
 obtain⟨a,b,e,r⟩:=h;exact⟨a,b,by rw[L2.upd_ne (YbA hq)];exact e,r⟩
theorem PotT.neB {H:Hp}{p q:Addr}{bs:List Bool} (h:PotT H p) (e:H q=Option.some (.lst (bs.map V.bl))):q≠p:=fun z=>by
 obtain⟨a,b,e2,_⟩:=h;rw[z,e2] at e;injection e with e;injection e with e
 cases bs with
 | nil=>cases e
 | cons x xs=>cases e
theorem PotT.neR {H:Hp}{p q:Addr}{as:List Addr} (h:PotT H p) (e:H q=Option.some (.lst (as.map V.ref))):q≠p:=fun z=>by
 obtain⟨a,b,e2,_⟩:=h;rw[z,e2] at e;injection e with e;injection e with e
 cases as with
 | nil=>cases e
 | cons x xs=>cases e
theorem TV.sm {Hb H H':Hp}{v:V}{d:TD}{p:Addr} (h:TV Hb H v d) (s:Sm p H H') (hp:PotT H p) (x:Hb p≠none):TV Hb H' v d:=by
 cases d with
 | none=>exact h
 | some d=>
  obtain⟨q,t,e1,e2,e3,e4⟩:=h;obtain⟨zs,hz⟩:=hp.lst;refine⟨q,t,e1,s _ _ e2 fun z=>?_,s _ _ e3 fun z=>x (by rw[<- z];exact e4),e4⟩;rw[z,hz] at e2;cases e2
theorem TVs.sm {Hb H H':Hp}{vs:List V}{ds:List TD}{p:Addr} (h:TVs Hb H vs ds) (s:Sm p H H') (hp:PotT H p) (x:Hb p≠none):TVs Hb H' vs ds:=⟨h.1,fun i v d y z=>(h.2 i v d y z).sm s hp x⟩
theorem TVD.sm {Hb H H':Hp}{vs:List (List V)}{ds:List (List TD)}{p:Addr} (h:TVD Hb H vs ds) (s:Sm p H H') (hp:PotT H p) (x:Hb p≠none):TVD Hb H' vs ds:=⟨h.1,fun i v d y z=>(h.2 i v d y z).sm s hp x⟩
theorem TVs.snoc {Hb H:Hp}{vs:List V}{ds:List TD}{v:V}{d:TD} (h:TVs Hb H vs ds) (e:TV Hb H v d):TVs Hb H (vs++[v]) (ds++[d]):=h.app (TVs.cons e (TVs.nil _ _))
theorem RL.sm {H H':Hp}{as:List Addr}{Vs:List (List V)}{p:Addr} (h:RL H as Vs) (s:Sm p H H') (n:∀ q∈as,q≠p):RL H' as Vs:=⟨h.1,fun j a vs x y=>s _ _ (h.2 j a vs x y) (n a (Yah x))⟩
theorem GdD.snoc {fl:Bool}:∀ {D:List (List TD)}{W:List (List Int)}{ds:List TD}{ws:List Int},GdD fl D W->GdR fl ds ws->GdD fl (D++[ds]) (W++[ws])
 | [],[],_,_,_,k=>⟨k,trivial⟩
 | [],_::_,_,_,h,_=>h.elim
 | _::_,[],_,_,h,_=>h.elim
 | d::D,w::W,_,_,h,k=>⟨h.1,GdD.snoc h.2 k⟩
theorem ZgU {own:List Str}{js:List Nat}{g:TG}{te:TE}{σ:L2.St}{H1:Hp}{Q:VK}{lo:Int}{n:Nat}{pl:Addr} (hp:PotT H1 pl) (hn:n<=20000)
  (hs:∀ (i:Nat) H,i<n->PotT H pl->Sm pl H1 H->∀ R:VK,(∀ (d:Int) H',PotT H' pl->Sm pl H H'->R (.int d) H')->g (.int (lo+(i:Int))) (blkσ own js σ) H fun τ H4=>te τ H4 R)
  (hd:∀ acc (ds:List Int) H,H1 acc=none->H acc=some (.lst (ds.map V.int))->ds.length=n->PotT H pl->Sm pl H1 H->Q (.ref acc) H):ZaR own js g ZbZ te σ (Itr lo n) H1 Q:=by
 refine ZaT (fun acc i H=>∃ ds:List Int,H acc=some (.lst (ds.map V.int))/\ds.length=i/\PotT H pl/\Sm pl H1 H) (fun acc h0=>⟨[],Zab,rfl,hp.put h0,Sm.new h0⟩) ?_ ?_
 ·rintro acc i H h0 hi ⟨ds,hacc,hl,hp2,s2⟩;have ha:acc≠pl:=hp.ne h0;refine (cast ?_ (hs i H hi hp2 s2 (fun y H6=>∃ zs,H6 acc=some (.lst zs)/\zs.length<sizeLine/\(i+1<=n/\∃ ds:List Int,upd H6 acc (.lst (zs++[y])) acc=some (.lst (ds.map V.int))/\ds.length=i+1/\PotT (upd H6 acc (.lst (zs++[y]))) pl/\Sm pl H1 (upd H6 acc (.lst (zs++[y]))))) fun d H6 hp6 s6=>?_))
  ·unfold ZbZ;simp only[if_true]
  ·have h6:=s6 _ _ hacc ha;exact⟨_,h6,by rw[sizeLine_eq,Yaa];(clear ha;omega),hi,ds++[d],by rw[Zab];simp,by simp[hl],hp6.off ha,(s2.trans s6).putL h0⟩
 ·rintro acc H h0 ⟨ds,hacc,hl,hp2,s2⟩;exact hd acc ds H h0 hacc hl hp2 s2
theorem Zj8 {D:List (List TD)} (h:∀ r∈D,∀ e,some e∈r->e.2.length<=3):totT lenT D<=3*(D.flatten.length:Int):=by
 have aux:∀ ds:List TD,(∀ e,some e∈ds->e.2.length<=3)->(ds.map lenT).sum<=3*(ds.length:Int):=fun ds=>by
  induction ds with
  | nil=>exact fun _=>Ycq _
  | cons d ds ih=>
   intro hd;have h1:=ih fun e he=>hd e (Yao _ he);have h2:lenT d<=3:=by
    cases d with
    | none=>decide
    | some e=>
     have:=hd e YaA;show gl58 e.2<=3;unfold gl58
     (clear h1 ih;omega)
   rw[Yav,YaJ,Ya3]
   (clear ih;omega)
 induction D with
 | nil=>exact Ycq _
 | cons d D ih=>
  have h1:=ih fun r hr=>h r (Yao _ hr);have h2:=aux d (h d YaA);rw[Zce,YaM,Yai]
  (clear ih;omega)
theorem GdD.flen {fl:Bool}:∀ {D:List (List TD)}{W:List (List Int)},GdD fl D W->D.flatten.length=W.flatten.length
 | [],[],_=>rfl
 | [],_::_,h=>h.elim
 | _::_,[],h=>h.elim
 | d::D,w::W,h=>by rw[YaM,YaM,Yai,Yai,GdD.flen h.2,h.1.len]
theorem GdD.lens {fl:Bool}:∀ {D:List (List TD)}{W:List (List Int)},GdD fl D W->D.map (fun r=>(r.length:Int))=Zcx W
 | [],[],_=>rfl
 | [],_::_,h=>h.elim
 | _::_,[],h=>h.elim
 | d::D,w::W,h=>by
  have:=GdD.lens h.2;unfold Zcx at this ⊢;rw[Yav,Yav,this,h.1.len]
theorem ZkW (up:Bool) (xs:List Int):(dirT up xs).length=xs.length:=by
 unfold dirT;have:=(ZbL xs).length_eq;split <;> simp[this]
def Zfp:Sp:=fun vs H Q _=>∃ (l:Addr) (xs:List Int) (up:Bool),vs=[.ref l,.bl up]/\H l=some (.lst (xs.map V.int))/\∀ l' H',H l'=none->H' l'=some (.lst ((dirT up xs).map V.int))->Same H H'->Q (.ref l') H'
end Lv
namespace Lv
open PySem L2
end Lv
namespace Lv
open PySem L2
def ordT (p a:Nat):List Nat:=(Yan p).map fun j=>if j<a then j+(p+1 - a) else j - a
theorem Zi9 {p a j:Nat} (h:j<p):(ordT p a)[j]?=some (if j<a then j+(p+1 - a) else j - a):=by
 unfold ordT;rw[Yaf,Yby h];rfl
def endT (p a:Nat):Nat:=if a=p then p else p - a - 1
theorem ZlQ {p:Nat} (hp:2<=p) {k a:Nat} (ha:a<=p) {fl:Bool}{D:List (List TD)} (hG:GdD fl D (rot a (Tm p (k+1)))) {f:Nat} (hf:hd p k=f):D.length=p+1/\(∀ i,i<=p->i≠p - a->f<=(D.getD i []).length)/\(D.getD (endT p a) []).length=f:=by
 have hl:=hG.len;have hll:(rot a (Tm p (k+1))).length=p+1:=by rw[Zd6,ZbU hp]
 have hpl:=Za0 (show 1<=p by (clear hll hl hf ha;omega)) k;obtain⟨A,r,e⟩:∃ A r,tnum p k=A::r:=by
  cases q:tnum p k with
  | nil=>rw[q] at hpl;simp at hpl;(clear hll hl hf ha;omega)
  | cons A r=>exact⟨A,r,rfl⟩
 have hr:r.length+1=p:=by rw[e] at hpl;simpa using hpl
 have hx:hd p k=(A.length:Nat):=by
  unfold hd;rw[<- ZaW (show 1<=p by (clear hr hpl hll hl hf ha;omega)),e];rfl
 have hfA:f=A.length:=by (clear hr hpl hll hl ha hp;omega)
 have e2:tnum p (k+1)=(r++[[]]).map (·++(A.map (·+1)).reverse):=by
  show ZeS (tnum p k)=_;rw[e,<- Yb0];rfl
 have at_:∀ {i:Nat},i<=p->∃ W,(rot a (Tm p (k+1)))[i]?=some W/\(D.getD i []).length=W.length:=fun {i} hi=>by
  have hi2:i<D.length:=by (clear hfA hx hr hpl hf ha hp;omega)
  obtain⟨W,h1,h2⟩:=hG.at (Yae hi2);exact⟨W,h1,by rw[Yat,Yae hi2];exact h2.len⟩
 refine⟨by (clear hfA hx hr hpl hf ha hp;omega),fun i hi hne=>?_,?_⟩
 ·obtain⟨W,h1,h2⟩:=at_ hi;have hm:=Zhq ha (Za0 (by (clear h2 hne hi hfA hx hr hpl hll hl hf ha;omega)) (k+1)) h1 hne;rw[e2] at hm;obtain⟨y,_,rfl⟩:=YaV.mp hm;rw[h2,hfA];simp
 ·have he:endT p a<=p:=by unfold endT;split <;> (clear hfA hx hr hpl hll hl hf ha hp;omega)
  obtain⟨W,h1,h2⟩:=at_ he;have h3:(rot a (Tm p (k+1)))[endT p a]?=(Tm p (k+1))[p - 1]?:=by
   have hll2:=ZbU hp (k+1);unfold rot endT;by_cases z:a=p
   ·rw[if_pos z,Yax (by rw[YaU];(clear h2 he hfA hx hr hpl hll hl hf ha;omega)),YaU,hll2,Ya9 (by (clear hll2 h2 he hfA hx hr hpl hll hl hf ha;omega))];congr 1
    (clear hll2 h2 he hfA hx hr hpl hll hl hf ha hp;omega)
   ·rw[if_neg z,Yas (by rw[YaU];(clear z h2 he hfA hx hr hpl hll hl hf hp;omega)),YbF];congr 1
    (clear hll2 h2 he hfA hx hr hpl hll hl hf hp;omega)
  have h4:(Tm p (k+1))[p - 1]?=some ((A.map (·+1)).reverse):=by
   unfold Tm;rw[e2,Yas (by simp;(clear h2 he hfA hx hpl hll hl hf ha hp;omega)),Yaf,Yax (by (clear h2 he hfA hx hpl hll hl hf ha hp;omega)),show p - 1 - r.length=0 by (clear h2 he hfA hx hpl hll hl hf ha hp;omega)];rfl
  rw[h3,h4] at h1;cases h1;rw[h2,hfA];simp
end Lv
namespace Lv
open PySem L2
theorem ZmH {p a:Nat} (hp:2<=p) (ha:a<=p) {fl:Bool}{D:List (List TD)}{d:TD}{r:List TD} (hG:GdD fl D (rot a (Tm p 0))) (hd:D.flatten=d::r):∃ i,(ordT p a)[0]?=some i/\D[i]?=some [d]:=by
 have hl:=hG.len;have hll:(rot a (Tm p 0)).length=p+1:=by rw[Zd6,ZbU hp]
 refine⟨_,Zi9 (by (clear hll hl ha;omega)),?_⟩;generalize hi:(if 0<a then 0+(p+1 - a) else 0 - a)=i;have hip:i<=p:=by rw[<- hi];split <;> (clear hi hll hl ha hp;omega)
 have h1:i<D.length:=by (clear hi ha hp;omega)
 obtain⟨W,e1,e2⟩:=hG.at (Yae h1);have h3:(rot a (Tm p 0))[i]?=(Tm p 0)[0]?:=by
  have hll2:=ZbU hp 0;unfold rot;by_cases z:0<a
  ·rw[if_pos z] at hi;rw[Yax (by rw[YaU];(clear z hip hll hl ha hp;omega)),YaU,hll2,Ya9 (by (clear z hll2 hip ha hp;omega))];congr 1
   (clear z hll2 hip hll hl ha hp;omega)
  ·rw[if_neg z] at hi;rw[Yas (by rw[YaU];(clear z hip hll hl hp;omega)),YbF];congr 1
   (clear hll2 hip hll hl ha hp;omega)
 have h4:(Tm p 0)[0]?=some [0]:=rfl;rw[h3,h4] at e1;cases e1;obtain⟨x,hx⟩:=YbM.mp e2.len;obtain⟨d',ed,_⟩:=ZkV hp hG;rw[ed] at hd;injection hd with hd _;have hm:x∈D.flatten:=YbZ.mpr ⟨D[i],Ycl h1,by rw[hx];exact YbW _⟩;rw[ed,YaI] at hm;rw[Yae h1,hx,hm,hd]
end Lv
namespace Lv
open PySem L2
end Lv
namespace Lv
open PySem L2
end Lv
namespace Lv
open PySem L2
end Lv
namespace Lv
open PySem L2
end Lv
namespace Lv
open PySem L2
instance decNoCl (ds:List TD):Decidable (NoCl ds):=by unfold NoCl;infer_instance
def fstC (D:List (List TD)) (m:Nat):Option Nat:=(Yan m).find? fun i=>!decide (NoCl (tkT D m i))
theorem fstC_none {D:List (List TD)}{m:Nat}:fstC D m=none↔∀ i,i<m->NoCl (tkT D m i):=by
 unfold fstC;rw[List.find?_eq_none];constructor
 ·intro h i hi;have:=h i (Ybf.mpr hi);simpa using this
 ·intro h i hi;have:=h i (Ybf.mp hi);simpa using this
theorem Zib {D:List (List TD)}{m c:Nat} (h:fstC D m=some c):c<m/\¬ NoCl (tkT D m c)/\∀ i,i<c->NoCl (tkT D m i):=by
 unfold fstC at h;rw[List.find?_range_eq_some] at h;obtain⟨h1,h2,h3⟩:=h;refine⟨Ybf.mp h2,by simpa using h1,fun i hi=>?_⟩;have:=h3 i hi;simpa using this
def clP:List (List TD)->Nat->List (Int × Int)->Option Nat
 | _,_,[]=>none
 | D,g,(o,m)::r=>match fstC D m.toNat with
  | some i=>some (g+i)
  | none=>clP (phT D o.toNat m.toNat) (g+m.toNat) r
def OkS:List (List TD)->List (Int × Int)->Prop
 | _,[]=>True
 | D,(o,m)::r=>(0<=o/\0<=m/\D[o.toNat]?=some [])/\OkS (phT D o.toNat m.toNat) r
theorem ZhQ:∀ {ps:List (Int × Int)}{D:List (List TD)}{g:Nat},OkS D ps->clP D g ps=none->OkP D ps
 | [],_,_,_,_=>trivial
 | (o,m)::r,D,g,h,k=>by
  unfold clP at k
  cases e:fstC D m.toNat with
  | some i=>rw[e] at k;cases k
  | none=>
   rw[e] at k;exact⟨⟨h.1.1,h.1.2.1,h.1.2.2,fstC_none.mp e⟩,ZhQ h.2 k⟩
theorem Zgr:∀ {ps:List (Int × Int)}{D:List (List TD)}{g:Nat},OkP D ps->clP D g ps=none
 | [],_,_,_=>rfl
 | (o,m)::r,D,g,h=>by
  unfold clP;rw[fstC_none.mpr h.1.2.2.2];exact Zgr h.2
theorem OkS.at:∀ {D:List (List TD)}{ps:List (Int × Int)}{i:Nat}{o m:Int},OkS D ps->ps[i]?=some (o,m)->0<=o/\0<=m/\(plT D (ps.take i))[o.toNat]?=some []
 | D,(o',m')::r,0,o,m,h,e=>by cases e;exact h.1
 | D,(o',m')::r,i+1,o,m,h,e=>OkS.at (D:=phT D o'.toNat m'.toNat) (ps:=r) (i:=i) h.2 (by simpa using e)
theorem OkS.sz:∀ {D:List (List TD)}{ps:List (Int × Int)},OkS D ps->SzT D->(∀ q∈ps,q.2<=15000)->∀ i,SzT (plT D (ps.take i))
 | D,[],_,h,_,i=>by rw[YdT];exact h
 | D,q::r,_,h,_,0=>by rw[YbQ];exact h
 | D,(o,m)::r,k,h,hp,i+1=>OkS.sz (ps:=r) k.2 (h.ph k.1.2.2 (by have:=hp _ YaA;omega)) (fun q hq=>hp q (Yao _ hq)) i
theorem Zjz {D:List (List TD)}{ps:List (Int × Int)}{g t:Nat}{o m:Int} (e:ps[t]?=some (o,m)):clP D g (ps.drop t)=match fstC D m.toNat with
  | some i=>some (g+i)
  | none=>clP (phT D o.toNat m.toNat) (g+m.toNat) (ps.drop (t+1)):=by
 obtain⟨h1,h2⟩:=Yab.mp e;rw[YdN h1,h2];rfl
def strp (D:List (List TD)):List (List TD):=D.map fun r=>r.map fun _=>none
theorem ZcK (D:List (List TD)):(strp D).length=D.length:=by simp[strp]
theorem strp_get {D:List (List TD)}{i:Nat}:(strp D)[i]?=some []↔D[i]?=some []:=by
 unfold strp;rw[Yaf]
 cases D[i]? with
 | none=>simp
 | some r=>simp
theorem Zhe (D:List (List TD)) (i:Nat):((strp D).getD i []).length=(D.getD i []).length:=by
 unfold strp;rw[Yat,Yat,Yaf]
 cases D[i]? with
 | none=>rfl
 | some r=>simp
theorem ZiM {ds:List TD} (h:∀ d∈ds,d=none):tm ds=none:=by
 have e:ZaA ds=[]:=by
  cases q:ZaA ds with
  | nil=>rfl
  | cons e r=>
   have:some e∈ds:=realT_mem.mp (by rw[q];exact YaA);exact absurd (h _ this) (by simp)
 unfold tm;rw[e]
theorem Zfn (D:List (List TD)) (o m:Nat):strp (phT D o m)=phT (strp D) o m:=by
 unfold phT strp;rw[Yd6,YaW,YaW,YaW];congr 1
 ·refine Ybe fun r _=>?_;simp
 ·refine Ybe fun i _=>?_;refine (ZiM fun d hd=>?_).symm;unfold tkT at hd;obtain⟨r,hr,h2⟩:=Ybi.mp hd;obtain⟨r',_,rfl⟩:=YaV.mp hr;have:=Ybo.mp (Ya4 (Yah h2));obtain⟨_,_,z⟩:=YaV.mp this;exact z.symm
theorem Zhc:∀ (ps:List (Int × Int)) (D:List (List TD)),strp (plT D ps)=plT (strp D) ps
 | [],_=>rfl
 | (o,m)::r,D=>by rw[plT,plT,Zhc r,Zfn]
theorem OkP.unstrp:∀ {ps:List (Int × Int)}{D:List (List TD)},OkP (strp D) ps->OkS D ps
 | [],_,_=>trivial
 | (o,m)::r,D,h=>⟨⟨h.1.1,h.1.2.1,strp_get.mp h.1.2.2.1⟩,OkP.unstrp (by rw[Zfn];exact h.2)⟩
theorem GdT.non {fl:Bool}{x:Int}:GdT fl none x:=fun e z=>nomatch z
theorem Zhb (D:List (List TD)):strp (D++[[]])=strp D++[[]]:=by simp[strp]
theorem Zlw {p n:Nat} (hp:2<=p) {D:List (List TD)} (hG:GdD true (strp D) (tnum p n)):OkS (D++[[]]) (phL p 0 n)/\GdD true (strp (D++[[]])) (Tm p n)/\∃ d,(plT (D++[[]]) (phL p 0 n)).flatten=[d]:=by
 have h0:GdD true (strp (D++[[]])) (Tm p n):=by
  rw[Zhb];exact GdD.snoc hG trivial
 obtain⟨a,d,e,_⟩:=Zmc hp h0;refine⟨OkP.unstrp a,h0,?_⟩;have hl:((plT (D++[[]]) (phL p 0 n)).flatten).length=1:=by
  have e1:=congrArg YbK e;rw[<- Zhc] at e1;unfold strp at e1;have e2:∀ E:List (List TD),((E.map fun r=>r.map fun _=>(none:TD)).flatten).length=E.flatten.length:=fun E=>by
   simp[YbJ,YaW,YcN]
  rw[e2] at e1;exact e1
 exact YbM.mp hl
theorem ZmI {p a:Nat} (hp:2<=p) (ha:a<=p) {D:List (List TD)} (hG:GdD true (strp D) (rot a (Tm p 0))):∃ i d,(ordT p a)[0]?=some i/\D[i]?=some [d]/\D.flatten=[d]:=by
 obtain⟨d',ed,_⟩:=ZkV hp hG;obtain⟨i,hi,hDi⟩:=ZmH hp ha hG ed;unfold strp at hDi;rw[Yaf] at hDi
 cases e:D[i]? with
 | none=>rw[e] at hDi;cases hDi
 | some ds=>
  rw[e] at hDi;have h1:ds.map (fun _=>(none:TD))=[d']:=Yau hDi;have h2:=congrArg YbK h1;rw[Yaa] at h2;obtain⟨d,rfl⟩:=YbM.mp h2;refine⟨i,d,hi,e,?_⟩;have e1:=congrArg YbK ed;have e2:∀ E:List (List TD),((E.map fun r=>r.map fun _=>(none:TD)).flatten).length=E.flatten.length:=fun E=>by
   simp[YbJ,YaW,YcN]
  unfold strp at e1;rw[e2] at e1;obtain⟨x,hx⟩:=YbM.mp e1;have hm:d∈D.flatten:=YbZ.mpr ⟨[d],Yah e,YbW _⟩;rw[hx,YaI] at hm;rw[hx,hm]
end Lv
namespace Lv
open PySem L2
def wyT (h:Bool->Bool) (d:TD):TD:=d.map fun e=>(h e.1,([]:List Int))
def wyD (h:Bool->Bool) (D:List (List TD)):List (List TD):=D.map fun r=>r.map (wyT h)
theorem ZdX:srt ([]:List Int)=[]:=List.perm_nil.mp (ZbL [])
theorem ZcS (h:Bool->Bool):∀ ds:List TD,ZaA (ds.map (wyT h))=(ZaA ds).map fun e=>(h e.1,([]:List Int))
 | []=>rfl
 | none::ds=>by
  have ih:=ZcS h ds;show ZaA (ds.map (wyT h))=(ZaA ds).map _;exact ih
 | some e::ds=>by
  have ih:=ZcS h ds;show (h e.1,[])::ZaA (ds.map (wyT h))=(h e.1,[])::(ZaA ds).map _;rw[ih]
theorem ZkI {h:Bool->Bool} (hh:∀ b,h (!b) = !(h b)) (ds:List TD):NoCl (ds.map (wyT h))↔NoCl ds:=by
 unfold NoCl;rw[ZcS,YaW];have hf:h true = !(h false):=hh false;have e:(ZaA ds).map ((fun x=>x.1) ∘ fun e:Bool × List Int=>(h e.1,([]:List Int)))=((ZaA ds).map (·.1)).map h:=by rw[YaW];rfl
 rw[e];generalize (ZaA ds).map (·.1)=l;have m:∀ b:Bool,b∈l.map h↔(if h b=b then b∈l else (!b)∈l):=fun b=>by
  rw[YaV];constructor
  ·rintro⟨a,ha,rfl⟩;cases a <;> cases h0:h false <;> rw[h0] at hf <;> simp_all
  ·intro z;split at z
   ·next w=>exact⟨b,z,w⟩
   ·next w=>
    refine⟨!b,z,?_⟩;rw[hh];cases b <;> cases h0:h false <;> rw[h0] at hf <;> simp_all
 rw[m,m]
 cases h0:h false with
 | true=>
  rw[h0] at hf;simp[hf];exact⟨fun z x y=>z y x,fun z x y=>z y x⟩
 | false=>
  rw[h0] at hf;simp[hf]
theorem Zmf {h:Bool->Bool} (hh:∀ b,h (!b) = !(h b)) (ds:List TD):tm (ds.map (wyT h))=wyT h (tm ds):=by
 unfold tm;rw[ZcS];have hf:∀ l:List (Bool × List Int),((l.map fun e=>(h e.1,([]:List Int))).map (·.2)).flatten=[]:=fun l=>by
  rw[YdW];intro x hx;obtain⟨y,hy,rfl⟩:=YaV.mp hx;obtain⟨z,_,rfl⟩:=YaV.mp hy;rfl
 cases ZaA ds with
 | nil=>rfl
 | cons d r=>
  have e:=hf (d::r);rw[Yav] at e ⊢;dsimp only;rw[e,ZdX];have h1:=hh d.1
  cases hd:d.1 with
  | true=>
   rw[hd] at h1;cases q:h true <;> rw[q] at h1 <;> simp[wyT,q] <;> simp_all
  | false=>
   rw[hd] at h1;cases q:h false <;> rw[q] at h1 <;> simp[wyT,q] <;> simp_all
theorem ZjK (h:Bool->Bool) (D:List (List TD)) (m i:Nat):tkT (wyD h D) m i=(tkT D m i).map (wyT h):=by
 unfold tkT wyD;rw[Yb4,List.map_filterMap];congr 1
 funext r
 show ((r.map (wyT h)).reverse.take m)[i]?=((r.reverse.take m)[i]?).map (wyT h);rw[<- Yb0,<- List.map_take,Yaf]
theorem ZjQ {h:Bool->Bool} (hh:∀ b,h (!b) = !(h b)) (D:List (List TD)) (o m:Nat):phT (wyD h D) o m=wyD h (phT D o m):=by
 have e:((Yan m).map fun i=>tm (tkT (wyD h D) m i))=((Yan m).map fun i=>tm (tkT D m i)).map (wyT h):=by
  rw[YaW];exact Ybe fun i _=>by rw[ZjK,Zmf hh];rfl
 unfold phT;rw[e];unfold wyD;rw[Yd6,YaW];congr 1;rw[YaW];exact Ybe fun r _=>by simp
theorem ZjP {h:Bool->Bool} (hh:∀ b,h (!b) = !(h b)):∀ (ps:List (Int × Int)) (D:List (List TD)),plT (wyD h D) ps=wyD h (plT D ps)
 | [],_=>rfl
 | (o,m)::r,D=>by rw[plT,plT,ZjQ hh,ZjP hh r]
theorem ZkS {h:Bool->Bool} (hh:∀ b,h (!b) = !(h b)) (D:List (List TD)) (m:Nat):fstC (wyD h D) m=fstC D m:=by
 unfold fstC;congr 1
 funext i
 rw[ZjK];congr 1;rw[decide_eq_decide];exact ZkI hh _
theorem Zgq {h:Bool->Bool} (hh:∀ b,h (!b) = !(h b)):∀ (ps:List (Int × Int)) (D:List (List TD)) (g:Nat),clP (wyD h D) g ps=clP D g ps
 | [],_,_=>rfl
 | (o,m)::r,D,g=>by
  unfold clP;rw[ZkS hh]
  cases fstC D m.toNat with
  | some i=>rfl
  | none=>rw[ZjQ hh];exact Zgq hh r _ _
def AllE (E:List (List TD)):Prop:=∀ r∈E,∀ d∈r,∃ b,d=some (b,([]:List Int))
theorem Zia {fl b:Bool}{x:Int}:GdT fl (some (b,([]:List Int))) x↔b=(evB x != fl):=by
 constructor
 ·intro h;exact (h _ rfl).1
 ·rintro h e ⟨⟩;refine⟨h,?_⟩;unfold dirT;rw[ZdX];split <;> rfl
theorem Zhg {D:List (List TD)}{W:List (List Int)} (h:GdD true (strp D) W) {i:Nat}{ds:List TD} (e:D[i]?=some ds):∃ ws,W[i]?=some ws/\ds.length=ws.length:=by
 obtain⟨ws,e1,e2⟩:=h.at (show (strp D)[i]?=some (ds.map fun _=>none) by unfold strp;rw[Yaf,e];rfl);exact⟨ws,e1,by have:=e2.len;rwa [Yaa] at this⟩
theorem ZjJ {ds:List TD}{b:Bool} (hb:some (b,([]:List Int))∈ds) (hn:NoCl ds) (ha:∀ d∈ds,∃ b,d=some (b,([]:List Int))):tm ds=some (!b,[]):=by
 have hm:(b,([]:List Int))∈ZaA ds:=realT_mem.mpr hb;have hall:∀ e∈ZaA ds,e=(b,([]:List Int)):=fun e he=>by
  obtain⟨b',e'⟩:=ha _ (realT_mem.mp he);cases e';have h1:b'∈(ZaA ds).map (·.1):=YaV.mpr ⟨_,he,rfl⟩;have h2:b∈(ZaA ds).map (·.1):=YaV.mpr ⟨_,hm,rfl⟩;cases b <;> cases b' <;> first | rfl | exact (hn ⟨h1,h2⟩).elim | exact (hn ⟨h2,h1⟩).elim
 have hf:((ZaA ds).map (·.2)).flatten=[]:=by
  rw[YdW];intro x hx;obtain⟨y,hy,rfl⟩:=YaV.mp hx;rw[hall y hy]
 unfold tm
 cases e:ZaA ds with
 | nil=>rw[e] at hm;cases hm
 | cons d r=>
  rw[e] at hf hall;have hd:=hall d YaA;dsimp only;rw[hf,ZdX,hd];cases b <;> rfl
theorem Zk1 {p:Nat} (hp:2<=p) {k a:Nat} (ha:a<=p) {fl:Bool}{E:List (List TD)} (hG:GdD true (strp E) (rot a (Tm p (k+1)))) (hE:AllE E) {f:Nat} (hf:hd p k=f) (hn:∀ i,i<f->NoCl (tkT E f i))
  (hb:GdD fl (phT E (p - a) f) (rot (if a=p then 0 else a+1) (Tm p k))):GdD fl E (rot a (Tm p (k+1))):=by
 obtain⟨A,r,ek,hS,h0,hnx⟩:=ZiG hp k a ha;have hx:hd p k=(A.length:Nat):=by
  unfold hd;rw[<- ZaW (show 1<=p by (clear hf ha;omega)),ek];rfl
 have hfA:f=A.length:=by (clear ha hp;omega)
 subst hfA;rw[<- hnx] at hb;have hl:=hG.len;rw[ZcK] at hl;refine GdD.of hl fun i ds ws e1 e2=>?_;obtain⟨ws',e3,e4⟩:=Zhg hG e1;rw[e2] at e3;cases e3;refine GdR.of e4 fun j d x g1 g2=>?_;obtain⟨b,rfl⟩:=hE ds (Yah e1) d (Yah g1);rcases hS ws (Yah e2) with rfl | ⟨w,rfl⟩
 ·simp at g2
 have hjl:=(Yab.mp g1).1
 rw[Yai,Ybb,Yaa] at e4;have hio:i≠p - a:=fun z=>by
  rw[z,h0] at e2;have e2:=(Yau e2).symm;have e5:=congrArg YbK e2;rw[Yai,Ybb,Yaa] at e5;have e5:w.length+A.length=0:=e5
  (clear z hl hf hx ha hp;omega)
 rcases Ybd j w.length with h1 | h1
 ·have q1:(phT E (p - a) A.length)[i]?=some (cutT A.length ds):=by
   unfold phT;rw[YaY (YbA hio),Yaf,e1];rfl
  obtain⟨ws2,q2,q3⟩:=hb.at q1;rw[YaY (YbA hio),Yaf,e2] at q2;have q2:=(Yau q2).symm;rw[Zjx] at q2;subst q2;have q4:(cutT A.length ds)[j]?=some (some (b,[])):=by
   unfold cutT;rw[Ya9 (by (clear hio hjl hl hf hx ha hp;omega))];exact g1
  obtain⟨y,q5,q6⟩:=q3.at q4;rw[Yas h1] at g2;rw[g2] at q5;cases q5;exact q6
 ·rw[Yax h1] at g2;have hq:j - w.length<A.length:=by (clear hio hl hf hx ha hp;omega)
  rw[YbP (by rw[Yaa];exact hq),Yaa,Yaf] at g2;obtain⟨q,hqe⟩:∃ q,q=A.length - 1 - (j - w.length):=⟨_,rfl⟩
  rw[<- hqe] at g2;have hqA:q<A.length:=by (clear hq hio hl hf hx ha hp;omega)
  rw[Yae hqA] at g2;have hxx:x=A[q]+1:=(Yau g2).symm;have m1:some (b,[])∈tkT E A.length q:=by
   unfold tkT;refine Ybi.mpr ⟨ds,Yah e1,?_⟩;rw[Ya9 hqA,YbP (by (clear hxx hqe hq h1 hio hjl hl hf hx ha hp;omega)),show ds.length - 1 - q=j by (clear hxx hq hio hl hf hx ha hp;omega)];exact g1
  have m2:∀ d∈tkT E A.length q,∃ b,d=some (b,([]:List Int)):=fun d hd=>by
   unfold tkT at hd;obtain⟨r',hr',z⟩:=Ybi.mp hd;exact hE r' hr' d (Ybo.mp (Ya4 (Yah z)))
  have m3:=ZjJ m1 (hn q hqA) m2;have hlr:(rot a (Tm p (k+1))).length=p+1:=by rw[Zd6,ZbU hp]
  have q1:(phT E (p - a) A.length)[p - a]?=some ((Yan A.length).map fun i=>tm (tkT E A.length i)):=by
   unfold phT;rw[Ybh (by rw[Yaa];(clear hxx hqe hq h1 hio hjl e4 hf hx ha hp;omega))]
  obtain⟨ws2,q2,q3⟩:=hb.at q1;rw[Ybh (by rw[Yaa];(clear hxx hqe hq h1 hio hjl e4 hl hf hx ha hp;omega))] at q2;cases q2;obtain⟨y,q5,q6⟩:=q3.at (show ((Yan A.length).map fun i=>tm (tkT E A.length i))[q]?=some (some (!b,[])) by rw[Yaf,Yby hqA];exact congrArg some m3);rw[Yae hqA] at q5;have hy:y=A[q]:=(Yau q5).symm;subst hy;rw[Zia] at q6 ⊢;rw[hxx,Zgl]
  revert q6
  generalize evB A[q]=u;cases u <;> cases b <;> cases fl <;> decide
theorem Zmb {p:Nat} (hp:2<=p) {k a:Nat} (ha:a<=p) {E:List (List TD)} (hG:GdD true (strp E) (rot a (Tm p (k+1)))) (hE:AllE E) {f:Nat} (hf:hd p k=f) (hn:∀ i,i<f->NoCl (tkT E f i)):AllE (phT E (p - a) f):=by
 obtain⟨hl,hle,_⟩:=ZlQ hp ha hG hf;rw[ZcK] at hl;intro r hr d hd;rcases YcT hr with h | rfl
 ·obtain⟨r',h1,rfl⟩:=YaV.mp h;exact hE r' h1 d (Ya4 hd)
 ·obtain⟨i,hi,rfl⟩:=YaV.mp hd;have hi:=Ybf.mp hi;obtain⟨j,hj1,hj2⟩:∃ j,j<=p/\j≠p - a:=by
   by_cases z:p - a=0
   ·exact⟨1,by (clear z hi hl hf ha;omega),by (clear hi hl hf ha hp;omega)⟩
   ·exact⟨0,by (clear z hi hl hf ha hp;omega),by (clear hi hl hf ha hp;omega)⟩
  have hfl:=hle j hj1 hj2;rw[Zhe] at hfl;have hjE:j<E.length:=by (clear hfl hj2 hi hf ha hp;omega)
  have ej:E[j]?=some (E.getD j []):=by rw[Yat,Yae hjE];rfl
  have hlt:i<(E.getD j []).reverse.length:=by rw[Ybb];(clear hjE hj2 hj1 hl hf ha hp;omega)
  obtain⟨d0,hd0⟩:∃ d0,(E.getD j []).reverse[i]?=some d0:=⟨_,Yae hlt⟩
  have m0:d0∈tkT E f i:=by
   unfold tkT;refine Ybi.mpr ⟨_,Yah ej,?_⟩;rw[Ya9 hi];exact hd0
  have m2:∀ d∈tkT E f i,∃ b,d=some (b,([]:List Int)):=fun d hd=>by
   unfold tkT at hd;obtain⟨r',hr',z⟩:=Ybi.mp hd;exact hE r' hr' d (Ybo.mp (Ya4 (Yah z)))
  obtain⟨b,rfl⟩:=m2 d0 m0;exact⟨_,ZjJ m0 (hn i hi) m2⟩
theorem ZiC {p:Nat} (hp:2<=p):∀ (m t:Nat) (E:List (List TD)),GdD true (strp E) (rot (t % (p+1)) (Tm p m))->AllE E->OkP E (phL p t m)->∃ fl,GdD fl E (rot (t % (p+1)) (Tm p m))
 | 0,t,E,hG,hE,_=>by
  have ha:t % (p+1)<=p:=by have:=Ydp t (show 0<p+1 by (clear hp;omega));(clear hp;omega)
  obtain⟨i,d,_,hi,hfl⟩:=ZmI hp ha hG;obtain⟨b,rfl⟩:=hE _ (Yah hi) d (YbW _);have hl:=hG.len;rw[ZcK] at hl;refine⟨!b,GdD.of hl fun j ds ws e1 e2=>?_⟩;obtain⟨ws',e3,e4⟩:=Zhg hG e1;rw[e2] at e3;cases e3;refine GdR.of e4 fun q e x g1 g2=>?_;have hm:e∈E.flatten:=YbZ.mpr ⟨ds,Yah e1,Yah g1⟩;rw[hfl,YaI] at hm;subst hm;rw[ZfR ws (Yah e2) x (Yah g2),Zia];cases b <;> decide
 | m+1,t,E,hG,hE,hO=>by
  have ha:t % (p+1)<=p:=by have:=Ydp t (show 0<p+1 by (clear hp;omega));(clear hp;omega)
  obtain⟨f,ef,_,_,hGn,_⟩:=ph58 hp ha hG;rw[<- Zfn] at hGn;have e2:(phO p t).toNat=p - t % (p+1):=by rw[ZhE,YaN]
  have e3:(hd p m).toNat=f:=by rw[ef,YaN]
  rw[phL,OkP,e2,e3] at hO;obtain⟨⟨_,_,_,hn⟩,hO2⟩:=hO;have hA:=Zmb hp ha hG hE ef hn;have es:=Zf0 p t;rw[<- es] at hGn;obtain⟨fl,h⟩:=ZiC hp m (t+1) _ hGn hA hO2;rw[es] at h;exact⟨fl,Zk1 hp ha hG hE ef hn h⟩
def wayR:List Int->Nat->(Nat->Bool)->List TD
 | [],_,_=>[]
 | x::r,a,s=>some ((evB x != s a),[])::wayR r (a+1) s
def wayE:List (List Int)->Nat->(Nat->Bool)->List (List TD)
 | [],_,_=>[]
 | ws::N,a,s=>wayR ws a s::wayE N (a+ws.length) s
theorem ZfV:∀ (ws:List Int) (a:Nat) (s:Nat->Bool),∀ d∈wayR ws a s,∃ b,d=some (b,([]:List Int))
 | [],_,_,d,h=>by simp[wayR] at h
 | x::r,a,s,d,h=>by
  rw[wayR] at h;rcases Yal.mp h with rfl | h
  ·exact⟨_,rfl⟩
  ·exact ZfV r _ s d h
theorem ZdT:∀ (N:List (List Int)) (a:Nat) (s:Nat->Bool),AllE (wayE N a s)
 | [],_,_=>fun r h=>by simp[wayE] at h
 | ws::N,a,s=>fun r h=>by
  rw[wayE] at h;rcases Yal.mp h with rfl | h
  ·exact ZfV ws a s
  ·exact ZdT N _ s r h
theorem Zbw:∀ (N:List (List Int)) (a:Nat) (s:Nat->Bool),GdD true (strp (wayE N a s)) N
 | [],_,_=>trivial
 | ws::N,a,s=>by
  refine⟨?_,Zbw N _ s⟩;have:∀ (ws:List Int) (a:Nat),GdR true ((wayR ws a s).map fun _=>none) ws:=fun ws=>by
   induction ws with
   | nil=>exact fun _=>trivial
   | cons x r ih=>exact fun a=>⟨GdT.non,ih (a+1)⟩
  exact this ws a
theorem ZeD {fl:Bool}:∀ (ws:List Int) (a:Nat) (s:Nat->Bool),GdR fl (wayR ws a s) ws↔∀ i,i<ws.length->s (a+i)=fl
 | [],_,_=>⟨fun _ i h=>absurd h (YdI _),fun _=>trivial⟩
 | x::r,a,s=>by
  have ih:=ZeD (fl:=fl) r (a+1) s;show (GdT fl (some ((evB x != s a),[])) x/\GdR fl (wayR r (a+1) s) r)↔_;rw[ih,Zia];have e:((evB x != s a)=(evB x != fl))↔s a=fl:=by cases evB x <;> cases s a <;> cases fl <;> decide
  rw[e];constructor
  ·rintro⟨h0,h1⟩ i hi
   cases i with
   | zero=>exact h0
   | succ i=>
    have:=h1 i (by simpa using hi)
    rwa [show a+1+i=a+(i+1) by (clear hi e ih;omega)] at this
  ·intro h;refine⟨h 0 (by simp),fun i hi=>?_⟩;have:=h (i+1) (by simpa using hi)
   rwa [show a+(i+1)=a+1+i by (clear hi e ih;omega)] at this
theorem ZcW {fl:Bool}:∀ (N:List (List Int)) (a:Nat) (s:Nat->Bool),GdD fl (wayE N a s) N↔∀ i,i<N.flatten.length->s (a+i)=fl
 | [],_,_=>⟨fun _ i h=>absurd h (YdI _),fun _=>trivial⟩
 | ws::N,a,s=>by
  have ih:=ZcW (fl:=fl) N (a+ws.length) s;show (GdR fl (wayR ws a s) ws/\GdD fl (wayE N (a+ws.length) s) N)↔_;rw[ih,ZeD,YaM,Yai];constructor
  ·rintro⟨h0,h1⟩ i hi;rcases Ybd i ws.length with z | z
   ·exact h0 i z
   ·have:=h1 (i - ws.length) (by (clear ih;omega))
    rwa [show a+ws.length+(i - ws.length)=a+i by (clear hi ih;omega)] at this
  ·intro h;refine⟨fun i hi=>h i (by (clear ih;omega)),fun i hi=>?_⟩;have:=h (ws.length+i) (by (clear ih;omega))
   rwa [show a+(ws.length+i)=a+ws.length+i by (clear hi ih;omega)] at this
theorem ZfU:∀ (ws:List Int) (a:Nat) (s:Nat->Bool),(wayR ws a s).map (wyT (fun b=>!b))=wayR ws a fun i=>!s i
 | [],_,_=>rfl
 | x::r,a,s=>by
  rw[wayR,wayR,Yav,ZfU r];congr 1;show some ((!(evB x != s a)),([]:List Int))=_;cases evB x <;> cases s a <;> rfl
theorem ZfW:∀ (N:List (List Int)) (a:Nat) (s:Nat->Bool),wyD (fun b=>!b) (wayE N a s)=wayE N a fun i=>!s i
 | [],_,_=>rfl
 | ws::N,a,s=>by
  have ih:=ZfW N (a+ws.length) s;show (wayR ws a s).map (wyT (fun b=>!b))::wyD (fun b=>!b) (wayE N (a+ws.length) s)=_;rw[ZfU,ih];rfl
theorem ZcJ (h:Bool->Bool) (D:List (List TD)):wyD h (D++[[]])=wyD h D++[[]]:=by simp[wyD]
theorem hid:∀ b,id (!b) = !(id b):=fun _=>rfl
theorem hnot:∀ b:Bool,(fun b=>!b) (!b) = !((fun b=>!b) b):=fun _=>rfl
theorem Zl8 (D:List (List TD)) (ps:List (Int × Int)):clP (D++[[]]) 0 ps=clP (wyD id D++[[]]) 0 ps:=by rw[<- ZcJ,Zgq hid]
theorem Zkd (h:Bool->Bool) (D:List (List TD)):strp (wyD h D)=strp D:=by
 unfold strp wyD;rw[YaW];exact Ybe fun r _=>by simp
theorem ZhI {p n:Nat} (hp:2<=p) {D:List (List TD)}{s:Nat->Bool}{fl:Bool} (h1:wyD id D=wayE (tnum p n) 0 s) (h2:∀ i,i<(tnum p n).flatten.length->s i=fl) (h0:0<(tnum p n).flatten.length) :
  clP (D++[[]]) 0 (phL p 0 n)=none/\∃ e,(plT (D++[[]]) (phL p 0 n)).flatten=[some e]/\e.1 = !fl:=by
 have hG:GdD fl (wyD id D) (tnum p n):=by
  rw[h1];exact (ZcW _ _ _).mpr fun i hi=>by rw[Ybt];exact h2 i hi
 have hG2:GdD fl (wyD id (D++[[]])) (Tm p n):=by
  rw[ZcJ];exact GdD.snoc hG trivial
 obtain⟨a1,d,ed,_,a4,a5⟩:=Zmc hp hG2;have hc:clP (D++[[]]) 0 (phL p 0 n)=none:=by rw[<- Zgq hid];exact Zgr a1
 refine⟨hc,?_⟩;rw[ZjP hid] at ed;have hfl:∀ E:List (List TD),(wyD id E).flatten=E.flatten.map (wyT id):=fun E=>by
  unfold wyD;rw[List.map_flatten]
 rw[hfl] at ed;have hl:=congrArg YbK ed;rw[Yaa] at hl;obtain⟨d0,hd0⟩:=YbM.mp hl;rw[hd0] at ed;have ed:wyT id d0=d:=by simpa using ed
 have hd:d≠none:=by
  intro z;refine a4.mp z ?_;have hE:AllE (wyD id D):=by rw[h1];exact ZdT _ _ _
  have hlen:(wyD id D).flatten.length=(tnum p n).flatten.length:=hG.flen;obtain⟨y,hy⟩:=List.exists_mem_of_length_pos (l:=(wyD id D).flatten) (by (clear hl a4 hp;omega));obtain⟨r,hr,hyr⟩:=YbZ.mp hy;obtain⟨b,rfl⟩:=hE r hr y hyr;exact⟨r,by rw[ZcJ];exact YaT _ hr,_,hyr⟩
 cases d0 with
 | none=>exact absurd ed.symm hd
 | some e=>
  refine⟨e,hd0,?_⟩;have:=a5 (e.1,[]) ed.symm;exact congrArg Prod.fst this
theorem ZiK {p n:Nat} (hp:2<=p) {D:List (List TD)}{s:Nat->Bool} (h1:wyD id D=wayE (tnum p n) 0 s) {i j:Nat} (hi:i<(tnum p n).flatten.length) (hj:j<(tnum p n).flatten.length) (si:s i=true) (sj:s j=false):∃ c,clP (D++[[]]) 0 (phL p 0 n)=some c:=by
 cases hc:clP (D++[[]]) 0 (phL p 0 n) with
 | some c=>exact⟨c,rfl⟩
 | none=>
  have hS:GdD true (strp (wyD id D)) (tnum p n):=by rw[h1];exact Zbw _ _ _
  obtain⟨hok,hS2,_⟩:=Zlw hp hS;rw[Zl8] at hc;have hO:=ZhQ hok hc;have hA:AllE (wyD id D++[[]]):=fun r hr d hd=>by
   rcases Yar.mp hr with hr | hr
   ·rw[h1] at hr;exact ZdT _ _ _ r hr d hd
   ·rw[YaI.mp hr] at hd;simp at hd
  have e0:∀ l:List (List Int),rot (0 % (p+1)) l=l:=fun l=>by rw[Nat.zero_mod];simp[rot]
  obtain⟨fl,h⟩:=ZiC hp n 0 _ (by rw[e0];exact hS2) hA hO;rw[e0] at h;have h':GdD fl (wyD id D) (tnum p n):=by
   refine GdD.of (by have:=hS.len;rwa [ZcK] at this) fun q ds ws e1 e2=>?_;obtain⟨ws',e3,e4⟩:=h.at (show (wyD id D++[[]])[q]?=some ds by rw[Yas (Yab.mp e1).1];exact e1);unfold Tm at e3;rw[Yas (Yab.mp e2).1,e2] at e3;cases e3;exact e4
  rw[h1] at h';have h9:=(ZcW _ _ _).mp h';have g1:=h9 i hi;have g2:=h9 j hj;rw[Ybt] at g1 g2;rw[si] at g1;rw[sj,<- g1] at g2;cases g2
theorem ZeC:∀ (ws:List Int) (x:Int) (a:Nat) (s:Nat->Bool),wayR (ws++[x]) a s=wayR ws a s++[some ((evB x != s (a+ws.length)),[])]
 | [],_,_,_=>rfl
 | y::r,x,a,s=>by
  have ih:=ZeC r x (a+1) s;rw[YcD,wayR,wayR,ih,Ya3,show a+1+r.length=a+(r.length+1) by omega];rfl
theorem ZeE:∀ (N:List (List Int)) (ws:List Int) (a:Nat) (s:Nat->Bool),wayE (N++[ws]) a s=wayE N a s++[wayR ws (a+N.flatten.length) s]
 | [],_,_,_=>rfl
 | y::N,ws,a,s=>by
  have ih:=ZeE N ws (a+y.length) s;rw[YcD,wayE,wayE,ih,YaM,Yai,show a+y.length+N.flatten.length=a+(y.length+N.flatten.length) by omega];rfl
theorem Zdb (p:Int):∀ w:List Int,inV (.int p) (w.map V.int)=decide (p∈w)
 | []=>rfl
 | q::w=>by
  have ih:=Zdb p w;unfold inV at ih ⊢;rw[Yav,Ydd,ih];have h0:eqV (V.int q) (V.int p)=(q == p):=rfl;rw[h0];by_cases e:p=q
  ·subst e;simp
  ·have:(q == p)=false:=beq_eq_false_iff_ne.mpr fun z=>e z.symm;rw[this];simp[e]
def ofN (S:List Nat):List V:=(S.map fun i:Nat=>(i:Int)).map V.int
theorem ZhS {S:List Nat}{i:Nat}:decide (((i:Nat):Int)∈S.map fun i:Nat=>(i:Int))=decide (i∈S):=by
 rw[decide_eq_decide,YaV];constructor
 ·rintro⟨j,hj,e⟩
  rwa [show i=j by omega]
 ·exact fun h=>⟨i,h,rfl⟩
theorem Zgj (S:List Nat):(ofN S).all Zde=true:=by
 rw[Ycm];intro x hx;obtain⟨y,_,rfl⟩:=YaV.mp hx;rfl
def ZcP:Sp:=fun vs H Q _=>∃ (pl u t:Addr) (us:List Addr) (N:List (List Int)) (S:List Nat),vs=[.ref pl,.ref u,.ref t]/\PotT H pl/\H u=some (.lst (us.map V.ref))/\LBs H us (upsT N)/\N.length<=7/\(∀ xs∈N,xs.length<=4000)/\H t=some (.lst (ofN S))/\t≠pl /\
 ∀ l as Vs D H',H l=none->H' l=some (.lst (as.map V.ref))->RL H' as Vs->TVD (fun _=>none) H' Vs D->wyD id D=wayE N 0 (fun i=>decide (i∈S))->(∀ r∈D,∀ e,some e∈r->e.2.length<=3)->PotT H' pl->Sm pl H H'->Q (.ref l) H'
def ZcM (K:Yad):Sp:=fun vs H Q _=>∃ (p n:Nat) (l:Addr) (as:List Addr) (Vs:List (List V)) (D:List (List TD)),vs=[.int p,.ref l]/\2<=p/\p<=7/\n<=300/\tot p n<=4000/\SqL K H l (as.map V.ref)/\RL H as Vs/\TVD (fun _=>none) H Vs D/\D.map (fun r=>(r.length:Int))=cnt p n/\totT lenT D<=15000/\OkS (D++[[]]) (phL p 0 n) /\
 ((∃ c,clP (D++[[]]) 0 (phL p 0 n)=some c/\∀ H',Same H H'->Q (.int (c:Nat)) H')∨(clP (D++[[]]) 0 (phL p 0 n)=none/\∃ e r,(plT (D++[[]]) (phL p 0 n)).flatten=some e::r/\∀ H',Same H H'->Q (.bl e.1) H'))
theorem Zdx:∀ (ws:List Int) (a:Nat) (s s':Nat->Bool),(∀ i,i<ws.length->s (a+i)=s' (a+i))->wayR ws a s=wayR ws a s'
 | [],_,_,_,_=>rfl
 | x::r,a,s,s',h=>by
  have h0:=h 0 (by simp);rw[Nat.add_zero] at h0;rw[wayR,wayR,h0,Zdx r (a+1) s s' fun i hi=>by have:=h (i+1) (by simpa using hi);rwa [show a+(i+1)=a+1+i by (clear hi;omega)] at this]
theorem Zdy:∀ (N:List (List Int)) (a:Nat) (s s':Nat->Bool),(∀ i,i<N.flatten.length->s (a+i)=s' (a+i))->wayE N a s=wayE N a s'
 | [],_,_,_,_=>rfl
 | ws::N,a,s,s',h=>by
  rw[YaM,Yai] at h;rw[wayE,wayE,Zdx ws a s s' fun i hi=>h i (by omega),Zdy N (a+ws.length) s s' fun i hi=>by have:=h (ws.length+i) (by omega);rwa [show a+(ws.length+i)=a+ws.length+i by (clear hi;omega)] at this]
def Zco (many:Nat) (S:List Nat):Prop:=S=[]∨(S≠[]/\S.length=many/\∀ i,i<many->i∈S)∨(S≠[]/\S.length≠many/\(∃ i,i<many/\i∈S)/\∃ j,j<many/\j ∉ S)
theorem ZbY {many:Nat} (h0:0<many) (b:Nat->Bool):Zco many ((Yan many).filter b):=by
 by_cases h1:(Yan many).filter b=[]
 ·exact .inl h1
 ·by_cases h2:∀ a∈Yan many,b a=true
  ·refine .inr (.inl ⟨h1,?_,fun i hi=>Yb9.mpr ⟨Ybf.mpr hi,h2 i (Ybf.mpr hi)⟩⟩);rw[Yc7.mpr h2,YbI]
  ·refine .inr (.inr ⟨h1,fun z=>h2 ?_,?_,?_⟩)
   ·have e:(Yan many).filter b=Yan many:=by
     have:=List.filter_sublist (p:=b) (l:=Yan many);exact this.eq_of_length (by rw[z,YbI])
    exact Yc7.mp e
   ·obtain⟨x,hx⟩:=List.exists_mem_of_ne_nil _ h1;exact⟨x,Ybf.mp ((Yb9.mp hx).1),hx⟩
   ·by_cases h3:∃ j,j<many/\j ∉ (Yan many).filter b
    ·exact h3
    ·refine absurd (fun a ha=>?_) h2;by_cases h4:b a=true
     ·exact h4
     ·exact absurd ⟨a,Ybf.mp ha,fun z=>h4 (Yb9.mp z).2⟩ h3
theorem ZiL {many i:Nat} (h2:2<=many) (hi:i<many):Zco many [i]:=by
 refine .inr (.inr ⟨by simp,by simp;(clear hi;omega),⟨i,hi,by simp⟩,?_⟩);by_cases z:i=0
 ·exact⟨1,by (clear z hi;omega),by simp;(clear hi h2;omega)⟩
 ·exact⟨0,by (clear z hi;omega),by simp;(clear hi h2;omega)⟩
def cOf (p n:Nat) (S:List Nat):Option Nat:=clP (wayE (tnum p n) 0 (fun i=>decide (i∈S))++[[]]) 0 (phL p 0 n)
def Zfe (p n:Nat) (S:List Nat) (v:V):Prop:=(∃ c,cOf p n S=some c/\v=.int (c:Nat)/\∃ i,i<(tnum p n).flatten.length/\i∈S/\∃ j,j<(tnum p n).flatten.length/\j ∉ S)∨(cOf p n S=none/\((S=[]/\v=.bl true)∨(S≠[]/\S.length=(tnum p n).flatten.length/\v=.bl false)))
theorem Zj9 {p n:Nat} (hp:2<=p) {D:List (List TD)}{S:List Nat} (h1:wyD id D=wayE (tnum p n) 0 (fun i=>decide (i∈S))) (h0:0<(tnum p n).flatten.length) (hS:Zco (tnum p n).flatten.length S) :
  (∃ c,clP (D++[[]]) 0 (phL p 0 n)=some c/\Zfe p n S (.int (c:Nat)))∨(clP (D++[[]]) 0 (phL p 0 n)=none/\∃ e r,(plT (D++[[]]) (phL p 0 n)).flatten=some e::r/\Zfe p n S (.bl e.1)):=by
 have hc:clP (D++[[]]) 0 (phL p 0 n)=cOf p n S:=by rw[Zl8,h1];rfl
 rcases hS with rfl | ⟨hn,hl,ha⟩ | ⟨hn,hl,⟨i,hi,hiS⟩,j,hj,hjS⟩
 ·obtain⟨g1,e,g2,g3⟩:=ZhI hp (fl:=false) h1 (fun i _=>decide_eq_false (by simp)) h0;refine .inr ⟨g1,e,[],g2,.inr ⟨by rw[<- hc];exact g1,.inl ⟨rfl,?_⟩⟩⟩;rw[g3];rfl
 ·obtain⟨g1,e,g2,g3⟩:=ZhI hp (fl:=true) h1 (fun i hi=>decide_eq_true (ha i hi)) h0;refine .inr ⟨g1,e,[],g2,.inr ⟨by rw[<- hc];exact g1,.inr ⟨hn,hl,?_⟩⟩⟩;rw[g3];rfl
 ·obtain⟨c,g⟩:=ZiK hp h1 hi hj (decide_eq_true hiS) (decide_eq_false hjS);exact .inl ⟨c,g,.inl ⟨c,by rw[<- hc];exact g,rfl,i,hi,hiS,j,hj,hjS⟩⟩
theorem ZjB {p n:Nat}{S R:List Nat} (h:∀ i,i<(tnum p n).flatten.length->(i∈R↔i ∉ S)):cOf p n R=cOf p n S:=by
 unfold cOf;have e:wayE (tnum p n) 0 (fun i=>decide (i∈R))=wyD (fun b=>!b) (wayE (tnum p n) 0 (fun i=>decide (i∈S))):=by
  rw[ZfW];refine Zdy _ _ _ _ fun i hi=>?_;rw[Ybt];have:=h i hi;by_cases z:i∈S
  ·rw[decide_eq_true z,decide_eq_false (fun w=>this.mp w z)];rfl
  ·rw[decide_eq_false z,decide_eq_true (this.mpr z)];rfl
 rw[e,<- ZcJ,Zgq hnot]
end Lv
namespace L2
open PySem PySem.Spec PyProof.Rows PySem.W
section
variable {M:Model}{A:Around}{E:Value->Shared->Prop}{s:Shared}{env:Env}
def Zet (M:Model) (A:Around) (E:Value->Shared->Prop) (Q:Value->Shared->Prop) (acc:Value) (ce:Env):Result->Shared->Prop
 | .ok _,t=>∃ m,t.heap.Ns ce.locals m/\∀ g,YcA ce.locals t.heap g->Q acc { t with heap:=g }
 | .error x,t=>∃ m,t.heap.Ns ce.locals m/\∀ g,YcA ce.locals t.heap g->wpAny M A (Yd1 "comprehension.variables-let-go" x ce:Sem Value) (fun _ _=>False) E { t with heap:=g }
theorem ZmK {e:Expr}{scope:Scope}{pos:Pos}{na fi:Sem Value}{g:Comprehension}{gs:List Comprehension}{cl:List (Str × Addr)}{Q:Value->Shared->Prop}
  (a1:clausesOf e=g::gs) (a2:∀ x,foldedSetIterable g.iter env x=pure x) (a3:closureFor scope env=pure cl) (a4:scope.kind=.function) (a5:∀ x∈scope.names,x.2=.local -> scope.names.lookup x.1=some .local)
  (a6:wpAny M A fi (fun x s1=>wpAny M A (pyIter x) (fun it s2=>wpAny M A na (fun acc s3=>wpAny M A (newFunctionEnv scope env.globals cl [] env.qual none .none (some env)) (fun ce s4=>
   codeAny M A (.compStart e 0 it acc { ce with scope:=relabel scope env }) (Zet M A E Q acc { ce with scope:=relabel scope env }) s4) E s3) E s2) E s1) E s):wpAny M A (comprehension e scope env pos na false fi none) Q E s:=by
 unfold comprehension;rw[a3,a1];refine wpAny_bind (wpAny_mono a6 (fun x s1 b1=>?_) fun _ _ z=>z);refine wpAny_bind (wpAny_standAt (wpAny_bind (wpAny_of_eq (a2 x) (wpAny_bind (wpAny_holding (wpAny_mono b1 (fun it s2 b2=>?_) fun _ _ z=>z))))));refine wpAny_standIf (wpAny_bind (wpAny_mono b2 (fun acc s3 b3=>?_) fun _ _ z=>z));refine wpAny_bind (wpAny_pure (wpAny_bind (wpAny_mono b3 (fun ce s4 b4=>?_) fun _ _ z=>z)));dsimp only;have own:∀ x∈(scope.names.filter fun y=>(y.2 == .local || y.2 == .cell) && y.1 != (".0":Str)).reverse,x.2=.local ->
   Env.kindOf { ce with scope:=relabel scope env } x.1=some .local:=fun x hx hl=>lookup_relabel_local (a5 x (Yb9.mp (Ybo.mp hx)).1 hl)
 refine wpAny_holding (wpAny_bind (wpAny_attempt (wpAny_holding (wpAny_run (codeAny_mono b4 fun r t hr=>?_)))))
 cases r with
 | ok f=>
  obtain⟨m,hn,hq⟩:=hr;exact wpAny_bind (wpAny_holding (wpAny_comp_letGo (cenv:={ ce with scope:=relabel scope env }) a4 _ t m own hn fun h' m' _ hs'=>wpAny_pure (hq h' hs')))
 | error x=>
  obtain⟨m,hn,hq⟩:=hr;exact wpAny_bind (wpAny_holding (wpAny_comp_letGo (cenv:={ ce with scope:=relabel scope env }) a4 _ t m own hn fun h' m' _ hs'=>wpAny_mono (hq h' hs') (fun _ _ f=>f.elim) fun _ _ y=>y))
end
section
variable {prog:Program}{w:World}{A:Around}{R:Result->Shared->Prop}{s:Shared}
theorem Zit {elt target iter:Expr}{ifs:List Expr}{scope:Scope}{pos:Pos}{it acc:Value}{env:Env} (I:Nat->Shared->Prop)
  (turn:∀ n s,I n s->wpAny (model prog w) A (pyNext it) (fun r s1=>match r with
   | none=>R (.ok .next) s1
   | some v=>wpAny (model prog w) A (letOwnedTupleGo target it v) (fun _ s1'=>wpAny (model prog w) A (assign target env v) (fun _ s2=>
     wpAny (model prog w) A (forIn ifs true fun c r=>if r=true then do let ok <- isTrue c env (eval c env);pure (Ya1 ok) else pure (Ya1 r)) (fun ok s3=>
      if ok=true then wpAny (model prog w) A (eval elt env) (fun x s4=>
       wpAny (model prog w) A (call (.builtin "list.append") [acc,x]) (fun _ s5=>∃ m,m<n/\I m s5) (fun _ _=>False) s4) (notedBy (model prog w) A env fun x t=>R (.error x) t) s3
      else ∃ m,m<n/\I m s3) (fun _ _=>False) s2) (fun _ _=>False) s1') (fun _ _=>False) s1) (fun _ _=>False) s)
  (n:Nat) (h:I n s):codeAny (model prog w) A (.compLoop (.ListComp elt [⟨target,iter,ifs,0⟩] scope pos) 0 it acc env) R s:=by
 refine codeAny_loop rfl I (fun n s hI=>?_) n h;show wpAny _ A ((compTurn (.ListComp elt [⟨target,iter,ifs,0⟩] scope pos) 0 it acc env).onRaise (fun x=>do noteFrame x env;theTreesLotGoes x)) _ _ s;refine wpAny_noted ?_;rw[compTurn_list];refine wpAny_bind (wpAny_standAt (wpAny_bind (wpAny_mono (turn n s hI) (fun r s1 h1=>?_) fun _ _ h'=>h'.elim)))
 cases r with
 | none=>exact wpAny_pure h1
 | some v=>
  refine wpAny_bind (wpAny_mono h1 (fun _ s1' h1=>?_) fun _ _ h'=>h'.elim);refine wpAny_bind (wpAny_mono h1 (fun _ s2 h2=>wpAny_bind (wpAny_mono h2 (fun ok s3 h3=>?_) fun _ _ h'=>h'.elim)) fun _ _ h'=>h'.elim)
  cases ok with
  | false=>exact wpAny_pure ⟨rfl,h3⟩
  | true=>
   exact wpAny_bind (wpAny_bind (wpAny_mono h3 (fun x s4 h4=>wpAny_bind (wpAny_mono h4 (fun _ s5 h5=>wpAny_pure (wpAny_pure ⟨rfl,h5⟩)) fun _ _ h'=>h'.elim)) fun _ _ h'=>h'))
end
abbrev Cx.reXe (X:Cx) (xe':Value->Shared->Prop):Cx:={ X with xe:=xe' }
theorem Cx.Ok.reXe {X:Cx} (ok:X.Ok) (xe':Value->Shared->Prop):(X.reXe xe').Ok :=
 ⟨ok.mod,ok.kind,ok.glob,ok.blt,ok.above,ok.inj,ok.has,ok.cab,ok.hd,ok.frames,ok.stk,ok.exf,ok.bs,ok.bsz,ok.noex,ok.exfs,ok.funs,ok.frf⟩
theorem Cx.Ok.unXe {X:Cx}{xe':Value->Shared->Prop} (ok:(X.reXe xe').Ok):X.Ok :=
 ⟨ok.mod,ok.kind,ok.glob,ok.blt,ok.above,ok.inj,ok.has,ok.cab,ok.hd,ok.frames,ok.stk,ok.exf,ok.bs,ok.bsz,ok.noex,ok.exfs,ok.funs,ok.frf⟩
section
variable {X:Cx}{pins:List (Addr × Obj)}{σ:St}{H:Hp}{s:Shared}{xe':Value->Shared->Prop}
theorem Inv.reXe (I:Inv X pins σ H s):Inv (X.reXe xe') pins σ H s:=⟨I.ok.reXe _,I.os,I.bare,I.base,I.loc,I.cell,I.free,I.freeC,I.pin,I.hok,I.len⟩
theorem Inv.unXe (I:Inv (X.reXe xe') pins σ H s):Inv X pins σ H s:=⟨I.ok.unXe,I.os,I.bare,I.base,I.loc,I.cell,I.free,I.freeC,I.pin,I.hok,I.len⟩
end
def ZjE (X:Cx) (E:XK):Prop:=∀ (pins:List (Addr × Obj)) (σ:St) (H:Hp) (s:Shared) (ea:Addr) (cls:Value) (od:Option Addr) (what:String) (ce:Env),ce.frame=some X.env.locals->Inv X pins σ H s->Fly H X.s₀.heap s.heap ea cls od (rawInt X.env.locals)->E cls od H ->
 wpAny (model X.prog X.w) X.A (Yd1 what (.ref ea) ce:Sem Value) (fun _ _=>False) X.xe s
section
variable {P:Program}{w:World}{K:Yad}{mg:Str->Option Value}{base:Heap}{N:List Str}{qual:Str}{scope:Scope}{f:Addr}{cd:Value}{A:Around}{outer:List Env}{s:Shared}{H:Hp}{E:XK}
theorem Zl1:ZjE (cxOf (CX1 P w) P w K mg base N qual scope f cd A outer s H E) E:=by
 intro pins σ H' s1 ea cls od what ce hce I hfly hE;obtain⟨a0,T,oe,oT,vs,ts,⟨f1,f2,f3,f4⟩,he,⟨⟨hc,h0⟩,hod⟩,hd,hv1,hTe,hT,hdT,h3⟩:=hfly
 let X:=cxOf (CX1 P w) P w K mg base N qual scope f cd A outer s H E
 have hff:s1.heap.FunFrames X.base X.stack:=I.stack;have hst:frs X.stack=X.env.locals::X.fs:=ZhX X rfl rfl;have hT3:3<ts.size:=(YbN.mp h3).1
 have hne:ea≠T:=fun z=>hTe z.symm;unfold Yd1;refine wpAny_bind (wpAny_field he hd hv1 ?_);rw[if_neg (by simp)];refine wpAny_bind (wpAny_bind (wpAny_field he hd hv1 ?_));rw[if_pos (show (YbC T != YbS)=true from by simp),hce];refine wpAny_setField hT hdT hT3 (wpAny_throw ?_);have ho1:∀ (h:Heap) (x:Value) (b:Addr),b≠T->(h.update T (Ycf (·.setIfInBounds 3 x))).get? b=h.get? b:=fun h x b hb=>Yc1 h _ (YbA hb);have hs1:∀ (h:Heap) (x:Value) (o:Obj) (us:Array Value),h.get? T=some o->o.data=.fields us->∃ o',(h.update T (Ycf (·.setIfInBounds 3 x))).get? T=some o'/\o'.data=.fields (us.setIfInBounds 3 x):=fun h x o us e1 e2=>by
  obtain⟨c,d,da,sl⟩:=o;dsimp only at e2;subst e2;exact⟨_,Ycz _ e1 rfl,rfl⟩
 obtain⟨oT1,g1,g2⟩:=hs1 s1.heap (rawInt X.env.locals) oT ts hT hdT;have k1:=ho1 s1.heap (rawInt X.env.locals);show wpAny (model P w) X.A (leaving X.env (.ref ea)) _ _ { s1 with heap:=s1.heap.update T (Ycf (·.setIfInBounds 3 (rawInt X.env.locals))) };generalize s1.heap.update T (Ycf (·.setIfInBounds 3 (rawInt X.env.locals)))=G1 at g1 k1;have e3:(ts.setIfInBounds 3 (rawInt X.env.locals))[3]?=some (rawInt X.env.locals):=by rw[Ydb];simp[hT3]
 have hz3:3<(ts.setIfInBounds 3 (rawInt X.env.locals)).size:=by rw[Array.size_setIfInBounds];exact hT3
 generalize ts.setIfInBounds 3 (rawInt X.env.locals)=ts1 at g2 e3 hz3;have he1:G1.get? ea=some oe:=(k1 ea hne).trans he;unfold leaving noteFrame;refine wpAny_bind ?_;dsimp only;refine wpAny_bind (wpAny_field he1 hd hv1 ?_);rw[if_pos (show (YbC T != YbS)=true from by simp)];refine wpAny_bind (wpAny_field g1 g2 e3 ?_);rw[if_pos (show (rawInt X.env.locals == rawInt s.heap.objs.size)=true from beq_self_eq_true (rawInt s.heap.objs.size))];refine wpAny_pure ?_;unfold setFlight;refine wpAny_bind (wpAny_field he1 hd hv1 ?_);rw[if_pos (show (YbC T != YbS)=true from by simp)];refine wpAny_setField g1 g2 hz3 ?_;obtain⟨oT2,g3,g4⟩:=hs1 G1 .none oT1 ts1 g1 g2;have k2:=ho1 G1 .none;show CX1 P w outer H s E (.ref ea) { s1 with heap:=G1.update T (Ycf (·.setIfInBounds 3 .none)) };generalize G1.update T (Ycf (·.setIfInBounds 3 .none))=G2 at g3 k2;have k:∀ b,b≠T->G2.get? b=s1.heap.get? b:=fun b hb=>(k2 b hb).trans (k1 b hb);have hfT:T ∉ frs X.stack:=fun m=>by
  obtain⟨_,o,ho,hnf⟩:=hff.mem m;rw[hT] at ho;cases ho;exact hnf ts hdT
 have hkeep:∀ b o,s1.heap.get? b=some o->b ∉ [T]->G2.get? b=some o:=fun b o e n=>(k b fun z=>n (by rw[z];exact YaA)).trans e;refine⟨ea,cls,od,H',rfl,I.os,I.bare,Un.hide (Z:=[T]) I.base (fun z hz=>.inr ?_) hkeep (fun b hb o e=>⟨o.slots,(k b fun z=>hfT ?_).trans e⟩),I.hok.hide (Z:=[T]) (fun z hz=>?_) hkeep,?_,hE⟩
 ·rw[YaI.mp hz];exact f4
 ·rw[hst,<- z];exact Yao _ hb
 ·rw[YaI.mp hz];exact f2
 ·refine⟨a0,T,oe,oT2,vs,_,⟨f1,f2,f3,f4⟩,(k ea hne).trans he,⟨⟨hc,h0⟩,hod⟩,hd,hv1,hTe,g3,g4,?_⟩;rw[Ydb];simp[hz3]
end
section
variable {X:Cx}{E:XK}{scope:Scope}{own:List Str}{js:List Nat}{elt iter target:Expr}{ifs:List Expr}{wi:TI}{g:TG}{tt:TT}{te:TE}{pos:Pos}
abbrev Cx.blkX (X:Cx) (scope:Scope) (own:List Str) (js:List Nat) (s₂:Shared) (H₂:Hp) (C:Addr) (fp:List Addr) (pins:List (Addr × Obj)):Cx :=
 (X.blk scope own js s₂ H₂ C fp pins).reXe (notedBy (model X.prog X.w) X.A (compEnvC scope (clOf scope X.env) C X.env) fun x t=>Zet (model X.prog X.w) X.A X.xe (fun _ _=>True) .none (compEnvC scope (clOf scope X.env) C X.env) (.error x) t)
theorem ZgW {pins:List (Addr × Obj)}{σ:St}{H2:Hp}{s₂:Shared}{C:Addr}{fp:List Addr} (hh:ZjE X E) (hst:X.stack=X.env::X.outer) (hfr:X.env.frame=some X.env.locals) (hex:X.ex=[]) (I:Inv X pins σ H2 s₂) (hC:s₂.heap.objs.size<=C) (hf:∀ b∈fp,FpOk X pins H2 b) :
  ZbV (CX1 X.prog X.w) (X.blkX scope own js s₂ H2 C fp pins) E:=by
 intro pl σ1 H1 s1 e s' J0 hcx;obtain⟨ea,cls,od,H',rfl,os',bare',un',hok',⟨a0,T,oe,oT,vs,ts,⟨f1,f2,f3,f4⟩,he,⟨hc,hod⟩,hd,hv1,hTe,hT,hdT,h3⟩,hE⟩:=hcx;have J1:Inv (X.blk scope own js s₂ H2 C fp pins) pl σ1 H1 s1:=J0.unXe;have J:Inv (X.blk scope own js s₂ H2 C fp pins) pl σ1 H' s':=J1.call' (ch:=[]) os' un' hok' bare' fun b z=>absurd z (by simp);have Y1:Inv X pins σ H1 s1:=ZcC I hf J1;have Y:Inv X pins σ H' s':=ZcC I hf J;have hA:X.A.frames=some (X.env::X.outer):=Y.ok.frames.trans (by rw[<- hst]);have hff:s'.heap.FunFrames X.base X.stack:=Y.stack;have h01:∀ b o,X.s₀.heap.get? b=some o->∃ o',s1.heap.get? b=some o':=fun b o e=>Y1.base.there b o e (by rw[hex];intro z;cases z);have h02:∀ b o,X.s₀.heap.get? b=some o->∃ o',s'.heap.get? b=some o':=fun b o e=>Y.base.there b o e (by rw[hex];intro z;cases z);have n0:∀ z,s1.heap.get? z=none->X.s₀.heap.get? z=none:=fun z e=>by
  cases q:X.s₀.heap.get? z with
  | none=>rfl
  | some o=>obtain⟨o',y⟩:=h01 z o q;rw[e] at y;cases y
 let Z:=ea::T::frs X.stack
 have hB:∀ b∈frs X.stack,(Zbu s'.heap Z).get? b=none:=fun b hb=>ZaG (Yao _ (Yao _ hb));have hff2:s'.heap.FunFrames (Zbu s'.heap Z) (X.env::X.outer):=by rw[<- hst];exact Zbb hff hB
 show wpAny _ X.A (noteFrame (.ref ea) X.env) _ _ s';refine ZbI ZbE (wpAny_looks_onW (base:=Zbu s'.heap Z) hA hfr ⟨Zbq,ZaG YaA,hff2,⟨oe,vs,T,oT,ts,he,hc,hd,hv1,ZaG (Yao _ YaA),hTe,hT,hdT,h3⟩⟩ fun h1 held up dk=>?_);have hkeep:∀ b o,s'.heap.get? b=some o->b ∉ Z->h1.get? b=some o:=fun b o e n=>held.1 b o (by rw[Zbr n];exact e);have hzl:∀ z∈Z,z∈frs X.stack∨s1.heap.get? z=none:=fun z hz=>by
  rcases Yal.mp hz with rfl | hz
  ·exact .inr f3
  ·rcases Yal.mp hz with rfl | hz
   ·exact .inr f4
   ·exact .inl hz
 have hzn:∀ z∈Z,H' z=none:=fun z hz=>by
  rcases Yal.mp hz with rfl | hz
  ·exact f1
  ·rcases Yal.mp hz with rfl | hz
   ·exact f2
   ·exact Y.stkFree z hz
 have u2:Un (frs X.stack) [] H1 H' s1.heap h1:=un'.hide hzl hkeep fun b hb o e=>by
  obtain⟨_,o',ho',hnf⟩:=hff.mem hb;rw[e] at ho';cases ho';exact up b o e hnf
 have J2:Inv (X.blk scope own js s₂ H2 C fp pins) pl σ1 H' { s' with heap:=h1 }:=J1.call' (ch:=[]) os' u2 (hok'.hide hzn hkeep) bare' fun b z=>absurd z (by simp);have Y2:Inv X pins σ H' { s' with heap:=h1 }:=ZcC I hf J2;have fl:Fly H' X.s₀.heap h1 ea cls od (rawInt X.env.locals):=Zid (l:=X.stack) (Z:=Z) hok' (fun z hz hf hne=>by
  rcases Yal.mp hz with z | z
  ·exact absurd z hne
  ·rcases Yal.mp z with rfl | z
   ·exact⟨f2,n0 _ f4⟩
   ·exact absurd z hf) f1 (n0 _ f3) (by rw[hst];exact hff2) up h02 held.2.2.2 (fun o q=>(dk.at he q).trans hod)
 obtain⟨m,hn,_⟩:=J2.loc;refine⟨m,hn,fun h2 hs2=>?_⟩;have hne:∀ {a:Addr}{o:Obj}{us:Array Value},h1.get? a=some o->o.data=.fields us->a≠C:=fun {a o us} e1 e2 z=>by
  subst z;obtain⟨o',es,ep,q1,q2,_⟩:=hn;have q1:h1.get? a=some o':=q1;rw[e1] at q1;cases q1;rw[e2] at q2;cases q2
 have hLC:C≠X.env.locals:=Ybp (Yag I.lt hC);have Y3:Inv X pins σ H' { s' with heap:=h2 }:=Y2.other hs2 J2.free hLC (Ybk I.sz hC) (fun x a e z=>by
  obtain⟨v,q⟩:=I.cell x a e;exact absurd (Yag q.lt (by rw[z];exact hC)) (Ya8 _)) (fun p hp z=>absurd (Yag (Yaj (I.pin p hp).1) (by rw[z];exact hC)) (Ya8 _))
 refine hh pins σ H' _ ea cls od _ _ hfr Y3 ?_ hE;obtain⟨b0,T',oe',oT',vs',ts',fr',he',hc',hd',hv',hTe',hT',hdT',h3'⟩:=fl;exact⟨b0,T',oe',oT',vs',ts',fr',(hs2.2 _ (hne he' hd')).trans he',hc',hd',hv',hTe',(hs2.2 _ (hne hT' hdT')).trans hT',hdT',h3'⟩
theorem ZjC {pins:List (Addr × Obj)}{σ:St}{H2:Hp}{s₂:Shared}{it:Addr}{fp:List Addr}{tn:Nat->Heap->Prop}{J:It}{Q:VK}
  (hh:ZjE X E) (hst:X.stack=X.env::X.outer) (hfr:X.env.frame=some X.env.locals) (hex:X.ex=[]) (c:CompOk X scope own js) (hc:X.calm=true) (hgk:ZfS own g)
  (hg:∀ s H C fp pins,PG (X.blk scope own js s H C fp pins) target g) (ht:∀ s H C fp pins,PTs (X.blk scope own js s H C fp pins) ifs tt)
  (he:∀ s H C fp pins xe',ZbV (CX1 X.prog X.w) ((X.blk scope own js s H C fp pins).reXe xe') E->PE ((X.blk scope own js s H C fp pins).reXe xe') elt te)
  (I:Inv X pins σ H2 s₂) (T:Turn X.prog X.w X.K target J fp it tn) (st:tn 0 s₂.heap) (hf:∀ b∈fp,FpOk X pins H2 b) (h:ZaR own js g tt te σ J H2 Q) :
  wpAny (model X.prog X.w) X.A (newList []) (fun acc s₃=>wpAny (model X.prog X.w) X.A (newFunctionEnv scope X.env.globals (clOf scope X.env) [] X.env.qual none .none (some X.env)) (fun cenv s₄=>
   codeAny (model X.prog X.w) X.A (.compStart (.ListComp elt [⟨target,iter,ifs,0⟩] scope pos) 0 (.ref it) acc { cenv with scope:=relabel scope X.env }) (Zet (model X.prog X.w) X.A X.xe (EP X pins σ Q) acc { cenv with scope:=relabel scope X.env }) s₄) X.xe s₃) X.xe s₂:=by
 refine wpAny_newObj_type (wpAny_newFunctionEnv c.cell (by intro y hy;simp at hy) (fun h₁ hns₁ hsb₁=>?_) c.kind);dsimp only at hns₁ hsb₁ ⊢;generalize hH2:s₂.heap.push { cls:=.type "list",dict:=none,data:=.seq ([]:List Value).toArray }=G2 at hns₁ hsb₁ ⊢;have hC:G2.objs.size=s₂.heap.objs.size+1:=by rw[<- hH2,Ybn]
 have hDC:s₂.heap.objs.size≠G2.objs.size:=by rw[hC];exact YaF (Yb1 _)
 have hCle:s₂.heap.objs.size<=G2.objs.size:=by rw[hC];exact Ycw _
 have old:∀ b o,s₂.heap.get? b=some o->h₁.get? b=some o:=fun b o e=>hsb₁.extBut b o (YaF (Yag (Yaj e) hCle)) (Yac _ (hH2 ▸ Yac _ e));have hacc:h₁.get? s₂.heap.objs.size=some { cls:=.type "list",data:=.seq ([]:List Value).toArray 0 }:=hsb₁.extBut _ _ hDC (Yac _ (hH2 ▸ YaB _ rfl));have ho2:∀ b∈fp,∃ o,s₂.heap.get? b=some o:=fun b hb=>let ⟨o,e,_⟩:=T.obj 0 _ st b hb;⟨o,e⟩
 have I0:∀ tk,Inv (X.blk scope own js s₂ H2 G2.objs.size fp pins) [] (blkσ own js σ) (upd H2 s₂.heap.objs.size (.lst [])) { s₂ with heap:=h₁,toks:=tk }:=fun tk=>
  Zdo c I hCle hf ho2 hns₁ old (Yap _) hDC hacc
 obtain⟨W,nn,w0,turn⟩:=h s₂.heap.objs.size (I.hok.fresh (Yap _));generalize hacc':s₂.heap.objs.size=acc at *;generalize hGC:G2.objs.size=C at *;have hCle':s₂.heap.objs.size<=C:=by rw[hacc'];exact hCle
 have st1:tn 0 h₁:=T.keep 0 _ _ st fun b _ o e=>old b o e;have fOk:∀ {H':Hp},(∀ b∈fp,H' b=none)->∀ b∈fp,FpOk (X.blk scope own js s₂ H2 C fp pins) [] H' b:=fun hn b hb=>by
  obtain⟨f0,f1,f2,f3,f4,f5⟩:=hf b hb;obtain⟨o,e⟩:=ho2 b hb;refine⟨hn b hb,YaF (Yag (Yaj e) (by rw[<- hacc'] at hCle;exact hCle)),fun z=>?_,.inl hb,fun x a h=>f4 x a (c.look I h),fun p hp=>f5 p (by simpa[Cx.blk] using hp)⟩;rcases Yal.mp (I.stkSub b z) with q | q
  ·exact f1 q
  ·exact f2 q
 have passes:ZbV (CX1 X.prog X.w) (X.blkX scope own js s₂ H2 C fp pins) E:=ZgW hh hst hfr hex I hCle' hf;have loop:∀ s₃:Shared,s₃={ s₂ with heap:=h₁,toks:=s₂.toks+([]:List (Str × Value)).length } ->
   codeAny (model X.prog X.w) X.A (.compLoop (.ListComp elt [⟨target,iter,ifs,0⟩] scope pos) 0 (.ref it) (.ref acc) (compEnvC scope (clOf scope X.env) C X.env)) (Zet (model X.prog X.w) X.A X.xe (EP X pins σ Q) (.ref acc) (compEnvC scope (clOf scope X.env) C X.env)) s₃:=by
  rintro s₃ rfl;refine Zit (fun n s'=>∃ i H',n=nn - i/\Inv (X.blk scope own js s₂ H2 C fp pins) [] (blkσ own js σ) H' s'/\tn i s'.heap/\(∀ b∈fp,H' b=none)/\W i H') ?_ nn ⟨0,_,rfl,I0 _,st1,fun b hb=>?_,w0⟩
  ·rintro n s3 ⟨i,H3,en,I3,st3,fr3,w3⟩;rcases turn i H3 w3 with ⟨stop,qn⟩ | ⟨hin,go,step⟩
   ·refine thn (T.done (X.blk scope own js s₂ H2 C fp pins) rfl rfl rfl hc i [] s3 _ H3 (fun _ _=>False) I3 (fOk fr3) st3 stop) fun r s4 ⟨hr,I4⟩=>?_;subst hr;obtain⟨m,hn,_⟩:=I4.loc;have I':Inv X pins σ H3 s4:=ZcC I hf I4;refine⟨m,hn,fun h' hs'=>⟨.ref acc,H3,I'.other hs' I4.free ?_ ?_ ?_ ?_,rfl,qn⟩⟩
    ·exact Ybp (Yag I.lt hCle')
    ·exact Ybk I.sz hCle'
    ·intro x a e z;obtain⟨v,q⟩:=I.cell x a e;exact absurd (Yag q.lt (by rw[z];exact hCle')) (Ya8 _)
    ·intro p hp z;exact absurd (Yag (Yaj (I.pin p hp).1) (by rw[z];exact hCle')) (Ya8 _)
   ·refine thn (T.item (X.blk scope own js s₂ H2 C fp pins) rfl rfl rfl hc i [] s3 _ H3 (fun _ _=>False) I3 (fOk fr3) st3 go) fun r s4 ⟨u,hr,h4⟩=>?_;subst hr;refine thn h4 fun _ s5 ⟨x,H5,I5,r5,y5,st5,fr5⟩=>?_;have I5':=I5.pinned (fOk fr5) (T.obj _ _ st5);have again:∀ {σ7:St}{H7:Hp}{s7:Shared},Inv (X.blk scope own js s₂ H2 C fp pins) ([]++ZcF fp s5.heap) σ7 H7 s7->(∀ (j:Nat) v,(blkσ own js σ)[j]?=some (some v)->σ7[j]?=some (some v))->W (i+1) H7 ->
      ∃ m,m<n/\∃ i H',m=nn - i/\Inv (X.blk scope own js s₂ H2 C fp pins) [] (blkσ own js σ) H' s7/\tn i s7.heap/\(∀ b∈fp,H' b=none)/\W i H':=fun {σ7 H7 s7} I7 hw w7=>by
     refine⟨nn - (i+1),by (clear hCle' hCle hDC hC hGC hacc';omega),i+1,H7,rfl,(I7.unpinned).weak ((Zex own js σ X).trans I7.len.symm) hw,T.keep _ _ _ st5 fun b hb o e=>(I7.pin (b,o) (Yaq _ (Yaq _ (ZaJ hb e)))).1,fun b hb=>?_,w7⟩;obtain⟨o,e,d⟩:=T.obj _ _ st5 b hb;exact (I7.pin (b,o) (Yaq _ (Yaq _ (ZaJ hb e)))).2.1
    refine thn (hg s₂ H2 C fp pins _ s5 _ H5 x u _ I5' r5 (hgk _ _ _ _ _ (step x H5 y5))) fun _ s6 ⟨σ6,H6,I6,kp,q6⟩=>?_;refine thn (ht s₂ H2 C fp pins _ s6 σ6 H6 _ I6 q6) fun ok s7 ⟨H7,I7,q7⟩=>?_
    cases ok with
    | false=>
     exact again I7 kp q7
    | true=>
     refine thn (he s₂ H2 C fp pins _ passes _ s7 σ6 H7 _ I7.reXe q7) fun y s8 ⟨v,H8,I8',r8,ys,hl,hz,w8⟩=>?_;have I8:=I8'.unXe;refine thn (Zbh (X:=X.blk scope own js s₂ H2 C fp pins) _ s8 σ6 H8 (.ref acc) [v] (.ref acc) [y] (fun _ H9=>W (i+1) H9) I8 rfl (.cons r8 .nil) ⟨acc,ys,v,rfl,rfl,hl,hz,w8⟩) fun _ s9 ⟨_,H9,I9,_,w9⟩=>?_;exact again I9 kp w9
  ·rw[upd_ne ?_]
   ·exact (hf b hb).1
   ·obtain⟨o,e⟩:=ho2 b hb;rw[<- hacc'];exact YaF (Yaj e)
 exact codeAny_compStart_list (loop _ rfl) (T.self _ 0 _ _ _ st1 (loop _ rfl))
theorem Zi6 (hh:ZjE X E) (c:CompOk X scope own js) (hc:X.calm=true) (hi:PI X target iter wi) (hgk:ZfS own g)
  (hg:∀ s H C fp pins,PG (X.blk scope own js s H C fp pins) target g) (ht:∀ s H C fp pins,PTs (X.blk scope own js s H C fp pins) ifs tt)
  (he:∀ s H C fp pins xe',ZbV (CX1 X.prog X.w) ((X.blk scope own js s H C fp pins).reXe xe') E->PE ((X.blk scope own js s H C fp pins).reXe xe') elt te)
  (hst:X.stack=X.env::X.outer:=by rfl) (hfr:X.env.frame=some X.env.locals:=by rfl) (hex:X.ex=[]:=by rfl)
  (hs:∀ x,foldedSetIterable iter X.env x=pure x:=by intro _;rfl):PE X (.ListComp elt [⟨target,iter,ifs,0⟩] scope pos) (Zkc own js wi g tt te):=by
 intro pins s σ H Q I h;rw[eval_ListComp];refine ZmK rfl hs (Zbk (c.cl I)) c.kind c.names (thn (hi pins s σ H _ I h) fun v s1 h1=>thn h1 fun itv s2 h2=>?_);obtain⟨it,fp,tn,J,H2,e,I2,T,st2,f2,hw⟩:=h2;subst e;exact ZjC hh hst hfr hex c hc hgk hg ht he I2 T st2 f2 hw
end
end L2
namespace L2
open PySem PySem.Spec PyProof.Rows PySem.SeqAt
open Classical in
section
variable {X:Cx}
end
end L2
namespace Fi59
open PySem L2 Lv
def top (i:Nat):Stmt:=PySem.Challenge.pw_fewreels_k59_whole_just_two_ways.main.body.getD i (.Pass ⟨0,0,0,0⟩)
abbrev ZdD:Stmt:=top 7
abbrev ZgC:Stmt:=top 12
abbrev ZdG:Stmt:=top 13
abbrev ZdH:Stmt:=top 14
abbrev Zfy:Stmt:=top 15
abbrev Zct:Stmt:=top 16
abbrev ZdE:Stmt:=top 17
abbrev sTot:Stmt:=top 20
abbrev Zcq:Stmt:=top 21
abbrev Zcs:Stmt:=top 23
abbrev Zfw:Stmt:=top 25
abbrev Zfv:Stmt:=top 26
abbrev sLPh:Stmt:=top 27
abbrev ZcD:Stmt:=top 29
abbrev Zfx:Stmt:=top 30
abbrev ZgD:Stmt:=top 31
abbrev sLW:Stmt:=top 32
abbrev ZgG:Stmt:=top 33
abbrev Zcr:Stmt:=top 34
abbrev sThT:Stmt:=top 35
abbrev sPhT:Stmt:=top 36
abbrev Za4:Stmt:=top 37
abbrev Za2:Stmt:=top 39
abbrev ZgE:Stmt:=top 40
abbrev ZdF:Stmt:=top 41
abbrev Zbm:Stmt:=top 42
abbrev Zcp:Stmt:=top 43
abbrev Zb0:Stmt:=top 44
abbrev sLaw:Stmt:=top 45
abbrev ZgF:Stmt:=ZmD (top 5) 0
end Fi59
namespace Fi59
open PySem L2 Lv
section
variable {P:Program}{w:World}{K:Yad}{mg:Str->Option Value}{base:Heap}
theorem Zlq:FnScope ["rows"] ["rows"] (Zac Zfw):=⟨rfl,rfl,rfl,by decide +kernel,rfl,by decide +kernel,by decide +kernel⟩
theorem Zic {α β:Type} (f:α->β):∀ l:List α,l.filterMap (fun x=>some (f x))=l.map f
 | []=>rfl
 | x::l=>by rw[YaH,Yav,<- Zic f l]
theorem Zjd {f:Addr}{fd:FuncData} (F:Fun K "things_in" "things_in" Zfw f fd) (T:Txt mg):FnOk P w K mg base CX0 1 f fd ["rows"] Zkg:=by
 refine okW F Zlq (fun vs H Q E h=>?_) (fun cdv A outer s H vs Q E hr h=>?_)
 ·obtain⟨l,as,N,rfl,_⟩:=h;rfl
 ·obtain⟨l,as,N,rfl,hl,hL,h5,k⟩:=h;refine⟨_,(Zas (ws (Zay (Zam (Zdn rfl) rfl T.sum ZgX (Zaa (Zaw (own:=["row"]) (js:=[]) (CompOk.by (sc:=Zac Zfw) (N:=["rows"]) rfl rfl (by decide +kernel)) rfl (ZaC (pv 0)) Zai (fun _ _ _ _ _=>(Zah (i:=0) (by show (["row"]:List Str).Nodup;decide +kernel) rfl (YaG rfl) (.inr rfl))) (fun _ _ _ _ _=>(Zbz (ZeO (Zef (pv 0))))) (fun _ _ _ _ _=>(Zam (Zbl K) rfl T.len Ybz (Zaa (pv 0) Zad)))) Zad))))),?_⟩;have hal:as.length=N.length:=hL.1;refine⟨_,rfl,l,true,rfl,⟨_,SqL.of hl⟩,?_⟩;refine ZbF (b:=true) (K:=K) (a:=l) (xs:=as.map V.ref) (fun i=>N[i]?.bind fun xs=>some (V.int (xs.length:Int))) (SqL.of hl) (by rw[Yaa];omega) (fun i x hx H1 s1 A B hf=>?_) fun acc H1 h0 s1 hacc=>?_
  ·obtain⟨q,hq,rfl⟩:=Zaq hx;have hi:=(Yab.mp hq).1
   have hN:N[i]?=some N[i]:=Yae (by (clear h5;omega));rw[hN] at hf;refine⟨_,rfl,_,rfl,iteT ?_⟩;exact⟨_,rfl,q,_,rfl,.inl (SqL.of (s1 _ _ (hL.2 i q _ hq hN))),by rw[Yaa];exact hf H1 (Same.refl _)⟩
  have e:(Yan (as.map V.ref).length).filterMap (fun i=>N[i]?.bind fun xs=>some (V.int (xs.length:Int)))=(N.map fun xs=>(xs.length:Int)).map V.int:=by
   rw[Yaa,hal,ZbP,Zic,YaW];rfl
  rw[e] at hacc;exact⟨acc,_,rfl,SqL.of hacc,k H1 s1⟩
theorem Zlp:FnScope ["taken","at"] ["taken","at"] (Zac Zfv):=⟨rfl,rfl,rfl,by decide +kernel,rfl,by decide +kernel,by decide +kernel⟩
theorem ZlK {f:Addr}{fd:FuncData} (F:Fun K "taken_at" "taken_at" Zfv f fd) (T:Txt mg):FnOk P w K mg base CX0 1 f fd ["taken","at"] ZiR:=by
 refine okW F Zlp (fun vs H Q E h=>?_) (fun cdv A outer s H vs Q E hr h=>?_)
 ·obtain⟨l,as,W,i,rfl,_⟩:=h;rfl
 ·obtain⟨l,as,W,i,rfl,hl,hal,hA,h20,k⟩:=h;refine⟨_,(Zas (ws (Zay (Zaw (own:=["rows"]) (js:=[1]) (CompOk.by (sc:=Zac Zfv) (N:=["taken","at"]) rfl rfl (by decide +kernel)) rfl (ZaC (pv 0)) Zai (fun _ _ _ _ _=>(Zah (i:=0) (by show (["rows","at"]:List Str).Nodup;decide +kernel) rfl (YaG rfl) (.inr rfl))) (fun _ _ _ _ _=>(Zbz (ZaK ZgL (pv 1) (Zam (Zbl K) rfl T.len Ybz (Zaa (pv 0) Zad)) (Za9 _)))) (fun _ _ _ _ _=>(ZaY (Zgg K) (pv 0) (pv 1) (fun _ _=>rfl))))))),?_⟩;refine⟨_,rfl,l,true,rfl,⟨_,SqL.of hl⟩,?_⟩;refine ZbF (b:=true) (K:=K) (a:=l) (xs:=as.map V.ref) (fun j=>W[j]?.bind (·[i]?)) (SqL.of hl) (by rw[Yaa];(clear hal;omega)) (fun j x hx H1 s1 A B hf=>?_) fun acc H1 h0 s1 hacc=>?_
  ·obtain⟨q,hq,rfl⟩:=Zaq hx;have hj:=(Yab.mp hq).1
   have hW:W[j]?=some W[j]:=Yae (by (clear h20;omega));have hw:=s1 _ _ (hA j q _ hq hW);rw[hW] at hf;have hf:(match W[j][i]? with | some y=>∀ H',Same H1 H'->A y H' | none=>∀ H',Same H1 H'->B H'):=hf;refine⟨_,rfl,_,rfl,q,_,rfl,.inl (SqL.of hw),_,_,rfl,rfl,_,rfl,?_⟩;by_cases hi:i<W[j].length
   ·rw[Yae hi] at hf;rw[decide_eq_true (show (i:Int)<(W[j].length:Int) by (clear h20;omega))];exact iteT ⟨_,rfl,_,rfl,q,_,(i:Int),W[j][i],rfl,rfl,SqL.of hw,Zb9 (Yae hi),hf H1 (Same.refl _)⟩
   ·rw[Yca (by (clear h20;omega))] at hf;rw[decide_eq_false (show ¬ (i:Int)<(W[j].length:Int) by (clear h20;omega))];exact iteF (hf H1 (Same.refl _))
  rw[Yaa,hal,ZbP] at hacc;exact k acc H1 h0 hacc s1
theorem scCopT:FnScope ["row","up","things"] ["row"] (Zac ZgG):=⟨rfl,rfl,rfl,by decide +kernel,rfl,by decide +kernel,by decide +kernel⟩
theorem ZkG {f:Addr}{fd:FuncData} (F:Fun K "copied_turned" "copied_turned" ZgG f fd) (T:Txt mg):FnOk P w K mg base CX0 1 f fd ["row"] Zf3:=by
 refine okW F scCopT (fun vs H Q E h=>?_) (fun cdv A outer s H vs Q E hr h=>?_)
 ·obtain⟨v,d,rfl,_⟩:=h;rfl
 ·obtain⟨v,d,rfl,hv,k⟩:=h;refine⟨_,(Zae (ZcU (ZeO (ZlD (pv 0)))
   (Zas (ws (Zay Zga)))
   Zbe)
   (Zae (ws (Zch (pv 0) (ZdJ rfl (Zau (Zah (i:=1) scCopT.nd rfl (YaG rfl)) (Zau (Zah (i:=2) scCopT.nd rfl (YaG rfl)) ZaX)))))
   (Zas (ws (Zay (ZbA (Zaa (pv 1) (Zaa (Za8 Ze9 rfl T.list ZjZ (Zaa (pv 2) Zad)) Zad)))))))),?_⟩
  refine⟨_,rfl,_,rfl,?_⟩
  cases d with
  | none=>
   have:v=.non:=hv;subst this;exact iteT (k _ _ rfl (Same.refl _))
  | some d=>
   obtain⟨q,t,rfl,hq,ht,_⟩:=hv;refine iteF ?_;refine⟨_,rfl,q,_,rfl,SqT.of hq,rfl,_,_,rfl,_,_,rfl,rfl,?_⟩;refine⟨_,rfl,_,rfl,t,_,rfl,.inl (SqL.of ht),fun l nl=>⟨(by show 2<=sizeLine;decide),fun a na=>?_⟩⟩;have s1:=Same.new (o:=.lst (d.2.map V.int)) nl;have s2:=Same.new (o:=.tup [V.bl d.1,.ref l]) na;exact k _ _ ⟨a,l,rfl,Zab,s2 _ _ Zab,nl⟩ (s1.trans s2)
theorem scMrgT:FnScope ["rows","at","real","ups","things"] ["rows","at"] (Zac Zcr):=⟨rfl,rfl,rfl,by decide +kernel,rfl,by decide +kernel,by decide +kernel⟩
theorem ZmC {c:Bool}{A B:Prop} (e:c=false) (h:B):if c=true then A else B:=by
 rw[e];exact iteF h
theorem Zma {c1 c2:Bool}{T B Y:Prop} (e:(c1 && c2)=false) (hT:c2=false->Y->T) (hB:Y->B) (y:Y):if c1=true then T else B:=by
 cases c1 with
 | false=>exact iteF (hB y)
 | true=>exact iteT (hT (by simpa using e) y)
theorem ZeY (b:Bool):∀ bs:List Bool,inV (V.bl b) (bs.map V.bl)=decide (b∈bs)
 | []=>rfl
 | c::bs=>by
  have ih:=ZeY b bs;unfold inV at ih ⊢;rw[Yav,Ydd,ih];cases b <;> cases c <;> simp[eqV]
theorem ZhM {f f1:Addr}{fd d1:FuncData} (F:Fun K "merged_turned" "merged_turned" Zcr f fd) (T:Txt mg) (CM:Cal P w K mg base 1 "merged_row" ["rows"] ZcN f1 d1):FnOk P w K mg base CX0 2 f fd ["rows","at"] ZeL:=by
 refine okW F scMrgT (fun vs H Q E h=>?_) (fun cdv A outer s H vs Q E hr h=>?_)
 ·obtain⟨l,wv,ds,at_,rfl,_⟩:=h;rfl
 ·obtain⟨l,wv,ds,at_,rfl,hl,hT,h20,hc,h15,k⟩:=h;have hr1:Room 1 _:=hr.mono (by decide);refine⟨_,(Zae (ws (Za6 (i:=2) scMrgT.nd rfl rfl (own:=["row"]) (js:=[]) (CompOk.by (sc:=Zac Zcr) (N:=["rows","at","real","ups","things"]) rfl rfl (by decide +kernel)) rfl (ZaC (pv 0)) Zai (fun _ _ _ _ _=>(Zah (i:=0) (by show (["row"]:List Str).Nodup;decide +kernel) rfl (YaG rfl) (.inr rfl))) (fun _ _ _ _ _=>(Zbz (ZeO (Zef (pv 0))))) (fun _ _ _ _ _=>(pv 0))))
   (Zae (ZcU (Zc3 (Zf7 (pv 2) (fun _=>rfl)))
   (Zas (ws (Zay Zga)))
   Zbe)
   (Zae (ws (Za6 (i:=3) scMrgT.nd rfl rfl (own:=["up","things"]) (js:=[]) (CompOk.by (sc:=Zac Zcr) (N:=["rows","at","real","ups","things"]) rfl rfl (by decide +kernel)) rfl (ZaC (pv 2)) (Zba (i:=0) (k:=1) (K:=K)) (fun _ _ _ _ _=>(Zb3 K rfl (Zau (Zah (i:=0) (by show (["up","things"]:List Str).Nodup;decide +kernel) rfl (YaG rfl) (.inr rfl)) (Zau (Zah (i:=1) (by show (["up","things"]:List Str).Nodup;decide +kernel) rfl (YaG rfl) (.inr rfl)) ZaX)))) (fun _ _ _ _ _=>Zao) (fun _ _ _ _ _=>(pv 0))))
   (Zae (ZcU (PW.pt (Zhu (ZaK ZbB Zee (pv 3) rfl) (ZfA (ZaK ZbB Zee (pv 3) rfl))))
   (wss ZaU)
   Zbe)
   (Zae (ws (Zap (i:=4) scMrgT.nd rfl (YaG rfl) (Zan CM hr1 rfl (Zaa (Zaw (own:=["up","things"]) (js:=[]) (CompOk.by (sc:=Zac Zcr) (N:=["rows","at","real","ups","things"]) rfl rfl (by decide +kernel)) rfl (ZaC (pv 2)) (Zba (i:=0) (k:=1) (K:=K)) (fun _ _ _ _ _=>(Zb3 K rfl (Zau (Zah (i:=0) (by show (["up","things"]:List Str).Nodup;decide +kernel) rfl (YaG rfl) (.inr rfl)) (Zau (Zah (i:=1) (by show (["up","things"]:List Str).Nodup;decide +kernel) rfl (YaG rfl) (.inr rfl)) ZaX)))) (fun _ _ _ _ _=>Zao) (fun _ _ _ _ _=>(pv 1))) Zad))))
   (Zas (ws (Zay (Zgb (Zc2 (ZaY ZaM (pv 3) Zag (fun _ _=>rfl))) (ZbA (Zaa Zee (Zaa (ZeQ (pv 4) (ZaS (ZfB ZcX Zag))) Zad))) (ZbA (Zaa Zee (Zaa (pv 4) Zad)))))))))))),?_⟩
  obtain⟨rs,e1,e2,e3⟩:=hT.reals;have hrl:rs.length<=20:=by
   have h1:=congrArg YbK e1;rw[Yaa] at h1;have:=YbE nonV wv
   (clear h15;omega)
  refine⟨_,rfl,l,true,rfl,⟨_,SqL.of hl⟩,?_⟩;refine ZbF (b:=true) (K:=K) (a:=l) (xs:=wv) (fun i=>wv[i]?.bind nonV) (SqL.of hl) (by (clear hrl h15;omega)) (fun i x hx H1 s1 A B hf=>?_) fun acc H1 h0 s1 hacc=>?_
  ·rw[hx] at hf;obtain⟨d,_,hv⟩:=hT.at hx;refine⟨_,rfl,_,rfl,?_⟩
   cases d with
   | none=>
    have:x=.non:=hv;subst this;exact iteF (hf H1 (Same.refl _))
   | some d=>
    obtain⟨q,t,rfl,_⟩:=hv;exact iteT ⟨_,rfl,hf H1 (Same.refl _)⟩
  rw[ZbP,e1] at hacc;refine⟨_,rfl,!(rs.map fun r=>V.ref r.1).isEmpty,.inl ⟨_,SqL.of hacc,rfl⟩,?_⟩
  match rs,e2,e3,hrl,hacc with
  | [],e2,_,_,_=>
   refine iteT ?_;have e:tm ds=none:=by
    unfold tm;rw[<- e2];rfl
   refine k _ _ ?_ s1;rw[e];exact rfl
  | r0::rr,e2,e3,hrl,hacc=>
   refine iteF ?_;generalize hrs:r0::rr=rs at e2 e3 hrl hacc;have hne:rs≠[]:=by rw[<- hrs];exact YeK _ _
   have get:∀ {i:Nat}{x:V},(rs.map fun r=>V.ref r.1)[i]?=some x->∃ r,rs[i]?=some r/\x=.ref r.1:=fun {i x} h=>by
    rw[Yaf] at h
    cases e:rs[i]? with
    | none=>rw[e] at h;cases h
    | some r=>rw[e] at h;exact⟨r,rfl,(Yau h).symm⟩
   refine⟨_,rfl,acc,true,rfl,⟨_,SqL.of hacc⟩,?_⟩;refine Zbi (b:=true) (K:=K) ((rs.map fun r=>r.2.2.1).map V.bl) (show SqB true K H1 acc (rs.map fun r=>V.ref r.1) from SqL.of hacc) (by simp) (by rw[Yaa];(clear h15 h20;omega)) (fun i x y hx hy Hc sc Rr hRr=>?_) fun a2 H2 n2 s2 ha2=>?_
   ·obtain⟨r,hr,rfl⟩:=get hx;rw[Yaf,Yaf,hr] at hy;have hy:some (V.bl r.2.2.1)=some y:=hy;cases hy;have hk:=(e3 r (Yah hr)).same (s1.trans sc);exact⟨r.1,_,rfl,SqT.of hk.1,rfl,_,_,rfl,_,_,rfl,rfl,_,rfl,hRr Hc (Same.refl _)⟩
   have hup:rs.map (fun r=>r.2.2.1)=(ZaA ds).map (·.1):=by rw[<- e2,YaW];rfl
   have fl:((rs.map fun r=>r.2.2.1).map V.bl).all Zde=true:=by
    rw[Ycm];intro x hx;obtain⟨b,_,rfl⟩:=YaV.mp hx;rfl
   have nc:(inV (V.bl true) ((rs.map fun r=>r.2.2.1).map V.bl) && inV (V.bl false) ((rs.map fun r=>r.2.2.1).map V.bl))=false:=by
    rw[ZeY,ZeY,hup]
    cases h1:decide (true∈(ZaA ds).map (·.1)) with
    | false=>rfl
    | true=>
     cases h2:decide (false∈(ZaA ds).map (·.1)) with
     | false=>rfl
     | true=>exact absurd ⟨of_decide_eq_true h1,of_decide_eq_true h2⟩ hc
   refine⟨_,rfl,a2,_,rfl,.inl (SqL.of ha2),rfl,fl,_,rfl,?_⟩;refine Zma nc (fun h2 y=>⟨_,rfl,a2,_,rfl,.inl (SqL.of ha2),rfl,fl,_,rfl,ZmC h2 y⟩) (fun y=>iteF y) ?_;have s12:=s1.trans s2;have hacc2:=s2 _ _ hacc;refine⟨_,rfl,acc,true,rfl,⟨_,SqL.of hacc2⟩,?_⟩;refine Zbi (b:=true) (K:=K) ((rs.map fun r=>r.2.1).map V.ref) (show SqB true K H2 acc (rs.map fun r=>V.ref r.1) from SqL.of hacc2) (by simp) (by rw[Yaa];(clear h15 h20;omega)) (fun i x y hx hy Hc sc Rr hRr=>?_) fun a3 H3 n3 s3 ha3=>?_
   ·obtain⟨r,hr,rfl⟩:=get hx;rw[Yaf,Yaf,hr] at hy;have hy:some (V.ref r.2.1)=some y:=hy;cases hy;have hk:=(e3 r (Yah hr)).same (s12.trans sc);exact⟨r.1,_,rfl,SqT.of hk.1,rfl,_,_,rfl,_,_,rfl,rfl,_,rfl,hRr Hc (Same.refl _)⟩
   have s13:=s12.trans s3;have hLL:LLs H3 (rs.map fun r=>r.2.1) (rs.map fun r=>r.2.2.2):=by
    refine⟨by rw[Yaa,Yaa],fun j a xs h1 h2=>?_⟩;rw[Yaf] at h1 h2
    cases e:rs[j]? with
    | none=>rw[e] at h1;cases h1
    | some r=>
     rw[e] at h1 h2;cases h1;cases h2;exact ((e3 r (Yah e)).same s13).2.1
   have hN:rs.map (fun r=>r.2.2.2)=(ZaA ds).map (·.2):=by rw[<- e2,YaW];rfl
   refine⟨a3,_,_,rfl,RwS.of ha3 hLL,?_,fun l4 ms H4 nl4 hl4 hp hs s4=>?_⟩
   ·have:(lenN (rs.map fun r=>r.2.2.2)).sum=((rs.map fun r=>r.2.2.2).flatten).length:=by unfold lenN;rw[YbJ]
    rw[this,hN];exact h15
   have ems:=ZdA hp hs;have ha24:=s4 _ _ (s3 _ _ ha2);have s14:=s13.trans s4;have e:tm ds=if r0.2.2.1 then some (false,ms.reverse) else some (true,ms):=by
    have e0:ZaA ds=r0.2.2::rr.map (·.2.2):=by rw[<- e2,<- hrs];rfl
    unfold tm;rw[e0,ems,hN,e0]
   refine⟨_,rfl,a2,_,0,.bl r0.2.2.1,rfl,rfl,SqL.of ha24,by rw[<- hrs];exact Zb9 (xs:=((r0::rr).map fun r=>r.2.2.1).map V.bl) (j:=0) rfl,_,rfl,?_⟩
   cases hu:r0.2.2.1 with
   | true=>
    rw[hu] at e;refine iteT ⟨_,rfl,1,rfl,_,rfl,rfl,l4,_,rfl,SqL.of hl4,fun lr nlr=>⟨(by show 2<=sizeLine;decide),fun q nq=>?_⟩⟩;rw[<- Yb0] at nq ⊢;have s5:=Same.new (o:=.lst (ms.reverse.map V.int)) nlr;have s6:=Same.new (o:=.tup [V.bl false,.ref lr]) nq;refine k _ _ ?_ ((s14.trans s5).trans s6);rw[e];exact⟨q,lr,rfl,Zab,s6 _ _ Zab,s14.free nlr⟩
   | false=>
    rw[hu] at e;refine iteF ⟨_,rfl,(by show 2<=sizeLine;decide),fun q nq=>?_⟩;have s6:=Same.new (o:=.tup [V.bl true,.ref l4]) nq;refine k _ _ ?_ (s14.trans s6);rw[e];exact⟨q,l4,rfl,Zab,s6 _ _ hl4,s13.free nl4⟩
theorem Zmn:FnScope ["rows"] ["rows"] (Zac sThT):=⟨rfl,rfl,rfl,by decide +kernel,rfl,by decide +kernel,by decide +kernel⟩
def thV (H:Hp):V->Option V
 | .ref q=>match H q with
  | some (.tup [_,y])=>some y
  | _=>none
 | _=>none
theorem Zg7 {H:Hp}{q:Addr}{x y:V} (h:H q=some (.tup [x,y])):thV H (.ref q)=some y:=by
 show (match H q with | some (.tup [_,y])=>some y | _=>none)=some y;rw[h]
theorem Zd7 {H:Hp}:∀ {vs:List V}{ds:List TD}{rs:List RT},TVs (fun _=>none) H vs ds->vs.filterMap nonV=rs.map (fun r=>V.ref r.1)->(∀ r∈rs,RTok (fun _=>none) H r)->vs.filterMap (thV H)=(rs.map fun r=>r.2.1).map V.ref
 | [],_,[],_,_,_=>rfl
 | [],_,r::rs,_,e,_=>by simp at e
 | v::vs,[],_,h,_,_=>absurd h.1 (by simp)
 | v::vs,none::ds,rs,h,e,hr=>by
  have:v=.non:=h.uncons.1;subst this;rw[YaH] at e ⊢;exact Zd7 h.uncons.2 e hr
 | v::vs,some d::ds,rs,h,e,hr=>by
  obtain⟨q,t,rfl,hq,ht,_⟩:=h.uncons.1;rw[YaH] at e;have e:V.ref q::vs.filterMap nonV=rs.map (fun r=>V.ref r.1):=e
  cases rs with
  | nil=>simp at e
  | cons r rs=>
   rw[Yav] at e;injection e with e1 e2;injection e1 with e1;have ih:=Zd7 h.uncons.2 e2 fun x hx=>hr x (Yao _ hx);have h1:=(hr r YaA).1
   rw[<- e1,hq] at h1;injection h1 with h1;injection h1 with h1;injection h1 with _ h1;injection h1 with h1 _;injection h1 with h1;rw[YaH,ih,Yav,Yav,<- h1];have e9:thV H (V.ref q)=some (.ref t):=Zg7 hq;rw[e9]
theorem ZlL {f f1:Addr}{fd d1:FuncData} (F:Fun K "things_turned" "things_turned" sThT f fd) (T:Txt mg) (CI:Cal P w K mg base 1 "things_in" ["rows"] Zkg f1 d1):FnOk P w K mg base CX0 2 f fd ["rows"] ZiS:=by
 refine okW F Zmn (fun vs H Q E h=>?_) (fun cdv A outer s H vs Q E hr h=>?_)
 ·obtain⟨l,wv,ds,rfl,_⟩:=h;rfl
 ·obtain⟨l,wv,ds,rfl,hl,hT,h15,k⟩:=h;have hr1:Room 1 _:=hr.mono (by decide);refine⟨_,(Zas (ws (Zay (Zan CI hr1 rfl (Zaa (Zaw (own:=["row"]) (js:=[]) (CompOk.by (sc:=Zac sThT) (N:=["rows"]) rfl rfl (by decide +kernel)) rfl (ZaC (pv 0)) Zai (fun _ _ _ _ _=>(Zah (i:=0) (by show (["row"]:List Str).Nodup;decide +kernel) rfl (YaG rfl) (.inr rfl))) (fun _ _ _ _ _=>(Zbz (ZeO (Zef (pv 0))))) (fun _ _ _ _ _=>(ZaY (ZfH K) (pv 0) Zag (fun _ _=>rfl)))) Zad))))),?_⟩;obtain⟨rs,e1,e2,e3⟩:=hT.reals;have hrl:rs.length<=15000:=by
   have h1:=congrArg YbK e1;rw[Yaa] at h1;have:=YbE nonV wv;omega
  refine⟨_,rfl,l,true,rfl,⟨_,SqL.of hl⟩,?_⟩;refine ZbF (b:=true) (K:=K) (a:=l) (xs:=wv) (fun i=>wv[i]?.bind (thV H)) (SqL.of hl) (by (clear hrl;omega)) (fun i x hx H1 s1 A B hf=>?_) fun acc H1 h0 s1 hacc=>?_
  ·rw[hx] at hf;obtain⟨d,_,hv⟩:=hT.at hx;refine⟨_,rfl,_,rfl,?_⟩
   cases d with
   | none=>
    have:x=.non:=hv;subst this;exact iteF (hf H1 (Same.refl _))
   | some d=>
    obtain⟨q,t,rfl,hq,ht,_⟩:=hv;have e:thV H (V.ref q)=some (.ref t):=Zg7 hq;have hf:(match thV H (V.ref q) with | some y=>∀ H',Same H1 H'->A y H' | none=>∀ H',Same H1 H'->B H'):=hf;rw[e] at hf;exact iteT ⟨_,rfl,q,_,1,.ref t,rfl,rfl,SqT.of (s1 _ _ hq),rfl,hf H1 (Same.refl _)⟩
  rw[ZbP,Zd7 hT e1 e3] at hacc;have hLL:LLs H1 (rs.map fun r=>r.2.1) (rs.map fun r=>r.2.2.2):=by
   refine⟨by rw[Yaa,Yaa],fun j a xs h1 h2=>?_⟩;rw[Yaf] at h1 h2
   cases e:rs[j]? with
   | none=>rw[e] at h1;cases h1
   | some r=>
    rw[e] at h1 h2;cases h1;cases h2;exact ((e3 r (Yah e)).same s1).2.1
  refine⟨acc,_,_,rfl,hacc,hLL,by rw[Yaa];(clear h15;omega),fun H2 s2=>?_⟩;have e:((rs.map fun r=>r.2.2.2).map fun xs=>(xs.length:Int)).sum=tth ds:=by
   unfold tth;rw[<- e2,YaW,YaW];rfl
  rw[e];exact k H2 (s1.trans s2)
end
end Fi59
namespace Fi59
open PySem L2 Lv
section
variable {P:Program}{w:World}{K:Yad}{mg:Str->Option Value}{base:Heap}
theorem scLW:FnScope ["p","counts","level","of_level"] ["p","counts"] (Zac sLW):=⟨rfl,rfl,rfl,by decide +kernel,rfl,by decide +kernel,by decide +kernel⟩
theorem ZlM {f f1 f2:Addr}{fd d1 d2:FuncData} (F:Fun K "level_with" "level_with" sLW f fd) (T:Txt mg) (CF:Cal P w K mg base 1 "first_counts" ["p"] Zc0 f1 d1) (CN:Cal P w K mg base 1 "next_counts" ["counts"] (ZeK K) f2 d2):FnOk P w K mg base CX0 2 f fd ["p","counts"] (spLW K):=by
 refine okW F scLW (fun vs H Q E h=>?_) (fun cdv A outer s H vs Q E hr h=>?_)
 ·obtain⟨p,n,a,rfl,_⟩:=h;rfl
 ·obtain⟨p,n,a,rfl,h1,h2,hA,k⟩:=h;have hu0:(A.deeper (Ydx "level_with" (Zac sLW) s.heap.objs.size f cdv)).units<cLine:=by have:=hr.un;(clear h2 h1;omega)
  have hr1:Room 1 _:=hr.mono (by decide);refine⟨_,(Zae (ws (Zap (i:=2) scLW.nd rfl (YaG rfl) Zag))
   (Zae (ws (Zap (i:=3) scLW.nd rfl (YaG rfl) (Zan CF hr1 rfl (Zaa (pv 0) Zad))))
   (Zae (ws (Zi1 Ybw (ZaK ZgL (Zam (Zdm rfl) rfl T.sum ZgX (Zaa (pv 3) Zad)) (Zam (Zdm rfl) rfl T.sum ZgX (Zaa (pv 1) Zad)) (Za9 _))
   (WSs.out (Zae (ws (Zap (i:=3) scLW.nd rfl (YaG rfl) (Zan CN hr1 rfl (Zaa (pv 3) Zad))))
    (Zas (ws (Zhy (i:=2) scLW.nd rfl (YaG rfl) Zag Zh3)))))))
   (Zae (ZcU (ZaK (ZlG hu0) (pv 3) (pv 1) (Za9 _))
   (wss ZaU)
   Zbe)
   (Zas (ws (Zay (pv 2)))))))),?_⟩
  refine⟨_,rfl,p,rfl,h1,h2,fun l H1 hl0 hl1 s1=>?_⟩;refine⟨fun m σ H2=>∃ (k:Nat) (l:Addr),σ=[some (.int p),some (.ref a),some (.int k),some (.ref l)]/\H2 l=some (.tup ((cnt p k).map V.int))/\Same H H2/\k<=n/\m=n - k,⟨_,0,l,rfl,hl1,s1,YaX _,rfl⟩,?_⟩;rintro m σ H2 ⟨k',l,rfl,hl2,s2,hk,rfl⟩;have hlen:=Zbc (p:=p) (by (clear hk hu0 h2;omega)) k';refine⟨_,rfl,l,_,rfl,SqT.of hl2,_,rfl,a,_,rfl,s2.tup hA,_,_,rfl,rfl,_,rfl,?_⟩;refine ite2 (fun hc=>?_) (fun hc=>?_)
  ·have hc':tot p k'<tot p n:=of_decide_eq_true hc;have hkn:k'<n:=by
    rcases Ybd k' n with z | z
    ·exact z
    ·have:=ZbK h1 z
     (clear z hlen hk hu0 h2 h1;omega)
   refine⟨fun σ H2=>∃ l:Addr,σ=[some (.int p),some (.ref a),some (.int ((k'+1:Nat):Int)),some (.ref l)]/\H2 l=some (.tup ((cnt p (k'+1)).map V.int))/\Same H H2,?_,?_⟩
   ·rintro σ' H' ⟨l',rfl,hl',s'⟩;exact⟨_,(by (clear hc' hlen hk hu0 h2 h1;omega)),k'+1,l',rfl,hl',s',hkn,rfl⟩
   ·refine⟨_,rfl,l,cnt p k',rfl,SqT.of hl2,by (clear hkn hc' hk hu0 h2;omega),by (clear hkn hc' hk hu0 h1;omega),fun l3 H3 h30 h3 s3=>?_⟩;exact⟨_,rfl,_,_,rfl,rfl,l3,rfl,h3,s2.trans s3⟩
  ·have hc':¬ tot p k'<tot p n:=fun z=>hc (decide_eq_true z);have hkn:k'=n:=by
    rcases Ybd k' n with z | z
    ·have:=Zj7 h1 z
     (clear z hc hlen hk hu0 h2 h1;omega)
    ·(clear hc' hc hlen hu0 h2 h1;omega)
   subst hkn;refine⟨_,rfl,_,rfl,l,a,_,_,rfl,rfl,SqT.of hl2,s2.tup hA,?_⟩;rw[decide_eq_true rfl];exact⟨_,rfl,iteF ⟨_,rfl,k H2 s2⟩⟩
theorem scPhT:FnScope ["reels","phase","merged","out","many","taken","behind"] ["reels","phase","merged"] (Zac sPhT):=⟨rfl,rfl,rfl,by decide +kernel,rfl,by decide +kernel,by decide +kernel⟩
theorem ZjT {f f1 f2 f3:Addr}{fd d1 d2 d3:FuncData} (F:Fun K "turned_phase" "turned_phase" sPhT f fd) (T:Txt mg) (CM:Cal P w K mg base 2 "merged_turned" ["rows","at"] ZeL f1 d1) (CK:Cal P w K mg base 1 "taken_at" ["taken","at"] ZiR f2 d2) (CT:Cal P w K mg base 2 "things_turned" ["rows"] ZiS f3 d3):FnOk P w K mg base CX0 3 f fd ["reels","phase","merged"] Zhl:=by
 refine okW F scPhT (fun vs H Q E h=>?_) (fun cdv A outer s H vs Q E hr h=>?_)
 ·obtain⟨Hb,l,q,as,Vs,D,o,m,g,rfl,_⟩:=h;rfl
 ·obtain⟨Hb,l,q,as,Vs,D,o,m,g,rfl,hl,hRL,hTV,hbs,hq,ho,hm,hz,hcl,k⟩:=h;have hr1:Room 1 _:=hr.mono (by decide);have hr2:Room 2 _:=hr.mono (by decide);refine⟨_,(Zae (ws (Zch (pv 1) (ZdJ rfl (Zau (Zah (i:=3) scPhT.nd rfl (YaG rfl)) (Zau (Zah (i:=4) scPhT.nd rfl (YcV rfl)) ZaX)))))
   (Zae (ws (Zap (i:=5) scPhT.nd rfl (YcV rfl) (Zaw (own:=["reel"]) (js:=[4]) (CompOk.by (sc:=Zac sPhT) (N:=["reels","phase","merged","out","many","taken","behind"]) rfl rfl (by decide +kernel)) rfl (ZaC (pv 0)) Zai (fun _ _ _ _ _=>(Zah (i:=0) (by show (["reel","many"]:List Str).Nodup;decide +kernel) rfl (YaG rfl) (.inr rfl))) (fun _ _ _ _ _=>Zao) (fun _ _ _ _ _=>(Zbo (ZcQ K) (pe_revK K (pv 0) (ZaS (ZfB ZcX Zag))) Zb2 (ZaS (pv 1)))))))
   (Zae (ws (Za6 (i:=6) scPhT.nd rfl rfl (own:=["reel"]) (js:=[4]) (CompOk.by (sc:=Zac sPhT) (N:=["reels","phase","merged","out","many","taken","behind"]) rfl rfl (by decide +kernel)) rfl (ZaC (pv 0)) Zai (fun _ _ _ _ _=>(Zah (i:=0) (by show (["reel","many"]:List Str).Nodup;decide +kernel) rfl (YaG rfl) (.inr rfl))) (fun _ _ _ _ _=>Zao) (fun _ _ _ _ _=>(Zbo (ZcQ K) (pv 0) Zb2 (ZaS (Zam (Zcn rfl) rfl T.max ZjD (Zaa (Zav Zc6 (Zam (Zbl K) rfl T.len Ybz (Zaa (pv 0) Zad)) (pv 1)) (Zaa Zag Zad))))))))
   (Zae (ws (Zch (Zaw (own:=["at"]) (js:=[2,5]) (CompOk.by (sc:=Zac sPhT) (N:=["reels","phase","merged","out","many","taken","behind"]) rfl rfl (by decide +kernel)) rfl (ZaL rfl T.range (Zaa (pv 4) Zad)) Zai (fun _ _ _ _ _=>(Zah (i:=0) (by show (["at","merged","taken"]:List Str).Nodup;decide +kernel) rfl (YaG rfl) (.inr rfl))) (fun _ _ _ _ _=>Zao) (fun _ _ _ _ _=>(Zan CM hr2 rfl (Zaa (Zan CK hr1 rfl (Zaa (pv 2) (Zaa (pv 0) Zad))) (Zaa (Zav ZaV (pv 1) (pv 0)) Zad))))) (Zf9 (pv 6) (pv 3) ZcR)))
   (Zas (ws (Zay (ZbA (Zaa (pv 6) (Zaa (Zaw (own:=["rows"]) (js:=[]) (CompOk.by (sc:=Zac sPhT) (N:=["reels","phase","merged","out","many","taken","behind"]) rfl rfl (by decide +kernel)) rfl (ZaC (pv 5)) Zai (fun _ _ _ _ _=>(Zah (i:=0) (by show (["rows"]:List Str).Nodup;decide +kernel) rfl (YaG rfl) (.inr rfl))) (fun _ _ _ _ _=>Zao) (fun _ _ _ _ _=>(Zan CT hr2 rfl (Zaa (pv 0) Zad)))) Zad)))))))))),?_⟩
  have hal:as.length=Vs.length:=hRL.1;have hvl:Vs.length=D.length:=hTV.1;have hz20:=hz.1;have ho':o<D.length:=(Yab.mp ho).1
  have getV:∀ {j:Nat}{r:Addr},as[j]?=some r->∃ vs,Vs[j]?=some vs/\Vs.getD j []=vs/\H r=some (.lst vs):=fun {j r} e=>by
   obtain⟨vs,e1,e2⟩:=hRL.at e;exact⟨vs,e1,by rw[Yat,e1];rfl,e2⟩
  refine⟨_,rfl,q,_,rfl,SqT.of hq,rfl,_,_,rfl,_,_,rfl,rfl,?_⟩;refine⟨_,rfl,l,true,rfl,⟨_,SqL.of hl⟩,?_⟩;refine ZbR (b:=true) (K:=K) (a:=l) (xs:=as.map V.ref) (fun j=>(Vs.getD j []).reverse.take m) (SqL.of hl) (by rw[Yaa];(clear ho' hm;omega)) (fun i x hx H1 s1 R hR=>?_) fun tk qs H1 htk0 htk hql hqs s1=>?_
  ·obtain⟨r,hr',rfl⟩:=Zaq hx;obtain⟨vs,_,ev,hrv⟩:=getV hr';refine⟨_,rfl,1,rfl,-1,rfl,rfl,r,_,rfl,SqL.of (s1 _ _ hrv),fun lv ev'=>?_⟩;refine⟨_,rfl,_,rfl,lv,_,rfl,SqL.of Zab,fun p np=>?_⟩;rw[Zdh];have s2:Same H1 (upd H1 lv (.lst vs.reverse)):=Same.new ev';exact hR p _ (s2.free np) (by rw[Zab,ev]) (s2.trans (Same.new np))
  rw[Yaa] at hql;have hRtk:RL H1 qs (Vs.map fun vs=>vs.reverse.take m):=⟨by rw[Yaa];(clear ho' hz20 hvl hm;omega),fun j r ws h1 h2=>by
   rw[Yaf] at h2
   cases e:Vs[j]? with
   | none=>rw[e] at h2;cases h2
   | some vs=>
    rw[e] at h2;cases h2;have:=(hqs j r h1).2.2
    rw[Yat,e] at this;exact this⟩
  have hl1:=s1 _ _ hl;refine⟨_,rfl,l,true,rfl,⟨_,SqL.of hl1⟩,?_⟩;refine ZbR (b:=true) (K:=K) (a:=l) (xs:=as.map V.ref) (fun j=>cutT m (Vs.getD j [])) (SqL.of hl1) (by rw[Yaa];(clear hql ho' hm;omega)) (fun i x hx H2 s2 R hR=>?_) fun bh bs H2 hbh0 hbh hbl hbsq s2=>?_
  ·obtain⟨r,hr',rfl⟩:=Zaq hx;obtain⟨vs,_,ev,hrv⟩:=getV hr';have hrv2:=s2 _ _ (s1 _ _ hrv);refine⟨_,rfl,_,rfl,r,_,rfl,.inl (SqL.of hrv2),_,rfl,_,_,rfl,rfl,_,_,rfl,_,rfl,r,_,rfl,SqL.of hrv2,fun p np=>?_⟩;rw[Zgn];exact hR p _ np (by rw[Zab,ev]) (Same.new np)
  rw[Yaa] at hbl;have hRbs:RL H2 bs (Vs.map (cutT m)):=⟨by rw[Yaa];(clear hql ho' hz20 hvl hm;omega),fun j r ws h1 h2=>by
   rw[Yaf] at h2
   cases e:Vs[j]? with
   | none=>rw[e] at h2;cases h2
   | some vs=>
    rw[e] at h2;cases h2;have:=(hbsq j r h1).2.2
    rw[Yat,e] at this;exact this⟩
  have s12:=s1.trans s2;have hTV2:TVD (fun _=>none) H2 (Vs.map fun vs=>vs.reverse.take m) (D.map fun ds=>ds.reverse.take m):=((hTV.same s12).base fun _ _=>rfl).map fun vs ds h=>h.rev.take m;refine⟨_,rfl,_,rfl,by (clear hbl hql ho' hz20 hvl hal hm;omega),by (clear hbl hql ho' hz20 hvl hal;omega),?_⟩;rw[YaN];refine Zir (fun i=>tm (tkT D m i)) (by (clear hbl hql ho' hz20 hvl hal;omega)) (fun i hi H3 s3 R hR=>?_) fun ml ys H3 hml0 hml hTy s3=>?_
  ·have hRtk3:=(hRtk.same s2).same s3;refine⟨_,rfl,_,rfl,tk,qs,_,i,(by rw[Ycd];rfl),s3 _ _ (s2 _ _ htk),hRtk3.1,hRtk3.2,by (clear hi hbl ho' hm;omega),fun a H4 ha0 ha s4=>?_⟩;refine⟨_,rfl,_,rfl,_,_,rfl,rfl,?_⟩;refine⟨a,_,tkT D m i,_,rfl,ha,?_,?_,hcl i hi,?_,fun v H5 hv s5=>hR v H5 ?_ (s4.trans s5)⟩
   ·rw[ZdW];exact ((hTV2.same s3).same s4).col i
   ·have:=YbE (·[i]?) (Vs.map fun vs=>vs.reverse.take m);rw[Yaa] at this
    (clear hi hbl hql ho' hal hm;omega)
   ·exact Zgp hz.2.2 i
   ·exact hv.base fun t ht=>s4.free ht
  have hbh3:=s3 _ _ hbh;refine⟨_,rfl,_,rfl,bh,_,_,o,rfl,rfl,hbh3,ZjV (by (clear hbl hql ho' hz20 hvl hal hm;omega)) (by rw[Yaa];(clear hql hz20 hm;omega)),?_⟩;rw[<- Yd6];have n0:H bh=none:=s1.free hbh0;have nbm:ml≠bh:=fun z=>by rw[z,hbh] at hml0;cases hml0
  have ntk:tk≠bh:=fun z=>by rw[z,hbh0] at htk;cases htk
  have hRb4:RL (upd H3 bh (.lst ((bs.set o ml).map V.ref))) (bs.set o ml) ((Vs.map (cutT m)).set o ys):=RL.set ((hRbs.same s3).off fun r hr'=>by
   obtain⟨j,hj⟩:=Ybg hr';exact (hbsq j r hj).1) (by rw[upd_ne nbm];exact hml)
  have s04:Same H (upd H3 bh (.lst ((bs.set o ml).map V.ref))):=(s12.trans s3).put n0;have hTy4:TVs Hb (upd H3 bh (.lst ((bs.set o ml).map V.ref))) ys ((Yan m).map fun i=>tm (tkT D m i)) :=
   (hTy.put hbh3 (by rw[upd_ne nbm.symm,hbh];exact fun z=>nomatch z)).base fun t ht=>hbs t (s12.free (Zaz ht))
  have hTD4:TVD Hb (upd H3 bh (.lst ((bs.set o ml).map V.ref))) ((Vs.map (cutT m)).set o ys) (phT D o m):=TVD.set ((hTV.same s04).map fun vs ds h=>by
   unfold cutT;rw[h.1];exact h.take _) hTy4
  have hb4:upd H3 bh (.lst ((bs.set o ml).map V.ref)) bh=some (.lst ((bs.set o ml).map V.ref)):=Zab;have htk4:upd H3 bh (.lst ((bs.set o ml).map V.ref)) tk=some (.lst (qs.map V.ref)):=by rw[upd_ne ntk];exact s3 _ _ (s2 _ _ htk)
  have hRtk4:RL (upd H3 bh (.lst ((bs.set o ml).map V.ref))) qs (Vs.map fun vs=>vs.reverse.take m):=((hRtk.same s2).same s3).off fun r hr' z=>by
   obtain⟨j,hj⟩:=Ybg hr';have:=(hqs j r hj).2.2
   rw[z,hbh0] at this;cases this
  have hTVt4:TVD (fun _=>none) (upd H3 bh (.lst ((bs.set o ml).map V.ref))) (Vs.map fun vs=>vs.reverse.take m) (D.map fun ds=>ds.reverse.take m):=((hTV.same s04).base fun _ _=>rfl).map fun vs ds h=>h.rev.take m;generalize upd H3 bh (.lst ((bs.set o ml).map V.ref))=H4 at hRb4 s04 hTy4 hTD4 hb4 htk4 hRtk4 hTVt4 ⊢;refine⟨_,rfl,_,rfl,tk,true,rfl,⟨_,SqL.of htk4⟩,?_⟩;refine Zbi ((rdT D m).map V.int) (show SqB true K H4 tk (qs.map V.ref) from SqL.of htk4) (by simp[rdT];(clear ntk nbm hbl ho' hz20 hm;omega)) (by rw[Yaa];(clear ntk nbm hbl ho' hm;omega)) (fun i x y hx hy H5 s5 R hR=>?_) fun acc H5 h0 s5 hacc=>?_
  ·obtain⟨r,hr',rfl⟩:=Zaq hx;obtain⟨ws,hw,hrw⟩:=hRtk4.at hr';obtain⟨ds,hds,htv⟩:=hTVt4.at hw;have hd2:∃ d0,D[i]?=some d0/\ds=d0.reverse.take m:=by
    rw[Yaf] at hds
    cases e:D[i]? with
    | none=>rw[e] at hds;cases hds
    | some d0=>rw[e] at hds;exact⟨d0,rfl,(Yau hds).symm⟩
   obtain⟨d0,hd0,rfl⟩:=hd2;have ey:y=.int (tth (d0.reverse.take m)):=by
    unfold rdT at hy;rw[YaW,Yaf,hd0] at hy;exact (Yau hy).symm
   subst ey;have hlen:ws.length<=15000:=by
    rw[htv.1,YaL]
    (clear ntk nbm hbl hql ho' hz20 hvl hal;omega)
   exact⟨_,rfl,r,ws,_,rfl,s5 _ _ hrw,htv.same s5,hlen,fun H6 s6=>hR H6 s6⟩
  ·refine⟨(by show 2<=sizeLine;decide),fun t nt=>?_⟩;have s6:Same H5 (upd H5 t (.tup [.ref bh,.ref acc])):=Same.new nt;exact k t bh acc _ _ _ Zab (s6 _ _ (s5 _ _ hb4)) ((hRb4.same s5).same s6) ((hTD4.same s5).same s6) (s6 _ _ hacc) n0 (s04.free h0) ((s04.trans s5).trans s6)
end
end Fi59
namespace Fi59
open PySem L2 Lv
section
variable {P:Program}{w:World}{K:Yad}{mg:Str->Option Value}{base:Heap}
def Zfs (C:Addr):Sp:=fun vs H _ E=>∃ (l:Addr) (ws:List V) (ds:List TD) (at_:Int),vs=[.ref l,.int at_]/\H l=some (.lst ws)/\TVs (fun _=>none) H ws ds/\ws.length<=20/\¬ NoCl ds/\∀ dx H',Same H H'->H' dx=none->E (.ref C) (some dx) (upd H' dx (.xd [("at",.int at_)]))
def Clash57 (C:Addr) (c:Int) (H:Hp) (E:XK):Prop:=∀ dx H',Same H H'->H' dx=none->E (.ref C) (some dx) (upd H' dx (.xd [("at",.int c)]))
theorem Clash57.from {C:Addr}{c:Int}{H H1:Hp}{E:XK} (k:Clash57 C c H E) (s:Same H H1):Clash57 C c H1 E:=fun dx H' s' h=>k dx H' (s.trans s') h
theorem Zji {f f1:Addr}{fd d1:FuncData} (F:Fun K "merged_turned" "merged_turned" Zcr f fd) (T:Txt mg) (CM:Cal P w K mg base 1 "merged_row" ["rows"] ZcN f1 d1) {C fI:Addr}{dI:FuncData} (hm:mg "Clash"=some (.ref C)) (hz:ZaN K C fI=true) (FI:FnOk P w K mg base CX0 1 fI dI ["self","at"] (Zhm C)) (hb:Binds K dI ["self","at"] []):FnOk P w K mg base (CX1 P w) 3 f fd ["rows","at"] (Zfs C):=by
 refine okWE F scMrgT (fun vs H Q E h=>?_) (fun cdv A outer s H vs Q E hr h=>?_)
 ·obtain⟨l,wv,ds,at_,rfl,_⟩:=h;rfl
 ·obtain⟨l,wv,ds,at_,rfl,hl,hT,h20,hc,k⟩:=h;have hr1:Room 1 _:=hr.mono (by decide);refine⟨_,(Zae (ws (Za6 (i:=2) scMrgT.nd rfl rfl (own:=["row"]) (js:=[]) (CompOk.by (sc:=Zac Zcr) (N:=["rows","at","real","ups","things"]) rfl rfl (by decide +kernel)) rfl (ZaC (pv 0)) Zai (fun _ _ _ _ _=>(Zah (i:=0) (by show (["row"]:List Str).Nodup;decide +kernel) rfl (YaG rfl) (.inr rfl))) (fun _ _ _ _ _=>(Zbz (ZeO (Zef (pv 0))))) (fun _ _ _ _ _=>(pv 0))))
   (Zae (ZcU (Zc3 (Zf7 (pv 2) (fun _=>rfl)))
   (Zas (ws (Zay Zga)))
   Zbe)
   (Zae (ws (Za6 (i:=3) scMrgT.nd rfl rfl (own:=["up","things"]) (js:=[]) (CompOk.by (sc:=Zac Zcr) (N:=["rows","at","real","ups","things"]) rfl rfl (by decide +kernel)) rfl (ZaC (pv 2)) (Zba (i:=0) (k:=1) (K:=K)) (fun _ _ _ _ _=>(Zb3 K rfl (Zau (Zah (i:=0) (by show (["up","things"]:List Str).Nodup;decide +kernel) rfl (YaG rfl) (.inr rfl)) (Zau (Zah (i:=1) (by show (["up","things"]:List Str).Nodup;decide +kernel) rfl (YaG rfl) (.inr rfl)) ZaX)))) (fun _ _ _ _ _=>Zao) (fun _ _ _ _ _=>(pv 0))))
   (Zae (ZcU (PW.pt (Zhu (ZaK ZbB Zee (pv 3) rfl) (ZfA (ZaK ZbB Zee (pv 3) rfl))))
   (Zas (ws (Zhx Zld rfl hm hz FI hb (hr.mono (by decide)) (Zaa (pv 1) Zad))))
   Zbe)
   (Zae (ws (Zap (i:=4) scMrgT.nd rfl (YaG rfl) (Zan CM hr1 rfl (Zaa (Zaw (own:=["up","things"]) (js:=[]) (CompOk.by (sc:=Zac Zcr) (N:=["rows","at","real","ups","things"]) rfl rfl (by decide +kernel)) rfl (ZaC (pv 2)) (Zba (i:=0) (k:=1) (K:=K)) (fun _ _ _ _ _=>(Zb3 K rfl (Zau (Zah (i:=0) (by show (["up","things"]:List Str).Nodup;decide +kernel) rfl (YaG rfl) (.inr rfl)) (Zau (Zah (i:=1) (by show (["up","things"]:List Str).Nodup;decide +kernel) rfl (YaG rfl) (.inr rfl)) ZaX)))) (fun _ _ _ _ _=>Zao) (fun _ _ _ _ _=>(pv 1))) Zad))))
   (Zas (ws (Zay (Zgb (Zc2 (ZaY ZaM (pv 3) Zag (fun _ _=>rfl))) (ZbA (Zaa Zee (Zaa (pe_revK K (pv 4) (ZaS (ZfB ZcX Zag))) Zad))) (ZbA (Zaa Zee (Zaa (pv 4) Zad)))))))))))),?_⟩
  obtain⟨rs,e1,e2,e3⟩:=hT.reals;have hrl:rs.length<=20:=by
   have h1:=congrArg YbK e1;rw[Yaa] at h1;have:=YbE nonV wv
   (clear hc;omega)
  refine⟨_,rfl,l,true,rfl,⟨_,SqL.of hl⟩,?_⟩;refine ZbF (b:=true) (K:=K) (a:=l) (xs:=wv) (fun i=>wv[i]?.bind nonV) (SqL.of hl) (by (clear hrl hc;omega)) (fun i x hx H1 s1 A B hf=>?_) fun acc H1 h0 s1 hacc=>?_
  ·rw[hx] at hf;obtain⟨d,_,hv⟩:=hT.at hx;refine⟨_,rfl,_,rfl,?_⟩
   cases d with
   | none=>
    have:x=.non:=hv;subst this;exact iteF (hf H1 (Same.refl _))
   | some d=>
    obtain⟨q,t,rfl,_⟩:=hv;exact iteT ⟨_,rfl,hf H1 (Same.refl _)⟩
  rw[ZbP,e1] at hacc;refine⟨_,rfl,!(rs.map fun r=>V.ref r.1).isEmpty,.inl ⟨_,SqL.of hacc,rfl⟩,?_⟩
  match rs,e2,e3,hrl,hacc with
  | [],e2,_,_,_=>
   exact absurd (show NoCl ds from fun z=>by rw[<- e2] at z;simp at z) hc
  | r0::rr,e2,e3,hrl,hacc=>
   refine iteF ?_;generalize hrs:r0::rr=rs at e2 e3 hrl hacc;have hne:rs≠[]:=by rw[<- hrs];exact YeK _ _
   have get:∀ {i:Nat}{x:V},(rs.map fun r=>V.ref r.1)[i]?=some x->∃ r,rs[i]?=some r/\x=.ref r.1:=fun {i x} h=>by
    rw[Yaf] at h
    cases e:rs[i]? with
    | none=>rw[e] at h;cases h
    | some r=>rw[e] at h;exact⟨r,rfl,(Yau h).symm⟩
   refine⟨_,rfl,acc,true,rfl,⟨_,SqL.of hacc⟩,?_⟩;refine Zbi (b:=true) (K:=K) ((rs.map fun r=>r.2.2.1).map V.bl) (show SqB true K H1 acc (rs.map fun r=>V.ref r.1) from SqL.of hacc) (by simp) (by rw[Yaa];(clear hc h20;omega)) (fun i x y hx hy Hc sc Rr hRr=>?_) fun a2 H2 n2 s2 ha2=>?_
   ·obtain⟨r,hr,rfl⟩:=get hx;rw[Yaf,Yaf,hr] at hy;have hy:some (V.bl r.2.2.1)=some y:=hy;cases hy;have hk:=(e3 r (Yah hr)).same (s1.trans sc);exact⟨r.1,_,rfl,SqT.of hk.1,rfl,_,_,rfl,_,_,rfl,rfl,_,rfl,hRr Hc (Same.refl _)⟩
   have hup:rs.map (fun r=>r.2.2.1)=(ZaA ds).map (·.1):=by rw[<- e2,YaW];rfl
   have fl:((rs.map fun r=>r.2.2.1).map V.bl).all Zde=true:=by
    rw[Ycm];intro x hx;obtain⟨b,_,rfl⟩:=YaV.mp hx;rfl
   have nc:true∈(ZaA ds).map (·.1)/\false∈(ZaA ds).map (·.1):=Decidable.not_not.mp hc;have i1:inV (V.bl true) ((rs.map fun r=>r.2.2.1).map V.bl)=true:=by rw[ZeY,hup];exact decide_eq_true nc.1
   have i2:inV (V.bl false) ((rs.map fun r=>r.2.2.1).map V.bl)=true:=by rw[ZeY,hup];exact decide_eq_true nc.2
   refine⟨_,rfl,a2,_,rfl,.inl (SqL.of ha2),rfl,fl,_,rfl,?_⟩;rw[i1];refine iteT ⟨_,rfl,a2,_,rfl,.inl (SqL.of ha2),rfl,fl,_,rfl,?_⟩;rw[i2];exact iteT ⟨_,rfl,_,rfl,fun dx hd=>k dx _ (s1.trans s2) hd⟩
def Zhk (C:Addr):Sp:=fun vs H _ E=>∃ (l q:Addr) (as:List Addr) (Vs:List (List V)) (D:List (List TD)) (o m:Nat) (g:Int) (c:Nat),vs=[.ref l,.ref q,.int g]/\H l=some (.lst (as.map V.ref))/\RL H as Vs/\TVD (fun _=>none) H Vs D/\H q=some (.tup [.int o,.int m])/\D[o]?=some []/\m<=15000/\SzT D/\fstC D m=some c/\Clash57 C (g+c) H E
theorem ZkD {f f1 f2:Addr}{fd d1 d2:FuncData} (F:Fun K "turned_phase" "turned_phase" sPhT f fd) (T:Txt mg) {fM:Addr}{dM:FuncData}{C:Addr} (CM:CalE P w K mg base 3 "merged_turned" ["rows","at"] [] (fun vs H Q E=>ZeL vs H Q E∨Zfs C vs H Q E) fM dM) (CK:Cal P w K mg base 1 "taken_at" ["taken","at"] ZiR f1 d1) (CT:Cal P w K mg base 2 "things_turned" ["rows"] ZiS f2 d2):FnOk P w K mg base (CX1 P w) 4 f fd ["reels","phase","merged"] (Zhk C):=by
 refine okWE F scPhT (fun vs H Q E h=>?_) (fun cdv A outer s H vs Q E hr h=>?_)
 ·obtain⟨l,q,as,Vs,D,o,m,g,c,rfl,_⟩:=h;rfl
 ·obtain⟨l,q,as,Vs,D,o,m,g,c,rfl,hl,hRL,hTV,hq,ho,hm,hz,hcl,k⟩:=h;have hr1:Room 1 _:=hr.mono (by decide);have hr2:Room 2 _:=hr.mono (by decide);have hr3:Room 3 _:=hr.mono (by decide);refine⟨_,(Zae (ws (Zch (pv 1) (ZdJ rfl (Zau (Zah (i:=3) scPhT.nd rfl (YaG rfl)) (Zau (Zah (i:=4) scPhT.nd rfl (YcV rfl)) ZaX)))))
   (Zae (ws (Zap (i:=5) scPhT.nd rfl (YcV rfl) (Zaw (own:=["reel"]) (js:=[4]) (CompOk.by (sc:=Zac sPhT) (N:=["reels","phase","merged","out","many","taken","behind"]) rfl rfl (by decide +kernel)) rfl (ZaC (pv 0)) Zai (fun _ _ _ _ _=>(Zah (i:=0) (by show (["reel","many"]:List Str).Nodup;decide +kernel) rfl (YaG rfl) (.inr rfl))) (fun _ _ _ _ _=>Zao) (fun _ _ _ _ _=>(Zbo (ZcQ K) (pe_revK K (pv 0) (ZaS (ZfB ZcX Zag))) Zb2 (ZaS (pv 1)))))))
   (Zae (ws (Za6 (i:=6) scPhT.nd rfl rfl (own:=["reel"]) (js:=[4]) (CompOk.by (sc:=Zac sPhT) (N:=["reels","phase","merged","out","many","taken","behind"]) rfl rfl (by decide +kernel)) rfl (ZaC (pv 0)) Zai (fun _ _ _ _ _=>(Zah (i:=0) (by show (["reel","many"]:List Str).Nodup;decide +kernel) rfl (YaG rfl) (.inr rfl))) (fun _ _ _ _ _=>Zao) (fun _ _ _ _ _=>(Zbo (ZcQ K) (pv 0) Zb2 (ZaS (Zam (Zcn rfl) rfl T.max ZjD (Zaa (Zav Zc6 (Zam (Zbl K) rfl T.len Ybz (Zaa (pv 0) Zad)) (pv 1)) (Zaa Zag Zad))))))))
   (Zae (ws (Zch (Zi6 Zl1 (own:=["at"]) (js:=[2,5]) (CompOk.by (sc:=Zac sPhT) (N:=["reels","phase","merged","out","many","taken","behind"]) rfl rfl (by decide +kernel)) rfl (ZaL rfl T.range (Zaa (pv 4) Zad)) Zai (fun _ _ _ _ _=>(Zah (i:=0) (by show (["at","merged","taken"]:List Str).Nodup;decide +kernel) rfl (YaG rfl) (.inr rfl))) (fun _ _ _ _ _=>Zao) (fun _ _ _ _ _ _ hp=>(ZfE CM hr3 hp rfl (Zaa (Zan CK hr1 rfl (Zaa (pv 2) (Zaa (pv 0) Zad))) (Zaa (Zav ZaV (pv 1) (pv 0)) Zad))))) (Zf9 (pv 6) (pv 3) ZcR)))
   (Zas (ws (Zay (ZbA (Zaa (pv 6) (Zaa (Zaw (own:=["rows"]) (js:=[]) (CompOk.by (sc:=Zac sPhT) (N:=["reels","phase","merged","out","many","taken","behind"]) rfl rfl (by decide +kernel)) rfl (ZaC (pv 5)) Zai (fun _ _ _ _ _=>(Zah (i:=0) (by show (["rows"]:List Str).Nodup;decide +kernel) rfl (YaG rfl) (.inr rfl))) (fun _ _ _ _ _=>Zao) (fun _ _ _ _ _=>(Zan CT hr2 rfl (Zaa (pv 0) Zad)))) Zad)))))))))),?_⟩
  have hal:as.length=Vs.length:=hRL.1;have hvl:Vs.length=D.length:=hTV.1;have hz20:=hz.1;have ho':o<D.length:=(Yab.mp ho).1
  have getV:∀ {j:Nat}{r:Addr},as[j]?=some r->∃ vs,Vs[j]?=some vs/\Vs.getD j []=vs/\H r=some (.lst vs):=fun {j r} e=>by
   obtain⟨vs,e1,e2⟩:=hRL.at e;exact⟨vs,e1,by rw[Yat,e1];rfl,e2⟩
  refine⟨_,rfl,q,_,rfl,SqT.of hq,rfl,_,_,rfl,_,_,rfl,rfl,?_⟩;refine⟨_,rfl,l,true,rfl,⟨_,SqL.of hl⟩,?_⟩;refine ZbR (b:=true) (K:=K) (a:=l) (xs:=as.map V.ref) (fun j=>(Vs.getD j []).reverse.take m) (SqL.of hl) (by rw[Yaa];(clear ho' hm;omega)) (fun i x hx H1 s1 R hR=>?_) fun tk qs H1 htk0 htk hql hqs s1=>?_
  ·obtain⟨r,hr',rfl⟩:=Zaq hx;obtain⟨vs,_,ev,hrv⟩:=getV hr';refine⟨_,rfl,1,rfl,-1,rfl,rfl,r,_,rfl,SqL.of (s1 _ _ hrv),fun lv ev'=>?_⟩;refine⟨_,rfl,_,rfl,lv,_,rfl,SqL.of Zab,fun p np=>?_⟩;rw[Zdh];have s2:Same H1 (upd H1 lv (.lst vs.reverse)):=Same.new ev';exact hR p _ (s2.free np) (by rw[Zab,ev]) (s2.trans (Same.new np))
  rw[Yaa] at hql;have hRtk:RL H1 qs (Vs.map fun vs=>vs.reverse.take m):=⟨by rw[Yaa];(clear ho' hz20 hvl hm;omega),fun j r ws h1 h2=>by
   rw[Yaf] at h2
   cases e:Vs[j]? with
   | none=>rw[e] at h2;cases h2
   | some vs=>
    rw[e] at h2;cases h2;have:=(hqs j r h1).2.2
    rw[Yat,e] at this;exact this⟩
  have hl1:=s1 _ _ hl;refine⟨_,rfl,l,true,rfl,⟨_,SqL.of hl1⟩,?_⟩;refine ZbR (b:=true) (K:=K) (a:=l) (xs:=as.map V.ref) (fun j=>cutT m (Vs.getD j [])) (SqL.of hl1) (by rw[Yaa];(clear hql ho' hm;omega)) (fun i x hx H2 s2 R hR=>?_) fun bh bs H2 hbh0 hbh hbl hbsq s2=>?_
  ·obtain⟨r,hr',rfl⟩:=Zaq hx;obtain⟨vs,_,ev,hrv⟩:=getV hr';have hrv2:=s2 _ _ (s1 _ _ hrv);refine⟨_,rfl,_,rfl,r,_,rfl,.inl (SqL.of hrv2),_,rfl,_,_,rfl,rfl,_,_,rfl,_,rfl,r,_,rfl,SqL.of hrv2,fun p np=>?_⟩;rw[Zgn];exact hR p _ np (by rw[Zab,ev]) (Same.new np)
  rw[Yaa] at hbl;have hRbs:RL H2 bs (Vs.map (cutT m)):=⟨by rw[Yaa];(clear hql ho' hz20 hvl hm;omega),fun j r ws h1 h2=>by
   rw[Yaf] at h2
   cases e:Vs[j]? with
   | none=>rw[e] at h2;cases h2
   | some vs=>
    rw[e] at h2;cases h2;have:=(hbsq j r h1).2.2
    rw[Yat,e] at this;exact this⟩
  have s12:=s1.trans s2;have hTV2:TVD (fun _=>none) H2 (Vs.map fun vs=>vs.reverse.take m) (D.map fun ds=>ds.reverse.take m):=(hTV.same s12).map fun vs ds h=>h.rev.take m;refine⟨_,rfl,_,rfl,by (clear hbl hql ho' hz20 hvl hal hm;omega),by (clear hbl hql ho' hz20 hvl hal;omega),?_⟩;rw[YaN];obtain⟨hcm,hcn,hco⟩:=Zib hcl;refine ZaT (fun acc i Hx=>(∃ ys:List V,Hx acc=some (.lst ys)/\ys.length<=i)/\Same H2 Hx/\i<=c) (fun acc h0=>⟨⟨[],Zab,Yap _⟩,Same.new h0,YaX _⟩) ?_ ?_
  ·rintro acc i H3 h0 hi ⟨⟨ys,hacc,hyl⟩,s3,hic⟩;have hRtk3:=(hRtk.same s2).same s3;refine⟨_,rfl,_,rfl,tk,qs,_,i,(by rw[Ycd];rfl),s3 _ _ (s2 _ _ htk),hRtk3.1,hRtk3.2,by (clear hic hyl hi hcn hcm hbl ho' hm;omega),fun a H4 ha0 ha s4=>?_⟩;refine⟨_,rfl,_,rfl,_,_,rfl,rfl,?_⟩;have htv:TVs (fun _=>none) H4 ((Vs.map fun vs=>vs.reverse.take m).filterMap (·[i]?)) (tkT D m i):=by
    rw[ZdW];exact ((hTV2.same s3).same s4).col i
   have hl20:((Vs.map fun vs=>vs.reverse.take m).filterMap (·[i]?)).length<=20:=by
    have:=YbE (·[i]?) (Vs.map fun vs=>vs.reverse.take m);rw[Yaa] at this
    (clear hic hyl hi hcn hcm hbl hql ho' hal hm;omega)
   rcases Ybd i c with hlt | hge
   ·refine .inl ⟨a,_,tkT D m i,_,rfl,ha,htv,hl20,hco i hlt,Zgp hz.2.2 i,fun v H5 hv s5=>?_⟩;refine⟨_,(s4.trans s5) _ _ hacc,Zd4 (by (clear hlt hl20 hic hcn hcm hbl hql ho' hz20 hvl hal;omega)),by (clear hlt hl20 hic hyl hcn hcm hbl hql ho' hz20 hvl hal hm;omega),⟨_,Zab,by rw[Yai];show ys.length+1<=i+1;(clear hlt hl20 hic hi hcn hcm hbl hql ho' hz20 hvl hal hm;omega)⟩,(s3.trans (s4.trans s5)).put h0,hlt⟩
   ·have e:i=c:=by (clear hl20 hyl hi hcn hcm hbl hql ho' hz20 hvl hal hm;omega)
    subst e;refine .inr ⟨a,_,tkT D m i,_,rfl,ha,htv,hl20,hcn,fun dx H5 s5 hd=>?_⟩;have:=k dx H5 (((s12.trans s3).trans s4).trans s5) hd;rw[Ycd];exact this
  ·rintro acc H3 h0 ⟨_,_,hmc⟩
   (clear hcn hbl hql ho' hz20 hvl hal hm;omega)
end
end Fi59
namespace Fi59
open PySem L2 Lv
section
variable {P:Program}{w:World}{K:Yad}{mg:Str->Option Value}{base:Heap}
theorem scLPh:FnScope ["p","n","greatest","counts","level"] ["p","n"] (Zac sLPh):=⟨rfl,rfl,rfl,by decide +kernel,rfl,by decide +kernel,by decide +kernel⟩
def ZiU:Sp:=fun vs H Q _=>∃ p n:Nat,vs=[.int p,.int n]/\2<=p/\p<=7/\n<=300/\∀ (l:Addr) (qs:List Addr) H',H l=none->H' l=some (.lst (qs.map V.ref))->(∀ q∈qs,q≠l)->TuM H' qs (phs p n n)->Same H H'->Q (.ref l) H'
theorem ZlN {f f1 f2 f3 f4:Addr}{fd d1 d2 d3 d4:FuncData} (F:Fun K "level_phases" "level_phases" sLPh f fd) (T:Txt mg) (Te:mg "enumerate"=none) (CW:Cal P w K mg base 2 "check_ways" ["p"] ZdB f1 d1) (CV:CalD P w K mg base 2 "check_level" ["n","last"] [.int 300] ZcO f2 d2) (CA:Cal P w K mg base 1 "first_counts" ["p"] Zc0 f3 d3) (CN:Cal P w K mg base 1 "next_counts" ["counts"] (ZeK K) f4 d4):FnOk P w K mg base CX0 3 f fd ["p","n"] ZiU:=by
 refine F.ok scLPh (fun vs H Q E h=>?_) (fun cdv A outer s H vs Q E hr2 h=>?_)
 ·obtain⟨p,n,rfl,_⟩:=h;rfl
 ·obtain⟨p,n,rfl,h2,h7,h3,k⟩:=h;have hr1:Room 1 _:=hr2.mono (by decide);refine⟨_,(Zar (Za5 (Zan CW hr2 rfl (Zaa (pv 0) Zad)))
   (Zar (Za5 (ZhF CV hr2 rfl (Zaa (pv 1) Zad)))
   (Zar (Zap (i:=2) scLPh.nd rfl (YaG rfl) (ZaF Zad))
   (Zar (Zap (i:=3) scLPh.nd rfl (YaG rfl) (Zan CA hr1 rfl (Zaa (pv 0) Zad)))
   (Zar (ZbS Ybw rfl (ZaL rfl T.range (Zaa (pv 1) Zad)) (Zah (i:=4) scLPh.nd rfl (YaG rfl))
   (Zar (Za5 (Zku YcU YcP YcO Zbh (pv 2) (Zaa (ZaY ZeX (pv 3) Zag (fun _ _=>rfl)) Zad)))
    (Zax (Zap (i:=3) scLPh.nd rfl (YaG rfl) (Zan CN hr1 rfl (Zaa (pv 3) Zad))))))
   (Zax (Zay (Zaw (own:=["at","many"]) (js:=[0]) (CompOk.by (sc:=Zac sLPh) (N:=["p","n","greatest","counts","level"]) rfl rfl (by decide +kernel)) rfl (Zi3 rfl Te (Zaa (ZeQ (pv 2) (ZaS (ZfB ZcX Zag))) Zad)) (Zba (i:=0) (k:=1) (K:=K)) (fun _ _ _ _ _=>(Zb3 K rfl (Zau (Zah (i:=0) (by show (["at","many","p"]:List Str).Nodup;decide +kernel) rfl (YaG rfl) (.inr rfl)) (Zau (Zah (i:=1) (by show (["at","many","p"]:List Str).Nodup;decide +kernel) rfl (YaG rfl) (.inr rfl)) ZaX)))) (fun _ _ _ _ _=>Zao) (fun _ _ _ _ _=>(ZbA (Zaa (Zav ZbT (Zav Zc6 (pv 2) (pv 0)) (Zav ZaV (pv 2) Zag)) (Zaa (pv 1) Zad)))))))))))),?_⟩
  have hzz:1000<sizeLine:=by decide
  refine⟨_,rfl,p,rfl,by (clear hzz h3 h7;omega),by (clear hzz h3 h2;omega),_,rfl,n,300,rfl,by (clear hzz h3 h7 h2;omega),by (clear hzz h7 h2;omega),YaX _,fun gl ngl=>?_⟩;have s0:Same H (upd H gl (.lst [])):=Same.new ngl;refine⟨_,rfl,p,rfl,h2,h7,fun l H1 hl0 hl1 s1=>?_⟩;refine⟨_,rfl,n,rfl,by (clear hzz h3 h7 h2;omega),by (clear hzz h7 h2;omega),ZbC (fun i σ Hx=>∃ (l:Addr) (o4:Option V),σ=[some (.int p),some (.int n),some (.ref gl),some (.ref l),o4]/\Hx gl=some (.lst (((Yan i).map fun t=>hd p t).map V.int))/\Hx l=some (.tup ((cnt p i).map V.int))/\Same H Hx)
   ⟨l,none,rfl,s1 _ _ Zab,hl1,s0.trans s1⟩ ?_ ?_⟩
  ·rintro i σ Hx hi ⟨l,o4,rfl,hgl,hl,sx⟩;have hlen:=Zbc (p:=p) (by (clear hi hzz h3 h7;omega)) i;refine⟨_,rfl,.inl ⟨rfl,_,SqL.of hgl⟩,_,rfl,l,_,0,.int (hd p i),rfl,rfl,SqT.of hl,?_,gl,_,_,rfl,rfl,hgl,by rw[Yaa,Yaa,YbI];(clear hlen h7 h2;omega),?_⟩
   ·obtain⟨x,y,r,e,_⟩:=Zeu h2 i;unfold hd;rw[e];exact Zb9 (j:=0) rfl
   have hlg:l≠gl:=fun z=>by rw[z,hgl] at hl;cases hl
   have hl2:upd Hx gl (.lst (((Yan i).map fun t=>hd p t).map V.int++[.int (hd p i)])) l=some (.tup ((cnt p i).map V.int)):=by rw[upd_ne hlg];exact hl
   refine⟨_,rfl,l,cnt p i,rfl,SqT.of hl2,by (clear hlg hi hzz h3 h7;omega),by (clear hlg hi hzz h3 h2;omega),fun l3 H3 h30 h3' s3=>?_⟩;refine⟨l3,_,rfl,s3 _ _ ?_,h3',(sx.put ngl).trans s3⟩;rw[Zab,YcG,YaP,YaP];rfl
  ·rintro σ Hx ⟨l,o4,rfl,hgl,hl,sx⟩;rw[YaN] at hgl;refine⟨_,rfl,1,rfl,_,rfl,rfl,gl,_,rfl,SqL.of hgl,fun q hq=>?_⟩;have hglq:Same Hx (upd Hx q (.lst ((((Yan n).map fun t=>hd p t).map V.int).reverse))):=Same.new hq;have hqq:upd Hx q (.lst ((((Yan n).map fun t=>hd p t).map V.int).reverse)) q=some (.lst ((((Yan n).map fun t=>hd p t).map V.int).reverse)):=Zab;generalize upd Hx q (.lst ((((Yan n).map fun t=>hd p t).map V.int).reverse))=H5 at hglq hqq ⊢;refine⟨q,true,rfl,⟨_,SqL.of hqq⟩,?_⟩;have hrl:((((Yan n).map fun t=>hd p t).map V.int).reverse).length=n:=by simp
   refine ZgT (b:=true) (xs:=(((Yan n).map fun t=>hd p t).map V.int).reverse) (fun acc i H2=>Same H5 H2/\∃ ps,H2 acc=some (.lst (ps.map V.ref))/\(∀ p∈ps,p≠acc)/\TuM H2 ps (phs p n i)) (fun acc h0=>⟨Same.new h0,[],Zab,(fun p hp=>nomatch hp),TuM.nil⟩) (fun acc i H2 h0 _ p=>SqL.of (p.1 _ _ hqq)) ?_ ?_
   ·rintro acc i x u H2 h0 hx ⟨s2,ps,hacc,hne,hpr⟩ hu;have hi:i<n:=by have:=(Yab.mp hx).1;rwa [hrl] at this
    obtain rfl:x=.int (hd p (n - 1 - i)):=by
     rw[YbP (by simpa using hi)] at hx;simp only[Yaa,YbI] at hx;rw[Yaf,Yaf,Yby (by (clear hrl hzz h3 h7 h2;omega))] at hx;exact (Yau hx).symm
    have s3:Same H2 (upd H2 u (.tup [.int i,.int (hd p (n - 1 - i))])):=Same.new hu;have hu3:upd H2 u (.tup [.int i,.int (hd p (n - 1 - i))]) u=some (.tup [.int i,.int (hd p (n - 1 - i))]):=Zab;generalize upd H2 u (.tup [.int i,.int (hd p (n - 1 - i))])=H3 at s3 hu3 ⊢;have hpl:ps.length=i:=by rw[hpr.len,ZhD]
    refine⟨u,_,rfl,SqT.of hu3,rfl,_,_,rfl,_,_,rfl,rfl,?_⟩;refine⟨_,rfl,_,rfl,_,_,rfl,rfl,_,rfl,_,_,rfl,rfl,_,_,rfl,rfl,(by show (0:Int)<(p:Int)+1;(clear hpl hi hrl hzz h3 h7 h2;omega)),_,rfl,(by show 2<=sizeLine;decide),fun t ht=>?_⟩;have hacc3:=s3 _ _ hacc;have hta:t≠acc:=YbA (Zaf hacc3 ht);have s45:Same H3 (upd H3 t (.tup [.int (((p:Int) - (i:Int)) % ((p:Int)+1)),.int (hd p (n - 1 - i))])):=Same.new ht;have ht5:upd H3 t (.tup [.int (((p:Int) - (i:Int)) % ((p:Int)+1)),.int (hd p (n - 1 - i))]) t=some (.tup (([phO p i,hd p (n - 1 - i)]:List Int).map V.int)):=Zab;generalize upd H3 t (.tup [.int (((p:Int) - (i:Int)) % ((p:Int)+1)),.int (hd p (n - 1 - i))])=H6 at s45 ht5 ⊢;refine⟨_,s45 _ _ hacc3,by rw[Yaa];(clear hta hrl h7 h2;omega),by rw[hrl];exact hi,(s2.trans (s3.trans s45)).put h0,ps++[t],by rw[Zab,YaP];rfl,fun p hp=>?_,?_⟩
    ·rcases Yar.mp hp with hp | hp
     ·exact hne p hp
     ·rw[YaI.mp hp];exact hta
    ·have:=(hpr.same (s3.trans s45)).snoc ht5 (by simp);refine this.keep fun p hp=>upd_ne ?_;rcases Yar.mp hp with hp | hp
     ·exact hne p hp
     ·rw[YaI.mp hp];exact hta
   ·rintro acc H2 h0 ⟨s2,ps,hacc,hne,hpr⟩;rw[hrl] at hpr;exact k acc ps H2 ((sx.trans hglq).free h0) hacc hne hpr (sx.trans (hglq.trans s2))
end
end Fi59
namespace Fi59
open PySem L2 Lv
section
variable {P:Program}{w:World}{K:Yad}{mg:Str->Option Value}{base:Heap}
theorem scPlayT:FnScope ["p","reels","level","behind","read","merged","phase","of_each","left"] ["p","reels"] (Zac Za4):=⟨rfl,rfl,rfl,by decide +kernel,rfl,by decide +kernel,by decide +kernel⟩
theorem Zjg {f f1 f2 f3 f4 f5:Addr}{fd d1 d2 d3 d4 d5:FuncData} (F:Fun K "turned_play" "turned_play" Za4 f fd) (T:Txt mg) (CC:Cal P w K mg base 2 "check_ways" ["p"] ZdB f1 d1) (CL:Cal P w K mg base 2 "level_with" ["p","counts"] (spLW K) f2 d2) (CO:Cal P w K mg base 1 "copied_turned" ["row"] Zf3 f3 d3) (CP:Cal P w K mg base 3 "level_phases" ["p","n"] ZiU f4 d4) (CH:Cal P w K mg base 3 "turned_phase" ["reels","phase","merged"] Zhl f5 d5):FnOk P w K mg base CX0 4 f fd ["p","reels"] (Zfq K):=by
 refine okW F scPlayT (fun vs H Q E h=>?_) (fun cdv A outer s H vs Q E hr h=>?_)
 ·obtain⟨b,p,n,l,as,Vs,D,d,rr,rfl,_⟩:=h;rfl
 ·obtain⟨b,p,n,l,as,Vs,D,d,rr,rfl,h1,h2,h300,h4000,hq,hRL,hTV,hD,htot,hok,hend,k⟩:=h;have hr1:Room 1 _:=hr.mono (by decide);have hr2:Room 2 _:=hr.mono (by decide);have hr3:Room 3 _:=hr.mono (by decide);refine⟨_,(Zae (ws (Za5 (Zan CC hr2 rfl (Zaa (pv 0) Zad))))
   (Zae (ws (Zap (i:=2) scPlayT.nd rfl (YaG rfl) (Zan CL hr2 rfl (Zaa (pv 0) (Zaa (Za8 Za1 rfl T.tuple Zey (Zaa (Zaw (own:=["reel"]) (js:=[]) (CompOk.by (sc:=Zac Za4) (N:=["p","reels","level","behind","read","merged","phase","of_each","left"]) rfl rfl (by decide +kernel)) rfl (ZaC (pv 1)) Zai (fun _ _ _ _ _=>(Zah (i:=0) (by show (["reel"]:List Str).Nodup;decide +kernel) rfl (YaG rfl) (.inr rfl))) (fun _ _ _ _ _=>Zao) (fun _ _ _ _ _=>(Zam (Zbl K) rfl T.len Ybz (Zaa (pv 0) Zad)))) Zad)) Zad)))))
   (Zae (ws (Zap (i:=3) scPlayT.nd rfl (YaG rfl) (Zav Zci (Zaw (own:=["reel"]) (js:=[]) (CompOk.by (sc:=Zac Za4) (N:=["p","reels","level","behind","read","merged","phase","of_each","left"]) rfl rfl (by decide +kernel)) rfl (ZaC (pv 1)) Zai (fun _ _ _ _ _=>(Zah (i:=0) (by show (["reel"]:List Str).Nodup;decide +kernel) rfl (YaG rfl) (.inr rfl))) (fun _ _ _ _ _=>Zao) (fun _ _ _ _ _=>(Zaw (own:=["row"]) (js:=[]) (CompOk.bare (by decide +kernel)) rfl (ZbO K (pv 0)) Zai (fun _ _ _ _ _=>(Zah (i:=0) (by show (["row"]:List Str).Nodup;decide +kernel) rfl (YaG rfl) (.inr rfl))) (fun _ _ _ _ _=>Zao) (fun _ _ _ _ _=>(Zan CO hr1 rfl (Zaa (pv 0) Zad)))))) (ZaF (Zaa (ZaF Zad) Zad)))))
   (Zae (ws (Zap (i:=4) scPlayT.nd rfl (YaG rfl) (Zav Zgc (ZaF (Zaa Zag Zad)) (Zav ZaV (pv 0) Zag))))
   (Zae (ws (Zap (i:=5) scPlayT.nd rfl (YaG rfl) Zag))
   (Zae (ws (ZbS Ybw rfl (Za7 (Zan CP hr3 rfl (Zaa (pv 0) (Zaa (pv 2) Zad)))) (Zah (i:=6) scPlayT.nd rfl (YaG rfl))
   (WSs.out (Zae (ws (Zch (Zan CH hr3 rfl (Zaa (pv 3) (Zaa (pv 6) (Zaa (pv 5) Zad)))) (ZdJ rfl (Zau (Zah (i:=3) scPlayT.nd rfl (YaG rfl)) (Zau (Zah (i:=7) scPlayT.nd rfl (YaG rfl)) ZaX)))))
    (Zae (ws (Za6 (i:=4) scPlayT.nd rfl rfl (own:=["ahead","more"]) (js:=[]) (CompOk.by (sc:=Zac Za4) (N:=["p","reels","level","behind","read","merged","phase","of_each","left"]) rfl rfl (by decide +kernel)) rfl (ZhA rfl T.zip (Zaa (pv 4) (Zaa (pv 7) Zad))) (Zba (i:=0) (k:=1) (K:=K)) (fun _ _ _ _ _=>(Zb3 K rfl (Zau (Zah (i:=0) (by show (["ahead","more"]:List Str).Nodup;decide +kernel) rfl (YaG rfl) (.inr rfl)) (Zau (Zah (i:=1) (by show (["ahead","more"]:List Str).Nodup;decide +kernel) rfl (YaG rfl) (.inr rfl)) ZaX)))) (fun _ _ _ _ _=>Zao) (fun _ _ _ _ _=>(Zav ZaV (pv 0) (pv 1)))))
    (Zas (ws (Zhy (i:=5) scPlayT.nd rfl (YaG rfl) (ZaY ZeX (pv 6) Zag (fun _ _=>rfl)) Zh3))))))))
   (Zae (ws (Zf8 (i:=8) scPlayT.nd rfl rfl (own:=["reel","row"]) (js:=[]) (fr:=[1]) (CompOk.by (sc:=Zac Za4) (N:=["p","reels","level","behind","read","merged","phase","of_each","left"]) rfl rfl (by decide +kernel)) rfl (ZaC (pv 3)) (Zb7 (i:=0)) (Zb6 (i:=1)) (fun _ _ _ _ _=>(Zah (i:=0) (by show (["reel","row"]:List Str).Nodup;decide +kernel) rfl (YaG rfl) (.inr rfl))) (fun _ _ _ _ _=>Zao) (fun _ _ _ _ _=>(ZbO K (pv 0))) (fun _ _ _ _ _=>(Zah (i:=1) (by show (["reel","row"]:List Str).Nodup;decide +kernel) rfl (YaG rfl) (.inr rfl))) (fun _ _ _ _ _=>Zao) (fun _ _ _ _ _=>(pv 1))))
   (Zas (ws (Zay (ZbA (Zaa (ZaY ZaM (pv 8) Zag (fun _ _=>rfl)) (Zaa (pv 4) Zad))))))))))))),?_⟩
  have hal:as.length=Vs.length:=hRL.1;have hvl:Vs.length=D.length:=hTV.1;have hpl:D.length=p:=by
   have:=congrArg YbK hD;rw[Yaa,Zbc (by (clear this hvl hal htot h4000 h300 h2;omega))] at this;exact this
  have getV:∀ {j:Nat}{r:Addr},as[j]?=some r->∃ vs ds,Vs[j]?=some vs/\D[j]?=some ds/\H r=some (if b then .lst vs else .tup vs)/\TVs (fun _=>none) H vs ds/\vs.length<=4000/\(cnt p n)[j]?=some (vs.length:Int):=fun {j r} e=>by
   obtain⟨vs,e1,e2⟩:=hRL.at e;obtain⟨ds,e3,e4⟩:=hTV.at e1;have e5:(cnt p n)[j]?=some (vs.length:Int):=by
    rw[<- hD,Yaf,e3,e4.1];rfl
   have e6:((vs.length:Nat):Int)<=tot p n:=by
    have h0:=(ZbQ p n).2
    exact Zej h0 (Yah e5)
   exact⟨vs,ds,e1,e3,e2,e4,by (clear hpl hvl hal htot h300 h2 h1;omega),e5⟩
  refine⟨_,rfl,p,rfl,by (clear hpl hvl hal htot h4000 h300 h2;omega),by (clear hpl hvl hal htot h4000 h300 h1;omega),?_⟩;refine⟨_,rfl,_,rfl,l,b,rfl,⟨_,hq⟩,?_⟩;refine Zbi (b:=b) ((cnt p n).map V.int) hq (by rw[Yaa,Yaa,Zbc (by (clear hpl hvl hal htot h4000 h300 h2;omega))];(clear htot h4000 h300 h2 h1;omega)) (by rw[Yaa];(clear htot h4000 h300 h1;omega)) (fun i x y hx hy H1 s1 R hR=>?_) fun acc H1 h01 s1 hacc=>?_
  ·obtain⟨r,hr',rfl⟩:=Zaq hx;obtain⟨vs,ds,_,_,hrv,_,_,ec⟩:=getV hr';rw[Yaf,ec] at hy;cases hy;refine⟨_,rfl,r,vs,rfl,?_,hR H1 (Same.refl _)⟩;have:=s1 _ _ hrv
   cases b with
   | true=>exact .inl (SqL.of this)
   | false=>exact .inr (SqT.of this)
  refine⟨acc,_,rfl,.inl ⟨SqL.of hacc,fun ct nct=>?_⟩⟩;have s2:=s1.trans (Same.new (o:=.tup ((cnt p n).map V.int)) nct);refine⟨p,n,ct,rfl,h1,h2,SqT.of Zab,fun H2 s3=>?_⟩;have s03:=s2.trans s3;clear hacc;refine⟨_,rfl,l,b,rfl,⟨_,Lv.Same.sqB s03 hq⟩,?_⟩;refine Zdk (b:=b) (K:=K) (a:=l) (xs:=as.map V.ref) (fun j=>D.getD j []) (Lv.Same.sqB s03 hq) (by rw[Yaa];(clear htot h4000 h300 h1;omega)) (fun i x hx H3 s4 R hR=>?_) fun bh bs Ws H3 hbh0 hbh hbl hRb hbn hTb s4=>?_
  ·obtain⟨r,hr',rfl⟩:=Zaq hx;obtain⟨vs,ds,_,hds,hrv,htv,h40,_⟩:=getV hr';have hrv3:=s4 _ _ (s03 _ _ hrv);have hqr:SqB b K H3 r vs:=by
    cases b with
    | true=>exact SqL.of hrv3
    | false=>exact SqT.of hrv3
   refine⟨_,rfl,r,b,rfl,⟨_,hqr⟩,?_⟩;refine Zgo (b:=b) (K:=K) (a:=r) (xs:=vs) (fun j=>ds.getD j none) hqr (by (clear hpl hvl hal htot h4000 h300 h2 h1;omega)) (fun j y hy H4 s5 R2 hR2=>?_) fun a2 ys H4 ha0 ha2 hty s5=>?_
   ·obtain⟨d2,hd2,hv2⟩:=htv.at hy;refine⟨_,rfl,y,d2,rfl,((hv2.same s03).same s4).same s5,fun v' H5 hv' s6=>hR2 v' H5 ?_ s6⟩;rw[Yat,hd2];exact hv'
   ·have e1:(Yan vs.length).map (fun j=>ds.getD j none)=ds:=by
     rw[htv.1];exact Zbn ds none
    rw[e1] at hty;refine hR a2 ys H4 ha0 ha2 ?_ s5;rw[Yat,hds];exact hty.base fun t ht=>Zaz ht
  rw[Yaa] at hbl;have e1:(Yan (as.map V.ref).length).map (fun j=>D.getD j [])=D:=by
   rw[Yaa,hal,hvl];exact Zbn D []
  rw[e1] at hTb;refine⟨YaX _,fun e0 ne0=>⟨(by show 1<=sizeLine;decide),fun e2 ne2=>?_⟩⟩;have s5:Same H3 (upd H3 e0 (.lst [])):=Same.new ne0;have s6:Same (upd H3 e0 (.lst [])) (upd (upd H3 e0 (.lst [])) e2 (.lst [.ref e0])):=Same.new ne2;have he0:=s6 _ _ (Zab (H:=H3) (a:=e0) (o:=.lst []));have he2:upd (upd H3 e0 (.lst [])) e2 (.lst [.ref e0]) e2=some (.lst [.ref e0]):=Zab;have s46:=(s4.trans s5).trans s6;have hbh5:=s6 _ _ (s5 _ _ hbh);have s36:=s5.trans s6;generalize upd (upd H3 e0 (.lst [])) e2 (.lst [.ref e0])=H4 at s6 he0 he2 s46 hbh5 s36 ⊢;refine⟨bh,e2,_,_,rfl,rfl,hbh5,he2,Ybc (Zat (by rw[Yaa];show bs.length+1<=1000;(clear htot h4000 h300 h1;omega))),fun bl nbl=>?_⟩;have s7:Same H4 (upd H4 bl (.lst (bs.map V.ref++[.ref e0]))):=Same.new nbl;have hbl5:upd H4 bl (.lst (bs.map V.ref++[.ref e0])) bl=some (.lst ((bs++[e0]).map V.ref)):=by rw[Zab];simp
  have hR5:RL (upd H4 bl (.lst (bs.map V.ref++[.ref e0]))) (bs++[e0]) (Ws++[[]]):=RL.snoc ((hRb.same s36).same s7) (s7 _ _ he0);have hT5:TVD H (upd H4 bl (.lst (bs.map V.ref++[.ref e0]))) (Ws++[[]]) (D++[[]]):=TVD.snoc (((hTb.same s36).same s7).base fun t ht=>s03.free (Zaz ht)) (TVs.nil _ _);have s05:=(s03.trans s46).trans s7;generalize upd H4 bl (.lst (bs.map V.ref++[.ref e0]))=H5 at s7 hbl5 hR5 hT5 s05 ⊢;refine⟨(by show 1<=sizeLine;decide),fun z0 nz0=>⟨_,rfl,_,_,rfl,rfl,z0,(p:Int)+1,_,rfl,rfl,Zab,by (clear hbl hpl hvl hal htot h4000 h300 h2 h1;omega),by (clear hbl hpl hvl hal htot h4000 h300 h1;omega),Ybc (Zat (by show 1*((p:Int)+1).toNat<=1000;(clear hbl hpl hvl hal htot h4000 h300 h1;omega))),fun rd nrd=>?_⟩⟩;have s8:Same H5 (upd H5 z0 (.lst [.int 0])):=Same.new nz0;have ez:(Yak ((p:Int)+1).toNat [V.int 0]).flatten=(Yak (p+1) (0:Int)).map V.int:=by
   rw[show ((p:Int)+1).toNat=p+1 by (clear hbl hpl hvl hal htot h4000 h300 h2 h1;omega),YbR,Yeu]
  have s9':=Same.new (o:=.lst (Yak ((p:Int)+1).toNat [V.int 0]).flatten) nrd;have s9:=s8.trans s9';have hrd6:upd (upd H5 z0 (.lst [.int 0])) rd (.lst (Yak ((p:Int)+1).toNat [V.int 0]).flatten) rd=some (.lst ((Yak (p+1) (0:Int)).map V.int)):=by rw[Zab,ez]
  have nrd0:H rd=none:=s05.free (s8.free nrd);generalize upd (upd H5 z0 (.lst [.int 0])) rd (.lst (Yak ((p:Int)+1).toNat [V.int 0]).flatten)=H6 at s9' s9 hrd6 ⊢;have s06:=s05.trans s9;refine⟨_,rfl,_,rfl,p,n,rfl,h1,h2,h300,fun ll qs H7 hll0 hll hqs hPh s10=>⟨ll,rfl,⟨_,SqL.of hll⟩,?_⟩⟩;have hphl:qs.length=(phL p 0 n).length:=by rw[hPh.len,Zec,Yaa]
  have hsz0:SzT (D++[[]]):=⟨by rw[Yai,Yc5];(clear hphl hbl hvl hal htot h4000 h300 h1;omega),fun r hr'=>by
   rcases Yar.mp hr' with hr' | hr'
   ·obtain⟨j,hj⟩:=Ybg hr';have hjl:=(Yab.mp hj).1
    obtain⟨vs,ds,_,e3,_,e4,e5,_⟩:=getV (j:=j) (Yae (show j<as.length by (clear hphl hbl hpl htot h4000 h300 h2 h1;omega)));rw[hj] at e3;cases e3;have:=e4.1
    (clear hphl hbl hpl htot h4000 h300 h2 h1;omega)
   ·rw[YaI.mp hr'];simp,by
   have e:totT lenT (D++[[]])=totT lenT D:=by unfold totT;simp
   rw[e];exact htot⟩
  have hps:∀ q∈phL p 0 n,q.2<=15000:=fun q hq'=>by have:=Zc5 h1 n 0 q hq';(clear hphl hbl hpl hvl hal htot h300 h2 h1;omega)
  refine Zcl (xs:=qs.map V.ref) (fun i σ Hx=>∃ (bl:Addr) (bs:List Addr) (Ws:List (List V)) (rd:Addr) (g:Int) (o6 o7:Option V),σ=[some (.int p),some (.ref l),some (.int n),some (.ref bl),some (.ref rd),some (.int g),o6,o7,none]/\Hx bl=some (.lst (bs.map V.ref))/\RL Hx bs Ws/\TVD (upd H rd (.lst [])) Hx Ws (plT (D++[[]]) ((phL p 0 n).take i))/\Hx rd=some (.lst ((rdTP (D++[[]]) (Yak (p+1) 0) ((phL p 0 n).take i)).map V.int))/\H rd=none/\Same H7 Hx)
   ⟨bl,bs++[e0],Ws++[[]],rd,0,none,none,rfl,s10 _ _ (s9 _ _ hbl5),(hR5.same s9).same s10,(((hT5.same s8).oldD (o:=.lst []) nrd).same s9').same s10,s10 _ _ hrd6,nrd0,Same.refl _⟩ (fun i σ Hx _ z=>by obtain⟨_,_,_,_,_,_,_,_,_,_,_,_,_,sz⟩:=z;exact SqL.of (sz _ _ hll)) ?_ ?_
  ·rintro i x σ Hx hx ⟨bl,bs,Ws,rd,g,o6,o7,rfl,hbl,hRx,hTx,hrd,hrd0,sx⟩;obtain⟨q,hq',rfl⟩:=Zaq hx;have hi:i<qs.length:=(Yab.mp hq').1
   obtain⟨o,m,hom⟩:∃ o m,(phL p 0 n)[i]?=some (o,m):=⟨_,_,Yae (by (clear hpl hvl hal htot h4000 h300 h2 h1;omega))⟩
   have hqt:Hx q=some (.tup [.int o,.int m]):=by
    obtain⟨kk,hk1,hk2⟩:=hPh.at hq';rw[Zec,Yaf,hom] at hk1;cases hk1;exact sx _ _ hk2
   obtain⟨g1,g2,g3,g4⟩:=hok.at hom;have gsz:=hok.sz hsz0 hps i;have gm:=hps _ (Yah hom);have etk:(phL p 0 n).take (i+1)=(phL p 0 n).take i++[(o,m)]:=by rw[Yba,hom];rfl
   obtain⟨o',rfl⟩:=YbX g1;obtain⟨m',rfl⟩:=YbX g2;rw[YaN] at g3 g4;rw[etk];rw[Zea,Zc1];rw[YaN,YaN];have hrl:(rdTP (D++[[]]) (Yak (p+1) 0) ((phL p 0 n).take i)).length=p+1:=by
    rw[Zd8 _ _ _ (by simp[hpl])];simp[hpl]
   have hdl:(plT (D++[[]]) ((phL p 0 n).take i)).length=p+1:=by
    rw[Zeb];simp[hpl]
   generalize plT (D++[[]]) ((phL p 0 n).take i)=Di at hTx g3 g4 gsz hdl ⊢;generalize rdTP (D++[[]]) (Yak (p+1) 0) ((phL p 0 n).take i)=ri at hrd hrl ⊢;have s0x:Same H Hx:=(s06.trans s10).trans sx;refine⟨_,rfl,_,rfl,_,rfl,upd H rd (.lst []),bl,q,bs,Ws,Di,o',m',g,rfl,hbl,hRx,hTx,(fun a ha=>by rw[upd_ne fun z=>by rw[z,hrd] at ha;cases ha];exact s0x.free ha),hqt,g3,by have:(m':Int)<=15000:=gm;(clear this hrl hdl g2 g1 hi hphl hpl hvl hal htot h4000 h300 h2 h1;omega),gsz,g4,fun t b5 e5 bs5 Ws5 H8 ht hb5 hR8 hT8 he5 hb50 he50 s8=>?_⟩;refine⟨t,_,rfl,SqT.of ht,rfl,_,_,rfl,_,_,rfl,rfl,?_⟩;have hrd8:=s8 _ _ hrd;refine⟨_,rfl,_,rfl,true,true,rd,e5,rfl,⟨_,SqL.of hrd8⟩,⟨_,SqL.of he5⟩,?_⟩;refine Ze6 (b1:=true) (b2:=true) ((Ycx (·+·) ri (rdT Di m')).map V.int) (show SqB true K H8 rd _ from SqL.of hrd8) (show SqB true K H8 e5 _ from SqL.of he5) (by simp[rdT];(clear gm g2 g1 hi hphl hpl hvl hal htot h4000 h300 h2 h1;omega)) (by simp[rdT];(clear gm g2 g1 hi hphl hpl hvl hal htot h4000 h300 h2 h1;omega)) (by simp[rdT];(clear hrl gm g2 g1 hi hphl hpl hvl hal htot h4000 h300 h1;omega)) (fun j x y z hx hy hz pz H9 s9 hpz R hR=>?_) fun acc H9 h09 s9 hacc=>?_
   ·obtain⟨x',hx',rfl⟩:=Zbp hx;obtain⟨y',hy',rfl⟩:=Zbp hy;have ez:z=.int (x'+y'):=by
     rw[Yaf,Yd8,hx',hy'] at hz;exact (Yau hz).symm
    subst ez;exact⟨pz,_,rfl,SqT.of hpz,rfl,_,_,rfl,_,_,rfl,rfl,_,rfl,_,rfl,_,_,rfl,rfl,hR H9 (Same.refl _)⟩
   have s89:=s8.trans s9;have hq9:=s89 _ _ hqt;refine⟨_,rfl,_,rfl,q,_,1,.int m',rfl,rfl,SqT.of hq9,rfl,_,_,rfl,rfl,?_⟩;exact⟨b5,bs5,Ws5,acc,_,_,_,rfl,s9 _ _ hb5,hR8.same s9,((hT8.oldD (o:=.lst []) h09).base fun t ht=>by rw[upd_ne fun z=>ZbJ (by rw[z] at ht;exact ht)];exact Zaz (Zaz ht)).same s9,hacc,(s0x.trans s8).free h09,sx.trans s89⟩
  ·rintro σ Hx ⟨bl,bs,Ws,rd,g,o6,o7,rfl,hbl,hRx,hTx,hrd,hrd0,sx⟩;have etk:(phL p 0 n).take (qs.map V.ref).length=phL p 0 n:=by rw[Yaa,hphl,YaR]
   rw[etk] at hTx hrd;have s0x:Same H Hx:=(s06.trans s10).trans sx;have hbsl:bs.length=p+1:=by
    rw[hRx.1,hTx.1,Zeb];simp[hpl]
   have hszx:=hok.sz hsz0 hps (phL p 0 n).length;rw[YaR] at hszx;have wl:∀ {j:Nat}{ws:List V},Ws[j]?=some ws->ws.length<=15000:=fun {j ws} e=>by
    obtain⟨ds,e1,e2⟩:=hTx.at e;have:=hszx.2.1 ds (Yah e1);rw[e2.1];exact this
   refine⟨_,rfl,bl,true,rfl,⟨_,SqL.of hbl⟩,?_⟩;refine ZdR (b:=true) (K:=K) (a:=bl) (xs:=bs.map V.ref) (fun acc i H2=>Same Hx H2/\H2 acc=some (.lst (Ws.take i).flatten)) (fun acc h0=>⟨Same.new h0,Zab⟩) (fun acc i H2 h0 _ z=>SqL.of (z.1 _ _ hbl)) ?_ ?_
   ·rintro acc i x H2 h0 hx ⟨s2,hacc⟩;obtain⟨r,hr',rfl⟩:=Zaq hx;have hi:=(Yab.mp hr').1
    obtain⟨ws,hw,hrw⟩:=hRx.at hr';have hfl:=ZdP (Ybc hi |> fun z=>by rw[hRx.1] at z;exact z) fun j ws e=>wl (j:=j) e;refine⟨_,rfl,r,true,rfl,⟨_,SqL.of (s2 _ _ hrw)⟩,?_⟩;refine Zh7 (b:=true) (K:=K) (a:=r) (xs:=ws) (fun j H3=>Same Hx H3/\H3 acc=some (.lst ((Ws.take i).flatten++ws.take j))) ⟨s2,by simpa using hacc⟩ (fun j H3 _ z=>SqL.of (z.1 _ _ hrw)) ?_ ?_
    ·rintro j y H3 hy ⟨s3,hac3⟩;have hj:=(Yab.mp hy).1
     have:=wl hw;refine⟨_,rfl,_,hac3,?_,hj,s3.put h0,?_⟩
     ·rw[Yai,YaL,sizeLine_eq]
      (clear hj hphl hpl hvl hal htot h4000 h300 h1;omega)
     ·rw[Zab,Yba,hy];simp
    ·rintro H3 ⟨s3,hac3⟩;rw[YaR] at hac3;refine⟨by rw[Yaa];exact hi,s3,?_⟩;rw[hac3,Yba,hw];simp
   ·rintro acc H2 h0 ⟨s2,hacc⟩;have e3:Ws.take (bs.map V.ref).length=Ws:=by rw[Yaa,hRx.1,YaR]
    rw[e3] at hacc;have hfl:=hTx.flat;rw[hend] at hfl
    cases eW:Ws.flatten with
    | nil=>rw[eW] at hfl;exact absurd hfl.1 (by simp)
    | cons v vr=>
     rw[eW] at hfl hacc;refine⟨_,rfl,acc,_,0,v,rfl,rfl,SqL.of hacc,Zb9 (j:=0) rfl,_,rfl,(by show 2<=sizeLine;decide),fun t nt=>?_⟩;have s3:Same H2 (upd H2 t (.tup [v,.ref rd])):=Same.new nt;exact k t rd v _ Zab ((hfl.uncons.1.same s2).same s3) (s3 _ _ (s2 _ _ hrd)) hrd0 ((s0x.trans s2).trans s3)
end
end Fi59
namespace Fi59
open PySem L2 Lv
section
variable {P:Program}{w:World}{K:Yad}{mg:Str->Option Value}{base:Heap}
def Zd0 (K:Yad) (C:Addr):Sp:=fun vs H _ E=>∃ (b:Bool) (p n:Nat) (l:Addr) (as:List Addr) (Vs:List (List V)) (D:List (List TD)) (c:Nat),vs=[.int p,.ref l]/\2<=p/\p<=7/\n<=300/\tot p n<=4000/\SqB b K H l (as.map V.ref)/\RLb b H as Vs/\TVD (fun _=>none) H Vs D/\D.map (fun r=>(r.length:Int))=cnt p n/\totT lenT D<=15000/\OkS (D++[[]]) (phL p 0 n)/\clP (D++[[]]) 0 (phL p 0 n)=some c/\Clash57 C c H E
theorem ZhK {f f1 f2 f3 f4:Addr}{fd d1 d2 d3 d4:FuncData} (F:Fun K "turned_play" "turned_play" Za4 f fd) (T:Txt mg) (CC:Cal P w K mg base 2 "check_ways" ["p"] ZdB f1 d1) (CL:Cal P w K mg base 2 "level_with" ["p","counts"] (spLW K) f2 d2) (CO:Cal P w K mg base 1 "copied_turned" ["row"] Zf3 f3 d3) (CP:Cal P w K mg base 3 "level_phases" ["p","n"] ZiU f4 d4) {fH:Addr}{dH:FuncData}{C:Addr} (CH:CalE P w K mg base 4 "turned_phase" ["reels","phase","merged"] [] (fun vs H Q E=>Zhl vs H Q E∨Zhk C vs H Q E) fH dH):FnOk P w K mg base (CX1 P w) 5 f fd ["p","reels"] (Zd0 K C):=by
 refine okWE F scPlayT (fun vs H Q E h=>?_) (fun cdv A outer s H vs Q E hr h=>?_)
 ·obtain⟨b,p,n,l,as,Vs,D,c,rfl,_⟩:=h;rfl
 ·obtain⟨b,p,n,l,as,Vs,D,c,rfl,h1,h2,h300,h4000,hq,hRL,hTV,hD,htot,hok,hcl,k⟩:=h;have hr1:Room 1 _:=hr.mono (by decide);have hr2:Room 2 _:=hr.mono (by decide);have hr3:Room 3 _:=hr.mono (by decide);have hr4:Room 4 _:=hr.mono (by decide);refine⟨_,(Zae (ws (Za5 (Zan CC hr2 rfl (Zaa (pv 0) Zad))))
   (Zae (ws (Zap (i:=2) scPlayT.nd rfl (YaG rfl) (Zan CL hr2 rfl (Zaa (pv 0) (Zaa (Za8 Za1 rfl T.tuple Zey (Zaa (Zaw (own:=["reel"]) (js:=[]) (CompOk.by (sc:=Zac Za4) (N:=["p","reels","level","behind","read","merged","phase","of_each","left"]) rfl rfl (by decide +kernel)) rfl (ZaC (pv 1)) Zai (fun _ _ _ _ _=>(Zah (i:=0) (by show (["reel"]:List Str).Nodup;decide +kernel) rfl (YaG rfl) (.inr rfl))) (fun _ _ _ _ _=>Zao) (fun _ _ _ _ _=>(Zam (Zbl K) rfl T.len Ybz (Zaa (pv 0) Zad)))) Zad)) Zad)))))
   (Zae (ws (Zap (i:=3) scPlayT.nd rfl (YaG rfl) (Zav Zci (Zaw (own:=["reel"]) (js:=[]) (CompOk.by (sc:=Zac Za4) (N:=["p","reels","level","behind","read","merged","phase","of_each","left"]) rfl rfl (by decide +kernel)) rfl (ZaC (pv 1)) Zai (fun _ _ _ _ _=>(Zah (i:=0) (by show (["reel"]:List Str).Nodup;decide +kernel) rfl (YaG rfl) (.inr rfl))) (fun _ _ _ _ _=>Zao) (fun _ _ _ _ _=>(Zaw (own:=["row"]) (js:=[]) (CompOk.bare (by decide +kernel)) rfl (ZbO K (pv 0)) Zai (fun _ _ _ _ _=>(Zah (i:=0) (by show (["row"]:List Str).Nodup;decide +kernel) rfl (YaG rfl) (.inr rfl))) (fun _ _ _ _ _=>Zao) (fun _ _ _ _ _=>(Zan CO hr1 rfl (Zaa (pv 0) Zad)))))) (ZaF (Zaa (ZaF Zad) Zad)))))
   (Zae (ws (Zap (i:=4) scPlayT.nd rfl (YaG rfl) (Zav Zgc (ZaF (Zaa Zag Zad)) (Zav ZaV (pv 0) Zag))))
   (Zae (ws (Zap (i:=5) scPlayT.nd rfl (YaG rfl) Zag))
   (Zae (ws (ZbS PassesOwn.leaving rfl (Za7 (Zan CP hr3 rfl (Zaa (pv 0) (Zaa (pv 2) Zad)))) (Zah (i:=6) scPlayT.nd rfl (YaG rfl))
   (WSs.out (Zae (ws (Zch (ZfE CH hr4 Zkw rfl (Zaa (pv 3) (Zaa (pv 6) (Zaa (pv 5) Zad)))) (ZdJ rfl (Zau (Zah (i:=3) scPlayT.nd rfl (YaG rfl)) (Zau (Zah (i:=7) scPlayT.nd rfl (YaG rfl)) ZaX)))))
    (Zae (ws (Za6 (i:=4) scPlayT.nd rfl rfl (own:=["ahead","more"]) (js:=[]) (CompOk.by (sc:=Zac Za4) (N:=["p","reels","level","behind","read","merged","phase","of_each","left"]) rfl rfl (by decide +kernel)) rfl (ZhA rfl T.zip (Zaa (pv 4) (Zaa (pv 7) Zad))) (Zba (i:=0) (k:=1) (K:=K)) (fun _ _ _ _ _=>(Zb3 K rfl (Zau (Zah (i:=0) (by show (["ahead","more"]:List Str).Nodup;decide +kernel) rfl (YaG rfl) (.inr rfl)) (Zau (Zah (i:=1) (by show (["ahead","more"]:List Str).Nodup;decide +kernel) rfl (YaG rfl) (.inr rfl)) ZaX)))) (fun _ _ _ _ _=>Zao) (fun _ _ _ _ _=>(Zav ZaV (pv 0) (pv 1)))))
    (Zas (ws (Zhy (i:=5) scPlayT.nd rfl (YaG rfl) (ZaY ZeX (pv 6) Zag (fun _ _=>rfl)) Zh3))))))))
   (Zae (ws (Zf8 (i:=8) scPlayT.nd rfl rfl (own:=["reel","row"]) (js:=[]) (fr:=[1]) (CompOk.by (sc:=Zac Za4) (N:=["p","reels","level","behind","read","merged","phase","of_each","left"]) rfl rfl (by decide +kernel)) rfl (ZaC (pv 3)) (Zb7 (i:=0)) (Zb6 (i:=1)) (fun _ _ _ _ _=>(Zah (i:=0) (by show (["reel","row"]:List Str).Nodup;decide +kernel) rfl (YaG rfl) (.inr rfl))) (fun _ _ _ _ _=>Zao) (fun _ _ _ _ _=>(ZbO K (pv 0))) (fun _ _ _ _ _=>(Zah (i:=1) (by show (["reel","row"]:List Str).Nodup;decide +kernel) rfl (YaG rfl) (.inr rfl))) (fun _ _ _ _ _=>Zao) (fun _ _ _ _ _=>(pv 1))))
   (Zas (ws (Zay (ZbA (Zaa (ZaY ZaM (pv 8) Zag (fun _ _=>rfl)) (Zaa (pv 4) Zad))))))))))))),?_⟩
  have hal:as.length=Vs.length:=hRL.1;have hvl:Vs.length=D.length:=hTV.1;have hpl:D.length=p:=by
   have:=congrArg YbK hD;rw[Yaa,Zbc (by (clear this hvl hal htot h4000 h300 h2;omega))] at this;exact this
  have getV:∀ {j:Nat}{r:Addr},as[j]?=some r->∃ vs ds,Vs[j]?=some vs/\D[j]?=some ds/\H r=some (if b then .lst vs else .tup vs)/\TVs (fun _=>none) H vs ds/\vs.length<=4000/\(cnt p n)[j]?=some (vs.length:Int):=fun {j r} e=>by
   obtain⟨vs,e1,e2⟩:=hRL.at e;obtain⟨ds,e3,e4⟩:=hTV.at e1;have e5:(cnt p n)[j]?=some (vs.length:Int):=by
    rw[<- hD,Yaf,e3,e4.1];rfl
   have e6:((vs.length:Nat):Int)<=tot p n:=by
    have h0:=(ZbQ p n).2
    exact Zej h0 (Yah e5)
   exact⟨vs,ds,e1,e3,e2,e4,by (clear hpl hvl hal htot h300 h2 h1;omega),e5⟩
  refine⟨_,rfl,p,rfl,by (clear hpl hvl hal htot h4000 h300 h2;omega),by (clear hpl hvl hal htot h4000 h300 h1;omega),?_⟩;refine⟨_,rfl,_,rfl,l,b,rfl,⟨_,hq⟩,?_⟩;refine Zbi (b:=b) ((cnt p n).map V.int) hq (by rw[Yaa,Yaa,Zbc (by (clear hpl hvl hal htot h4000 h300 h2;omega))];(clear htot h4000 h300 h2 h1;omega)) (by rw[Yaa];(clear htot h4000 h300 h1;omega)) (fun i x y hx hy H1 s1 R hR=>?_) fun acc H1 h01 s1 hacc=>?_
  ·obtain⟨r,hr',rfl⟩:=Zaq hx;obtain⟨vs,ds,_,_,hrv,_,_,ec⟩:=getV hr';rw[Yaf,ec] at hy;cases hy;refine⟨_,rfl,r,vs,rfl,?_,hR H1 (Same.refl _)⟩;have:=s1 _ _ hrv
   cases b with
   | true=>exact .inl (SqL.of this)
   | false=>exact .inr (SqT.of this)
  refine⟨acc,_,rfl,.inl ⟨SqL.of hacc,fun ct nct=>?_⟩⟩;have s2:=s1.trans (Same.new (o:=.tup ((cnt p n).map V.int)) nct);refine⟨p,n,ct,rfl,h1,h2,SqT.of Zab,fun H2 s3=>?_⟩;have s03:=s2.trans s3;clear hacc;refine⟨_,rfl,l,b,rfl,⟨_,Lv.Same.sqB s03 hq⟩,?_⟩;refine Zdk (b:=b) (K:=K) (a:=l) (xs:=as.map V.ref) (fun j=>D.getD j []) (Lv.Same.sqB s03 hq) (by rw[Yaa];(clear htot h4000 h300 h1;omega)) (fun i x hx H3 s4 R hR=>?_) fun bh bs Ws H3 hbh0 hbh hbl hRb hbn hTb s4=>?_
  ·obtain⟨r,hr',rfl⟩:=Zaq hx;obtain⟨vs,ds,_,hds,hrv,htv,h40,_⟩:=getV hr';have hrv3:=s4 _ _ (s03 _ _ hrv);have hqr:SqB b K H3 r vs:=by
    cases b with
    | true=>exact SqL.of hrv3
    | false=>exact SqT.of hrv3
   refine⟨_,rfl,r,b,rfl,⟨_,hqr⟩,?_⟩;refine Zgo (b:=b) (K:=K) (a:=r) (xs:=vs) (fun j=>ds.getD j none) hqr (by (clear hpl hvl hal htot h4000 h300 h2 h1;omega)) (fun j y hy H4 s5 R2 hR2=>?_) fun a2 ys H4 ha0 ha2 hty s5=>?_
   ·obtain⟨d2,hd2,hv2⟩:=htv.at hy;refine⟨_,rfl,y,d2,rfl,((hv2.same s03).same s4).same s5,fun v' H5 hv' s6=>hR2 v' H5 ?_ s6⟩;rw[Yat,hd2];exact hv'
   ·have e1:(Yan vs.length).map (fun j=>ds.getD j none)=ds:=by
     rw[htv.1];exact Zbn ds none
    rw[e1] at hty;refine hR a2 ys H4 ha0 ha2 ?_ s5;rw[Yat,hds];exact hty.base fun t ht=>Zaz ht
  rw[Yaa] at hbl;have e1:(Yan (as.map V.ref).length).map (fun j=>D.getD j [])=D:=by
   rw[Yaa,hal,hvl];exact Zbn D []
  rw[e1] at hTb;refine⟨YaX _,fun e0 ne0=>⟨(by show 1<=sizeLine;decide),fun e2 ne2=>?_⟩⟩;have s5:Same H3 (upd H3 e0 (.lst [])):=Same.new ne0;have s6:Same (upd H3 e0 (.lst [])) (upd (upd H3 e0 (.lst [])) e2 (.lst [.ref e0])):=Same.new ne2;have he0:=s6 _ _ (Zab (H:=H3) (a:=e0) (o:=.lst []));have he2:upd (upd H3 e0 (.lst [])) e2 (.lst [.ref e0]) e2=some (.lst [.ref e0]):=Zab;have s46:=(s4.trans s5).trans s6;have hbh5:=s6 _ _ (s5 _ _ hbh);have s36:=s5.trans s6;generalize upd (upd H3 e0 (.lst [])) e2 (.lst [.ref e0])=H4 at s6 he0 he2 s46 hbh5 s36 ⊢;refine⟨bh,e2,_,_,rfl,rfl,hbh5,he2,Ybc (Zat (by rw[Yaa];show bs.length+1<=1000;(clear htot h4000 h300 h1;omega))),fun bl nbl=>?_⟩;have s7:Same H4 (upd H4 bl (.lst (bs.map V.ref++[.ref e0]))):=Same.new nbl;have hbl5:upd H4 bl (.lst (bs.map V.ref++[.ref e0])) bl=some (.lst ((bs++[e0]).map V.ref)):=by rw[Zab];simp
  have hR5:RL (upd H4 bl (.lst (bs.map V.ref++[.ref e0]))) (bs++[e0]) (Ws++[[]]):=RL.snoc ((hRb.same s36).same s7) (s7 _ _ he0);have hT5:TVD H (upd H4 bl (.lst (bs.map V.ref++[.ref e0]))) (Ws++[[]]) (D++[[]]):=TVD.snoc (((hTb.same s36).same s7).base fun t ht=>s03.free (Zaz ht)) (TVs.nil _ _);have s05:=(s03.trans s46).trans s7;generalize upd H4 bl (.lst (bs.map V.ref++[.ref e0]))=H5 at s7 hbl5 hR5 hT5 s05 ⊢;refine⟨(by show 1<=sizeLine;decide),fun z0 nz0=>⟨_,rfl,_,_,rfl,rfl,z0,(p:Int)+1,_,rfl,rfl,Zab,by (clear hbl hpl hvl hal htot h4000 h300 h2 h1;omega),by (clear hbl hpl hvl hal htot h4000 h300 h1;omega),Ybc (Zat (by show 1*((p:Int)+1).toNat<=1000;(clear hbl hpl hvl hal htot h4000 h300 h1;omega))),fun rd nrd=>?_⟩⟩;have s8:Same H5 (upd H5 z0 (.lst [.int 0])):=Same.new nz0;have ez:(Yak ((p:Int)+1).toNat [V.int 0]).flatten=(Yak (p+1) (0:Int)).map V.int:=by
   rw[show ((p:Int)+1).toNat=p+1 by (clear hbl hpl hvl hal htot h4000 h300 h2 h1;omega),YbR,Yeu]
  have s9':=Same.new (o:=.lst (Yak ((p:Int)+1).toNat [V.int 0]).flatten) nrd;have s9:=s8.trans s9';have hrd6:upd (upd H5 z0 (.lst [.int 0])) rd (.lst (Yak ((p:Int)+1).toNat [V.int 0]).flatten) rd=some (.lst ((Yak (p+1) (0:Int)).map V.int)):=by rw[Zab,ez]
  have nrd0:H rd=none:=s05.free (s8.free nrd);generalize upd (upd H5 z0 (.lst [.int 0])) rd (.lst (Yak ((p:Int)+1).toNat [V.int 0]).flatten)=H6 at s9' s9 hrd6 ⊢;have s06:=s05.trans s9;refine⟨_,rfl,_,rfl,p,n,rfl,h1,h2,h300,fun ll qs H7 hll0 hll hqs hPh s10=>⟨ll,rfl,⟨_,SqL.of hll⟩,?_⟩⟩;have hphl:qs.length=(phL p 0 n).length:=by rw[hPh.len,Zec,Yaa]
  have hsz0:SzT (D++[[]]):=⟨by rw[Yai,Yc5];(clear hphl hbl hvl hal htot h4000 h300 h1;omega),fun r hr'=>by
   rcases Yar.mp hr' with hr' | hr'
   ·obtain⟨j,hj⟩:=Ybg hr';have hjl:=(Yab.mp hj).1
    obtain⟨vs,ds,_,e3,_,e4,e5,_⟩:=getV (j:=j) (Yae (show j<as.length by (clear hphl hbl hpl htot h4000 h300 h2 h1;omega)));rw[hj] at e3;cases e3;have:=e4.1
    (clear hphl hbl hpl htot h4000 h300 h2 h1;omega)
   ·rw[YaI.mp hr'];simp,by
   have e:totT lenT (D++[[]])=totT lenT D:=by unfold totT;simp
   rw[e];exact htot⟩
  have hps:∀ q∈phL p 0 n,q.2<=15000:=fun q hq'=>by have:=Zc5 h1 n 0 q hq';(clear hphl hbl hpl hvl hal htot h300 h2 h1;omega)
  refine Zcl (xs:=qs.map V.ref) (fun i σ Hx=>∃ (bl:Addr) (bs:List Addr) (Ws:List (List V)) (rd:Addr) (g:Nat) (o6 o7:Option V),σ=[some (.int p),some (.ref l),some (.int n),some (.ref bl),some (.ref rd),some (.int g),o6,o7,none]/\Hx bl=some (.lst (bs.map V.ref))/\RL Hx bs Ws/\TVD (upd H rd (.lst [])) Hx Ws (plT (D++[[]]) ((phL p 0 n).take i))/\Hx rd=some (.lst ((rdTP (D++[[]]) (Yak (p+1) 0) ((phL p 0 n).take i)).map V.int))/\H rd=none/\Same H7 Hx/\clP (plT (D++[[]]) ((phL p 0 n).take i)) g ((phL p 0 n).drop i)=some c)
   ⟨bl,bs++[e0],Ws++[[]],rd,0,none,none,rfl,s10 _ _ (s9 _ _ hbl5),(hR5.same s9).same s10,(((hT5.same s8).oldD (o:=.lst []) nrd).same s9').same s10,s10 _ _ hrd6,nrd0,Same.refl _,hcl⟩ (fun i σ Hx _ z=>by obtain⟨_,_,_,_,_,_,_,_,_,_,_,_,_,sz,_⟩:=z;exact SqL.of (sz _ _ hll)) ?_ ?_
  ·rintro i x σ Hx hx ⟨bl,bs,Ws,rd,g,o6,o7,rfl,hbl,hRx,hTx,hrd,hrd0,sx,hci⟩;obtain⟨q,hq',rfl⟩:=Zaq hx;have hi:i<qs.length:=(Yab.mp hq').1
   obtain⟨o,m,hom⟩:∃ o m,(phL p 0 n)[i]?=some (o,m):=⟨_,_,Yae (by (clear hpl hvl hal htot h4000 h300 h2 h1;omega))⟩
   have hqt:Hx q=some (.tup [.int o,.int m]):=by
    obtain⟨kk,hk1,hk2⟩:=hPh.at hq';rw[Zec,Yaf,hom] at hk1;cases hk1;exact sx _ _ hk2
   obtain⟨g1,g2,g3⟩:=hok.at hom;have gsz:=hok.sz hsz0 hps i;have gm:=hps _ (Yah hom);have etk:(phL p 0 n).take (i+1)=(phL p 0 n).take i++[(o,m)]:=by rw[Yba,hom];rfl
   rw[Zjz hom] at hci;obtain⟨o',rfl⟩:=YbX g1;obtain⟨m',rfl⟩:=YbX g2;rw[YaN] at g3;rw[YaN,YaN] at hci;rw[etk];rw[Zea,Zc1];rw[YaN,YaN];have hrl:(rdTP (D++[[]]) (Yak (p+1) 0) ((phL p 0 n).take i)).length=p+1:=by
    rw[Zd8 _ _ _ (by simp[hpl])];simp[hpl]
   have hdl:(plT (D++[[]]) ((phL p 0 n).take i)).length=p+1:=by
    rw[Zeb];simp[hpl]
   generalize plT (D++[[]]) ((phL p 0 n).take i)=Di at hTx g3 gsz hdl hci ⊢;generalize rdTP (D++[[]]) (Yak (p+1) 0) ((phL p 0 n).take i)=ri at hrd hrl ⊢;have s0x:Same H Hx:=(s06.trans s10).trans sx
   cases ec:fstC Di m' with
   | some c'=>
    rw[ec] at hci;have hcc:g+c'=c:=Yau hci;refine⟨_,rfl,_,rfl,_,rfl,.inr ⟨bl,q,bs,Ws,Di,o',m',g,c',rfl,hbl,hRx,hTx.base fun _ _=>rfl,hqt,g3,by have:(m':Int)<=15000:=gm;(clear this hcc hrl hdl g2 g1 hi hphl hpl hvl hal htot h4000 h300 h2 h1;omega),gsz,ec,?_⟩⟩;have:=Clash57.from k s0x
    rw[<- hcc] at this;rw[<- Int.natCast_add];exact this
   | none=>
   rw[ec] at hci;dsimp only at hci;refine⟨_,rfl,_,rfl,_,rfl,.inl ⟨upd H rd (.lst []),bl,q,bs,Ws,Di,o',m',g,rfl,hbl,hRx,hTx,(fun a ha=>by rw[upd_ne fun z=>by rw[z,hrd] at ha;cases ha];exact s0x.free ha),hqt,g3,by have:(m':Int)<=15000:=gm;(clear this hrl hdl g2 g1 hi hphl hpl hvl hal htot h4000 h300 h2 h1;omega),gsz,fstC_none.mp ec,fun t b5 e5 bs5 Ws5 H8 ht hb5 hR8 hT8 he5 hb50 he50 s8=>?_⟩⟩;refine⟨t,_,rfl,SqT.of ht,rfl,_,_,rfl,_,_,rfl,rfl,?_⟩;have hrd8:=s8 _ _ hrd;refine⟨_,rfl,_,rfl,true,true,rd,e5,rfl,⟨_,SqL.of hrd8⟩,⟨_,SqL.of he5⟩,?_⟩;refine Ze6 (b1:=true) (b2:=true) ((Ycx (·+·) ri (rdT Di m')).map V.int) (show SqB true K H8 rd _ from SqL.of hrd8) (show SqB true K H8 e5 _ from SqL.of he5) (by simp[rdT];(clear gm g2 g1 hi hphl hpl hvl hal htot h4000 h300 h2 h1;omega)) (by simp[rdT];(clear gm g2 g1 hi hphl hpl hvl hal htot h4000 h300 h2 h1;omega)) (by simp[rdT];(clear hrl gm g2 g1 hi hphl hpl hvl hal htot h4000 h300 h1;omega)) (fun j x y z hx hy hz pz H9 s9 hpz R hR=>?_) fun acc H9 h09 s9 hacc=>?_
   ·obtain⟨x',hx',rfl⟩:=Zbp hx;obtain⟨y',hy',rfl⟩:=Zbp hy;have ez:z=.int (x'+y'):=by
     rw[Yaf,Yd8,hx',hy'] at hz;exact (Yau hz).symm
    subst ez;exact⟨pz,_,rfl,SqT.of hpz,rfl,_,_,rfl,_,_,rfl,rfl,_,rfl,_,rfl,_,_,rfl,rfl,hR H9 (Same.refl _)⟩
   have s89:=s8.trans s9;have hq9:=s89 _ _ hqt;refine⟨_,rfl,_,rfl,q,_,1,.int m',rfl,rfl,SqT.of hq9,rfl,_,_,rfl,rfl,?_⟩;exact⟨b5,bs5,Ws5,acc,g+m',_,_,rfl,s9 _ _ hb5,hR8.same s9,((hT8.oldD (o:=.lst []) h09).base fun t ht=>by rw[upd_ne fun z=>ZbJ (by rw[z] at ht;exact ht)];exact Zaz (Zaz ht)).same s9,hacc,(s0x.trans s8).free h09,sx.trans s89,hci⟩
  ·rintro σ Hx ⟨bl,bs,Ws,rd,g,o6,o7,rfl,hbl,hRx,hTx,hrd,hrd0,sx,hci⟩;have ed:(phL p 0 n).drop (qs.map V.ref).length=[]:=by rw[Yaa,hphl,List.drop_length]
   rw[ed] at hci;cases hci
end
end Fi59
namespace Fi59
open PySem L2 Lv
section
variable {P:Program}{w:World}{K:Yad}{mg:Str->Option Value}{base:Heap}
theorem scTold59:FnScope ["p","reels","found","e"] ["p","reels"] (Zac Zcp):=⟨rfl,rfl,rfl,by decide +kernel,rfl,by decide +kernel,by decide +kernel⟩
theorem ZhJ {f:Addr}{fd:FuncData} (F:Fun K "_law_told" "_law_told" Zcp f fd) (T:Txt mg) {C fI f0:Addr}{d0:FuncData} (hm:mg "Clash"=some (.ref C)) (hz:ZaN K C fI=true) (hs:Yex K (.ref C) (.ref C)=some true) (C2:CalE P w K mg base 5 "turned_play" ["p","reels"] [] (fun vs H Q E=>Zfq K vs H Q E∨Zd0 K C vs H Q E) f0 d0):FnOk P w K mg base CX0 6 f fd ["p","reels"] (ZcM K):=by
 refine okW F scTold59 (fun vs H Q E h=>?_) (fun cdv A outer s H vs Q E hr h=>?_)
 ·obtain⟨p,n,l,as,Vs,D,rfl,_⟩:=h;rfl
 ·obtain⟨p,n,l,as,Vs,D,rfl,h1,h2,h300,h4000,hq,hRL,hTV,hD,htot,hok,hc⟩:=h;have hr1:Room 1 _:=hr.mono (by decide);have hr5:Room 5 _:=hr.mono (by decide);refine⟨_,(Zae (ws (Zap (i:=2) scTold59.nd rfl (YaG rfl) Zga))
   (Zae (ws (Zlx (i:=3) scTold59.nd rfl rfl rfl hm (fun Ex pn' xe' hx=>(WSs.out (Zas (ws (Zap (i:=2) scTold59.nd rfl (YaG rfl) (ZaY (ZfH K) (ZaY (ZfH K) (ZfE C2 hr5 hx rfl (Zaa (pv 0) (Zaa (pv 1) Zad))) Zag (fun _ _=>rfl)) Zag (fun _ _=>rfl)))))))
   (fun ea=>(WSs.out (Zas (ws (Zap (i:=2) scTold59.nd rfl (YaG rfl) (Zmu K (pv 3) rfl))))))))
   (Zas (ws (Zay (pv 2)))))),?_⟩
  rcases hc with ⟨c,ec,k⟩ | ⟨ec,e,r,hend,k⟩
  ·refine⟨_,rfl,_,rfl,.inr ⟨true,p,n,l,as,Vs,D,c,rfl,h1,h2,h300,h4000,hq,RLb.lst hRL,hTV,hD,htot,hok,ec,fun dx H0 s0 hdx=>⟨C,rfl,hs,fun ea hea=>?_⟩⟩⟩;have sd:Same H0 (upd H0 dx (.xd [("at",.int c)])):=Same.new hdx;have se:Same (upd H0 dx (.xd [("at",.int c)])) (upd (upd H0 dx (.xd [("at",.int c)])) ea (Zcz ea C (some dx))):=Same.new hea;have hE:upd (upd H0 dx (.xd [("at",.int c)])) ea (Zcz ea C (some dx)) ea=some (Zcz ea C (some dx)):=Zab;have hDx:upd (upd H0 dx (.xd [("at",.int c)])) ea (Zcz ea C (some dx)) dx=some (.xd [("at",.int c)]):=se _ _ Zab;have s1:=(s0.trans sd).trans se;generalize upd (upd H0 dx (.xd [("at",.int c)])) ea (Zcz ea C (some dx))=H1 at hE hDx s1 ⊢;refine⟨_,rfl,ea,C,fI,dx,_,.int c,rfl,hE,hz,hDx,rfl,?_⟩;exact⟨_,rfl,k H1 s1⟩
  ·refine⟨_,rfl,_,rfl,.inl ⟨true,p,n,l,as,Vs,D,some e,r,rfl,h1,h2,h300,h4000,hq,RLb.lst hRL,hTV,hD,htot,ZhQ hok ec,hend,fun t rd v H' q1 q2 q3 q4 q5=>?_⟩⟩;obtain⟨q,th,rfl,hqt,_,_⟩:=q2;exact⟨t,_,0,.ref q,rfl,rfl,SqT.of q1,rfl,q,_,0,.bl e.1,rfl,rfl,SqT.of hqt,rfl,_,rfl,k H' q5⟩
theorem scLaid59:FnScope ["pot","ups","turned","found","at","reel","rows","up","way","things"] ["pot","ups","turned"] (Zac Zb0):=⟨rfl,rfl,rfl,by decide +kernel,rfl,by decide +kernel,by decide +kernel⟩
theorem ZhO {f f1 f2:Addr}{fd d1 d2:FuncData} (F:Fun K "_law_laid" "_law_laid" Zb0 f fd) (T:Txt mg) (CS:Cal P w K mg base 1 "_law_sorted" ["things","up"] Zfp f1 d1) (CT:Cal P w K mg base 1 "_law_take" ["pot","many"] ZdZ f2 d2):FnOk P w K mg base CX0 2 f fd ["pot","ups","turned"] ZcP:=by
 refine okW F scLaid59 (fun vs H Q E h=>?_) (fun cdv A outer s H vs Q E hr h=>?_)
 ·obtain⟨pl,u,t,us,N,S,rfl,_⟩:=h;rfl
 ·obtain⟨pl,u,t,us,N,S,rfl,hpot,hu,hus,hN7,hN4,ht,ntp,k⟩:=h;have hr1:Room 1 _:=hr.mono (by decide);refine⟨_,(Zae (ws (Zap (i:=3) scLaid59.nd rfl (YaG rfl) (ZaF Zad)))
   (Zae (ws (Zap (i:=4) scLaid59.nd rfl (YaG rfl) Zag))
   (Zae (ws (ZbS Ybw rfl (Za7 (pv 1)) (Zah (i:=5) scLaid59.nd rfl (YaG rfl))
   (WSs.out (Zae (ws (Zap (i:=6) scLaid59.nd rfl (YaG rfl) (ZaF Zad)))
    (Zae (ws (ZbS Ybw rfl (Za7 (pv 5)) (Zah (i:=7) scLaid59.nd rfl (YaG rfl))
    (WSs.out (Zae (ws (Zap (i:=8) scLaid59.nd rfl (YaG rfl) (Zed Zkx (pv 7) (Zed ZbB (pv 4) (pv 2) rfl) (Za9 _))))
     (Zae (ws (Zap (i:=9) scLaid59.nd rfl (YaG rfl) (Zan CS hr1 rfl (Zaa (Zaw (own:=["k"]) (js:=[0]) (CompOk.by (sc:=Zac Zb0) (N:=["pot","ups","turned","found","at","reel","rows","up","way","things"]) rfl rfl (by decide +kernel)) rfl (ZaL rfl T.range (Zaa (Zav ZaV Zag (Zan CT hr1 rfl (Zaa (pv 0) (Zaa Zag Zad)))) Zad)) Zai (fun _ _ _ _ _=>(Zah (i:=0) (by show (["k","pot"]:List Str).Nodup;decide +kernel) rfl (YaG rfl) (.inr rfl))) (fun _ _ _ _ _=>Zao) (fun _ _ _ _ _=>(Zan CT hr1 rfl (Zaa (pv 1) (Zaa Zag Zad))))) (Zaa (pv 8) Zad)))))
     (Zae (ws (Za5 (Zku YcU YcP YcO Zbh (pv 6) (Zaa (ZbA (Zaa (pv 8) (Zaa (pv 9) Zad))) Zad))))
     (Zas (ws (Zap (i:=4) scLaid59.nd rfl (YaG rfl) (Zav ZaV (pv 4) Zag))))))))))
    (Zas (ws (Za5 (Zku YcU YcP YcO Zbh (pv 3) (Zaa (pv 6) Zad))))))))))
   (Zas (ws (Zay (pv 3))))))),?_⟩
  have husl:us.length=N.length:=by have:=hus.1;unfold upsT at this;rwa [Yaa] at this
  have nu:u≠pl:=hpot.neR hu;have hsl:=ht;refine⟨YaX _,fun f nf=>?_⟩;have hf0:upd H f (.lst []) f=some (.lst []):=Zab;have hp0:PotT (upd H f (.lst [])) pl:=hpot.put nf;have s0:Same H (upd H f (.lst [])):=Same.new nf;have nfp:f≠pl:=hpot.ne nf;have hb:∀ t,upd H f (.lst []) t=none->H t=none:=fun t ht=>Zaz ht;generalize hHf:upd H f (.lst [])=Hf at hf0 hp0 s0 hb ⊢;have hu0:=s0 _ _ hu;have nuf:u≠f:=fun z=>by rw[z,nf] at hu;cases hu
  have hus0:LBs Hf us (upsT N):=hus.same s0;have ht0:=s0 _ _ ht;have ntf:t≠f:=fun z=>by rw[z,nf] at ht;cases ht
  generalize hW:(fun i:Nat=>decide (i∈S))=W at k;have hfn:Hf f≠none:=by rw[hf0];exact fun z=>nomatch z
  have hpn:=hp0.some;refine⟨_,rfl,u,rfl,⟨_,SqL.of hu0⟩,?_⟩;refine Zcl (xs:=us.map V.ref) (fun i σ Hx=>∃ (as:List Addr) (Vs:List (List V)) (D:List (List TD)) (o5 o6 o7 o8 o9:Option V),σ=[some (.ref pl),some (.ref u),some (.ref t),some (.ref f),some (.int ((N.take i).flatten.length:Nat)),o5,o6,o7,o8,o9]/\Hx f=some (.lst (as.map V.ref))/\as.length=i/\RL Hx as Vs/\TVD Hf Hx Vs D/\(∀ q∈as,Hf q=none)/\wyD id D=wayE (N.take i) 0 W/\(∀ r∈D,∀ e,some e∈r->e.2.length<=3)/\PotT Hx pl/\(∀ b o,Hf b=some o->b≠pl->b≠f->Hx b=some o))
   ⟨[],[],[],none,none,none,none,none,rfl,hf0,rfl,⟨rfl,fun j a vs x=>by simp at x⟩,⟨rfl,fun j a vs x=>by simp at x⟩,fun q hq=>by simp at hq,rfl,fun r hr=>by simp at hr,hp0,fun b o e _ _=>e⟩ (fun i σ Hx _ z=>by
    obtain⟨_,_,_,_,_,_,_,_,_,_,_,_,_,_,_,_,_,sz⟩:=z;exact SqL.of (sz _ _ hu0 nu nuf)) ?_ ?_
  ·rintro i x σ Hx hx ⟨as,Vs,D,o5,o6,o7,o8,o9,rfl,hf,hal,hRL,hTV,hnew,hG,h3,hp,sx⟩;obtain⟨r,hr',rfl⟩:=Zaq hx;have hi:=(Yab.mp hr').1
   obtain⟨ws,hws⟩:∃ ws,N[i]?=some ws:=⟨_,Yae (by (clear hal ntf nuf nfp nu ntp hN7;omega))⟩
   have hrH:H r=some (.lst ((ws.map evB).map V.bl)):=hus.2 i r _ hr' (by unfold upsT;rw[Yaf,hws];rfl);have hrp:r≠pl:=hpot.neB hrH;have hrf:r≠f:=fun z=>by rw[z,nf] at hrH;cases hrH
   have hrx:=sx _ _ (s0 _ _ hrH) hrp hrf;have hw4:=hN4 ws (Yah hws);refine⟨YaX _,fun rw0 nrw=>?_⟩;have nrwp:rw0≠pl:=hp.ne nrw;have nrwf:rw0≠f:=fun z=>by rw[z,hf] at nrw;cases nrw
   have hRLn:∀ q∈as,q≠rw0:=fun q hq z=>by
    obtain⟨j,hj⟩:=Ybg hq;obtain⟨vs,_,e⟩:=hRL.at hj;rw[z,nrw] at e;cases e
   have hasf:∀ q∈as,q≠f:=fun q hq z=>hfn (by rw[<- z];exact hnew q hq);have hasp:∀ q∈as,q≠pl:=fun q hq z=>hpn (by rw[<- z];exact hnew q hq);have s1:Same Hx (upd Hx rw0 (.lst [])):=Same.new nrw;have hrw1:upd Hx rw0 (.lst []) rw0=some (.lst []):=Zab;have hp1:=hp.put (o:=.lst []) nrw;have nrw0:Hf rw0=none:=by
    cases e:Hf rw0 with
    | none=>rfl
    | some o=>rw[sx _ _ e nrwp nrwf] at nrw;cases nrw
   have hf1:=s1 _ _ hf;have hR1:=hRL.same s1;have hT1:TVD (upd Hf rw0 (.lst [])) (upd Hx rw0 (.lst [])) Vs D:=(hTV.oldD nrw).same s1;have hww:upd Hf rw0 (.lst []) rw0≠none:=ZbJ;have hwp:upd Hf rw0 (.lst []) pl≠none:=by rw[upd_ne nrwp.symm];exact hpn
   have hwb:∀ t,upd Hf rw0 (.lst []) t=none->Hf t=none:=fun t ht=>Zaz ht;have hwn:∀ t,Hf t=none->t≠rw0->upd Hf rw0 (.lst []) t=none:=fun t h1 h2=>by rw[upd_ne h2];exact h1
   generalize upd Hf rw0 (.lst [])=Hw at hT1 hww hwp hwb hwn ⊢;have sx1:∀ b o,Hf b=some o->b≠pl->b≠f->upd Hx rw0 (.lst []) b=some o:=fun b o e n1 n2=>s1 _ _ (sx b o e n1 n2);generalize upd Hx rw0 (.lst [])=H1 at s1 hrw1 hp1 hf1 hR1 hT1 sx1 ⊢;have hr1':=s1 _ _ hrx;refine⟨_,rfl,r,rfl,⟨_,SqL.of hr1'⟩,?_⟩;refine Zcl (xs:=(ws.map evB).map V.bl) (fun j σ' Hy=>∃ (vs:List V) (ds:List TD) (o7 o8 o9:Option V),σ'=[some (.ref pl),some (.ref u),some (.ref t),some (.ref f),some (.int (((N.take i).flatten.length+j:Nat):Int)),some (.ref r),some (.ref rw0),o7,o8,o9]/\Hy rw0=some (.lst vs)/\vs.length=j/\TVs Hw Hy vs ds/\ds.map (wyT id)=wayR (ws.take j) ((N.take i).flatten.length) W/\(∀ e,some e∈ds->e.2.length<=3)/\Hy f=some (.lst (as.map V.ref))/\RL Hy as Vs/\TVD Hw Hy Vs D/\PotT Hy pl/\(∀ b o,Hf b=some o->b≠pl->b≠f->Hy b=some o)/\Hy r=some (.lst ((ws.map evB).map V.bl)))
     ⟨[],[],_,_,_,rfl,hrw1,rfl,TVs.nil _ _,rfl,fun e he=>by simp at he,hf1,hR1,hT1,hp1,sx1,hr1'⟩ (fun j σ' Hy _ z=>by
      obtain⟨_,_,_,_,_,_,_,_,_,_,_,_,_,_,_,_,e⟩:=z;exact SqL.of e) ?_ ?_
   ·rintro j y σ' Hy hy ⟨vs,ds,o7,o8,o9,rfl,hrw,hvl,hTy,hGy,h3y,hfy,hRy,hTDy,hpy,sy,hry⟩;rw[YaW,Yaf] at hy;obtain⟨w0,hw0,rfl⟩:∃ w0,ws[j]?=some w0/\y=.bl (evB w0):=by
     cases e:ws[j]? with
     | none=>rw[e] at hy;cases hy
     | some w0=>rw[e] at hy;exact⟨w0,rfl,(Yau hy).symm⟩
    have hj:=(Yab.mp hw0).1
    have hj0:j<((ws.map evB).map V.bl).length:=by rw[Yaa,Yaa];exact hj
    have nrr:r≠rw0:=fun z=>by rw[z,nrw] at hrx;cases hrx
    have hty:=sy _ _ ht0 ntp ntf;refine⟨_,rfl,_,rfl,_,rfl,t,_,rfl,.inl (SqL.of hty),rfl,Zgj S,rfl,?_⟩;have eup:(!decide (V.bl (evB w0)=V.bl (if (false:Bool)=true then !inV (.int (((N.take i).flatten.length+j:Nat):Int)) (ofN S) else inV (.int (((N.take i).flatten.length+j:Nat):Int)) (ofN S))))=(evB w0 != W ((N.take i).flatten.length+j)):=by
     rw[if_neg (by decide)];unfold ofN;rw[Zdb,ZhS,Zip,<- hW];rfl
    rw[eup];generalize hup:(evB w0 != W ((N.take i).flatten.length+j))=up;refine⟨_,rfl,pl,2,rfl,hpy,by decide,by decide,fun dn H2 e0 e1 hp2 sm2=>⟨1,dn,rfl,rfl,_,rfl,by (clear e1 nrr hj0 hj hvl nrwf nrwp hw4 hrf hrp hi hal ntf nuf nfp nu husl ntp hN7;omega),by (clear e0 nrr hj0 hj hvl nrwf nrwp hw4 hrf hrp hi hal ntf nuf nfp nu husl ntp hN7;omega),?_⟩⟩;refine ZgU hp2 (by (clear e0 nrr hj0 hj hvl nrwf nrwp hw4 hrf hrp hi hal ntf nuf nfp nu husl ntp hN7;omega)) (fun ii H3 hi3 hp3 sm3 R2 hR2=>⟨_,rfl,pl,9,rfl,hp3,by decide,by decide,fun d H4 d0 d1 hp4 sm4=>hR2 _ H4 hp4 sm4⟩) fun acc xs H3 ha0 hacc hxl hp3 sm3=>?_;refine⟨_,rfl,acc,xs,_,rfl,hacc,fun th H4 nth hth s4=>?_⟩;have m4:Sm pl Hy H4:=(sm2.trans sm3).trans (Sm.of s4);have hrw4:=m4 _ _ hrw nrwp;have hp4:PotT H4 pl:=hp3.same s4;have thy:Hy th=none:=by
     have h1:H3 th=none:=nth;have h2:th≠pl:=hp3.ne h1;exact (sm2.trans sm3).free h2 h1
    have thf:Hf th=none:=by
     have h2:th≠pl:=hpy.ne thy
     cases e:Hf th with
     | none=>rfl
     | some o=>exact absurd (sy _ _ e h2 (fun z=>by rw[z,hfy] at thy;cases thy)) (by rw[thy];exact fun z=>nomatch z)
    have thw:Hw th=none:=hwn th thf fun z=>by rw[z,hrw] at thy;cases thy
    clear hacc;refine⟨_,rfl,.inl ⟨rfl,_,SqL.of hrw4⟩,_,rfl,_,rfl,(by show 2<=sizeLine;decide),fun t1 nt1=>?_⟩;have s5:Same H4 (upd H4 t1 (.tup [.bl up,.ref th])):=Same.new nt1;have ht1:upd H4 t1 (.tup [.bl up,.ref th]) t1=some (.tup [.bl up,.ref th]):=Zab;have hp7:=hp4.same s5;have hth7:=s5 _ _ hth;generalize upd H4 t1 (.tup [.bl up,.ref th])=H7 at s5 ht1 hp7 hth7 ⊢;have m7:Sm pl Hy H7:=m4.trans (Sm.of s5);have hrw7:=m7 _ _ hrw nrwp;have hv2:TV Hw H7 (.ref t1) (some (up,dirT up xs)):=⟨t1,th,rfl,ht1,hth7,thw⟩
    refine⟨rw0,_,_,rfl,rfl,hrw7,Zd4 (by (clear hxl e1 e0 nrr hj0 nrwf nrwp hrf hrp hi hal ntf nuf nfp nu husl ntp hN7;omega)),?_⟩;have hfy7:=m7 _ _ hfy nfp;refine⟨_,rfl,_,_,rfl,rfl,vs++[.ref t1],ds++[some (up,dirT up xs)],_,_,_,rfl,Zab,by simp[hvl],TVs.snoc ((hTy.sm m7 hpy hwp).put hrw7 hww) (hv2.put hrw7 hww),?_,?_,by rw[upd_ne nrwf.symm];exact hfy7,(hRy.sm m7 hasp).off hRLn,(hTDy.sm m7 hpy hwp).put hrw7 hww,hp7.off nrwp,fun b o e n1 n2=>?_,?_⟩
    ·have etk:ws.take (j+1)=ws.take j++[w0]:=by rw[Yba,hw0];rfl
     have elen:(ws.take j).length=j:=by rw[YaL];rw[Yaa,Yaa] at hj0;(clear hxl e1 e0 nrr hj0 hvl nrwf nrwp hw4 hrf hrp hi hal ntf nuf nfp nu husl ntp hN7;omega)
     rw[etk,ZeC,YaP,hGy,elen,hup];rfl
    ·intro e he;rcases Yar.mp he with he | he
     ·exact h3y e he
     ·cases YaI.mp he;show (dirT up xs).length<=3;rw[ZkW]
      (clear e0 nrr hj0 hj hvl nrwf nrwp hw4 hrf hrp hi hal ntf nuf nfp nu husl ntp hN7;omega)
    ·have nb:b≠rw0:=fun z=>by rw[z,nrw0] at e;cases e
     rw[upd_ne nb];exact m7 _ _ (sy b o e n1 n2) n1
    ·rw[upd_ne nrr];exact m7 _ _ hry hrp
   ·rintro σ' Hy ⟨vs,ds,o7,o8,o9,rfl,hrw,hvl,hTy,hGy,h3y,hfy,hRy,hTDy,hpy,sy,hry⟩;rw[Yaa,Yaa,YaR] at hGy;refine⟨_,rfl,.inl ⟨rfl,_,SqL.of hfy⟩,_,rfl,f,_,_,rfl,rfl,hfy,Zd4 (by rw[Yaa];(clear hvl nrwf nrwp hw4 hrf hrp ntf nuf nfp nu ntp;omega)),?_⟩;have hfw:Hw f≠none:=fun z=>hfn (hwb f z);have et2:N.take (i+1)=N.take i++[ws]:=by rw[Yba,hws];rfl
    have ef2:((N.take (i+1)).flatten.length)=(N.take i).flatten.length+ws.length:=by rw[et2];simp
    rw[Yaa,Yaa,<- ef2];refine⟨as++[rw0],Vs++[vs],D++[ds],_,_,_,_,_,rfl,by rw[Zab];simp,by simp[hal],RL.snoc (hRy.off hasf) (by rw[upd_ne nrwf];exact hrw),(TVD.snoc (hTDy.put hfy hfw) (hTy.put hfy hfw)).base hwb,fun q hq=>?_,?_,?_,hpy.off nfp,fun b o e n1 n2=>?_⟩
    ·rcases Yar.mp hq with hq | hq
     ·exact hnew q hq
     ·rw[YaI.mp hq];exact nrw0
    ·rw[et2,ZeE,<- hG,Ybt,<- hGy];unfold wyD;simp
    ·intro d hd e he;rcases Yar.mp hd with hd | hd
     ·exact h3 d hd e he
     ·rw[YaI.mp hd] at he;exact h3y e he
    ·rw[upd_ne n2];exact sy b o e n1 n2
  ·rintro σ Hx ⟨as,Vs,D,o5,o6,o7,o8,o9,rfl,hf,hal,hRL,hTV,hnew,hG,h3,hp,sx⟩;rw[Yaa,husl,YaR] at hG;refine⟨_,rfl,k f as Vs D Hx nf hf hRL (hTV.base fun _ _=>rfl) hG h3 hp fun b o e n=>?_⟩;exact sx b o (s0 _ _ e) n fun z=>by rw[z,nf] at e;cases e
end
end Fi59
namespace Fi59
open PySem L2 Lv
section
variable {P:Program}{w:World}{K:Yad}{mg:Str->Option Value}{base:Heap}
theorem scLaw:FnScope ["script","k","pot","p","levels","n","ups","many","share","some","one","rest","turned","found","told"] ["script"] (Zac sLaw):=⟨rfl,rfl,rfl,by decide +kernel,rfl,by decide +kernel,by decide +kernel⟩
theorem ZgV (K:Yad) {X:Cx} (hc:X.calm=true) (hK:X.K=K:=by rfl):Zca X (.builtin "sum") (fun xs H Q=>∃ (a:Addr) (ns:List Int),xs=[.ref a]/\SqL K H a (ns.map V.int)/\Q (.int ns.sum) H):=by subst hK;exact Zdn hc
theorem Zhd (D:List (List TD)):(strp D).map (fun r=>(r.length:Int))=D.map fun r=>(r.length:Int):=by simp[strp]
theorem Zhf (D:List (List TD)):(strp D).flatten.length=D.flatten.length:=by simp[strp,YbJ,YaW,YcN]
theorem Zj6:∀ p:Nat,2<=p->p<=7->tot p 1<=60:=by
 intro p h1 h2;rcases (show p=2∨p=3∨p=4∨p=5∨p=6∨p=7 by omega) with rfl | rfl | rfl | rfl | rfl | rfl <;> decide +kernel
theorem Zk2:bootBuiltins "range"=some (.type "range"):=by decide +kernel
theorem Zmz (N:List (List Int)) (a:Nat) (s:Nat->Bool):(wayE N a s).map (fun r=>(r.length:Int))=Zcx N:=(Zbw N a s).lens ▸ (Zhd (wayE N a s)).symm ▸ rfl
theorem Zj0 (D:List (List TD)):(wyD id D).map (fun r=>(r.length:Int))=D.map fun r=>(r.length:Int):=by simp[wyD]
theorem Zj1 (D:List (List TD)):(wyD id D).flatten.length=D.flatten.length:=by simp[wyD,YbJ,YaW,YcN]
theorem Zjv {n:Nat}{b b':Nat->Bool} (h:∀ i,i<n->b i=b' i):(Yan n).filter b=(Yan n).filter b':=List.filter_congr fun i hi=>h i (Ybf.mp hi)
theorem Ze3 (n:Nat) (b:Nat->Bool) (c:Bool):(Yan (n+1)).filter (fun i=>if i=n then c else b i)=(Yan n).filter b++(if c then [n] else []):=by
 rw[YcG,Yev];congr 1
 ·exact Zjv fun i hi=>by rw[if_neg (by omega)]
 ·cases c <;> simp
theorem Zgh {H:Hp}{p q:Addr}{bs:List Bool} (h:PotT H p) (e:H q=some (.lst (bs.map V.bl))):q≠p:=h.neB e
theorem Zjk {f f1 f2 f3 f4 f5 f6:Addr}{fd d1 d2 d3 d4 d5 d6:FuncData} (F:Fun K "law" "law" sLaw f fd) (T:Txt mg) (CP:Cal P w K mg base 1 "_law_pot" ["script","k"] (Zhj K) f1 d1) (CT:Cal P w K mg base 1 "_law_take" ["pot","many"] ZdZ f2 d2) (CC:Cal P w K mg base 1 "_law_counts" ["p","n"] ZcZ f3 d3) (CU:Cal P w K mg base 7 "turned_ups" ["p","n"] Zhh f4 d4) (CL:Cal P w K mg base 2 "_law_laid" ["pot","ups","turned"] ZcP f5 d5) (CD:Cal P w K mg base 6 "_law_told" ["p","reels"] (ZcM K) f6 d6):FnOk P w K mg base CX0 8 f fd ["script"] (ZiT K):=by
 refine okW F scLaw (fun vs H Q E h=>?_) (fun cdv A outer s H vs Q E hr h=>?_)
 ·obtain⟨a,cs,rfl,_⟩:=h;rfl
 ·obtain⟨a,cs,rfl,hS,hlen,k⟩:=h;have hr1:Room 1 _:=hr.mono (by decide);have hr2:Room 2 _:=hr.mono (by decide);have hr6:Room 6 _:=hr.mono (by decide);have hr7:Room 7 _:=hr.mono (by decide);have hu0:(A.deeper (Ydx "law" (Zac sLaw) s.heap.objs.size f cdv)).units<cLine:=by have:=hr.un;(clear hlen;omega)
  refine⟨_,(Zae (ws (ZbS Ybw rfl (ZaL rfl T.range (Zaa (Zam (Zcn rfl) rfl T.max ZjD (Zaa Zag (Zaa (Zam (Ziz rfl) rfl T.min ZmL (Zaa Zag (Zaa (Zam ZaQ rfl T.len Ybz (Zaa (pv 0) Zad)) Zad))) Zad))) Zad)) (Zah (i:=1) scLaw.nd rfl (YaG rfl))
   (WSs.out (Zae (ws (Zap (i:=2) scLaw.nd rfl (YcV rfl) (Zan CP hr1 rfl (Zaa (pv 0) (Zaa (pv 1) Zad)))))
    (Zae (ws (Zap (i:=3) scLaw.nd rfl (YcV rfl) (Zav ZaV Zag (Zan CT hr1 rfl (Zaa (pv 2) (Zaa Zag Zad))))))
    (Zae (ws (Za6 (i:=4) scLaw.nd rfl rfl (own:=["n"]) (js:=[3]) (CompOk.by (sc:=Zac sLaw) (N:=["script","k","pot","p","levels","n","ups","many","share","some","one","rest","turned","found","told"]) rfl rfl (by decide +kernel)) rfl (ZhB rfl T.range (Zaa Zag (Zaa Zag Zad))) Zai (fun _ _ _ _ _=>(Zah (i:=0) (by show (["n","p"]:List Str).Nodup;decide +kernel) rfl (YaG rfl) (.inr rfl))) (fun _ _ _ _ _=>(Zbz (ZaK ZhH (Zam (ZgV K rfl) rfl T.sum ZgX (Zaa (Zan CC hr1 rfl (Zaa (pv 1) (Zaa (pv 0) Zad))) Zad)) Zag (Za9 _)))) (fun _ _ _ _ _=>(pv 0))))
    (Zae (ws (Zap (i:=5) scLaw.nd rfl (YaG rfl) (ZaY ZaM (pv 4) (Zan CT hr1 rfl (Zaa (pv 2) (Zaa (Zam ZaQ rfl T.len Ybz (Zaa (pv 4) Zad)) Zad))) (fun _ _=>rfl))))
    (Zae (ws (Zap (i:=6) scLaw.nd rfl (YcV rfl) (Zan CU hr7 rfl (Zaa (pv 3) (Zaa (pv 5) Zad)))))
    (Zae (ws (Zap (i:=7) scLaw.nd rfl (YaG rfl) (Zam (Zdn rfl) rfl T.sum ZgX (Zaa (Zan CC hr1 rfl (Zaa (pv 3) (Zaa (pv 5) Zad))) Zad))))
    (Zae (ws (Zap (i:=8) scLaw.nd rfl (YcV rfl) (Zav ZaV Zag (Zan CT hr1 rfl (Zaa (pv 2) (Zaa Zag Zad))))))
    (Zae (ws (Zap (i:=9) scLaw.nd rfl (YcV rfl) (Zaw (own:=["place"]) (js:=[2,8]) (CompOk.by (sc:=Zac sLaw) (N:=["script","k","pot","p","levels","n","ups","many","share","some","one","rest","turned","found","told"]) rfl rfl (by decide +kernel)) rfl (ZaL rfl T.range (Zaa (pv 7) Zad)) Zai (fun _ _ _ _ _=>(Zah (i:=0) (by show (["place","pot","share"]:List Str).Nodup;decide +kernel) rfl (YaG rfl) (.inr rfl))) (fun _ _ _ _ _=>(Zbz (ZaK ZgL (Zan CT hr1 rfl (Zaa (pv 1) (Zaa Zag Zad))) (pv 2) (Za9 _)))) (fun _ _ _ _ _=>(pv 0)))))
    (Zae (ws (Zap (i:=10) scLaw.nd rfl (YaG rfl) (Zan CT hr1 rfl (Zaa (pv 2) (Zaa (pv 7) Zad)))))
    (Zae (ws (Za6 (i:=11) scLaw.nd rfl rfl (own:=["place"]) (js:=[9]) (CompOk.by (sc:=Zac sLaw) (N:=["script","k","pot","p","levels","n","ups","many","share","some","one","rest","turned","found","told"]) rfl rfl (by decide +kernel)) rfl (ZaL rfl T.range (Zaa (pv 7) Zad)) Zai (fun _ _ _ _ _=>(Zah (i:=0) (by show (["place","some"]:List Str).Nodup;decide +kernel) rfl (YaG rfl) (.inr rfl))) (fun _ _ _ _ _=>(Zbz (ZaK (Zeg K) (pv 0) (pv 1) rfl))) (fun _ _ _ _ _=>(pv 0))))
    (Zae (ws (ZbS Ybw rfl (Za7 (WE.out (Zk8 (ZdU rfl (ZaF Zad) (ZdU rfl (Za8 (Zev rfl) rfl T.list ZjZ (Zaa (Za8 ZjA rfl T.range Zk2 (Zaa (pv 7) Zad)) Zad)) (ZdU rfl (ZaF (Zaa (pv 10) Zad)) (ZdU rfl (pv 9) Zk9))))))) (Zah (i:=12) scLaw.nd rfl (YaG rfl))
    (WSs.out (Zae (ws (Zap (i:=13) scLaw.nd rfl (YaG rfl) (Zan CD hr6 rfl (Zaa (pv 3) (Zaa (Zan CL hr2 rfl (Zaa (pv 2) (Zaa (pv 6) (Zaa (pv 12) Zad)))) Zad)))))
     (Zas (ZcU (PW.pt (Zi0 (ZaK (ZjS hu0) (pv 12) (ZaF Zad) (Za9 _)) (Zf6 (ZaK ZlI (Zam ZaQ rfl T.len Ybz (Zaa (pv 12) Zad)) (pv 7) (Za9 _)))))
     (Zas (ZcU (PW.pt (Zi0 (Zc3 (Zc2 (Zam Zbs rfl T.isinstance Zbd (Zaa (pv 13) (Zaa (Zi5 rfl T.bool ZiD) Zad))))) (Zf6 (ZaK Zkx (pv 13) (Zed (ZjS hu0) (pv 12) (ZaF Zad) (Za9 _)) (Za9 _)))))
      (wss ZaU)
      Zbe))
     (Zas (ZcU (Zc2 (Zam Zbs rfl T.isinstance Zbd (Zaa (pv 13) (Zaa (Zi5 rfl T.bool ZiD) Zad))))
      (wss ZaU)
      Zbe))))))))
    (Zae (ws (Za6 (i:=14) scLaw.nd rfl rfl (own:=["turned"]) (js:=[2,3,6]) (CompOk.by (sc:=Zac sLaw) (N:=["script","k","pot","p","levels","n","ups","many","share","some","one","rest","turned","found","told"]) rfl rfl (by decide +kernel)) rfl (Za7 (ZaF (Zaa (pv 9) (Zaa (pv 11) Zad)))) Zai (fun _ _ _ _ _=>(Zah (i:=0) (by show (["turned","pot","p","ups"]:List Str).Nodup;decide +kernel) rfl (YaG rfl) (.inr rfl))) (fun _ _ _ _ _=>Zao) (fun _ _ _ _ _=>(Zan CD hr6 rfl (Zaa (pv 2) (Zaa (Zan CL hr2 rfl (Zaa (pv 1) (Zaa (pv 3) (Zaa (pv 0) Zad)))) Zad))))))
    (Zas (ZcU (PW.pt (Zhu (Zd9 ZgL ZgL Zag (Zam ZaQ rfl T.len Ybz (Zaa (pv 9) Zad)) (pv 7)) (ZfA (ZaK Zkx (ZaY ZaM (pv 14) Zag (fun _ _=>rfl)) (ZaY ZaM (pv 14) Zag (fun _ _=>rfl)) (Za9 _)))))
    (wss ZaU)
    Zbe)))))))))))))))))
   (Zas (ws (Zay Zee)))),?_⟩
  refine⟨_,rfl,a,_,rfl,.inl hS,_,_,rfl,_,_,rfl,_,rfl,?_,?_,?_⟩
  ·rw[Yaa];split <;> split <;> (clear hu0 hlen;omega)
  ·rw[Yaa];split <;> split <;> (clear hu0 hlen;omega)
  have em:((if (if ((cs.map V.int).length:Int)<12 then ((cs.map V.int).length:Int) else 12) > 3 then (if ((cs.map V.int).length:Int)<12 then ((cs.map V.int).length:Int) else 12) else 3)).toNat<=12:=by
   rw[Yaa];split <;> split <;> (clear hu0 hlen;omega)
  generalize (if (if ((cs.map V.int).length:Int)<12 then ((cs.map V.int).length:Int) else 12) > 3 then (if ((cs.map V.int).length:Int)<12 then ((cs.map V.int).length:Int) else 12) else 3).toNat=NN at em ⊢;refine ZbC (fun i σ H2=>∃ o1 o2 o3 o4 o5 o6 o7 o8 o9 o10 o11 o12 o13 o14:Option V,σ=[some (.ref a),o1,o2,o3,o4,o5,o6,o7,o8,o9,o10,o11,o12,o13,o14]/\Same H H2) ⟨none,none,none,none,none,none,none,none,none,none,none,none,none,none,rfl,Same.refl _⟩ ?_ ?_
  ·rintro i σ H2 hi ⟨o1,o2,o3,o4,o5,o6,o7,o8,o9,o10,o11,o12,o13,o14,rfl,s2⟩;refine⟨_,rfl,_,rfl,a,cs,_,rfl,s2.seq hS,by (clear hi em hu0 hlen;omega),by (clear hu0 hlen;omega),fun pl H3 hpl hp3 s3=>?_⟩;have hpl0:H pl=none:=s2.free hpl;have s03:=s2.trans s3;refine⟨_,rfl,pl,6,rfl,hp3,by decide,by decide,fun dp H4 e0 e1 hp4 sm4=>⟨2,dp,rfl,rfl,?_⟩⟩;have s04:=Sm.after s03 sm4 hpl0;obtain⟨p,hp,p2,p7⟩:∃ p:Nat,2+dp=(p:Int)/\2<=p/\p<=7:=⟨(2+dp).toNat,by (clear e1 hi em hu0 hlen;omega),by (clear e1 hi em hu0 hlen;omega),by (clear e0 hi em hu0 hlen;omega)⟩
   dsimp only;rw[hp];have t1:=Zj6 p p2 p7;refine⟨1,24,rfl,⟨by decide,by decide,by decide,by decide⟩,?_⟩;refine ZaT (fun acc j Hx=>Same H4 Hx/\∃ ns:List Nat,(ns=[]->j=0)/\ns.length<=j/\(∀ x∈ns,x<24/\1<=x/\tot p x<=60)/\Hx acc=some (.lst ((ns.map fun x:Nat=>(x:Int)).map V.int))) (fun acc h0=>⟨Same.new h0,[],fun _=>rfl,Yap _,by simp,Zab⟩) ?_ ?_
   ·rintro acc j Hx h0 hj ⟨sx,ns,hne,hlj,hns,hacc⟩;have hj23:j<23:=hj;have ej:(1:Int)+(j:Int)=((j+1:Nat):Int):=by (clear hj23 hlj hne hj t1 p7 p2 hp e1 e0 hi em hu0 hlen;omega)
    refine⟨_,rfl,_,rfl,p,j+1,?_,p2,p7,by (clear ej hj23 hlj hne t1 p7 p2 hp e1 e0 hi em hu0 hlen;omega),fun lc Hy e4 hlc sy=>?_⟩
    ·rw[ej];rfl
    refine⟨lc,cnt p (j+1),rfl,SqL.of hlc,_,_,rfl,rfl,_,rfl,?_⟩;refine ite2 (fun hc2=>?_) (fun hc2=>?_)
    ·have ht:tot p (j+1)<=60:=of_decide_eq_true hc2;refine⟨_,rfl,_,sy acc _ hacc,Zat (by simp;(clear ht ej hj23 hne t1 p7 p2 hp e1 e0 hi em hu0 hlen;omega)),hj,(sx.trans sy).put h0,ns++[j+1],by simp,by simp;(clear ht ej hj23 hne hj t1 p7 p2 hp e1 e0 hi em hu0 hlen;omega),?_,?_⟩
     ·intro x hx;rcases Yar.mp hx with h | h
      ·exact hns x h
      ·have:x=j+1:=by simpa using h
       subst this;exact⟨by (clear ht ej hj23 hlj hne t1 p7 p2 hp e1 e0 hi em hu0 hlen;omega),by (clear ht ej hj23 hlj hne hj t1 p7 p2 hp e1 e0 hi em hu0 hlen;omega),ht⟩
     ·rw[Zab,ej];simp
    ·refine⟨hj,sx.trans sy,ns,fun z=>?_,by (clear hc2 ej hj23 hne hj t1 p7 p2 hp e1 e0 hi em hu0 hlen;omega),hns,sy acc _ hacc⟩;exfalso;have:=hne z;subst this;exact hc2 (decide_eq_true t1)
   rintro lv H5 nlv ⟨s5,ns,hne,hlj,hns,hlv⟩;have hlj:ns.length<=23:=hlj;have hnn:ns≠[]:=fun z=>by have:=hne z;revert this;decide
   have hln:0<ns.length:=List.length_pos_iff.mpr hnn;have nlvp:lv≠pl:=hp4.ne nlv;have bits:∀ m:Nat,m<61->Ybr (m:Int)<=8000:=by decide +kernel
   refine⟨_,rfl,_,rfl,_,rfl,lv,_,rfl,.inl (SqL.of hlv),?_⟩;rw[Yaa,Yaa];refine⟨pl,_,rfl,hp4.same s5,by (clear nlvp hlj hne t1 p7 p2 hp e1 e0 hi em hu0 hlen;omega),bits _ (by (clear nlvp hln hlj hne t1 p7 p2 hp e1 e0 hi em hu0 hlen;omega)),fun d H6 d0 d1 hp6 sm6=>?_⟩;obtain⟨d,rfl⟩:=YbX d0;have hd:d<ns.length:=by (clear d0 nlvp hln hlj hne t1 p7 p2 hp e1 e0 hi em hu0 hlen;omega)
   obtain⟨n24,hn1,hnt⟩:=hns _ (Ycl hd);refine⟨lv,_,_,.int (ns[d]:Nat),rfl,rfl,SqL.of (sm6 lv _ hlv nlvp),Zb9 (by simp[hd]),?_⟩;generalize ns[d]=n at n24 hn1 hnt;have s06:=Sm.after (s04.trans s5) sm6 hpl0;have hNl:(tnum p n).length=p:=Za0 (by (clear hnt hn1 n24 hd d1 d0 nlvp hln hlj hne t1 p7 p2 e1 hi em hu0 hlen;omega)) n;have hN4:∀ xs∈tnum p n,xs.length<=4000:=fun xs hxs=>by have:=Zfk (show 1<=p by (clear hNl hnt hn1 n24 hd d1 d0 nlvp hln hlj hne t1 p7 p2 e1 hi em hu0 hlen;omega)) hxs;(clear hNl hn1 n24 hd d1 d0 nlvp hln hlj hne t1 p7 p2 hp e1 e0 hi em hu0 hlen;omega)
   refine⟨_,rfl,_,rfl,p,n,rfl,p2,p7,by (clear hNl hnt hn1 hd d1 d0 nlvp hln hlj hne t1 p7 p2 hp e1 e0 hi em hu0 hlen;omega),by (clear hNl hn1 n24 hd d1 d0 nlvp hln hlj hne t1 p7 p2 hp e1 e0 hi em hu0 hlen;omega),fun u us H7 nu hu hus _ _ s7=>?_⟩;refine⟨_,rfl,_,rfl,p,n,rfl,p2,p7,by (clear hNl hnt hn1 hd d1 d0 nlvp hln hlj hne t1 p7 p2 hp e1 e0 hi em hu0 hlen;omega),fun lc H8 nlc hlc s8=>?_⟩;obtain⟨many,emany⟩:∃ many:Nat,(tnum p n).flatten.length=many:=⟨_,rfl⟩
   have emany2:(cnt p n).sum=(many:Int):=by
    have:=Zg5 (show 1<=p by (clear emany hNl hnt hn1 n24 hd d1 d0 nlvp hln hlj hne t1 p7 p2 e1 hi em hu0 hlen;omega)) n;unfold tot at this
    (clear hNl hnt hn1 n24 hd d1 d0 nlvp hln hlj hne t1 p7 p2 hp e1 e0 hi em hu0 hlen;omega)
   have hm60:many<=60:=by unfold tot at hnt;(clear emany hNl hn1 n24 hd d1 d0 nlvp hln hlj hne t1 p7 p2 hp e1 e0 hi em hu0 hlen;omega)
   have hm2:2<=many:=by
    have h9:=ZbK p2 (show 1<=n from hn1);have h10:(2:Int)<=tot p 1:=by
     rcases (show p=2∨p=3∨p=4∨p=5∨p=6∨p=7 by (clear h9 hm60 emany2 emany hNl hnt hn1 n24 hd d1 d0 nlvp hln hlj hne t1 p7 p2 hi em hu0 hlen;omega)) with rfl | rfl | rfl | rfl | rfl | rfl <;> decide +kernel
    unfold tot at h9 h10
    (clear hm60 emany hNl hnt hn1 n24 hd d1 d0 nlvp hln hlj hne t1 p7 p2 hp e1 e0 hi em hu0 hlen;omega)
   refine⟨lc,cnt p n,rfl,SqL.of hlc,?_⟩;rw[emany2];have hp8:=(hp6.same s7).same s8;have s68:=s7.trans s8;have s08:=s06.trans s68;refine⟨_,rfl,pl,3,rfl,hp8,by decide,by decide,fun ds H9 d0 d1 hp9 sm9=>⟨1,ds,rfl,rfl,?_⟩⟩;dsimp only;generalize (1:Int)+ds=share;have s09:=Sm.after s08 sm9 hpl0;have nup:u≠pl:=(hp6.same s7).neR hu;have hu9:=sm9 _ _ (s8 _ _ hu) nup;have hus9:LBs H9 us (upsT (tnum p n)):=⟨hus.1,fun j q bs x y=>sm9 _ _ (s8 _ _ (hus.2 j q bs x y)) (Zgh (hp6.same s7) (hus.2 j q bs x y))⟩
   refine⟨_,rfl,_,rfl,by (clear nup d1 d0 hm2 hm60 emany2 emany hNl hnt hn1 n24 hd nlvp hln hlj hne t1 p7 p2 hp e1 e0 hi em hu0 hlen;omega),by (clear nup d1 d0 hm2 emany2 emany hNl hnt hn1 n24 hd nlvp hln hlj hne t1 p7 p2 hp e1 e0 hi em hu0 hlen;omega),?_⟩;rw[YaN];refine ZaT (fun acc j Hx=>PotT Hx pl/\Sm pl H9 Hx/\∃ b:Nat->Bool,Hx acc=some (.lst (ofN ((Yan j).filter b)))) (fun acc h0=>⟨hp9.put h0,Sm.new h0,fun _=>true,Zab⟩) ?_ ?_
   ·rintro acc j Hx h0 hj ⟨hpx,smx,b,hacc⟩;have nap:acc≠pl:=hp9.ne h0;refine⟨_,rfl,pl,4,rfl,hpx,by decide,by decide,fun d4 Hy e0 e1 hpy smy=>⟨_,rfl,_,_,rfl,rfl,_,rfl,?_⟩⟩;have hacy:=smy _ _ hacc nap;refine ite2 (fun hc=>?_) (fun hc=>?_)
    ·have hl:((Yan j).filter b).length<=j:=by have:=Yd7 b (Yan j);rwa [YbI] at this
     refine⟨_,rfl,_,hacy,Zat (by unfold ofN;simp;(clear e1 e0 nap nup d1 d0 hm2 emany2 emany hNl hnt hn1 n24 hd nlvp hln hlj hne t1 p7 p2 hp hi em hu0 hlen;omega)),hj,hpy.off nap,(smx.trans smy).putL h0,fun x=>if x=j then true else b x,?_⟩;rw[Zab,Ze3];unfold ofN;simp
    ·refine⟨hj,hpy,smx.trans smy,fun x=>if x=j then false else b x,?_⟩;rw[Ze3];simpa using hacy
   rintro sl Ha nsl ⟨hpa,sma,bS,hsl⟩;have nslp:sl≠pl:=hp9.ne nsl;have hua:=sma _ _ hu9 nup;have s0a:=Sm.after s09 sma hpl0;have bits:∀ m:Nat,m<61->Ybr (m:Int)<=8000:=by decide +kernel
   refine⟨_,rfl,_,rfl,pl,many,rfl,hpa,by (clear nslp nup d1 d0 hm60 emany2 emany hNl hnt hn1 n24 hd nlvp hln hlj hne t1 p7 p2 hp e1 e0 hi em hu0 hlen;omega),bits _ (by (clear nslp nup d1 d0 hm2 emany2 emany hNl hnt hn1 n24 hd nlvp hln hlj hne t1 p7 p2 hp e1 e0 hi em hu0 hlen;omega)),fun one Hb o0 o1 hpb smb=>?_⟩;have hslb:=smb _ _ hsl nslp;have hS1:Zco many ((Yan many).filter bS):=ZbY (by (clear o1 o0 nslp nup d1 d0 hm60 emany2 emany hNl hnt hn1 n24 hd nlvp hln hlj hne t1 p7 p2 hp e1 e0 hi em hu0 hlen;omega)) bS;generalize (Yan many).filter bS=Sl at hslb hS1;refine⟨_,rfl,_,rfl,by (clear o1 o0 nslp nup d1 d0 hm2 hm60 emany2 emany hNl hnt hn1 n24 hd nlvp hln hlj hne t1 p7 p2 hp e1 e0 hi em hu0 hlen;omega),by (clear o1 o0 nslp nup d1 d0 hm2 emany2 emany hNl hnt hn1 n24 hd nlvp hln hlj hne t1 p7 p2 hp e1 e0 hi em hu0 hlen;omega),?_⟩;rw[YaN];refine ZaT (fun acc j Hx=>Same Hb Hx/\Hx acc=some (.lst (ofN ((Yan j).filter fun i=>!decide (i∈Sl))))) (fun acc h0=>⟨Same.new h0,Zab⟩) ?_ ?_
   ·rintro acc j Hx h0 hj ⟨sx,hacc⟩;refine⟨_,rfl,_,rfl,sl,_,rfl,.inl (SqL.of (sx _ _ hslb)),rfl,Zgj _,_,rfl,?_⟩;have eb:(if (true:Bool)=true then !inV (.int (0+(j:Int))) (ofN Sl) else inV (.int (0+(j:Int))) (ofN Sl)) = !decide (j∈Sl):=by
     rw[if_pos rfl,Ycd];unfold ofN;rw[Zdb,ZhS]
    rw[eb];have hl:((Yan j).filter fun i=>!decide (i∈Sl)).length<=j:=by have:=Yd7 (fun i=>!decide (i∈Sl)) (Yan j);rwa [YbI] at this
    have e9:(Yan (j+1)).filter (fun i=>!decide (i∈Sl))=(Yan j).filter (fun i=>!decide (i∈Sl))++(if (!decide (j∈Sl))=true then [j] else []):=by
     rw[YcG,Yev];congr 1;by_cases z:j∈Sl <;> simp[z]
    refine ite2 (fun hc=>?_) (fun hc=>?_)
    ·refine⟨_,rfl,_,hacc,Zat (by unfold ofN;rw[Yaa,Yaa];(clear o1 o0 nslp nup d1 d0 hm2 emany2 emany hNl hnt hn1 n24 hd nlvp hln hlj hne t1 p7 p2 hp e1 e0 hi em hu0 hlen;omega)),hj,sx.put h0,?_⟩;rw[Zab,e9,if_pos hc];unfold ofN;rw[YaP,YaP,Ycd];rfl
    ·refine⟨hj,sx,?_⟩;rw[e9,if_neg hc,Ybj];exact hacc
   rintro tl Hc ntl ⟨sc,htl⟩;have ntlp:tl≠pl:=hpb.ne ntl;have hpc:=hpb.same sc;have hslc:=sc _ _ hslb;have huc:=sc _ _ (smb _ _ hua nup);have smc:Sm pl H9 Hc:=(sma.trans smb).trans (Sm.of sc);have hS2:Zco many ((Yan many).filter fun i=>!decide (i∈Sl)):=ZbY (by (clear ntlp o1 o0 nslp nup d1 d0 hm60 emany2 emany hNl hnt hn1 n24 hd nlvp hln hlj hne t1 p7 p2 hp e1 e0 hi em hu0 hlen;omega)) _;have hSR:∀ i,i<many->(i∈(Yan many).filter (fun i=>!decide (i∈Sl))↔i ∉ Sl):=fun i hi=>by
    rw[Yb9];constructor
    ·rintro⟨_,z⟩;simpa using z
    ·intro z;exact⟨Ybf.mpr hi,by simpa using z⟩
   generalize (Yan many).filter (fun i=>!decide (i∈Sl))=Rl at htl hS2 hSR;have s0c:=Sm.after s0a (smb.trans (Sm.of sc)) hpl0;have tell:∀ (Hx:Hp) (t:Addr) (S:List Nat) (R:VK),PotT Hx pl->Sm pl Hc Hx->Hx t=some (.lst (ofN S))->t≠pl->Zco many S->(∀ v H',Zfe p n S v->PotT H' pl->Sm pl Hx H'->R v H')->ZcP [.ref pl,.ref u,.ref t] Hx (fun y Hy=>ZcM K [.int p,y] Hy R E0) E0:=fun Hx t S R hpx smx ht ntp hS hR=>by
    refine⟨pl,u,t,us,tnum p n,S,rfl,hpx,smx _ _ huc nup,⟨hus9.1,fun j q bs x y=>(smc.trans smx) _ _ (hus9.2 j q bs x y) (Zgh hp9 (hus9.2 j q bs x y))⟩,by (clear ntp ntlp o1 o0 nslp nup d1 d0 hm2 hm60 emany2 emany hnt hn1 n24 hd nlvp hln hlj hne t1 p7 p2 e0 hi em hu0 hlen;omega),hN4,ht,ntp,fun l as Vs D H' nl hl hRL hTV hW h3 hp' sm'=>?_⟩;have hlens:D.map (fun r=>(r.length:Int))=cnt p n:=by rw[<- Zj0,hW,Zmz,ZaW (by (clear ntp ntlp o1 o0 nslp nup d1 d0 hm2 hm60 emany2 emany hNl hnt hn1 n24 hd nlvp hln hlj hne t1 p7 p2 e1 hi em hu0 hlen;omega))]
    have hfl:D.flatten.length=many:=by
     rw[<- Zj1,hW,<- emany];exact (Zbw (tnum p n) 0 (fun i=>decide (i∈S))).flen ▸ (Zhf _).symm
    have htot:totT lenT D<=2000:=by have h9:=Zj8 h3;(clear ntp ntlp o1 o0 nslp nup d1 d0 hm2 emany2 emany hNl hnt hn1 n24 hd nlvp hln hlj hne t1 p7 p2 hp e1 e0 hi em hu0 hlen;omega)
    have hGs:GdD true (strp D) (tnum p n):=by rw[<- Zkd id,hW];exact Zbw _ _ _
    obtain⟨hok,_,_⟩:=Zlw p2 hGs;refine⟨p,n,l,as,Vs,D,rfl,p2,p7,by (clear htot hfl ntp ntlp o1 o0 nslp nup d1 d0 hm2 hm60 emany2 emany hNl hnt hn1 hd nlvp hln hlj hne t1 p7 p2 hp e1 e0 hi em hu0 hlen;omega),by (clear htot hfl ntp ntlp o1 o0 nslp nup d1 d0 hm2 hm60 emany2 emany hNl hn1 n24 hd nlvp hln hlj hne t1 p7 p2 hp e1 e0 hi em hu0 hlen;omega),SqL.of hl,hRL,hTV,hlens,by (clear hfl ntp ntlp o1 o0 nslp nup d1 d0 hm2 hm60 emany2 emany hNl hnt hn1 n24 hd nlvp hln hlj hne t1 p7 p2 hp e1 e0 hi em hu0 hlen;omega),hok,?_⟩;rcases Zj9 p2 hW (by (clear htot hfl ntp ntlp o1 o0 nslp nup d1 d0 hm60 emany2 hNl hnt hn1 n24 hd nlvp hln hlj hne t1 p7 p2 hp e1 e0 hi em hu0 hlen;omega)) (by rw[emany];exact hS) with ⟨c,g1,g2⟩ | ⟨g1,e,r,g2,g3⟩
    ·exact .inl ⟨c,g1,fun H'' s''=>hR _ H'' g2 (hp'.same s'') (sm'.trans (Sm.of s''))⟩
    ·exact .inr ⟨g1,e,r,g2,fun H'' s''=>hR _ H'' g3 (hp'.same s'') (sm'.trans (Sm.of s''))⟩
   refine⟨YaX _,fun e0 ne0=>?_⟩;have z1:Same Hc (upd Hc e0 (.lst [])):=Same.new ne0;have he0:upd Hc e0 (.lst []) e0=some (.lst (ofN [])):=Zab;generalize upd Hc e0 (.lst [])=G1 at z1 he0 ⊢;refine⟨_,rfl,_,rfl,fun q6 e6=>?_⟩;have z2:Same G1 (upd G1 q6 (.rng 0 (many:Int))):=Same.new e6;have hq6:upd G1 q6 (.rng 0 (many:Int)) q6=some (.rng 0 (many:Int)):=Zab;generalize upd G1 q6 (.rng 0 (many:Int))=G2 at z2 hq6 ⊢;refine⟨q6,(many:Int),rfl,hq6,by (clear ntlp o1 o0 nslp nup d1 d0 hm2 hm60 emany2 emany hNl hnt hn1 n24 hd nlvp hln hlj hne t1 p7 p2 hp e1 hi em hu0 hlen;omega),by (clear ntlp o1 o0 nslp nup d1 d0 hm2 emany2 emany hNl hnt hn1 n24 hd nlvp hln hlj hne t1 p7 p2 hp e1 hi em hu0 hlen;omega),fun lo elo=>?_⟩;rw[YaN];have z3:Same G2 (upd G2 lo (.lst (((Yan many).map fun (i:Nat)=>(i:Int)).map V.int))):=Same.new elo;have hlo:upd G2 lo (.lst (((Yan many).map fun (i:Nat)=>(i:Int)).map V.int)) lo=some (.lst (ofN (Yan many))):=Zab;generalize upd G2 lo (.lst (((Yan many).map fun (i:Nat)=>(i:Int)).map V.int))=G3 at z3 hlo ⊢;obtain⟨on,rfl,hon⟩:∃ o:Nat,one=(o:Int)/\o<many:=⟨one.toNat,by (clear ntlp o1 nslp nup d1 d0 hm2 hm60 emany2 emany hNl hnt hn1 n24 hd nlvp hln hlj hne t1 p7 p2 hp e1 hi em hu0 hlen;omega),by (clear ntlp o0 nslp nup d1 d0 hm60 emany2 emany hNl hnt hn1 n24 hd nlvp hln hlj hne t1 p7 p2 hp e1 hi em hu0 hlen;omega)⟩
   refine⟨_,rfl,(by show 1<=sizeLine;decide),fun l1 nl1=>?_⟩;have z4:Same G3 (upd G3 l1 (.lst [.int on])):=Same.new nl1;have hl1:upd G3 l1 (.lst [.int on]) l1=some (.lst (ofN [on])):=Zab;have hlo4:=z4 _ _ hlo;have z04:=((z1.trans z2).trans z3).trans z4;have he04:=z4 _ _ (z3 _ _ (z2 _ _ he0));generalize upd G3 l1 (.lst [.int on])=G4 at z4 hl1 hlo4 z04 he04 ⊢;refine⟨_,rfl,(by show 4<=sizeLine;decide),fun lf nlf=>?_⟩;have z5:Same G4 (upd G4 lf (.lst [.ref e0,.ref lo,.ref l1,.ref sl])):=Same.new nlf;have hlf:upd G4 lf (.lst [.ref e0,.ref lo,.ref l1,.ref sl]) lf=some (.lst [.ref e0,.ref lo,.ref l1,.ref sl]):=Zab;have he05:=z5 _ _ he04;have hlo5:=z5 _ _ hlo4;have hl15:=z5 _ _ hl1;have z05:=z04.trans z5;generalize upd G4 lf (.lst [.ref e0,.ref lo,.ref l1,.ref sl])=G5 at z5 hlf he05 hlo5 hl15 z05 ⊢;have hsl5:=z05 _ _ hslc;have htl5:=z05 _ _ htl;have hp5:=hpc.same z05;have neP:∀ {q:Addr}{S:List Nat},Hc q=none->G5 q=some (.lst (ofN S))->q≠pl:=fun {q S} h1 _ z=>hpc.some (by rw[<- z];exact h1);have ne0p:e0≠pl:=neP ne0 he05;have nlop:lo≠pl:=neP (z1.free (z2.free elo)) hlo5;have nl1p:l1≠pl:=neP (((z1.trans z2).trans z3).free nl1) hl15;have nlfp:lf≠pl:=fun z=>hpc.some (by rw[<- z];exact z04.free nlf);have hR0:Zco many (Yan many):=by
    have:=ZbY (many:=many) (by (clear nlfp nl1p nlop ne0p o1 o0 hon ntlp nslp nup d1 d0 hm60 emany2 emany hNl hnt hn1 n24 hd nlvp hln hlj hne t1 p7 p2 hp e1 hi em hu0 hlen;omega)) (fun _=>true)
    rwa [Yc7.mpr (fun _ _=>rfl)] at this
   have four:∀ (j:Nat) x,[V.ref e0,.ref lo,.ref l1,.ref sl][j]?=some x->∃ t S,x=.ref t/\G5 t=some (.lst (ofN S))/\t≠pl/\Zco many S:=fun j x hx=>by
    have hj:=(Yab.mp hx).1
    have hj:j<4:=hj;rcases (show j=0∨j=1∨j=2∨j=3 by (clear nlfp nl1p nlop ne0p o1 o0 hon ntlp nslp nup d1 d0 hm2 hm60 emany2 emany hNl hnt hn1 n24 hd nlvp hln hlj hne t1 p7 p2 hp e1 hi em hu0 hlen;omega)) with rfl | rfl | rfl | rfl
    ·cases hx;exact⟨e0,[],rfl,he05,ne0p,.inl rfl⟩
    ·cases hx;exact⟨lo,_,rfl,hlo5,nlop,hR0⟩
    ·cases hx;exact⟨l1,_,rfl,hl15,nl1p,ZiL hm2 hon⟩
    ·cases hx;exact⟨sl,_,rfl,hsl5,nslp,hS1⟩
   refine⟨lf,rfl,⟨_,SqL.of hlf⟩,?_⟩;refine Zcl (xs:=[.ref e0,.ref lo,.ref l1,.ref sl]) (fun j σ Hx=>∃ q12 q13 q14:Option V,σ=[some (.ref a),some (.int (0+(i:Int))),some (.ref pl),some (.int p),some (.ref lv),some (.int n),some (.ref u),some (.int (many:Nat)),some (.int share),some (.ref sl),some (.int (on:Nat)),some (.ref tl),q12,q13,q14]/\PotT Hx pl/\Sm pl G5 Hx) ⟨_,_,_,rfl,hp5,Sm.refl _ _⟩ (fun j σ Hx _ z=>by obtain⟨_,_,_,_,_,sz⟩:=z;exact SqL.of (sz _ _ hlf nlfp)) ?_ ?_
   ·rintro j x σ Hx hx ⟨q12,q13,q14,rfl,hpx,smx⟩;obtain⟨t,S,rfl,ht,ntp,hS⟩:=four j x hx;have htx:=smx _ _ ht ntp;refine⟨_,rfl,_,rfl,_,rfl,_,rfl,?_⟩;dsimp only[tNil,Ybj];refine tell Hx t S _ hpx ((Sm.of z05).trans smx) htx ntp hS fun v H' hT hp' sm'=>?_;have htx':=sm' _ _ htx ntp;refine⟨_,rfl,YaX _,fun le nle=>⟨t,le,_,rfl,rfl,SqL.of ((Same.new nle) _ _ htx'),SqL.of Zab,_,rfl,?_⟩⟩;have hfm:(tnum p n).flatten.length=many:=emany;have smN:=smx.trans (sm'.trans (Sm.new (o:=.lst []) nle));have htn:upd H' le (.lst []) t=some (.lst (ofN S)):=(Same.new nle) _ _ htx';have hpn:=hp'.put (o:=.lst []) nle;have emp:∀ {S:List Nat},S≠[]->(ofN S).isEmpty=false:=fun {S} hne=>by
     cases S with
     | nil=>exact absurd rfl hne
     | cons x r=>rfl
    have len9:(ofN S).length=S.length:=by unfold ofN;rw[Yaa,Yaa]
    generalize upd H' le (.lst [])=Hn at htn smN hpn ⊢;rcases hT with ⟨c,g1,rfl,i',hi',hiS,j',hj',hjS⟩ | ⟨g1,⟨rfl,rfl⟩ | ⟨hn,hl,rfl⟩⟩
    ·have hn:S≠[]:=fun z=>by rw[z] at hiS;cases hiS
     have hl:S.length≠many:=fun z=>by
      rcases hS with w | ⟨_,_,w⟩ | ⟨_,w,_⟩
      ·exact hn w
      ·exact hjS (w j' (by (clear z hjS hi' len9 hfm ntp nlfp nl1p nlop ne0p o1 o0 hon ntlp nslp nup d1 d0 hm2 hm60 emany2 hNl hnt hn1 n24 hd nlvp hln hlj hne t1 p7 p2 hp e1 hi em hu0 hlen;omega)))
      ·exact w z
     rw[emp hn];refine iteF ⟨_,rfl,t,_,rfl,.inl (SqL.of htn),_,rfl,rfl,_,rfl,?_⟩;rw[len9,show decide (V.int (S.length:Nat)=V.int (many:Nat))=false from decide_eq_false fun z=>by injection z with z;exact hl (by (clear hl hjS hj' hi' len9 hfm ntp nlfp nl1p nlop ne0p o1 o0 hon ntlp nslp nup d1 d0 hm2 hm60 emany2 emany hNl hnt hn1 n24 hd nlvp hln hlj hne t1 p7 p2 hp e1 hi em hu0 hlen;omega))];refine iteF ⟨_,rfl,.int c,"bool",_,_,rfl,(show Thing K Hn (.int c) "int" from⟨.int _,by decide⟩).1,Zb4 (show "int"∈anT by decide),false,rfl,iteF ?_⟩;exact⟨_,_,_,rfl,hpn,smN⟩
    ·refine iteT ?_;refine⟨_,rfl,.bl true,"bool",_,_,rfl,(show Thing K Hn (.bl true) "bool" from⟨.bl _,by decide⟩).1,Zb4 (show "bool"∈anT by decide),true,rfl,iteF ?_⟩;refine⟨_,rfl,_,rfl,YaX _,fun l9 nl9=>⟨t,l9,_,rfl,rfl,SqL.of ((Same.new nl9) _ _ htn),SqL.of Zab,rfl,_,rfl,iteF ?_⟩⟩;exact⟨_,_,_,rfl,hpn.put nl9,smN.trans (Sm.new nl9)⟩
    ·rw[emp hn];refine iteF ⟨_,rfl,t,_,rfl,.inl (SqL.of htn),_,rfl,rfl,_,rfl,?_⟩;rw[len9,show decide (V.int (S.length:Nat)=V.int (many:Nat))=true from decide_eq_true (by rw[hl,hfm])];refine iteT ?_;refine⟨_,rfl,.bl false,"bool",_,_,rfl,(show Thing K Hn (.bl false) "bool" from⟨.bl _,by decide⟩).1,Zb4 (show "bool"∈anT by decide),true,rfl,iteF ?_⟩;refine⟨_,rfl,_,rfl,YaX _,fun l9 nl9=>⟨t,l9,_,rfl,rfl,SqL.of ((Same.new nl9) _ _ htn),SqL.of Zab,rfl,?_⟩⟩;rw[emp hn];refine⟨_,rfl,iteF ?_⟩;exact⟨_,_,_,rfl,hpn.put nl9,smN.trans (Sm.new nl9)⟩
   ·rintro σ Hx ⟨q12,q13,q14,rfl,hpx,smx⟩;have hslx:=smx _ _ hsl5 nslp;have htlx:=smx _ _ htl5 ntlp;refine⟨_,rfl,_,rfl,(by show 2<=sizeLine;decide),fun l8 nl8=>?_⟩;have z8:Same Hx (upd Hx l8 (.lst [.ref sl,.ref tl])):=Same.new nl8;have hl8:upd Hx l8 (.lst [.ref sl,.ref tl]) l8=some (.lst [.ref sl,.ref tl]):=Zab;have hp8':=hpx.same z8;have nl8p:l8≠pl:=hpx.ne nl8;have hsl8:=z8 _ _ hslx;have htl8:=z8 _ _ htlx;have smx8:=smx.trans (Sm.of z8);generalize upd Hx l8 (.lst [.ref sl,.ref tl])=H20 at z8 hl8 hp8' hsl8 htl8 smx8 ⊢;refine⟨l8,rfl,⟨_,SqL.of hl8⟩,?_⟩;have two:∀ (j:Nat) x,[V.ref sl,.ref tl][j]?=some x->∃ t S,x=.ref t/\H20 t=some (.lst (ofN S))/\t≠pl/\Zco many S/\((j=0/\S=Sl)∨(j=1/\S=Rl)):=fun j x hx=>by
     have hj:=(Yab.mp hx).1
     have hj:j<2:=hj;rcases (show j=0∨j=1 by (clear nl8p nlfp nl1p nlop ne0p o1 o0 hon ntlp nslp nup d1 d0 hm2 hm60 emany2 emany hNl hnt hn1 n24 hd nlvp hln hlj hne t1 p7 p2 hp e1 hi em hu0 hlen;omega)) with rfl | rfl
     ·cases hx;exact⟨sl,_,rfl,hsl8,nslp,hS1,.inl ⟨rfl,rfl⟩⟩
     ·cases hx;exact⟨tl,_,rfl,htl8,ntlp,hS2,.inr ⟨rfl,rfl⟩⟩
    refine Zbj (xs:=[.ref sl,.ref tl]) (fun acc j Hy=>∃ vs:List V,Hy acc=some (.lst vs)/\vs.length=j/\(∀ v,vs[0]?=some v->Zfe p n Sl v)/\(∀ v,vs[1]?=some v->Zfe p n Rl v)/\PotT Hy pl/\Sm pl H20 Hy) (fun acc h0=>⟨[],Zab,rfl,by simp,by simp,hp8'.put h0,Sm.new h0⟩) (fun acc j Hy h0 _ z=>by
     obtain⟨_,_,_,_,_,_,sm⟩:=z;exact SqL.of (sm _ _ hl8 nl8p)) ?_ ?_
    ·rintro acc j x Hy h0 hx ⟨vs,hacc,hvl,hv0,hv1,hpy,smy⟩;obtain⟨t,S,rfl,ht,ntp,hS,hjS⟩:=two j x hx;have hj:=(Yab.mp hx).1
     have hj:j<2:=hj;have nap:acc≠pl:=hp8'.ne h0;refine⟨_,rfl,_,rfl,_,rfl,_,rfl,?_⟩;dsimp only[tNil,Ybj];refine tell Hy t S _ hpy (((Sm.of z05).trans smx8).trans smy) (smy _ _ ht ntp) ntp hS fun v H' hT hp' sm'=>?_;refine⟨_,sm' _ _ hacc nap,Zat (by (clear nap hj ntp nl8p nlfp nl1p nlop ne0p o1 o0 hon ntlp nslp nup d1 d0 hm2 hm60 emany2 emany hNl hnt hn1 n24 hd nlvp hln hlj hne t1 p7 p2 hp e1 hi em hu0 hlen;omega)),hj,vs++[v],Zab,by rw[Yai,hvl];rfl,fun w hw=>?_,fun w hw=>?_,hp'.off nap,(smy.trans sm').putL h0⟩
     ·rcases hjS with ⟨rfl,rfl⟩ | ⟨rfl,rfl⟩
      ·rw[Ybl.mp hvl] at hw;cases hw;exact hT
      ·rw[Yas (by (clear hj nap ntp nl8p nlfp nl1p nlop ne0p o1 o0 hon ntlp nslp nup d1 d0 hm2 hm60 emany2 emany hNl hnt hn1 n24 hd nlvp hln hlj hne t1 p7 p2 hp e1 hi em hu0 hlen;omega))] at hw;exact hv0 w hw
     ·rcases hjS with ⟨rfl,rfl⟩ | ⟨rfl,rfl⟩
      ·rw[Ybl.mp hvl] at hw;cases hw
      ·rw[Yax (by (clear hj nap ntp nl8p nlfp nl1p nlop ne0p o1 o0 hon ntlp nslp nup d1 d0 hm2 hm60 emany2 emany hNl hnt hn1 n24 hd nlvp hln hlj hne t1 p7 p2 hp e1 hi em hu0 hlen;omega)),hvl] at hw;cases hw;exact hT
    ·rintro ll Hy nll ⟨vs,hll,hvl,hv0,hv1,hpy,smy⟩;have hvl:vs.length=2:=hvl;obtain⟨v0,v1,rfl⟩:∃ v0 v1,vs=[v0,v1]:=by
      match vs,hvl with
      | [v0,v1],_=>exact⟨v0,v1,rfl⟩
     have t0:=hv0 v0 rfl;have t1:=hv1 v1 rfl;have sly:=smy _ _ hsl8 nslp;have lenS:(ofN Sl).length=Sl.length:=by unfold ofN;rw[Yaa,Yaa]
     have smz:Sm pl Hc Hy:=((Sm.of z05).trans smx8).trans smy;have done:Same H Hy:=Sm.after s0c smz hpl0;refine⟨_,rfl,sl,_,rfl,.inl (SqL.of sly),_,_,rfl,rfl,_,rfl,?_⟩;rw[lenS];refine ite2 (fun hc1=>?_) (fun hc1=>⟨_,rfl,iteF ?_⟩)
     ·refine⟨_,rfl,_,_,rfl,rfl,_,rfl,ite2 (fun hc2=>?_) (fun hc2=>?_)⟩
      ·have h1:0<Sl.length:=by have:=of_decide_eq_true hc1;(clear lenS hvl nl8p nlfp nl1p nlop ne0p o1 o0 hon ntlp nslp nup d1 d0 hm2 hm60 emany2 emany hNl hnt hn1 n24 hd nlvp hln hlj hne p7 p2 hp e1 hi em hu0 hlen;omega)
       have h2:Sl.length<many:=by have:=of_decide_eq_true hc2;(clear h1 lenS hvl nl8p nlfp nl1p nlop ne0p o1 o0 hon ntlp nslp nup d1 d0 hm2 hm60 emany2 emany hNl hnt hn1 n24 hd nlvp hln hlj hne p7 p2 hp e1 hi em hu0 hlen;omega)
       have hne:Sl≠[]:=fun z=>by rw[z] at h1;cases h1
       obtain⟨c,e1,rfl,i',hi',hiS,j',hj',hjS⟩:∃ c,cOf p n Sl=some c/\v0=.int (c:Nat)/\∃ i,i<(tnum p n).flatten.length/\i∈Sl/\∃ j,j<(tnum p n).flatten.length/\j ∉ Sl:=by
        rcases t0 with h | ⟨_,⟨h,_⟩ | ⟨_,h,_⟩⟩
        ·exact h
        ·exact absurd h hne
        ·(clear h1 lenS hvl nl8p nlfp nl1p nlop ne0p o1 o0 hon ntlp nslp nup d1 d0 hm2 hm60 emany2 hNl hnt hn1 n24 hd nlvp hln hlj p7 p2 hp e1 hi em hu0 hlen;omega)
       have e2:cOf p n Rl=some c:=by rw[ZjB (S:=Sl) (by rw[emany];exact hSR)];exact e1
       have ev1:v1=.int (c:Nat):=by
        rcases t1 with ⟨c',e3,h,_⟩ | ⟨e3,_⟩
        ·rw[e2] at e3;cases e3;exact h
        ·rw[e2] at e3;cases e3
       subst ev1;refine⟨_,rfl,ll,_,0,.int c,rfl,rfl,SqL.of hll,rfl,_,rfl,ll,_,1,.int c,rfl,rfl,SqL.of hll,rfl,rfl,_,rfl,?_⟩;rw[show (!decide (V.int (c:Nat)=V.int (c:Nat)))=false by rw[decide_eq_true rfl];rfl];exact iteF ⟨_,_,_,_,_,_,_,_,_,_,_,_,_,_,rfl,done⟩
      ·exact⟨_,_,_,_,_,_,_,_,_,_,_,_,_,_,rfl,done⟩
     ·exact⟨_,_,_,_,_,_,_,_,_,_,_,_,_,_,rfl,done⟩
  ·rintro σ H2 _;exact k H2
end
end Fi59
namespace Fi59
open PySem L2 Lv
section
variable {P:Program}{w:World}{K:Yad}{mg:Str->Option Value}{base:Heap}
theorem Zki:FnScope ["thing"] ["thing"] (Zac ZdD):=⟨rfl,rfl,rfl,by decide +kernel,rfl,by decide +kernel,by decide +kernel⟩
theorem Zjb {f:Addr}{fd:FuncData} (F:Fun K "is_whole" "is_whole" ZdD f fd) (T:Txt mg):FnOk P w K mg base CX0 1 f fd ["thing"] ZdY:=by
 refine F.ok Zki (fun vs H Q E h=>?_) (fun cdv A outer s H vs Q E hr h=>?_)
 ·obtain⟨i,rfl,_⟩:=h;rfl
 ·obtain⟨i,rfl,k⟩:=h;refine⟨_,Zax (Zay (ZlC (Zam Zbs rfl T.isinstance Zbd (Zaa (pv 0) (Zaa (Zi5 rfl T.int ZmM) Zad)))
   (ZlA (ZlB (Zam Zbs rfl T.isinstance Zbd (Zaa (pv 0) (Zaa (Zi5 rfl T.bool ZiD) Zad))))))),?_⟩
  refine⟨_,rfl,.int i,"int",_,true,rfl,.int i,ZfG,true,rfl,iteT ?_⟩;exact⟨_,rfl,.int i,"bool",_,false,rfl,.int i,ZeW,false,rfl,k⟩
theorem Zlo:FnScope ["p"] ["p"] (Zac ZgC):=⟨rfl,rfl,rfl,by decide +kernel,rfl,by decide +kernel,by decide +kernel⟩
theorem Zkz {f fW:Addr}{fd dW:FuncData}{t2 t7:Tok} (F:Fun K "check_ways" "check_ways" ZgC f fd) (T:Txt mg) (hL:mg "LEAST_WAYS"=some (.int 2 t2)) (hM:mg "MOST_WAYS"=some (.int 7 t7)) (CW:Cal P w K mg base 1 "is_whole" ["thing"] ZdY fW dW) :
  FnOk P w K mg base CX0 2 f fd ["p"] ZdB:=by
 refine F.ok Zlo (fun vs H Q E h=>?_) (fun cdv A outer s H vs Q E hr h=>?_)
 ·obtain⟨i,rfl,_⟩:=h;rfl
 ·obtain⟨i,rfl,h1,h2,k⟩:=h;refine⟨_,Zax (ZgJ (PW.pt (Zi0 (Zc3 (Zc2 (Zan CW hr rfl (Zaa (pv 0) Zad))))
   (Zf6 (Zc3 (Zd9 ZhH ZhH (ZfC rfl hL) (pv 0) (ZfC rfl hM)))))) ZaU Zcu),?_⟩
  refine⟨_,rfl,i,rfl,true,rfl,iteF ?_⟩;refine⟨_,rfl,2,i,rfl,rfl,_,rfl,?_⟩;rw[decide_eq_true h1];refine iteT ⟨i,7,rfl,rfl,_,rfl,?_⟩;rw[decide_eq_true h2];exact iteF k
theorem Zkk:FnScope ["n","last"] ["n","last"] (Zac ZdG):=⟨rfl,rfl,rfl,by decide +kernel,rfl,by decide +kernel,by decide +kernel⟩
theorem Zjj {f fW da:Addr}{fd dW:FuncData} (F:FunD K "check_level" "check_level" ZdG f da fd) (T:Txt mg) (CW:Cal P w K mg base 1 "is_whole" ["thing"] ZdY fW dW) :
  FnOk P w K mg base CX0 2 f fd ["n","last"] ZcO:=by
 refine F.ok Zkk (fun vs H Q E h=>?_) (fun cdv A outer s H vs Q E hr h=>?_)
 ·obtain⟨i,m,rfl,_⟩:=h;rfl
 ·obtain⟨i,m,rfl,h1,h2,k⟩:=h;refine⟨_,Zax (ZgJ (PW.pt (Zi0 (Zc3 (Zc2 (Zan CW hr rfl (Zaa (pv 0) Zad))))
   (Zf6 (Zc3 (Zd9 ZhH ZhH Zag (pv 0) (pv 1)))))) ZaU Zcu),?_⟩
  refine⟨_,rfl,i,rfl,true,rfl,iteF ?_⟩;refine⟨_,rfl,0,i,rfl,rfl,_,rfl,?_⟩;rw[decide_eq_true h1];refine iteT ⟨_,rfl,i,m,rfl,rfl,_,rfl,?_⟩;rw[decide_eq_true h2];exact iteF k
theorem Zkl:FnScope ["p"] ["p"] (Zac ZdH):=⟨rfl,rfl,rfl,by decide +kernel,rfl,by decide +kernel,by decide +kernel⟩
theorem Zjl {f:Addr}{fd:FuncData} (F:Fun K "first_counts" "first_counts" ZdH f fd) (T:Txt mg):FnOk P w K mg base CX0 1 f fd ["p"] Zc0:=by
 refine F.ok Zkl (fun vs H Q E h=>?_) (fun cdv A outer s H vs Q E hr h=>?_)
 ·obtain⟨p,rfl,_⟩:=h;rfl
 ·obtain⟨p,rfl,h1,h2,k⟩:=h;refine⟨_,Zax (Zay (Za8 Za1 rfl T.tuple Zey (Zaa (Zav Zci (ZaF (Zaa Zag Zad)) (Zav Zgc (ZaF (Zaa Zag Zad)) (Zav Zc6 (pv 0) Zag))) Zad))),?_⟩;refine⟨(by show 1<=sizeLine;decide),fun p1 e1=>⟨(by show 1<=sizeLine;decide),fun p2 e2=>⟨_,rfl,_,_,rfl,rfl,?_⟩⟩⟩;have z2:(upd (upd H p1 (.lst [.int 1])) p2 (.lst [.int 0])) p1=some (.lst [.int 1]):=by rw[upd_ne (Zaf Zab e2)];exact Zab
  refine⟨p2,(p:Int) - 1,_,rfl,rfl,Zab,by (clear h2 h1;omega),by (clear h1;omega),?_,fun p3 e3=>?_⟩
  ·exact Ybc (Zat (by show 1*((p:Int) - 1).toNat<=1000;(clear h1;omega)))
  have z3:=(Same.new (o:=.lst (Yak ((p:Int) - 1).toNat [V.int 0]).flatten) e3) p1 _ z2;have ez:(Yak ((p:Int) - 1).toNat [V.int 0]).flatten=Yak (p - 1) (V.int 0):=by
   rw[show ((p:Int) - 1).toNat=p - 1 by (clear h2 h1;omega)];exact YbR
  rw[ez] at z3 ⊢;refine⟨p1,p3,_,_,rfl,rfl,z3,Zab,?_,fun p4 e4=>?_⟩
  ·exact Ybc (Zat (by rw[YbD];show 1+(p - 1)<=1000;(clear h1;omega)))
  refine⟨p4,_,rfl,.inl ⟨SqL.of Zab,fun l hl=>?_⟩⟩;have s4:=(((Same.new (o:=.lst [.int 1]) e1).trans (Same.new (o:=.lst [.int 0]) e2)).trans (Same.new (o:=.lst (Yak (p - 1) (V.int 0))) e3)).trans (Same.new (o:=.lst ([.int 1]++Yak (p - 1) (V.int 0))) e4);refine k l _ (s4.free hl) ?_ (s4.trans (Same.new hl));rw[Zab];simp[Zdf]
theorem scNext:FnScope ["counts","first"] ["counts"] (Zac Zfy):=⟨rfl,rfl,rfl,by decide +kernel,rfl,by decide +kernel,by decide +kernel⟩
theorem ZkE {f:Addr}{fd:FuncData} (F:Fun K "next_counts" "next_counts" Zfy f fd) (T:Txt mg):FnOk P w K mg base CX0 1 f fd ["counts"] (ZeK K):=by
 refine F.ok scNext (fun vs H Q E h=>?_) (fun cdv A outer s H vs Q E hr h=>?_)
 ·obtain⟨a,c,rfl,_⟩:=h;rfl
 ·obtain⟨a,c,rfl,hA,h1,h2,k⟩:=h;refine⟨_,Zar (Zap (i:=1) scNext.nd rfl (YcV rfl) (ZaY ZeX (pv 0) Zag (fun _ _=>rfl)))
   (Zax (Zay (Za8 Za1 rfl T.tuple Zey (Zaa (Zav Zci
    (Zaw (own:=["count"]) (js:=[1]) (CompOk.by (sc:=Zac Zfy) (N:=["counts","first"]) rfl rfl (by decide +kernel)) rfl (Zly (Zbo Zln (pv 0) (ZaS Zag) Zb2)) Zai
     (fun _ _ _ _ _=>Zah (i:=0) (by show (["count","first"]:List Str).Nodup;decide +kernel) rfl (YaG rfl) (.inr rfl)) (fun _ _ _ _ _=>Zao) (fun _ _ _ _ _=>Zav ZaV (pv 1) (pv 0)))
    (ZaF (Zaa (pv 1) Zad))) Zad)))),?_⟩
  obtain⟨c0,cr,rfl⟩:∃ c0 cr,c=c0::cr:=by
   cases c with
   | nil=>simp at h1
   | cons x y=>exact⟨x,y,rfl⟩
  have hcr:cr.length<=6:=by simpa using h2
  refine⟨_,rfl,a,_,0,.int c0,rfl,rfl,hA,ZeA,?_⟩;refine⟨_,rfl,1,rfl,a,_,rfl,hA,?_,fun p1 e1=>⟨p1,rfl,⟨_,SqT.of Zab⟩,?_⟩⟩
  ·rintro⟨z,_⟩;have:HT.sIx ((c0::cr).map V.int).length 0 (some ((1:Nat):Int))=0:=z;rw[HT.sIx_nat] at this;simp at this
  have ecut:cutV ((c0::cr).map V.int) (some 1) none=cr.map V.int:=by
   unfold cutV;show (((c0::cr).map V.int).drop (HT.sIx ((c0::cr).map V.int).length 0 (some ((1:Nat):Int)))).take (HT.sIx ((c0::cr).map V.int).length ((c0::cr).map V.int).length none - HT.sIx ((c0::cr).map V.int).length 0 (some ((1:Nat):Int)))=_;rw[HT.sIx_nat];rw[show min 1 ((c0::cr).map V.int).length=1 by simp];show (cr.map V.int).take (((c0::cr).map V.int).length - 1)=_;rw[Ybu (by simp)]
  rw[ecut];refine Zjy (xs:=cr.map V.int) (fun acc i H2=>Same (upd H p1 (.tup (cr.map V.int))) H2/\H2 acc=some (.lst (((cr.take i).map (c0+·)).map V.int))) (fun acc h0=>⟨Same.new h0,Zab⟩) (fun acc i H2 h0 _ p=>p.1.tup (SqT.of Zab)) ?_ ?_
  ·rintro acc i x H2 h0 hx ⟨s2,hacc⟩;obtain⟨z,hz,rfl⟩:=Zbp hx;have hi:=(Yab.mp hz).1
   refine⟨_,rfl,_,rfl,_,_,rfl,rfl,_,hacc,?_,by rw[Yaa];exact hi,s2.put h0,?_⟩
   ·exact Zat (by simp;(clear hi h2 h1;omega))
   ·rw[Zab,Yba,hz];simp
  ·rintro acc H2 h0 ⟨s2,hacc⟩;rw[Yaa,YaR] at hacc;refine⟨_,rfl,(by show 1<=sizeLine;decide),fun p2 e2=>?_⟩;refine⟨acc,p2,_,_,rfl,rfl,(Same.new e2) acc _ hacc,Zab,?_,fun p3 e3=>⟨p3,_,rfl,.inl ⟨SqL.of Zab,fun l hl=>?_⟩⟩⟩
   ·exact Ybc (Zat (by simp;(clear h2 h1;omega)))
   have s3:=(((Same.new (o:=.tup (cr.map V.int)) e1).trans s2).trans (Same.new (o:=.lst [.int c0]) e2)).trans (Same.new (o:=.lst (((cr.map (c0+·)).map V.int)++[.int c0])) e3);refine k l _ (s3.free hl) ?_ (s3.trans (Same.new hl));rw[Zab];simp[Zbt]
theorem scCounts:FnScope ["p","n","counts","level"] ["p","n"] (Zac Zct):=⟨rfl,rfl,rfl,by decide +kernel,rfl,by decide +kernel,by decide +kernel⟩
theorem ZhP {f fA fB fC fD:Addr}{fd dA dB dC dD:FuncData} (F:Fun K "level_counts" "level_counts" Zct f fd) (T:Txt mg) (CA:Cal P w K mg base 2 "check_ways" ["p"] ZdB fA dA) (CB:CalD P w K mg base 2 "check_level" ["n","last"] [.int 300] ZcO fB dB) (CC:Cal P w K mg base 1 "first_counts" ["p"] Zc0 fC dC) (CD:Cal P w K mg base 1 "next_counts" ["counts"] (ZeK K) fD dD) :
  FnOk P w K mg base CX0 3 f fd ["p","n"] Zd2:=by
 refine F.ok scCounts (fun vs H Q E h=>?_) (fun cdv A outer s H vs Q E hr h=>?_)
 ·obtain⟨p,n,rfl,_⟩:=h;rfl
 ·obtain⟨p,n,rfl,h1,h2,h3,k⟩:=h;have hr1:Room 1 _:=hr.mono (by decide);refine⟨_,Zar (Za5 (Zan CA hr rfl (Zaa (pv 0) Zad))) (Zar (Za5 (ZhF CB hr rfl (Zaa (pv 1) Zad)))
   (Zar (Zap (i:=2) scCounts.nd rfl (YaG rfl) (Zan CC hr1 rfl (Zaa (pv 0) Zad)))
   (Zar (ZbS Ybw rfl (ZaL rfl T.range (Zaa (pv 1) Zad)) (Zah (i:=3) scCounts.nd rfl (YaG rfl))
    (Zax (Zap (i:=2) scCounts.nd rfl (YaG rfl) (Zan CD hr1 rfl (Zaa (pv 2) Zad)))))
   (Zax (Zay (pv 2)))))),?_⟩
  refine⟨_,rfl,p,rfl,by (clear h3 h2;omega),by (clear h3 h1;omega),?_⟩;refine⟨_,rfl,n,300,rfl,by (clear h3 h2 h1;omega),by (clear h2 h1;omega),?_⟩;refine⟨_,rfl,p,rfl,h1,h2,fun l H1 hl0 hl1 s1=>?_⟩;refine⟨_,rfl,n,rfl,by (clear h3 h2 h1;omega),by (clear h2 h1;omega),ZbC (fun i σ H2=>∃ (l:Addr) (o:Option V),σ=[some (.int p),some (.int n),some (.ref l),o]/\H l=none/\H2 l=some (.tup ((cnt p i).map V.int))/\Same H H2)
   ⟨l,none,rfl,hl0,hl1,s1⟩ ?_ ?_⟩
  ·rintro i σ H2 hi ⟨l,o,rfl,hl0,hl2,s2⟩;have hlen:=Zbc (p:=p) (by (clear hi h3 h2;omega)) i;refine⟨_,rfl,l,cnt p i,rfl,SqT.of hl2,by (clear hi h3 h2;omega),by (clear hi h3 h1;omega),fun l3 H3 h30 h3 s3=>?_⟩;exact⟨l3,_,rfl,s2.free h30,h3,s2.trans s3⟩
  ·rintro σ H2 ⟨l,o,rfl,hl0,hl2,s2⟩;refine⟨_,rfl,k l H2 hl0 ?_ s2⟩;simpa using hl2
theorem Zkj:FnScope ["p","n"] ["p","n"] (Zac ZdE):=⟨rfl,rfl,rfl,by decide +kernel,rfl,by decide +kernel,by decide +kernel⟩
theorem Zjc {f fA:Addr}{fd dA:FuncData} (F:Fun K "level_total" "level_total" ZdE f fd) (T:Txt mg) (CA:Cal P w K mg base 3 "level_counts" ["p","n"] Zd2 fA dA):FnOk P w K mg base CX0 4 f fd ["p","n"] Zfo:=by
 refine F.ok Zkj (fun vs H Q E h=>?_) (fun cdv A outer s H vs Q E hr h=>?_)
 ·obtain⟨p,n,rfl,_⟩:=h;rfl
 ·obtain⟨p,n,rfl,h1,h2,h3,k⟩:=h;refine⟨_,Zax (Zay (Zam (Zdm rfl) rfl T.sum ZgX (Zaa (Zan CA hr rfl (Zaa (pv 0) (Zaa (pv 1) Zad))) Zad))),?_⟩;exact⟨_,rfl,_,rfl,p,n,rfl,h1,h2,h3,fun l H1 hl0 hl1 s1=>⟨l,_,rfl,SqT.of hl1,k H1 s1⟩⟩
theorem Zmm:FnScope ["total"] ["total"] (Zac sTot):=⟨rfl,rfl,rfl,by decide +kernel,rfl,by decide +kernel,by decide +kernel⟩
theorem ZlJ {f:Addr}{fd:FuncData}{tM:Tok} (F:Fun K "check_total" "check_total" sTot f fd) (T:Txt mg) (hM:mg "MOST_PLACES"=some (.int 4000 tM)):FnOk P w K mg base CX0 1 f fd ["total"] Zkf:=by
 refine F.ok Zmm (fun vs H Q E h=>?_) (fun cdv A outer s H vs Q E hr h=>?_)
 ·obtain⟨i,rfl,_⟩:=h;rfl
 ·obtain⟨i,rfl,h4,k⟩:=h;refine⟨_,Zax (ZgJ (ZaK ZlH (pv 0) (ZfC rfl hM) (Za9 _)) ZaU Zcu),?_⟩;refine⟨_,rfl,_,_,rfl,rfl,_,rfl,?_⟩;rw[decide_eq_false (by omega)];exact iteF k
theorem ZiW:FnScope ["p","n"] ["p","n"] (Zac Zcq):=⟨rfl,rfl,rfl,by decide +kernel,rfl,by decide +kernel,by decide +kernel⟩
theorem ZhL {f fA fB:Addr}{fd dA dB:FuncData} (F:Fun K "check_places" "check_places" Zcq f fd) (T:Txt mg) (CA:Cal P w K mg base 4 "level_total" ["p","n"] Zfo fA dA) (CB:Cal P w K mg base 1 "check_total" ["total"] Zkf fB dB):FnOk P w K mg base CX0 5 f fd ["p","n"] Zd1:=by
 refine F.ok ZiW (fun vs H Q E h=>?_) (fun cdv A outer s H vs Q E hr h=>?_)
 ·obtain⟨p,n,rfl,_⟩:=h;rfl
 ·obtain⟨p,n,rfl,h1,h2,h3,h4,k⟩:=h;have hr1:Room 1 _:=hr.mono (by decide);refine⟨_,Zax (Za5 (Zan CB hr1 rfl (Zaa (Zan CA hr rfl (Zaa (pv 0) (Zaa (pv 1) Zad))) Zad))),?_⟩;exact⟨_,rfl,_,rfl,p,n,rfl,h1,h2,h3,fun H1 s1=>⟨_,rfl,h4,k H1 s1⟩⟩
end
end Fi59
namespace Fi59
open PySem L2 Lv
section
variable {P:Program}{w:World}{K:Yad}{mg:Str->Option Value}{base:Heap}
theorem scNextT:FnScope ["numbers","first"] ["numbers"] (Zac ZcD):=⟨rfl,rfl,rfl,by decide +kernel,rfl,by decide +kernel,by decide +kernel⟩
theorem Zjh {f:Addr}{fd:FuncData} (F:Fun K "next_turned" "next_turned" ZcD f fd) (T:Txt mg):FnOk P w K mg base CX0 1 f fd ["numbers"] Zfr:=by
 refine F.ok scNextT (fun vs H Q E h=>?_) (fun cdv A outer s H vs Q E hr h=>?_)
 ·obtain⟨a,rs,N,rfl,_⟩:=h;rfl
 ·obtain⟨a,rs,N,rfl,hA,hq,n2,n7,hz,k⟩:=h;refine⟨_,Zar (Zap (i:=1) scNextT.nd rfl (YcV rfl) (Zaw (own:=["number"]) (js:=[]) (CompOk.by (sc:=Zac ZcD) (N:=["numbers","first"]) rfl rfl (by decide +kernel)) rfl (Za7 (ZeQ (ZaY ZaM (pv 0) Zag (fun _ _=>rfl)) (ZaS (ZfB ZcX Zag)))) Zai
    (fun _ _ _ _ _=>Zah (i:=0) (by show (["number"]:List Str).Nodup;decide +kernel) rfl (YaG rfl) (.inr rfl)) (fun _ _ _ _ _=>Zao) (fun _ _ _ _ _=>Zav ZaV (pv 0) Zag)))
   (Zax (Zay (Zaw (own:=["on_reel"]) (js:=[1]) (CompOk.by (sc:=Zac ZcD) (N:=["numbers","first"]) rfl rfl (by decide +kernel)) rfl (Za7 (Zav Zci (Zbo Zfu (pv 0) (ZaS Zag) Zb2) (ZaF (Zaa (ZaF Zad) Zad)))) Zai
    (fun _ _ _ _ _=>Zah (i:=0) (by show (["on_reel","first"]:List Str).Nodup;decide +kernel) rfl (YaG rfl) (.inr rfl)) (fun _ _ _ _ _=>Zao) (fun _ _ _ _ _=>Zav Zci (pv 0) (pv 1))))),?_⟩
  obtain⟨x0,xr,rfl⟩:∃ x0 xr,N=x0::xr:=by
   cases N with
   | nil=>simp at n2
   | cons x y=>exact⟨x,y,rfl⟩
  obtain⟨r0,rr,rfl⟩:∃ r0 rr,rs=r0::rr:=by
   cases rs with
   | nil=>have:=hq.1;simp at this
   | cons x y=>exact⟨x,y,rfl⟩
  have hr0:H r0=some (.lst (x0.map V.int)):=hq.2 0 r0 x0 rfl rfl;have hrl:rr.length=xr.length:=by have:=hq.1;simpa using this
  have hxr:xr.length<=6:=by simp at n7;(clear hrl n2;omega)
  have hx0:x0.length<=4000:=hz x0 (by simp);have hxz:∀ xs∈xr++[[]],xs.length<=4000:=fun xs hx=>by
   rcases Yar.mp hx with hx | hx
   ·exact hz xs (by simp[hx])
   ·have:xs=[]:=by simpa using hx
    subst this;simp
  refine⟨_,rfl,a,_,0,.ref r0,rfl,rfl,SqL.of hA,Zb9 (j:=0) rfl,1,rfl,-1,rfl,rfl,r0,_,rfl,SqL.of hr0,fun lv ev=>?_⟩;have sv:Same H (upd H lv (.lst (x0.map V.int).reverse)):=Same.new ev;have hlv:(upd H lv (.lst (x0.map V.int).reverse)) lv=some (.lst (x0.reverse.map V.int)):=by rw[Zab,Yb0]
  generalize (upd H lv (.lst (x0.map V.int).reverse))=H1 at sv hlv ⊢;refine⟨lv,rfl,⟨_,SqL.of hlv⟩,?_⟩;refine Zbj (xs:=x0.reverse.map V.int) (fun acc j H3=>Same H1 H3/\H3 acc=some (.lst (((x0.reverse.take j).map (·+1)).map V.int))) (fun acc h0=>⟨Same.new h0,Zab⟩) (fun acc j H3 h0 _ p=>p.1.seq (SqL.of hlv)) ?_ ?_
  ·rintro acc j x H3 h0 hx ⟨s3,hacc⟩;obtain⟨z,hz',rfl⟩:=Zbp hx;have hj:=(Yab.mp hz').1
   refine⟨_,rfl,z,1,rfl,rfl,_,hacc,?_,by rw[Yaa];exact hj,s3.put h0,?_⟩
   ·exact Zby (by simp;(clear hj hxr hrl n7 n2;omega))
   ·rw[Zab,Yba,hz',YcL,YaP,YaP];rfl
  rintro ml H3 hml ⟨s3,hm3⟩;rw[Yaa,YaR] at hm3;have s03:=sv.trans s3;refine⟨_,rfl,1,rfl,a,_,rfl,SqL.of (s03 a _ hA),fun p1 e1=>?_⟩;rw[Yav,Zl7];have s4:=s03.trans (Same.new (o:=.lst (rr.map V.ref)) e1);have hm4:=(Same.new (o:=.lst (rr.map V.ref)) e1) ml _ hm3;have hp14:(upd H3 p1 (.lst (rr.map V.ref))) p1=some (.lst (rr.map V.ref)):=Zab;generalize (upd H3 p1 (.lst (rr.map V.ref)))=H4 at s4 hm4 hp14 ⊢;refine⟨YaX _,fun p2 e2=>⟨(by show 1<=sizeLine;decide),fun p3 e3=>?_⟩⟩;have s56:=(Same.new (o:=.lst []) e2).trans (Same.new (o:=.lst [.ref p2]) e3);have hp2:(upd (upd H4 p2 (.lst [])) p3 (.lst [.ref p2])) p2=some (.lst []):=(Same.new e3) p2 _ Zab;have hp3:(upd (upd H4 p2 (.lst [])) p3 (.lst [.ref p2])) p3=some (.lst [.ref p2]):=Zab;generalize (upd (upd H4 p2 (.lst [])) p3 (.lst [.ref p2]))=H6 at s56 hp2 hp3 ⊢;refine⟨p1,p3,_,_,rfl,rfl,s56 p1 _ hp14,hp3,?_,fun p7 e7=>?_⟩
  ·exact Ybc (Zat (by simp;(clear hx0 n7 n2;omega)))
  have s7:=(s4.trans s56).trans (Same.new (o:=.lst (rr.map V.ref++[.ref p2])) e7);have hm7:=(Same.new (o:=.lst (rr.map V.ref++[.ref p2])) e7) ml _ (s56 ml _ hm4);have hp27:=(Same.new (o:=.lst (rr.map V.ref++[.ref p2])) e7) p2 _ hp2;have hp77:(upd H6 p7 (.lst (rr.map V.ref++[.ref p2]))) p7=some (.lst ((rr++[p2]).map V.ref)):=by rw[Zab];simp
  generalize (upd H6 p7 (.lst (rr.map V.ref++[.ref p2])))=H7 at s7 hm7 hp27 hp77 ⊢;have hr:LLs H7 (rr++[p2]) (xr++[[]]):=by
   refine L2.LLs.snoc ⟨hrl,fun j r xs a b=>s7 r _ (hq.2 (j+1) r xs a b)⟩ ?_;rw[hp27];rfl
  generalize rr++[p2]=ra at hr hp77 ⊢;have exa:(xr++[[]]).length<=7:=by simp;(clear hx0 hrl n7 n2;omega)
  have enx:ZeS (x0::xr)=(xr++[[]]).map (·++tfst (x0::xr)):=rfl;rw[show (x0.reverse.map (·+1))=tfst (x0::xr) from rfl] at hm7;have htl:(tfst (x0::xr)).length=x0.length:=ZiN _;generalize xr++[[]]=xa at hr hxz exa enx;have hral:=hr.1;refine⟨p7,rfl,⟨_,SqL.of hp77⟩,?_⟩;refine Zbj (xs:=ra.map V.ref) (fun acc j H5=>Same H7 H5/\∃ us:List Addr,H5 acc=some (.lst (us.map V.ref))/\acc ∉ us/\us.Nodup/\(∀ q∈us,H q=none)/\LLs H5 us ((xa.take j).map (·++tfst (x0::xr)))) (fun acc h0=>⟨Same.new h0,[],Zab,by simp,YdM,by simp,rfl,fun j r xs a b=>by simp at a⟩) (fun acc j H5 h0 _ p=>p.1.seq (SqL.of hp77)) ?_ ?_
  ·rintro acc j x H5 h0 hx ⟨s5,us,hacc,hnin,hnd,hfr,hu⟩;obtain⟨r,hr',rfl⟩:=Zaq hx;have hj:=(Yab.mp hr').1
   have hjx:j<xa.length:=by (clear hnin exa htl hx0 hxr hrl n7 n2;omega)
   have hrx:H5 r=some (.lst (xa[j].map V.int)):=s5 r _ (hr.2 j r _ hr' (Yae hjx));have hm5:=s5 ml _ hm7;have hxi:xa[j].length<=4000:=hxz _ (Ycl hjx);have hus:us.length<=7:=by have:=hu.1;simp at this;(clear hxi hj hnin hral htl hx0 hxr hrl n7 n2;omega)
   have e2:(xa.take (j+1)).map (·++tfst (x0::xr))=(xa.take j).map (·++tfst (x0::xr))++[xa[j]++tfst (x0::xr)]:=by
    rw[Yct hjx,YaP];rfl
   rw[e2];refine⟨_,rfl,_,rfl,r,ml,_,_,rfl,rfl,hrx,hm5,?_,fun pn en=>?_⟩
   ·exact Ybc (Zby (by simp;(clear hus hj hnin hral exa hxr hrl n7 n2;omega)))
   have hpa:acc≠pn:=Zaf hacc en;have hacc6:=(Same.new (o:=.lst (xa[j].map V.int++(tfst (x0::xr)).map V.int)) en) acc _ hacc;have hpnus:pn ∉ us:=Lv.LLs.none hu en;refine⟨_,hacc6,Zby (by simp;(clear hpnus hpa hxi hj hnin hral exa htl hx0 hxr hrl n7 n2;omega)),by rw[Yaa];exact hj,(s5.trans (Same.new en)).put h0,us++[pn],by rw[Zab];simp,by simp[hnin,hpa],Zcw hnd hpnus,?_,?_⟩
   ·intro q hq';rcases Yar.mp hq' with h | h
    ·exact hfr q h
    ·have:q=pn:=by simpa using h
     subst this;exact (s7.trans s5).free en
   ·refine ((hu.same (Same.new en)).lst hnin).snoc ?_;rw[upd_ne (YbA hpa),Zab];simp
  ·rintro acc H5 h0 ⟨s5,us,hacc,hnin,hnd,hfr,hu⟩;rw[Yaa,hral,YaR,<- enx] at hu;exact k acc us H5 (s7.free h0) hacc hu hnd (fun q hq'=>⟨hfr q hq',fun z=>hnin (z ▸ hq')⟩) (s7.trans s5)
theorem scTNum:FnScope ["p","n","numbers","level"] ["p","n"] (Zac Zfx):=⟨rfl,rfl,rfl,by decide +kernel,rfl,by decide +kernel,by decide +kernel⟩
theorem ZkB {f fA fB:Addr}{fd dA dB:FuncData} (F:Fun K "turned_numbers" "turned_numbers" Zfx f fd) (T:Txt mg) (CA:Cal P w K mg base 5 "check_places" ["p","n"] Zd1 fA dA) (CB:Cal P w K mg base 1 "next_turned" ["numbers"] Zfr fB dB):FnOk P w K mg base CX0 6 f fd ["p","n"] Zhi:=by
 refine F.ok scTNum (fun vs H Q E h=>?_) (fun cdv A outer s H vs Q E hr h=>?_)
 ·obtain⟨p,n,rfl,_⟩:=h;rfl
 ·obtain⟨p,n,rfl,h1,h2,h3,h4,k⟩:=h;have hr1:Room 1 _:=hr.mono (by decide);refine⟨_,Zar (Za5 (Zan CA hr rfl (Zaa (pv 0) (Zaa (pv 1) Zad))))
   (Zar (Zap (i:=2) scTNum.nd rfl (YaG rfl) (Zav Zci (ZaF (Zaa (ZaF (Zaa Zag Zad)) Zad)) (Zaw (own:=["reel"]) (js:=[]) (CompOk.by (sc:=Zac Zfx) (N:=["p","n","numbers","level"]) rfl rfl (by decide +kernel)) rfl (ZaL rfl T.range (Zaa (Zav Zc6 (pv 0) Zag) Zad)) Zai
    (fun _ _ _ _ _=>Zah (i:=0) (by show (["reel"]:List Str).Nodup;decide +kernel) rfl (YaG rfl) (.inr rfl)) (fun _ _ _ _ _=>Zao) (fun _ _ _ _ _=>ZaF Zad))))
   (Zar (ZbS Ybw rfl (ZaL rfl T.range (Zaa (pv 1) Zad)) (Zah (i:=3) scTNum.nd rfl (YaG rfl))
    (Zax (Zap (i:=2) scTNum.nd rfl (YaG rfl) (Zan CB hr1 rfl (Zaa (pv 2) Zad)))))
   (Zax (Zay (pv 2))))),?_⟩
  refine⟨_,rfl,_,rfl,p,n,rfl,h1,h2,h3,h4,fun H0 s0=>?_⟩;refine⟨(by show 1<=sizeLine;decide),fun q0 e0=>⟨(by show 1<=sizeLine;decide),fun p1 e1=>⟨_,rfl,_,_,rfl,rfl,(p:Int) - 1,rfl,by (clear h4 h3 h2 h1;omega),by (clear h4 h3 h1;omega),?_⟩⟩⟩;have t1:Same H (upd (upd H0 q0 (.lst [.int 0])) p1 (.lst [.ref q0])):=s0.trans ((Same.new e0).trans (Same.new e1));have a0:(upd (upd H0 q0 (.lst [.int 0])) p1 (.lst [.ref q0])) q0=some (.lst [.int 0]):=(Same.new e1) q0 _ Zab;have a1:(upd (upd H0 q0 (.lst [.int 0])) p1 (.lst [.ref q0])) p1=some (.lst [.ref q0]):=Zab;have hq00:H q0=none:=s0.free e0;generalize (upd (upd H0 q0 (.lst [.int 0])) p1 (.lst [.ref q0]))=H1 at t1 a0 a1 ⊢;rw[show ((p:Int) - 1).toNat=p - 1 by (clear h4 h3 h2 h1;omega)];refine ZaT (fun acc j H2=>Same H1 H2/\∃ us:List Addr,H2 acc=some (.lst (us.map V.ref))/\acc ∉ us/\us.Nodup/\(∀ q∈us,H1 q=none)/\LLs H2 us (Yak j [])) (fun acc h0=>⟨Same.new h0,[],Zab,by simp,YdM,by simp,rfl,fun j r xs a b=>by simp at a⟩) ?_ ?_
  ·rintro acc j H2 h0 hj ⟨s2,us,hacc,hnin,hnd,hfr,hu⟩;have hus:us.length<=6:=by have:=hu.1;rw[YbD] at this;(clear hnin h4 h3 h1;omega)
   refine⟨YaX _,fun pn en=>?_⟩;have hpa:acc≠pn:=Zaf hacc en;have hacc6:=(Same.new (o:=.lst []) en) acc _ hacc;refine⟨_,hacc6,Zat (by rw[Yaa];(clear hpa hnin hj h4 h3 h2 h1;omega)),hj,(s2.trans (Same.new en)).put h0,us++[pn],by rw[Zab];simp,by simp[hnin,hpa],Zcw hnd (Lv.LLs.none hu en),?_,?_⟩
   ·intro q hq';rcases Yar.mp hq' with h | h
    ·exact hfr q h
    ·have:q=pn:=by simpa using h
     subst this;exact s2.free en
   rw[List.replicate_succ'];refine ((hu.same (Same.new en)).lst hnin).snoc ?_;rw[upd_ne (YbA hpa),Zab];rfl
  rintro acc H2 h0 ⟨s2,us,hacc,hnin,hnd,hfr,hu⟩;have hus:us.length=p - 1:=by have:=hu.1;rwa [YbD] at this
  refine⟨p1,acc,_,_,rfl,rfl,s2 p1 _ a1,hacc,?_,fun l e4=>?_⟩
  ·exact Ybc (Zat (by rw[Yaa,hus];show 1+(p - 1)<=1000;(clear hus hnin h4 h3 h1;omega)))
  have s5:=s2.trans (Same.new (o:=.lst ([.ref q0]++us.map V.ref)) e4);have hl0:H l=none:=(t1.trans s2).free e4;have hq0us:q0 ∉ us:=fun z=>by have:=hfr q0 z;rw[a0] at this;cases this
  refine⟨_,rfl,n,rfl,by (clear hq0us hus hnin h4 h3 h2 h1;omega),by (clear hq0us hus hnin h4 h2 h1;omega),ZbC (fun i σ H2=>∃ (l:Addr) (qs:List Addr) (o:Option V),σ=[some (.int p),some (.int n),some (.ref l),o]/\H l=none/\H2 l=some (.lst (qs.map V.ref))/\LLs H2 qs (tnum p i)/\qs.Nodup/\(∀ q∈qs,H q=none/\q≠l)/\Same H H2)
   ⟨l,q0::us,none,rfl,hl0,by rw[Zab];simp,⟨by simp[tnum,num0,hus],fun j r xs ha hb=>?_⟩,YcH.mpr ⟨hq0us,hnd⟩,fun q hq'=>?_,t1.trans s5⟩ ?_ ?_⟩
  ·cases j with
   | zero=>
    have:r=q0:=by simpa using ha.symm
    have:xs=[0]:=by simpa[tnum,num0] using hb.symm
    subst r xs;exact s5 q0 _ a0
   | succ j=>
    exact (Same.new e4) _ _ (hu.2 j r xs (by simpa using ha) (by simpa[tnum,num0] using hb))
  ·rcases Yal.mp hq' with rfl | h
   ·exact⟨hq00,Zaf (s2 _ _ a0) e4⟩
   ·obtain⟨xs,ex⟩:=LLs.get hu h;exact⟨t1.free (hfr q h),Zaf ex e4⟩
  ·rintro i σ H2 hi ⟨l,qs,o,rfl,hl0,hl2,hq,hnd2,hfr2,s2⟩;have htot:=ZbK (p:=p) h1 (show i<=n by (clear hq0us hus hnin h4 h3 h2 h1;omega));have hlen:=Za0 (p:=p) (by (clear htot hi hq0us hus hnin h4 h3 h2;omega)) i;refine⟨_,rfl,l,qs,tnum p i,rfl,hl2,hq,by (clear htot hi hq0us hus hnin h4 h3 h2;omega),by (clear htot hi hq0us hus hnin h4 h3 h1;omega),fun xs hx=>by have:=Zfk (p:=p) (by (clear hlen htot hi hq0us hus hnin h4 h3 h2;omega)) hx;(clear hlen hi hq0us hus hnin h3 h2 h1;omega),fun l3 qs3 H3 e3 hl3 hq3 hnd3 hfr3 s3=>?_⟩;exact⟨l3,qs3,_,rfl,s2.free e3,hl3,hq3,hnd3,fun q hq'=>⟨s2.free (hfr3 q hq').1,(hfr3 q hq').2⟩,s2.trans s3⟩
  ·rintro σ H2 ⟨l,qs,o,rfl,hl0,hl2,hq,hnd2,hfr2,s2⟩;refine⟨_,rfl,k l qs H2 hl0 hl2 ?_ hnd2 hfr2 s2⟩;simpa using hq
theorem Zi4 (K:Yad) {X:Cx}{tg l:Expr}{tl:TE} (hl:PE X l tl) (hK:X.K=K:=by rfl):PI X tg l (ZlZ K tl):=by subst hK;exact Za7 hl
theorem Zlr:FnScope ["p","n"] ["p","n"] (Zac ZgD):=⟨rfl,rfl,rfl,by decide +kernel,rfl,by decide +kernel,by decide +kernel⟩
theorem ZkA {f fA:Addr}{fd dA:FuncData} (F:Fun K "turned_ups" "turned_ups" ZgD f fd) (T:Txt mg) (CA:Cal P w K mg base 6 "turned_numbers" ["p","n"] Zhi fA dA):FnOk P w K mg base CX0 7 f fd ["p","n"] Zhh:=by
 refine F.ok Zlr (fun vs H Q E h=>?_) (fun cdv A outer s H vs Q E hr h=>?_)
 ·obtain⟨p,n,rfl,_⟩:=h;rfl
 ·obtain⟨p,n,rfl,h1,h2,h3,h4,k⟩:=h;refine⟨_,Zax (Zay (Zaw (own:=["on_reel"]) (js:=[]) (CompOk.bare (by decide +kernel)) rfl (Za7 (Zan CA hr rfl (Zaa (pv 0) (Zaa (pv 1) Zad)))) Zai
   (fun _ _ _ _ _=>Zah (i:=0) (by show (["on_reel"]:List Str).Nodup;decide +kernel) rfl (YaG rfl) (.inr rfl)) (fun _ _ _ _ _=>Zao)
   (fun _ _ _ _ _=>Zaw (own:=["number"]) (js:=[]) (CompOk.bare (by decide +kernel)) rfl (Zi4 K (pv 0)) Zai
    (fun _ _ _ _ _=>Zah (i:=0) (by show (["number"]:List Str).Nodup;decide +kernel) rfl (YaG rfl) (.inr rfl)) (fun _ _ _ _ _=>Zao) (fun _ _ _ _ _=>Zed ZlI (Zav ZbT (pv 0) Zag) Zag (Za9 _))))),?_⟩
  refine⟨_,rfl,_,rfl,p,n,rfl,h1,h2,h3,h4,fun l qs H1 e1 hl hq hnd hfr s1=>⟨l,rfl,⟨_,SqL.of hl⟩,?_⟩⟩;have hlen:=Za0 (p:=p) (by (clear h4 h3 h2;omega)) n;have hz:∀ xs∈tnum p n,xs.length<=4000:=fun xs hx=>by have:=Zfk (p:=p) (by (clear hlen h4 h3 h2;omega)) hx;(clear hlen h3 h2 h1;omega)
  generalize tnum p n=N at hq hlen hz k ⊢;have hql:=hq.1;refine Zbj (xs:=qs.map V.ref) (fun acc j H5=>Same H1 H5/\∃ us:List Addr,H5 acc=some (.lst (us.map V.ref))/\acc ∉ us/\us.Nodup/\(∀ q∈us,H q=none)/\LBs H5 us (upsT (N.take j))) (fun acc h0=>⟨Same.new h0,[],Zab,by simp,YdM,by simp,rfl,fun j r xs a b=>by simp at a⟩) (fun acc j H5 h0 _ p=>p.1.seq (SqL.of hl)) ?_ ?_
  ·rintro acc j x H5 h0 hx ⟨s5,us,hacc,hnin,hnd2,hfr2,hu⟩;obtain⟨r,hr',rfl⟩:=Zaq hx;have hj:=(Yab.mp hr').1
   have hjx:j<N.length:=by (clear hnin hlen h4 h3 h2 h1;omega)
   have hrx:H5 r=some (.lst (N[j].map V.int)):=s5 r _ (hq.2 j r _ hr' (Yae hjx));have hxi:N[j].length<=4000:=hz _ (Ycl hjx);have hus:us.length<=7:=by have:=hu.1;simp[upsT] at this;(clear hxi hj hnin hql h4 h3 h1;omega)
   refine⟨_,rfl,r,rfl,⟨_,SqL.of hrx⟩,?_⟩;refine Zbj (xs:=N[j].map V.int) (fun ac2 i H6=>Same H5 H6/\H6 ac2=some (.lst (((N[j].take i).map evB).map V.bl))) (fun ac2 h0=>⟨Same.new h0,Zab⟩) (fun ac2 i H6 h0 _ p=>p.1.seq (SqL.of hrx)) ?_ ?_
   ·rintro ac2 i x H6 h02 hx2 ⟨s6,hac2⟩;obtain⟨z,hz',rfl⟩:=Zbp hx2;have hi:=(Yab.mp hz').1
    refine⟨_,rfl,z,2,rfl,rfl,(by show (0:Int)<2;decide),rfl,_,hac2,Zby (by simp;(clear hi hus hj hnin hql hlen h4 h3 h2 h1;omega)),by rw[Yaa];exact hi,s6.put h02,?_⟩;rw[Zab,Yba,hz',YcL,YaP,YaP];simp[evB]
   ·rintro pn H6 en ⟨s6,hpn⟩;rw[Yaa,YaR] at hpn;have hpa:acc≠pn:=Zaf hacc en;have hacc6:=s6 acc _ hacc;have e2:upsT (N.take (j+1))=upsT (N.take j)++[N[j].map evB]:=by
     unfold upsT;rw[Yct hjx,YaP];rfl
    rw[e2];refine⟨_,hacc6,Zby (by simp;(clear hpa hxi hj hnin hql hlen h4 h3 h2 h1;omega)),by rw[Yaa];exact hj,(s5.trans s6).put h0,us++[pn],by rw[Zab];simp,by simp[hnin,hpa],Zcw hnd2 (Lv.LBs.none hu en),?_,?_⟩
    ·intro q hq';rcases Yar.mp hq' with h | h
     ·exact hfr2 q h
     ·have:q=pn:=by simpa using h
      subst this;exact (s1.trans s5).free en
    ·refine ((hu.same s6).lst hnin).snoc ?_;rw[upd_ne (YbA hpa)];exact hpn
  ·rintro acc H5 h0 ⟨s5,us,hacc,hnin,hnd2,hfr2,hu⟩;rw[Yaa,hql,YaR] at hu;exact k acc us H5 (s1.free h0) hacc hu hnd2 (fun q hq'=>⟨hfr2 q hq',fun z=>hnin (z ▸ hq')⟩) (s1.trans s5)
theorem scLCounts:FnScope ["p","n","counts","turn"] ["p","n"] (Zac Zbm):=⟨rfl,rfl,rfl,by decide +kernel,rfl,by decide +kernel,by decide +kernel⟩
theorem ZgM {f:Addr}{fd:FuncData} (F:Fun K "_law_counts" "_law_counts" Zbm f fd) (T:Txt mg):FnOk P w K mg base CX0 1 f fd ["p","n"] ZcZ:=by
 refine F.ok scLCounts (fun vs H Q E h=>?_) (fun cdv A outer s H vs Q E hr h=>?_)
 ·obtain⟨p,n,rfl,_⟩:=h;rfl
 ·obtain⟨p,n,rfl,h1,h2,h3,k⟩:=h;refine⟨_,Zar (Zap (i:=2) scLCounts.nd rfl (YcV rfl) (Zav Zci (ZaF (Zaa Zag Zad)) (Zav Zgc (ZaF (Zaa Zag Zad)) (Zav Zc6 (pv 0) Zag))))
   (Zar (ZbS Ybw rfl (ZaL rfl T.range (Zaa (pv 1) Zad)) (Zah (i:=3) scLCounts.nd rfl (YaG rfl))
    (Zax (Zap (i:=2) scLCounts.nd rfl (YcV rfl) (Zav Zci
     (Zaw (own:=["more"]) (js:=[2]) (CompOk.by (sc:=Zac Zbm) (N:=["p","n","counts","turn"]) rfl rfl (by decide +kernel)) rfl (Za7 (Zbo Zfu (pv 2) (ZaS Zag) Zb2)) Zai
      (fun _ _ _ _ _=>Zah (i:=0) (by show (["more","counts"]:List Str).Nodup;decide +kernel) rfl (YaG rfl) (.inr rfl)) (fun _ _ _ _ _=>Zao) (fun _ _ _ _ _=>Zav ZaV (ZaY (Zgg K) (pv 1) Zag (fun _ _=>rfl)) (pv 0)))
     (ZaF (Zaa (ZaY ZaM (pv 2) Zag (fun _ _=>rfl)) Zad))))))
   (Zax (Zay (pv 2)))),?_⟩
  refine⟨(by show 1<=sizeLine;decide),fun p1 e1=>⟨(by show 1<=sizeLine;decide),fun p2 e2=>⟨_,rfl,_,_,rfl,rfl,?_⟩⟩⟩;have z2:(upd (upd H p1 (.lst [.int 1])) p2 (.lst [.int 0])) p1=some (.lst [.int 1]):=by rw[upd_ne (Zaf Zab e2)];exact Zab
  refine⟨p2,(p:Int) - 1,_,rfl,rfl,Zab,by (clear h3 h2 h1;omega),by (clear h3 h1;omega),?_,fun p3 e3=>?_⟩
  ·exact Ybc (Zat (by show 1*((p:Int) - 1).toNat<=1000;(clear h3 h1;omega)))
  have z3:=(Same.new (o:=.lst (Yak ((p:Int) - 1).toNat [V.int 0]).flatten) e3) p1 _ z2;have ez:(Yak ((p:Int) - 1).toNat [V.int 0]).flatten=Yak (p - 1) (V.int 0):=by
   rw[show ((p:Int) - 1).toNat=p - 1 by (clear h3 h2 h1;omega)];exact YbR
  rw[ez] at z3 ⊢;refine⟨p1,p3,_,_,rfl,rfl,z3,Zab,?_,fun p4 e4=>?_⟩
  ·exact Ybc (Zat (by rw[YbD];show 1+(p - 1)<=1000;(clear h3 h1;omega)))
  have s4:=(((Same.new (o:=.lst [.int 1]) e1).trans (Same.new (o:=.lst [.int 0]) e2)).trans (Same.new (o:=.lst (Yak (p - 1) (V.int 0))) e3)).trans (Same.new (o:=.lst ([.int 1]++Yak (p - 1) (V.int 0))) e4);have n4:H p4=none:=(((Same.new (o:=.lst [.int 1]) e1).trans (Same.new (o:=.lst [.int 0]) e2)).trans (Same.new (o:=.lst (Yak (p - 1) (V.int 0))) e3)).free e4;refine⟨_,rfl,n,rfl,by (clear h3 h2 h1;omega),by (clear h2 h1;omega),ZbC (fun i σ H2=>∃ (l:Addr) (o:Option V),σ=[some (.int p),some (.int n),some (.ref l),o]/\H l=none/\H2 l=some (.lst ((cnt p i).map V.int))/\Same H H2)
   ⟨p4,none,rfl,n4,by rw[Zab];simp[cnt,Zdf],s4⟩ ?_ ?_⟩
  ·rintro i σ H2 hi ⟨l,o,rfl,hl0,hl2,s2⟩;have hlen:=Zbc (p:=p) (by (clear hi h3 h2;omega)) i;have ex:cnt p (i+1)=Zbt (cnt p i):=rfl;rw[ex];generalize cnt p i=c at *;obtain⟨c0,cr,rfl⟩:∃ c0 cr,c=c0::cr:=by
    cases c with
    | nil=>simp at hlen;(clear hi h3 h2;omega)
    | cons x y=>exact⟨x,y,rfl⟩
   have hcr:cr.length=p - 1:=by simp at hlen;(clear hi h3 h2 h1;omega)
   refine⟨_,rfl,1,rfl,l,_,rfl,SqL.of hl2,fun lq eq=>?_⟩;rw[Yav,Zl7];have hlq:(upd H2 lq (.lst (cr.map V.int))) lq=some (.lst (cr.map V.int)):=Zab;have sq:Same H2 (upd H2 lq (.lst (cr.map V.int))):=Same.new eq;generalize (upd H2 lq (.lst (cr.map V.int)))=H2' at hlq sq ⊢;refine⟨lq,rfl,⟨_,SqL.of hlq⟩,?_⟩;refine Zbj (xs:=cr.map V.int) (fun acc j H3=>Same H2' H3/\H3 acc=some (.lst (((cr.take j).map (c0+·)).map V.int))) (fun acc h0=>⟨Same.new h0,Zab⟩) (fun acc j H3 h0 _ p=>p.1.seq (SqL.of hlq)) ?_ ?_
   ·rintro acc j x H3 h0 hx ⟨s3,hacc⟩;obtain⟨z,hz,rfl⟩:=Zbp hx;have hj:=(Yab.mp hz).1
    have hl3:=s3 l _ (sq l _ hl2);refine⟨_,rfl,l,_,0,.int c0,rfl,rfl,SqL.of hl3,ZeA,_,rfl,_,_,rfl,rfl,_,hacc,?_,by rw[Yaa];exact hj,s3.put h0,?_⟩
    ·exact Zat (by simp;(clear hj hlen hi h3 h1;omega))
    ·rw[Zab,Yba,hz,YcL,YaP,YaP];rfl
   ·rintro acc H3 h0 ⟨s3,hacc⟩;rw[Yaa,YaR] at hacc;have hl3:=s3 l _ (sq l _ hl2);refine⟨_,rfl,l,_,0,.int c0,rfl,rfl,SqL.of hl3,ZeA,(by show 1<=sizeLine;decide),fun q2 f2=>?_⟩;refine⟨acc,q2,_,_,rfl,rfl,(Same.new f2) acc _ hacc,Zab,?_,fun q3 f3=>?_⟩
    ·exact Ybc (Zat (by simp;(clear hlen hi h3 h1;omega)))
    have s5:=(s2.trans sq).trans (s3.trans (Same.new (o:=.lst [.int c0]) f2));refine⟨q3,_,rfl,s5.free f3,?_,s5.trans (Same.new f3)⟩;rw[Zab];simp[Zbt]
  ·rintro σ H2 ⟨l,o,rfl,hl0,hl2,s2⟩;refine⟨_,rfl,k l H2 hl0 ?_ s2⟩;simpa using hl2
theorem scPotT:FnScope ["script","k","cell","prime"] ["script","k"] (Zac ZgE):=⟨rfl,rfl,rfl,by decide +kernel,rfl,by decide +kernel,by decide +kernel⟩
theorem ix5 {d:Int} (h0:0<=d) (h1:d<5):∃ v:Int,atI [V.int 2147483629,.int 2147483587,.int 2147483579,.int 2147483563,.int 2147483549] d=some (.int v)/\0<v/\v<=2147483647:=by
 have:d=0∨d=1∨d=2∨d=3∨d=4:=by omega
 rcases this with rfl | rfl | rfl | rfl | rfl
 all_goals exact⟨_,rfl,by decide,by decide⟩
theorem ZkC {f:Addr}{fd:FuncData} (F:Fun K "_law_pot" "_law_pot" ZgE f fd) (T:Txt mg):FnOk P w K mg base CX0 1 f fd ["script","k"] (Zhj K):=by
 refine F.ok scPotT (fun vs H Q E h=>?_) (fun cdv A outer s H vs Q E hr h=>?_)
 ·obtain⟨a,ns,i,rfl,_⟩:=h;rfl
 ·obtain⟨a,ns,i,rfl,hS,i0,i1,k⟩:=h;refine⟨_,Zar (Zap (i:=2) scPotT.nd rfl (YaG rfl) Zag)
   (Zar (ZgJ (ZaK ZgL (pv 1) (Zam ZaQ rfl T.len Ybz (Zaa (pv 0) Zad)) (Za9 _)) (Zax (Zap (i:=2) scPotT.nd rfl (YaG rfl) (Zav ZbT (ZaY ZaM (pv 0) (pv 1) (fun _ _=>rfl)) (Zav ZhG (Zav ZhG (Zav ZdK Zag Zag) (Zav ZdK Zag Zag)) (Zav ZdK Zag Zag))))) Zcu)
   (Zar (Zap (i:=3) scPotT.nd rfl (YaG rfl) (ZaY ZaM (ZaF (Zaa Zag (Zaa Zag (Zaa Zag (Zaa Zag (Zaa Zag Zad)))))) (Zav ZbT (pv 1) Zag) (fun _ _=>rfl)))
   (Zax (Zay (ZaF (Zaa (Zam (Zcn rfl) rfl T.max ZjD (Zaa Zag (Zaa (Zav Zc6 (pv 2) (Zav ZdK Zag Zag)) Zad)))
    (Zaa (Zav ZbT (Zav ZdK (Zav ZaV (Zav ZaV (Zav ZbT (pv 2) (pv 3)) (Zav ZjR Zag (pv 1))) Zag) Zag) Zag) Zad))))))),?_⟩
  refine cut2 (fun σ' H'=>∃ c:Int,σ'=[some (.ref a),some (.int i),some (.int c),none]/\H'=H) (fun R2 hR2=>?_) ?_
  ·refine⟨_,rfl,_,rfl,a,_,rfl,.inl hS,_,_,rfl,rfl,_,rfl,?_⟩;refine ite2 (fun hc=>?_) (fun hc=>hR2 _ _ ⟨_,rfl,rfl⟩);have hc':i<(ns.length:Int):=by have:=of_decide_eq_true hc;rwa [Yaa] at this
   obtain⟨w1,w2,w3⟩:=Zms;refine⟨_,rfl,_,rfl,a,_,i,_,rfl,rfl,hS,Zk4 i0 hc',?_⟩;refine⟨10,60,rfl,rfl,⟨by decide,by decide,by decide⟩,10,60,rfl,rfl,⟨by decide,by decide,by decide⟩,_,_,rfl,rfl,⟨1000,1000,w2,w2,by decide⟩,10,60,rfl,rfl,⟨by decide,by decide,by decide⟩,_,_,rfl,rfl,⟨1000,1000,w3,w2,by decide⟩,_,_,rfl,rfl,w1,?_⟩;exact hR2 _ _ ⟨_,rfl,rfl⟩
  ·rintro σ' H' ⟨c,rfl,rfl⟩;refine⟨(by show 5<=sizeLine;decide),fun q hq=>?_⟩;refine⟨_,rfl,i,5,rfl,rfl,(by show (0:Int)<5;decide),?_⟩;obtain⟨v,ev,v0,v1⟩:=ix5 (Ycr i (show (5:Int)≠0 by decide)) (Yb8 i (show (0:Int)<5 by decide));refine⟨q,_,_,_,rfl,rfl,SqL.of Zab,ev,?_⟩;refine⟨_,rfl,10,18,rfl,rfl,⟨by decide,by decide,by decide⟩,_,_,rfl,rfl,_,_,rfl,?_⟩;refine⟨_,rfl,_,rfl,c,v,rfl,rfl,v0,_,rfl,7919,i,rfl,rfl,.inl ⟨by decide,by decide⟩,_,_,rfl,rfl,_,11,rfl,rfl,_,3,rfl,rfl,⟨by decide,by decide,?_⟩,_,2147483647,rfl,rfl,(by show (0:Int)<2147483647;decide),(by show 2<=sizeLine;decide),fun l hl=>?_⟩
   ·have m0:=Ycr c (show v≠0 by (clear v1 i1 i0;omega));have m1:=Yb8 c v0;generalize c % v=y at m0 m1
    (clear v0;omega)
   ·refine k l _ ((Same.new hq).free hl) ⟨_,_,Zab,Ycr _ (by decide),?_⟩ ((Same.new hq).trans (Same.new hl));exact Int.lt_trans (Yb8 _ (by decide)) (by decide)
theorem scTakeT:FnScope ["pot","many","found"] ["pot","many"] (Zac ZdF):=⟨rfl,rfl,rfl,by decide +kernel,rfl,by decide +kernel,by decide +kernel⟩
theorem Zje {f:Addr}{fd:FuncData} (F:Fun K "_law_take" "_law_take" ZdF f fd) (T:Txt mg):FnOk P w K mg base CX0 1 f fd ["pot","many"] ZdZ:=by
 refine F.ok scTakeT (fun vs H Q E h=>?_) (fun cdv A outer s H vs Q E hr h=>?_)
 ·obtain⟨p,m,rfl,_⟩:=h;rfl
 ·obtain⟨p,m,rfl,⟨a,b,hp,b0,b1⟩,h0,h1,k⟩:=h;refine⟨_,Zar (ZgJ (ZaK ZlH (ZaY ZaM (pv 0) Zag (fun _ _=>rfl)) Zag (Za9 _))
    (Zar (Zap (i:=2) scTakeT.nd rfl (YaG rfl) (Zav ZbT (ZaY ZaM (pv 0) Zag (fun _ _=>rfl)) (pv 1)))
    (Zar (Zch (Zav Zja (ZaY ZaM (pv 0) Zag (fun _ _=>rfl)) (pv 1)) (Zf9 (pv 0) Zag ZcR))
    (Zax (Zay (pv 2))))) Zcu)
   (Zar (Zch (Zav ZbT (Zav ZaV (Zav ZjR (ZaY ZaM (pv 0) Zag (fun _ _=>rfl)) Zag) Zag) Zag) (Zf9 (pv 0) Zag ZcR))
   (Zax (Zay (Zav ZbT (Zav Zky (Zav ZbT (Zav ZdK (ZaY ZaM (pv 0) Zag (fun _ _=>rfl)) Zag) Zag) Zag) (pv 1))))),?_⟩
  refine⟨_,rfl,p,_,0,.int a,rfl,rfl,SqL.of hp,rfl,_,_,rfl,rfl,_,rfl,?_⟩;refine ite2 (fun _=>?_) (fun _=>?_)
  ·refine⟨_,rfl,p,_,0,.int a,rfl,rfl,SqL.of hp,rfl,_,rfl,a,m,rfl,rfl,h0,?_⟩;refine⟨_,rfl,p,_,0,.int a,rfl,rfl,SqL.of hp,rfl,_,rfl,a,m,rfl,rfl,⟨h0,h1⟩,_,rfl,p,_,0,0,rfl,rfl,hp,rfl,_,rfl,?_⟩;exact k _ _ (Ycr _ (by (clear h1 b1 b0;omega))) (Yb8 _ h0) ⟨_,_,Zab,b0,b1⟩ Sm.put
  ·have n0:=Ycr (b*48271+12820163) (show (2147483647:Int)≠0 by decide);have n1:=Yb8 (b*48271+12820163) (show (0:Int)<2147483647 by decide);refine⟨_,rfl,p,_,1,.int b,rfl,rfl,SqL.of hp,rfl,b,48271,rfl,rfl,.inr ⟨by decide,by decide⟩,_,12820163,rfl,rfl,_,2147483647,rfl,rfl,(by show (0:Int)<2147483647;decide),_,rfl,p,_,1,1,rfl,rfl,hp,rfl,?_⟩;have hp1:(upd H p (.lst ([V.int a,.int b].set 1 (.int ((b*48271+12820163) % 2147483647))))) p=some (.lst [.int a,.int ((b*48271+12820163) % 2147483647)]):=by rw[Zab];rfl
   refine⟨_,rfl,p,_,1,.int ((b*48271+12820163) % 2147483647),rfl,rfl,SqL.of hp1,rfl,_,3,rfl,rfl,⟨by decide,by decide,?_⟩,_,2147483629,rfl,rfl,(by show (0:Int)<2147483629;decide),_,8,rfl,rfl,⟨by decide,by decide⟩,_,rfl,_,m,rfl,rfl,h0,?_⟩
   ·generalize (b*48271+12820163) % 2147483647=y at n0 n1
    (clear h1 h0 b1 b0;omega)
   ·exact k _ _ (Ycr _ (by (clear n1 n0 h1 b1 b0;omega))) (Yb8 _ h0) ⟨_,_,hp1,n0,Int.lt_trans n1 (by decide)⟩ Sm.put
end
end Fi59
namespace Fi59
open PySem L2 Lv
section
variable {P:Program}{w:World}{K:Yad}{mg:Str->Option Value}{base:Heap}
theorem ZiX:FnScope ["rows"] ["rows"] (Zac Zcs):=⟨rfl,rfl,rfl,by decide +kernel,rfl,by decide +kernel,by decide +kernel⟩
theorem ZhN {f:Addr}{fd:FuncData} (F:Fun K "merged_row" "merged_row" Zcs f fd) (T:Txt mg):FnOk P w K mg base CX0 1 f fd ["rows"] ZcN:=by
 refine F.ok ZiX (fun vs H Q E h=>?_) (fun cdv A outer s H vs Q E hr h=>?_)
 ·obtain⟨a,rs,N,rfl,_⟩:=h;rfl
 ·obtain⟨a,rs,N,rfl,hR,hT,k⟩:=h;refine⟨_,Zax (Zay (Zam ZcB rfl T.sorted Zez (Zaa (Zi7 (own:=["row","thing"]) (js:=[]) (fr:=[1]) (CompOk.bare (by decide +kernel)) rfl (ZaC (pv 0)) (Zb7 (i:=0)) Zb6
    (fun _ _ _ _ _=>Zah (i:=0) (by show (["row","thing"]:List Str).Nodup;decide +kernel) rfl (YaG rfl) (.inr rfl)) (fun _ _ _ _ _=>Zao) (fun _ _ _ _ _=>ZbO K (pv 0))
    (fun _ _ _ _ _=>Zah (i:=1) (by show (["row","thing"]:List Str).Nodup;decide +kernel) rfl (YaG rfl) (.inr rfl)) (fun _ _ _ _ _=>Zao) (fun _ _ _ _ _=>pv 1)) Zad))),?_⟩
  obtain⟨b,hb⟩:=hR.top.both;refine⟨_,rfl,a,b,rfl,⟨_,hb K H (Same.refl _)⟩,?_⟩;refine ZdR (xs:=rs.map V.ref) (fun acc i H2=>Same H H2/\H2 acc=some (.lst (((N.take i).flatten).map V.int))) (fun acc h0=>⟨Same.new h0,Zab⟩) (fun acc i H2 h0 _ p=>hb K H2 p.1) ?_ ?_
  ·rintro acc i x H2 h0 hx ⟨s2,hacc⟩;have hi:=(Yab.mp hx).1
   obtain⟨r,xs,rfl,e1,e2,hrow⟩:=hR.get hx;obtain⟨b2,hb2⟩:=hrow.both;refine⟨_,rfl,r,b2,rfl,⟨_,hb2 K H2 s2⟩,?_⟩;refine Zh7 (xs:=xs.map V.int) (fun j H3=>Same H H3/\H3 acc=some (.lst (((N.take i).flatten++xs.take j).map V.int))) ⟨s2,by simpa using hacc⟩ (fun j H3 _ p=>hb2 K H3 p.1) ?_ ?_
   ·rintro j y H3 hy ⟨s3,hac3⟩;obtain⟨z,hz,rfl⟩:=Zbp hy;have hj:=(Yab.mp hz).1
    have hle:=Zju e2 (Ybc hj);refine⟨_,rfl,_,hac3,Zd4 (by rw[Yaa,Yai,YaL];(clear hj hi;omega)),by rw[Yaa];exact hj,s3.put h0,?_⟩;rw[Zab,Yba,hz];simp
   ·rintro H3 ⟨s3,hac3⟩;refine⟨hi,s3,?_⟩;rw[hac3,Ze1 e2,Yaa,YaR]
  ·rintro acc H2 h0 ⟨s2,hacc⟩;rw[Yaa,hR.len,YaR] at hacc;refine⟨acc,_,rfl,SqL.of hacc,fun l ms nl pm up=>?_⟩;have:=Zaf hacc nl;exact k l ms _ (s2.free nl) Zab pm up (s2.trans (Same.new nl))
end
end Fi59
namespace Fi59
open PySem L2 Lv
section
variable {P:Program}{w:World}{K:Yad}{mg:Str->Option Value}{base:Heap}
theorem Zls:FnScope ["things","up"] ["things","up"] (Zac Za2):=⟨rfl,rfl,rfl,by decide +kernel,rfl,by decide +kernel,by decide +kernel⟩
theorem Zjf {f:Addr}{fd:FuncData} (F:Fun K "_law_sorted" "_law_sorted" Za2 f fd) (T:Txt mg):FnOk P w K mg base CX0 1 f fd ["things","up"] Zfp:=by
 refine okW F Zls (fun vs H Q E h=>?_) (fun cdv A outer s H vs Q E hr h=>?_)
 ·obtain⟨l,xs,up,rfl,_⟩:=h;rfl
 ·obtain⟨l,xs,up,rfl,hl,k⟩:=h;refine⟨_,(Zae (ZcU (Zc2 (pv 1))
   (Zas (ws (Zay (Zam ZcB rfl T.sorted Zez (Zaa (pv 0) Zad)))))
   Zbe)
   (Zas (ws (Zay (ZeQ (Zam ZcB rfl T.sorted Zez (Zaa (pv 0) Zad)) (ZaS (ZfB ZcX Zag))))))),?_⟩
  refine⟨_,rfl,up,rfl,?_⟩
  cases up with
  | true=>
   refine iteT ⟨_,rfl,l,xs,rfl,SqL.of hl,fun l2 ms n2 hp hs=>?_⟩;exact k l2 _ n2 (by rw[Zab,ZdA hp hs];rfl) (Same.new n2)
  | false=>
   refine iteF ⟨_,rfl,l,xs,rfl,SqL.of hl,fun l2 ms n2 hp hs=>⟨1,rfl,-1,rfl,rfl,l2,_,rfl,SqL.of Zab,fun l3 n3=>?_⟩⟩;have s2:Same H (upd H l2 (.lst (ms.map V.int))):=Same.new n2;exact k l3 _ (s2.free n3) (by rw[Zab,ZdA hp hs,<- Yb0];rfl) (s2.trans (Same.new n3))
end
end Fi59
namespace Fi59
open PySem L2 Lv
section
variable {P:Program}{w:World}{K:Yad}{mg:Str->Option Value}{base:Heap}
theorem Zlt:FnScope ["self","at"] ["self","at"] (Zac ZgF):=⟨rfl,rfl,rfl,by decide +kernel,rfl,by decide +kernel,by decide +kernel⟩
theorem ZkF {f C:Addr}{fd:FuncData}{qn:Str} (F:Fun K "__init__" qn ZgF f fd) (hz:ZaN K C f=true):FnOk P w K mg base CX0 1 f fd ["self","at"] (Zhm C):=by
 refine F.ok Zlt (fun vs H Q E h=>?_) (fun cdv A outer s H vs Q E hr h=>?_)
 ·obtain⟨ea,v,rfl,_⟩:=h;rfl
 ·obtain⟨ea,v,rfl,he,k⟩:=h;refine⟨_,Zax (Zks (C:=C) (fI:=f) (pv 0) (pv 1) rfl),?_⟩;exact⟨_,rfl,_,rfl,ea,rfl,he,hz,k⟩
end
end Fi59
namespace Fi59
open PySem L2 Lv
theorem len1 {P:List Value->Prop} (us:List Value) (hl:us.length=1) (h:∀ a0:Value,P [a0]):P us:=by
 match us,hl with
 | [a0],_=>exact h a0
theorem len2 {P:List Value->Prop} (us:List Value) (hl:us.length=2) (h:∀ a0 a1:Value,P [a0,a1]):P us:=by
 match us,hl with
 | [a0,a1],_=>exact h a0 a1
theorem len3 {P:List Value->Prop} (us:List Value) (hl:us.length=3) (h:∀ a0 a1 a2:Value,P [a0,a1,a2]):P us:=by
 match us,hl with
 | [a0,a1,a2],_=>exact h a0 a1 a2
theorem all_mk {l:Ydo}{w:World}{K:Yad}{h:Heap}{mg:Str->Option Value}{fa f0 f1 f2 f3 f4 f5 f6 f7 f8 f9 f10 f11 f12 f13 f14 f15 f16 f17 f18 f19 f20 f21 f22 f23 f24 f25 f26 f27 f28:Addr}{tk0 tk1 tk2:Tok} (X:K.In h) (G:h.Ns mainGlobals mg) (hfa:mg "law"=some (.ref fa))
  {od0 an0 od1 an1 od2 an2 od3 an3 od4 an4 od5 an5 od6 an6 od7 an7 od8 an8 od9 an9 od10 an10 od11 an11 od12 an12 od13 an13 od14 an14 od15 an15 od16 an16 od17 an17 od18 an18 od19 an19 od20 an20 od21 an21 od22 an22 od23 an23 od24 an24 od25 an25 od26 an26 od27 an27 od28 an28:Option Addr}{sl0 sl1 sl2 sl3 sl4 sl5 sl6 sl7 sl8 sl9 sl10 sl11 sl12 sl13 sl14 sl15 sl16 sl17 sl18 sl19 sl20 sl21 sl22 sl23 sl24 sl25 sl26 sl27 sl28:Array (Option Value)}{oc0 kV0 dc0 pm0 cd0 ct0 oc1 kV1 dc1 pm1 cd1 ct1 oc2 kV2 dc2 pm2 cd2 ct2 oc3 kV3 dc3 pm3 cd3 ct3 oc4 kV4 dc4 pm4 cd4 ct4 oc5 kV5 dc5 pm5 cd5 ct5 oc6 kV6 dc6 pm6 cd6 ct6 oc7 kV7 dc7 pm7 cd7 ct7 oc8 kV8 dc8 pm8 cd8 ct8 oc9 kV9 dc9 pm9 cd9 ct9 oc10 kV10 dc10 pm10 cd10 ct10 oc11 kV11 dc11 pm11 cd11 ct11 oc12 kV12 dc12 pm12 cd12 ct12 oc13 kV13 dc13 pm13 cd13 ct13 oc14 kV14 dc14 pm14 cd14 ct14 oc15 kV15 dc15 pm15 cd15 ct15 oc16 kV16 dc16 pm16 cd16 ct16 oc17 kV17 dc17 pm17 cd17 ct17 oc18 kV18 dc18 pm18 cd18 ct18 oc19 kV19 dc19 pm19 cd19 ct19 oc20 kV20 dc20 pm20 cd20 ct20 oc21 kV21 dc21 pm21 cd21 ct21 oc22 kV22 dc22 pm22 cd22 ct22 oc23 kV23 dc23 pm23 cd23 ct23 oc24 kV24 dc24 pm24 cd24 ct24 oc25 kV25 dc25 pm25 cd25 ct25 oc26 kV26 dc26 pm26 cd26 ct26 oc27 kV27 dc27 pm27 cd27 ct27 oc28 kV28 dc28 pm28 cd28 ct28:Value}
  {da2:Addr}{doc2:Value}{dod2:Option Addr}{dn2:Nat}{dsl2:Array (Option Value)}{dt2_0:Tok}
  (a0:Yaz K mainGlobals "is_whole"=some (some (.ref f0))) (l0:K.lookup f0=some ⟨oc0,od0,.func (YaE "is_whole" "is_whole" (Zal ZdD) (Zaj ZdD) (Zac ZdD) .none kV0 dc0 pm0 an0 cd0 ct0),sl0⟩) (c0:YaD K cd0 "is_whole"=true) (k0:Yay K (.ref f0)=true)
  (a1:Yaz K mainGlobals "check_ways"=some (some (.ref f1))) (l1:K.lookup f1=some ⟨oc1,od1,.func (YaE "check_ways" "check_ways" (Zal ZgC) (Zaj ZgC) (Zac ZgC) .none kV1 dc1 pm1 an1 cd1 ct1),sl1⟩) (c1:YaD K cd1 "check_ways"=true) (k1:Yay K (.ref f1)=true)
  (a2:Yaz K mainGlobals "check_level"=some (some (.ref f2))) (l2:K.lookup f2=some ⟨oc2,od2,.func (YaE "check_level" "check_level" (Zal ZdG) (Zaj ZdG) (Zac ZdG) (.ref da2) kV2 dc2 pm2 an2 cd2 ct2),sl2⟩) (c2:YaD K cd2 "check_level"=true) (k2:Yay K (.ref f2)=true)
  (d2:K.lookup da2=some ⟨doc2,dod2,.seq #[.int 300 dt2_0] dn2,dsl2⟩)
  (a3:Yaz K mainGlobals "first_counts"=some (some (.ref f3))) (l3:K.lookup f3=some ⟨oc3,od3,.func (YaE "first_counts" "first_counts" (Zal ZdH) (Zaj ZdH) (Zac ZdH) .none kV3 dc3 pm3 an3 cd3 ct3),sl3⟩) (c3:YaD K cd3 "first_counts"=true) (k3:Yay K (.ref f3)=true)
  (a4:Yaz K mainGlobals "next_counts"=some (some (.ref f4))) (l4:K.lookup f4=some ⟨oc4,od4,.func (YaE "next_counts" "next_counts" (Zal Zfy) (Zaj Zfy) (Zac Zfy) .none kV4 dc4 pm4 an4 cd4 ct4),sl4⟩) (c4:YaD K cd4 "next_counts"=true) (k4:Yay K (.ref f4)=true)
  (a5:Yaz K mainGlobals "level_counts"=some (some (.ref f5))) (l5:K.lookup f5=some ⟨oc5,od5,.func (YaE "level_counts" "level_counts" (Zal Zct) (Zaj Zct) (Zac Zct) .none kV5 dc5 pm5 an5 cd5 ct5),sl5⟩) (c5:YaD K cd5 "level_counts"=true) (k5:Yay K (.ref f5)=true)
  (a6:Yaz K mainGlobals "level_total"=some (some (.ref f6))) (l6:K.lookup f6=some ⟨oc6,od6,.func (YaE "level_total" "level_total" (Zal ZdE) (Zaj ZdE) (Zac ZdE) .none kV6 dc6 pm6 an6 cd6 ct6),sl6⟩) (c6:YaD K cd6 "level_total"=true) (k6:Yay K (.ref f6)=true)
  (a7:Yaz K mainGlobals "check_total"=some (some (.ref f7))) (l7:K.lookup f7=some ⟨oc7,od7,.func (YaE "check_total" "check_total" (Zal sTot) (Zaj sTot) (Zac sTot) .none kV7 dc7 pm7 an7 cd7 ct7),sl7⟩) (c7:YaD K cd7 "check_total"=true) (k7:Yay K (.ref f7)=true)
  (a8:Yaz K mainGlobals "check_places"=some (some (.ref f8))) (l8:K.lookup f8=some ⟨oc8,od8,.func (YaE "check_places" "check_places" (Zal Zcq) (Zaj Zcq) (Zac Zcq) .none kV8 dc8 pm8 an8 cd8 ct8),sl8⟩) (c8:YaD K cd8 "check_places"=true) (k8:Yay K (.ref f8)=true)
  (a9:Yaz K mainGlobals "merged_row"=some (some (.ref f9))) (l9:K.lookup f9=some ⟨oc9,od9,.func (YaE "merged_row" "merged_row" (Zal Zcs) (Zaj Zcs) (Zac Zcs) .none kV9 dc9 pm9 an9 cd9 ct9),sl9⟩) (c9:YaD K cd9 "merged_row"=true) (k9:Yay K (.ref f9)=true)
  (a10:Yaz K mainGlobals "things_in"=some (some (.ref f10))) (l10:K.lookup f10=some ⟨oc10,od10,.func (YaE "things_in" "things_in" (Zal Zfw) (Zaj Zfw) (Zac Zfw) .none kV10 dc10 pm10 an10 cd10 ct10),sl10⟩) (c10:YaD K cd10 "things_in"=true) (k10:Yay K (.ref f10)=true)
  (a11:Yaz K mainGlobals "taken_at"=some (some (.ref f11))) (l11:K.lookup f11=some ⟨oc11,od11,.func (YaE "taken_at" "taken_at" (Zal Zfv) (Zaj Zfv) (Zac Zfv) .none kV11 dc11 pm11 an11 cd11 ct11),sl11⟩) (c11:YaD K cd11 "taken_at"=true) (k11:Yay K (.ref f11)=true)
  (a12:Yaz K mainGlobals "level_phases"=some (some (.ref f12))) (l12:K.lookup f12=some ⟨oc12,od12,.func (YaE "level_phases" "level_phases" (Zal sLPh) (Zaj sLPh) (Zac sLPh) .none kV12 dc12 pm12 an12 cd12 ct12),sl12⟩) (c12:YaD K cd12 "level_phases"=true) (k12:Yay K (.ref f12)=true)
  (a13:Yaz K mainGlobals "next_turned"=some (some (.ref f13))) (l13:K.lookup f13=some ⟨oc13,od13,.func (YaE "next_turned" "next_turned" (Zal ZcD) (Zaj ZcD) (Zac ZcD) .none kV13 dc13 pm13 an13 cd13 ct13),sl13⟩) (c13:YaD K cd13 "next_turned"=true) (k13:Yay K (.ref f13)=true)
  (a14:Yaz K mainGlobals "turned_numbers"=some (some (.ref f14))) (l14:K.lookup f14=some ⟨oc14,od14,.func (YaE "turned_numbers" "turned_numbers" (Zal Zfx) (Zaj Zfx) (Zac Zfx) .none kV14 dc14 pm14 an14 cd14 ct14),sl14⟩) (c14:YaD K cd14 "turned_numbers"=true) (k14:Yay K (.ref f14)=true)
  (a15:Yaz K mainGlobals "turned_ups"=some (some (.ref f15))) (l15:K.lookup f15=some ⟨oc15,od15,.func (YaE "turned_ups" "turned_ups" (Zal ZgD) (Zaj ZgD) (Zac ZgD) .none kV15 dc15 pm15 an15 cd15 ct15),sl15⟩) (c15:YaD K cd15 "turned_ups"=true) (k15:Yay K (.ref f15)=true)
  (a16:Yaz K mainGlobals "level_with"=some (some (.ref f16))) (l16:K.lookup f16=some ⟨oc16,od16,.func (YaE "level_with" "level_with" (Zal sLW) (Zaj sLW) (Zac sLW) .none kV16 dc16 pm16 an16 cd16 ct16),sl16⟩) (c16:YaD K cd16 "level_with"=true) (k16:Yay K (.ref f16)=true)
  (a17:Yaz K mainGlobals "copied_turned"=some (some (.ref f17))) (l17:K.lookup f17=some ⟨oc17,od17,.func (YaE "copied_turned" "copied_turned" (Zal ZgG) (Zaj ZgG) (Zac ZgG) .none kV17 dc17 pm17 an17 cd17 ct17),sl17⟩) (c17:YaD K cd17 "copied_turned"=true) (k17:Yay K (.ref f17)=true)
  (a18:Yaz K mainGlobals "merged_turned"=some (some (.ref f18))) (l18:K.lookup f18=some ⟨oc18,od18,.func (YaE "merged_turned" "merged_turned" (Zal Zcr) (Zaj Zcr) (Zac Zcr) .none kV18 dc18 pm18 an18 cd18 ct18),sl18⟩) (c18:YaD K cd18 "merged_turned"=true) (k18:Yay K (.ref f18)=true)
  (a19:Yaz K mainGlobals "things_turned"=some (some (.ref f19))) (l19:K.lookup f19=some ⟨oc19,od19,.func (YaE "things_turned" "things_turned" (Zal sThT) (Zaj sThT) (Zac sThT) .none kV19 dc19 pm19 an19 cd19 ct19),sl19⟩) (c19:YaD K cd19 "things_turned"=true) (k19:Yay K (.ref f19)=true)
  (a20:Yaz K mainGlobals "turned_phase"=some (some (.ref f20))) (l20:K.lookup f20=some ⟨oc20,od20,.func (YaE "turned_phase" "turned_phase" (Zal sPhT) (Zaj sPhT) (Zac sPhT) .none kV20 dc20 pm20 an20 cd20 ct20),sl20⟩) (c20:YaD K cd20 "turned_phase"=true) (k20:Yay K (.ref f20)=true)
  (a21:Yaz K mainGlobals "turned_play"=some (some (.ref f21))) (l21:K.lookup f21=some ⟨oc21,od21,.func (YaE "turned_play" "turned_play" (Zal Za4) (Zaj Za4) (Zac Za4) .none kV21 dc21 pm21 an21 cd21 ct21),sl21⟩) (c21:YaD K cd21 "turned_play"=true) (k21:Yay K (.ref f21)=true)
  (a22:Yaz K mainGlobals "_law_sorted"=some (some (.ref f22))) (l22:K.lookup f22=some ⟨oc22,od22,.func (YaE "_law_sorted" "_law_sorted" (Zal Za2) (Zaj Za2) (Zac Za2) .none kV22 dc22 pm22 an22 cd22 ct22),sl22⟩) (c22:YaD K cd22 "_law_sorted"=true) (k22:Yay K (.ref f22)=true)
  (a23:Yaz K mainGlobals "_law_pot"=some (some (.ref f23))) (l23:K.lookup f23=some ⟨oc23,od23,.func (YaE "_law_pot" "_law_pot" (Zal ZgE) (Zaj ZgE) (Zac ZgE) .none kV23 dc23 pm23 an23 cd23 ct23),sl23⟩) (c23:YaD K cd23 "_law_pot"=true) (k23:Yay K (.ref f23)=true)
  (a24:Yaz K mainGlobals "_law_take"=some (some (.ref f24))) (l24:K.lookup f24=some ⟨oc24,od24,.func (YaE "_law_take" "_law_take" (Zal ZdF) (Zaj ZdF) (Zac ZdF) .none kV24 dc24 pm24 an24 cd24 ct24),sl24⟩) (c24:YaD K cd24 "_law_take"=true) (k24:Yay K (.ref f24)=true)
  (a25:Yaz K mainGlobals "_law_counts"=some (some (.ref f25))) (l25:K.lookup f25=some ⟨oc25,od25,.func (YaE "_law_counts" "_law_counts" (Zal Zbm) (Zaj Zbm) (Zac Zbm) .none kV25 dc25 pm25 an25 cd25 ct25),sl25⟩) (c25:YaD K cd25 "_law_counts"=true) (k25:Yay K (.ref f25)=true)
  (a26:Yaz K mainGlobals "_law_told"=some (some (.ref f26))) (l26:K.lookup f26=some ⟨oc26,od26,.func (YaE "_law_told" "_law_told" (Zal Zcp) (Zaj Zcp) (Zac Zcp) .none kV26 dc26 pm26 an26 cd26 ct26),sl26⟩) (c26:YaD K cd26 "_law_told"=true) (k26:Yay K (.ref f26)=true)
  (a27:Yaz K mainGlobals "_law_laid"=some (some (.ref f27))) (l27:K.lookup f27=some ⟨oc27,od27,.func (YaE "_law_laid" "_law_laid" (Zal Zb0) (Zaj Zb0) (Zac Zb0) .none kV27 dc27 pm27 an27 cd27 ct27),sl27⟩) (c27:YaD K cd27 "_law_laid"=true) (k27:Yay K (.ref f27)=true)
  (a28:Yaz K mainGlobals "law"=some (some (.ref f28))) (l28:K.lookup f28=some ⟨oc28,od28,.func (YaE "law" "law" (Zal sLaw) (Zaj sLaw) (Zac sLaw) .none kV28 dc28 pm28 an28 cd28 ct28),sl28⟩) (c28:YaD K cd28 "law"=true) (k28:Yay K (.ref f28)=true)
  (y0:Yaz K mainGlobals "LEAST_WAYS"=some (some (.int 2 tk0)))
  (y1:Yaz K mainGlobals "MOST_WAYS"=some (some (.int 7 tk1)))
  (y2:Yaz K mainGlobals "MOST_PLACES"=some (some (.int 4000 tk2)))
  {ecClash:Addr} (exClash:Yaz K mainGlobals "Clash"=some (some (.ref ecClash)))
  {fiClash:Addr}{odiClash aniClash:Option Addr}{sliClash:Array (Option Value)}{ociClash kViClash dciClash pmiClash cdiClash ctiClash:Value}
  (aiClash:Ycs K (.ref ecClash) "__init__"=some (some (.ref fiClash))) (liClash:K.lookup fiClash=some ⟨ociClash,odiClash,.func (YaE "__init__" "Clash.__init__" (Zal ZgF) (Zaj ZgF) (Zac ZgF) .none kViClash dciClash pmiClash aniClash cdiClash ctiClash),sliClash⟩) (ciClash:YaD K cdiClash "Clash.__init__"=true) (kiClash:Yay K (.ref fiClash)=true)
  (ezClash:ZaN K ecClash fiClash=true) (esClash:Yex K (.ref ecClash) (.ref ecClash)=some true)
  (z0:Yaz K mainGlobals "isinstance"=some none) (z1:Yaz K mainGlobals "int"=some none) (z2:Yaz K mainGlobals "bool"=some none) (z3:Yaz K mainGlobals "list"=some none) (z4:Yaz K mainGlobals "tuple"=some none) (z5:Yaz K mainGlobals "min"=some none) (z6:Yaz K mainGlobals "max"=some none) (z7:Yaz K mainGlobals "len"=some none) (z8:Yaz K mainGlobals "range"=some none) (z9:Yaz K mainGlobals "all"=some none) (z10:Yaz K mainGlobals "sum"=some none) (z11:Yaz K mainGlobals "sorted"=some none) (z12:Yaz K mainGlobals "zip"=some none) (zenumerate:Yaz K mainGlobals "enumerate"=some none) :
  ∃ fd:FuncData,(∀ (s:Shared) (v:Value),BindsTo s fd ⟨[v],[]⟩ [("script",v)])/\∀ base:Heap,K.In base->base.Ns mainGlobals mg->FnOk l.prog w K mg base CX0 8 fa fd ["script"] (ZiT K):=by
 have e:=hfa.symm.trans (YeG X G a28);cases e;have T:Txt mg:=⟨Ya5 X G z0,Ya5 X G z1,Ya5 X G z2,Ya5 X G z3,Ya5 X G z4,Ya5 X G z5,Ya5 X G z6,Ya5 X G z7,Ya5 X G z8,Ya5 X G z9,Ya5 X G z10,Ya5 X G z11,Ya5 X G z12⟩
 have F0:=ZaD (st:=ZdD) l0 c0 k0;have b0:=F0.binds (ps:=["thing"]) fun _ _ _ _ _ _ us hl=>@len1 (fun us=>bindArgs _ ⟨us,[]⟩=pure (Ybm _ us)) us hl fun _=>rfl;have F1:=ZaD (st:=ZgC) l1 c1 k1;have b1:=F1.binds (ps:=["p"]) fun _ _ _ _ _ _ us hl=>@len1 (fun us=>bindArgs _ ⟨us,[]⟩=pure (Ybm _ us)) us hl fun _=>rfl;have F2:=ZkR (st:=ZdG) l2 c2 k2;have b2:=F2.binds (ps:=["n","last"]) d2 rfl [.int 300 dt2_0] ["n"] rfl fun _ _ _ _ _ _ us hl=>match us,hl with | [_],_=>⟨_,rfl,rfl⟩
 have F3:=ZaD (st:=ZdH) l3 c3 k3;have b3:=F3.binds (ps:=["p"]) fun _ _ _ _ _ _ us hl=>@len1 (fun us=>bindArgs _ ⟨us,[]⟩=pure (Ybm _ us)) us hl fun _=>rfl;have F4:=ZaD (st:=Zfy) l4 c4 k4;have b4:=F4.binds (ps:=["counts"]) fun _ _ _ _ _ _ us hl=>@len1 (fun us=>bindArgs _ ⟨us,[]⟩=pure (Ybm _ us)) us hl fun _=>rfl;have F5:=ZaD (st:=Zct) l5 c5 k5;have b5:=F5.binds (ps:=["p","n"]) fun _ _ _ _ _ _ us hl=>@len2 (fun us=>bindArgs _ ⟨us,[]⟩=pure (Ybm _ us)) us hl fun _ _=>rfl;have F6:=ZaD (st:=ZdE) l6 c6 k6;have b6:=F6.binds (ps:=["p","n"]) fun _ _ _ _ _ _ us hl=>@len2 (fun us=>bindArgs _ ⟨us,[]⟩=pure (Ybm _ us)) us hl fun _ _=>rfl;have F7:=ZaD (st:=sTot) l7 c7 k7;have b7:=F7.binds (ps:=["total"]) fun _ _ _ _ _ _ us hl=>@len1 (fun us=>bindArgs _ ⟨us,[]⟩=pure (Ybm _ us)) us hl fun _=>rfl;have F8:=ZaD (st:=Zcq) l8 c8 k8;have b8:=F8.binds (ps:=["p","n"]) fun _ _ _ _ _ _ us hl=>@len2 (fun us=>bindArgs _ ⟨us,[]⟩=pure (Ybm _ us)) us hl fun _ _=>rfl;have F9:=ZaD (st:=Zcs) l9 c9 k9;have b9:=F9.binds (ps:=["rows"]) fun _ _ _ _ _ _ us hl=>@len1 (fun us=>bindArgs _ ⟨us,[]⟩=pure (Ybm _ us)) us hl fun _=>rfl;have F10:=ZaD (st:=Zfw) l10 c10 k10;have b10:=F10.binds (ps:=["rows"]) fun _ _ _ _ _ _ us hl=>@len1 (fun us=>bindArgs _ ⟨us,[]⟩=pure (Ybm _ us)) us hl fun _=>rfl;have F11:=ZaD (st:=Zfv) l11 c11 k11;have b11:=F11.binds (ps:=["taken","at"]) fun _ _ _ _ _ _ us hl=>@len2 (fun us=>bindArgs _ ⟨us,[]⟩=pure (Ybm _ us)) us hl fun _ _=>rfl;have F12:=ZaD (st:=sLPh) l12 c12 k12;have b12:=F12.binds (ps:=["p","n"]) fun _ _ _ _ _ _ us hl=>@len2 (fun us=>bindArgs _ ⟨us,[]⟩=pure (Ybm _ us)) us hl fun _ _=>rfl;have F13:=ZaD (st:=ZcD) l13 c13 k13;have b13:=F13.binds (ps:=["numbers"]) fun _ _ _ _ _ _ us hl=>@len1 (fun us=>bindArgs _ ⟨us,[]⟩=pure (Ybm _ us)) us hl fun _=>rfl;have F14:=ZaD (st:=Zfx) l14 c14 k14;have b14:=F14.binds (ps:=["p","n"]) fun _ _ _ _ _ _ us hl=>@len2 (fun us=>bindArgs _ ⟨us,[]⟩=pure (Ybm _ us)) us hl fun _ _=>rfl;have F15:=ZaD (st:=ZgD) l15 c15 k15;have b15:=F15.binds (ps:=["p","n"]) fun _ _ _ _ _ _ us hl=>@len2 (fun us=>bindArgs _ ⟨us,[]⟩=pure (Ybm _ us)) us hl fun _ _=>rfl;have F16:=ZaD (st:=sLW) l16 c16 k16;have b16:=F16.binds (ps:=["p","counts"]) fun _ _ _ _ _ _ us hl=>@len2 (fun us=>bindArgs _ ⟨us,[]⟩=pure (Ybm _ us)) us hl fun _ _=>rfl;have F17:=ZaD (st:=ZgG) l17 c17 k17;have b17:=F17.binds (ps:=["row"]) fun _ _ _ _ _ _ us hl=>@len1 (fun us=>bindArgs _ ⟨us,[]⟩=pure (Ybm _ us)) us hl fun _=>rfl;have F18:=ZaD (st:=Zcr) l18 c18 k18;have b18:=F18.binds (ps:=["rows","at"]) fun _ _ _ _ _ _ us hl=>@len2 (fun us=>bindArgs _ ⟨us,[]⟩=pure (Ybm _ us)) us hl fun _ _=>rfl;have F19:=ZaD (st:=sThT) l19 c19 k19;have b19:=F19.binds (ps:=["rows"]) fun _ _ _ _ _ _ us hl=>@len1 (fun us=>bindArgs _ ⟨us,[]⟩=pure (Ybm _ us)) us hl fun _=>rfl;have F20:=ZaD (st:=sPhT) l20 c20 k20;have b20:=F20.binds (ps:=["reels","phase","merged"]) fun _ _ _ _ _ _ us hl=>@len3 (fun us=>bindArgs _ ⟨us,[]⟩=pure (Ybm _ us)) us hl fun _ _ _=>rfl;have F21:=ZaD (st:=Za4) l21 c21 k21;have b21:=F21.binds (ps:=["p","reels"]) fun _ _ _ _ _ _ us hl=>@len2 (fun us=>bindArgs _ ⟨us,[]⟩=pure (Ybm _ us)) us hl fun _ _=>rfl;have F22:=ZaD (st:=Za2) l22 c22 k22;have b22:=F22.binds (ps:=["things","up"]) fun _ _ _ _ _ _ us hl=>@len2 (fun us=>bindArgs _ ⟨us,[]⟩=pure (Ybm _ us)) us hl fun _ _=>rfl;have F23:=ZaD (st:=ZgE) l23 c23 k23;have b23:=F23.binds (ps:=["script","k"]) fun _ _ _ _ _ _ us hl=>@len2 (fun us=>bindArgs _ ⟨us,[]⟩=pure (Ybm _ us)) us hl fun _ _=>rfl;have F24:=ZaD (st:=ZdF) l24 c24 k24;have b24:=F24.binds (ps:=["pot","many"]) fun _ _ _ _ _ _ us hl=>@len2 (fun us=>bindArgs _ ⟨us,[]⟩=pure (Ybm _ us)) us hl fun _ _=>rfl;have F25:=ZaD (st:=Zbm) l25 c25 k25;have b25:=F25.binds (ps:=["p","n"]) fun _ _ _ _ _ _ us hl=>@len2 (fun us=>bindArgs _ ⟨us,[]⟩=pure (Ybm _ us)) us hl fun _ _=>rfl;have F26:=ZaD (st:=Zcp) l26 c26 k26;have b26:=F26.binds (ps:=["p","reels"]) fun _ _ _ _ _ _ us hl=>@len2 (fun us=>bindArgs _ ⟨us,[]⟩=pure (Ybm _ us)) us hl fun _ _=>rfl;have F27:=ZaD (st:=Zb0) l27 c27 k27;have b27:=F27.binds (ps:=["pot","ups","turned"]) fun _ _ _ _ _ _ us hl=>@len3 (fun us=>bindArgs _ ⟨us,[]⟩=pure (Ybm _ us)) us hl fun _ _ _=>rfl;have F28:=ZaD (st:=sLaw) l28 c28 k28;refine⟨YaE "law" "law" (Zal sLaw) (Zaj sLaw) (Zac sLaw) .none kV28 dc28 pm28 an28 cd28 ct28,fun s v=>.of_eq rfl,fun base _ _=>?_⟩;have m:=fun {x:Str}{v:Value} (a:Yaz K mainGlobals x=some (some v))=>YeG X G a;have mLEAST_WAYS:=m y0;have mMOST_WAYS:=m y1;have mMOST_PLACES:=m y2;have mClash:=m exClash;have FIClash:=ZaD (st:=ZgF) liClash ciClash kiClash;have hbClash:=FIClash.binds (ps:=["self","at"]) fun _ _ _ _ _ _ us hl=>@len2 (fun us=>bindArgs _ ⟨us,[]⟩=pure (Ybm _ us)) us hl fun _ _=>rfl;have okClash:=ZkF (P:=l.prog) (w:=w) (mg:=mg) (base:=base) FIClash ezClash;have Cis_whole:Cal l.prog w K mg base 1 "is_whole" ["thing"] ZdY _ _:=⟨Zjb F0 T,m a0,k0,b0⟩
 have Ccheck_ways:Cal l.prog w K mg base 2 "check_ways" ["p"] ZdB _ _:=⟨Zkz F1 T mLEAST_WAYS mMOST_WAYS Cis_whole,m a1,k1,b1⟩
 have Ccheck_level:CalD l.prog w K mg base 2 "check_level" ["n","last"] [.int 300] ZcO _ _:=⟨Zjj F2 T Cis_whole,m a2,k2,⟨_,b2,.cons ⟨_,rfl⟩ (.nil)⟩⟩
 have Cfirst_counts:Cal l.prog w K mg base 1 "first_counts" ["p"] Zc0 _ _:=⟨Zjl F3 T,m a3,k3,b3⟩
 have Cnext_counts:Cal l.prog w K mg base 1 "next_counts" ["counts"] (ZeK K) _ _:=⟨ZkE F4 T,m a4,k4,b4⟩
 have Clevel_counts:Cal l.prog w K mg base 3 "level_counts" ["p","n"] Zd2 _ _:=⟨ZhP F5 T Ccheck_ways Ccheck_level Cfirst_counts Cnext_counts,m a5,k5,b5⟩
 have Clevel_total:Cal l.prog w K mg base 4 "level_total" ["p","n"] Zfo _ _:=⟨Zjc F6 T Clevel_counts,m a6,k6,b6⟩
 have Ccheck_total:Cal l.prog w K mg base 1 "check_total" ["total"] Zkf _ _:=⟨ZlJ F7 T mMOST_PLACES,m a7,k7,b7⟩
 have Ccheck_places:Cal l.prog w K mg base 5 "check_places" ["p","n"] Zd1 _ _:=⟨ZhL F8 T Clevel_total Ccheck_total,m a8,k8,b8⟩
 have Cmerged_row:Cal l.prog w K mg base 1 "merged_row" ["rows"] ZcN _ _:=⟨ZhN F9 T,m a9,k9,b9⟩
 have Cthings_in:Cal l.prog w K mg base 1 "things_in" ["rows"] Zkg _ _:=⟨Zjd F10 T,m a10,k10,b10⟩
 have Ctaken_at:Cal l.prog w K mg base 1 "taken_at" ["taken","at"] ZiR _ _:=⟨ZlK F11 T,m a11,k11,b11⟩
 have Clevel_phases:Cal l.prog w K mg base 3 "level_phases" ["p","n"] ZiU _ _:=⟨ZlN F12 T (Ya5 X G zenumerate) Ccheck_ways Ccheck_level Cfirst_counts Cnext_counts,m a12,k12,b12⟩
 have Cnext_turned:Cal l.prog w K mg base 1 "next_turned" ["numbers"] Zfr _ _:=⟨Zjh F13 T,m a13,k13,b13⟩
 have Cturned_numbers:Cal l.prog w K mg base 6 "turned_numbers" ["p","n"] Zhi _ _:=⟨ZkB F14 T Ccheck_places Cnext_turned,m a14,k14,b14⟩
 have Cturned_ups:Cal l.prog w K mg base 7 "turned_ups" ["p","n"] Zhh _ _:=⟨ZkA F15 T Cturned_numbers,m a15,k15,b15⟩
 have Clevel_with:Cal l.prog w K mg base 2 "level_with" ["p","counts"] (spLW K) _ _:=⟨ZlM F16 T Cfirst_counts Cnext_counts,m a16,k16,b16⟩
 have Ccopied_turned:Cal l.prog w K mg base 1 "copied_turned" ["row"] Zf3 _ _:=⟨ZkG F17 T,m a17,k17,b17⟩
 have Cmerged_turned:Cal l.prog w K mg base 2 "merged_turned" ["rows","at"] ZeL _ _:=⟨ZhM F18 T Cmerged_row,m a18,k18,b18⟩
 have CmrgE:CalE l.prog w K mg base 3 "merged_turned" ["rows","at"] [] (fun vs H Q E=>ZeL vs H Q E∨Zfs ecClash vs H Q E) _ _:=⟨FnOk.or ((FnOk.toE (ZhM F18 T Cmerged_row)).mono (by decide)) (Zji F18 T Cmerged_row mClash ezClash okClash hbClash),m a18,k18,[],b18,.nil⟩
 have Cthings_turned:Cal l.prog w K mg base 2 "things_turned" ["rows"] ZiS _ _:=⟨ZlL F19 T Cthings_in,m a19,k19,b19⟩
 have Cturned_phase:Cal l.prog w K mg base 3 "turned_phase" ["reels","phase","merged"] Zhl _ _:=⟨ZjT F20 T Cmerged_turned Ctaken_at Cthings_turned,m a20,k20,b20⟩
 have CphE:CalE l.prog w K mg base 4 "turned_phase" ["reels","phase","merged"] [] (fun vs H Q E=>Zhl vs H Q E∨Zhk ecClash vs H Q E) _ _:=⟨FnOk.or ((FnOk.toE (ZjT F20 T Cmerged_turned Ctaken_at Cthings_turned)).mono (by decide)) (ZkD F20 T CmrgE Ctaken_at Cthings_turned),m a20,k20,[],b20,.nil⟩
 have Ctp:CalE l.prog w K mg base 5 "turned_play" ["p","reels"] [] (fun vs H Q E=>Zfq K vs H Q E∨Zd0 K ecClash vs H Q E) _ _:=⟨FnOk.or ((FnOk.toE (Zjg F21 T Ccheck_ways Clevel_with Ccopied_turned Clevel_phases Cturned_phase)).mono (by decide)) (ZhK F21 T Ccheck_ways Clevel_with Ccopied_turned Clevel_phases CphE),m a21,k21,[],b21,.nil⟩
 have C_law_sorted:Cal l.prog w K mg base 1 "_law_sorted" ["things","up"] Zfp _ _:=⟨Zjf F22 T,m a22,k22,b22⟩
 have C_law_pot:Cal l.prog w K mg base 1 "_law_pot" ["script","k"] (Zhj K) _ _:=⟨ZkC F23 T,m a23,k23,b23⟩
 have C_law_take:Cal l.prog w K mg base 1 "_law_take" ["pot","many"] ZdZ _ _:=⟨Zje F24 T,m a24,k24,b24⟩
 have C_law_counts:Cal l.prog w K mg base 1 "_law_counts" ["p","n"] ZcZ _ _:=⟨ZgM F25 T,m a25,k25,b25⟩
 have C_law_told:Cal l.prog w K mg base 6 "_law_told" ["p","reels"] (ZcM K) _ _:=⟨ZhJ F26 T mClash ezClash esClash Ctp,m a26,k26,b26⟩
 have C_law_laid:Cal l.prog w K mg base 2 "_law_laid" ["pot","ups","turned"] ZcP _ _:=⟨ZhO F27 T C_law_sorted C_law_take,m a27,k27,b27⟩
 exact Zjk F28 T C_law_pot C_law_take C_law_counts Cturned_ups C_law_laid C_law_told
theorem walk {l:Ydo}{q:Program}{loose:List Str}{XP:(Str->Option Value)->Heap->Prop}{YP:World->Heap->Prop}{d:DefRec}{K:Params->Yad} (hn:l.most=some 63) (hdf:d.params.defaults=[])
  (hY:∀ (w:World) (h:Heap),YP w h->(K w.params).In h)
  (F:∀ (w:World) (mg:Str->Option Value) (fa:Addr) (h:Heap),(K w.params).In h->h.Ns mainGlobals mg->mg d.name=some (.ref fa) ->
   ∃ fd:FuncData,(∀ (s:Shared) (u:Value),BindsTo s fd ⟨[u],[]⟩ [("script",u)])/\∀ base:Heap,(K w.params).In base->base.Ns mainGlobals mg->FnOk l.prog w (K w.params) mg base CX0 8 fa fd ["script"] (ZiT (K w.params))) :
  YeH q loose XP YP l.row.toRowW d [] (fun f vs=>Yep f vs) :=
 L2.walk_of (n:=63) (k:=8) (x:="script") (CX:=fun _=>CX0) (sp:=fun w=>ZiT (K w.params)) hn (by decide) hdf ⟨rfl,by decide,by decide,rfl⟩ hY F (fun _ _ a ns hl _ hS=>⟨a,ns,rfl,hS,hl,fun _=>rfl⟩) fun _ _ _ _ _ z=>z
end Fi59
def PySem.W.Fast.tw6830287148942320098 : Unit := ()
def PySem.W.Fast.tw5251790068188031075 : Unit := ()
def PySem.W.Fast.tw10818478129963017784 : Unit := ()
def PySem.W.Fast.tw8950712185037145543 : Unit := ()
def PySem.W.Fast.tw14949820892878895438 : Unit := ()
def PySem.W.Fast.tw9695387006413236117 : Unit := ()
def PySem.W.Fast.tw8639540790028910671 : Unit := ()
def PySem.W.Fast.tw12336685911724417257 : Unit := ()
def PySem.W.Fast.tw7461582757831847518 : Unit := ()
def PySem.W.Fast.tw15343235326119799159 : Unit := ()
def PySem.W.Fast.tw16431138918773505775 : Unit := ()
def PySem.W.Fast.tw204754326833456783 : Unit := ()
def PySem.W.Fast.tw889893481187332264 : Unit := ()
def PySem.W.Fast.tw10263187851469522052 : Unit := ()
def PySem.W.Fast.tw14792963312656337624 : Unit := ()
def PySem.W.Fast.tw17212631598715123959 : Unit := ()
def PySem.W.Fast.tw18131357038608386520 : Unit := ()
def PySem.W.Fast.tw15079940669244516367 : Unit := ()
def PySem.W.Fast.tw14635523539569190975 : Unit := ()
def PySem.W.Fast.tw16705255449932450252 : Unit := ()
def PySem.W.Fast.tw163673299848604811 : Unit := ()
def PySem.W.Fast.tw7851371478781938538 : Unit := ()
def PySem.W.Fast.tw6108811077002419575 : Unit := ()
def PySem.W.Fast.tw10784591027303506013 : Unit := ()
def PySem.W.Fast.tw4100267185790644737 : Unit := ()
def PySem.W.Fast.tw15163152316759807315 : Unit := ()
def PySem.W.Fast.tw2253902243739940020 : Unit := ()
def PySem.W.Fast.tw8470294020147929457 : Unit := ()
def PySem.W.Fast.tw1154314276220089173 : Unit := ()
def PySem.W.Fast.tw3882456448464804471 : Unit := ()
def PySem.W.Fast.tw5537288863232904470 : Unit := ()
def PySem.W.Fast.tw3334831932196791543 : Unit := ()
def PySem.W.Fast.tw4497102143104302001 : Unit := ()
def PySem.W.Fast.tw10186910608407140015 : Unit := ()
def PySem.W.Fast.tw16954509646321498131 : Unit := ()
def PySem.W.Fast.tw8812053781058938636 : Unit := ()
def PySem.W.Fast.tw17582466014743530665 : Unit := ()
def PySem.W.Fast.tw16844305668442022325 : Unit := ()
def PySem.W.Fast.tw2422346689535752983 : Unit := ()
def PySem.W.Fast.tw10721397836870744715 : Unit := ()
def PySem.W.Fast.tw2922040501162010818 : Unit := ()
def PySem.W.Fast.tw9222754671416177487 : Unit := ()
def PySem.W.Fast.tw4395372789356246904 : Unit := ()
def PySem.W.Fast.tw3051938583360399393 : Unit := ()
def PySem.W.Fast.tw12562814672053054010 : Unit := ()
def PySem.W.Fast.tw13483443653154114924 : Unit := ()
def PySem.W.Fast.tw3380432139440239121 : Unit := ()
def PySem.W.Fast.tw12446474106089959713 : Unit := ()
def PySem.W.Fast.tw17237331466887777578 : Unit := ()
def PySem.W.Fast.tw2077621664307129607 : Unit := ()
def PySem.W.Fast.tw7376529115262266313 : Unit := ()
def PySem.W.Fast.tw12769358673960778405 : Unit := ()
def PySem.W.Fast.tw9600589328703674513 : Unit := ()
def PySem.W.Fast.tw13129638672630464850 : Unit := ()
def PySem.W.Fast.tw928074576562123769 : Unit := ()
def PySem.W.Fast.tw11170201182784618086 : Unit := ()
def PySem.W.Fast.tw8962880437821521623 : Unit := ()
def PySem.W.Fast.tw12659559140904774502 : Unit := ()
def PySem.W.Fast.tw8518034484571988901 : Unit := ()
def PySem.W.Fast.tw8362339997962441571 : Unit := ()
def PySem.W.Fast.tw5980275041164003723 : Unit := ()
def PySem.W.Fast.tw16473815660542733210 : Unit := ()
def PySem.W.Fast.tw10370160609763412012 : Unit := ()
def PySem.W.Fast.tw2689580128155613350 : Unit := ()
def PySem.W.Fast.tw6232871459180595223 : Unit := ()
def PySem.W.Fast.tw14708353033619053227 : Unit := ()
def PySem.W.Fast.tw14917121216712763902 : Unit := ()
def PySem.W.Fast.tw1996801624061406314 : Unit := ()
def PySem.W.Fast.tw992550034443601630 : Unit := ()
def PySem.W.Fast.tw16717693623192826828 : Unit := ()
def PySem.W.Fast.tw8331384581121739896 : Unit := ()
def PySem.W.Fast.tw5368708374505843532 : Unit := ()
def PySem.W.Fast.tw17580459010129631648 : Unit := ()
def PySem.W.Fast.tw13998428633824252290 : Unit := ()
def PySem.W.Fast.tw13479885795818957861 : Unit := ()
def PySem.W.Fast.tw6809300307540576397 : Unit := ()
def PySem.W.Fast.tw2870886594882221618 : Unit := ()
def PySem.W.Fast.tw11460799624645836489 : Unit := ()
def PySem.W.Fast.tw5983479331777901388 : Unit := ()
def PySem.W.Fast.tw11879429294210540118 : Unit := ()
def PySem.W.Fast.tw17357505124444678862 : Unit := ()
def PySem.W.Fast.tw11877624497816833926 : Unit := ()
def PySem.W.Fast.tw13118707393437617930 : Unit := ()
def PySem.W.Fast.tw4446893783205697551 : Unit := ()
def PySem.W.Fast.tw4983561715839568114 : Unit := ()
def PySem.W.Fast.tw16879588767373711482 : Unit := ()
def PySem.W.Fast.tw13917270749530273462 : Unit := ()
def PySem.W.Fast.tw2032386976903473295 : Unit := ()
def PySem.W.Fast.tw14334831345600712916 : Unit := ()
def PySem.W.Fast.tw11389691091315636063 : Unit := ()
def PySem.W.Fast.tw1685505263570347790 : Unit := ()
def PySem.W.Fast.tw12336728141210773265 : Unit := ()
def PySem.W.Fast.tw8151063128560210897 : Unit := ()
def PySem.W.Fast.tw7691092659931234092 : Unit := ()
def PySem.W.Fast.tw16877491366875926179 : Unit := ()
def PySem.W.Fast.tw3652345914079085825 : Unit := ()
def PySem.W.Fast.tw3114756862243863443 : Unit := ()
def PySem.W.Fast.tw14751531897275276750 : Unit := ()
def PySem.W.Fast.tw17084069786179920423 : Unit := ()
def PySem.W.Fast.tw15386222114894001426 : Unit := ()
def PySem.W.Fast.tw1360756510466402683 : Unit := ()
def PySem.W.Fast.tw1649315252596996705 : Unit := ()
def PySem.W.Fast.tw12787008103591577200 : Unit := ()
def PySem.W.Fast.tw15726559348075950283 : Unit := ()
def PySem.W.Fast.tw1558505541458984575 : Unit := ()
def PySem.W.Fast.tw9208679369840965718 : Unit := ()
def PySem.W.Fast.tw7978121860868805122 : Unit := ()
def PySem.W.Fast.tw6959541812245463514 : Unit := ()
def PySem.W.Fast.tw15740015390531684196 : Unit := ()
def PySem.W.Fast.tw16523428881866965850 : Unit := ()
def PySem.W.Fast.tw9122273703194024808 : Unit := ()
def PySem.W.Fast.tw1501587476403038685 : Unit := ()
def PySem.W.Fast.tw11650826720258712249 : Unit := ()
def PySem.W.Fast.tw1092287126168103416 : Unit := ()
def PySem.W.Fast.tw14515464360007780807 : Unit := ()
def PySem.W.Fast.tw8544764242553996759 : Unit := ()
def PySem.W.Fast.tw10307079684148493947 : Unit := ()
def PySem.W.Fast.tw2485756815527143496 : Unit := ()
def PySem.W.Fast.tw1825265077575742315 : Unit := ()
def PySem.W.Fast.tw11466084580568947881 : Unit := ()
def PySem.W.Fast.tw16646047769593568672 : Unit := ()
def PySem.W.Fast.tw17808198557234015409 : Unit := ()
def PySem.W.Fast.tw4197670558850794503 : Unit := ()
def PySem.W.Fast.tw8606160902488828912 : Unit := ()
def PySem.W.Fast.tw2760592542745237000 : Unit := ()
def PySem.W.Fast.tw8573911587034359986 : Unit := ()
def PySem.W.Fast.tw2340351766015571781 : Unit := ()
def PySem.W.Fast.tw11995193047722577116 : Unit := ()
def PySem.W.Fast.tw4514514782682304685 : Unit := ()
def PySem.W.Fast.tw3627322333513942568 : Unit := ()
def PySem.W.Fast.tw11150138414331589805 : Unit := ()
def PySem.W.Fast.tw1630335952779880921 : Unit := ()
def PySem.W.Fast.tw3850167200497029746 : Unit := ()
def PySem.W.Fast.tw17933684559114966724 : Unit := ()
def PySem.W.Fast.tw2053047461199985269 : Unit := ()
def PySem.W.Fast.tw871999583705271925 : Unit := ()
def PySem.W.Fast.tw6793990872540441247 : Unit := ()
def PySem.W.Fast.tw4773410722481904302 : Unit := ()
def PySem.W.Fast.tw13522791280135621751 : Unit := ()
def PySem.W.Fast.tw14602894765888296069 : Unit := ()
def PySem.W.Fast.tw13022639232685604309 : Unit := ()
def PySem.W.Fast.tw18379585022785086382 : Unit := ()
def PySem.W.Fast.tw3727368772408137431 : Unit := ()
def PySem.W.Fast.tw12503108133262835268 : Unit := ()
open PySem PySem.W PyProof.Rows
set_option maxRecDepth 100000 in
set_option maxHeartbeats 0 in
theorem PySem.Challenge.cw_fewreels_k59_whole_just_two_ways_holds : PySem.Challenge.rw_fewreels_k59_whole_just_two_ways.Holds := by
  w_on; o_law; k_head; (case hw => w_witness2)
  k_fill
  refine Fi59.walk (l := PySem.Challenge.rw_fewreels_k59_whole_just_two_ways) rfl rfl (fun w h Y => PySem.W.kIn_of Y) ?F
  case F =>
    intro w mg fa h KX G hmg
    refine' Fi59.all_mk KX G hmg ?a0 ?l0 ?c0 ?k0 ?a1 ?l1 ?c1 ?k1 ?a2 ?l2 ?c2 ?k2 ?d2 ?a3 ?l3 ?c3 ?k3 ?a4 ?l4 ?c4 ?k4 ?a5 ?l5 ?c5 ?k5 ?a6 ?l6 ?c6 ?k6 ?a7 ?l7 ?c7 ?k7 ?a8 ?l8 ?c8 ?k8 ?a9 ?l9 ?c9 ?k9 ?a10 ?l10 ?c10 ?k10 ?a11 ?l11 ?c11 ?k11 ?a12 ?l12 ?c12 ?k12 ?a13 ?l13 ?c13 ?k13 ?a14 ?l14 ?c14 ?k14 ?a15 ?l15 ?c15 ?k15 ?a16 ?l16 ?c16 ?k16 ?a17 ?l17 ?c17 ?k17 ?a18 ?l18 ?c18 ?k18 ?a19 ?l19 ?c19 ?k19 ?a20 ?l20 ?c20 ?k20 ?a21 ?l21 ?c21 ?k21 ?a22 ?l22 ?c22 ?k22 ?a23 ?l23 ?c23 ?k23 ?a24 ?l24 ?c24 ?k24 ?a25 ?l25 ?c25 ?k25 ?a26 ?l26 ?c26 ?k26 ?a27 ?l27 ?c27 ?k27 ?a28 ?l28 ?c28 ?k28 ?y0 ?y1 ?y2 ?exClash ?aiClash ?liClash ?ciClash ?kiClash ?ezClash ?esClash ?z0 ?z1 ?z2 ?z3 ?z4 ?z5 ?z6 ?z7 ?z8 ?z9 ?z10 ?z11 ?z12 ?zenumerate
    (case a0 => k_is); (case l0 => k_is); (case c0 => k_is); (case k0 => k_is); (case a1 => k_is); (case l1 => k_is)
    (case c1 => k_is); (case k1 => k_is); (case a2 => k_is); (case l2 => k_is); (case c2 => k_is); (case k2 => k_is)
    (case d2 => k_is); (case a3 => k_is); (case l3 => k_is); (case c3 => k_is); (case k3 => k_is); (case a4 => k_is)
    (case l4 => k_is); (case c4 => k_is); (case k4 => k_is); (case a5 => k_is); (case l5 => k_is); (case c5 => k_is)
    (case k5 => k_is); (case a6 => k_is); (case l6 => k_is); (case c6 => k_is); (case k6 => k_is); (case a7 => k_is)
    (case l7 => k_is); (case c7 => k_is); (case k7 => k_is); (case a8 => k_is); (case l8 => k_is); (case c8 => k_is)
    (case k8 => k_is); (case a9 => k_is); (case l9 => k_is); (case c9 => k_is); (case k9 => k_is); (case a10 => k_is)
    (case l10 => k_is); (case c10 => k_is); (case k10 => k_is); (case a11 => k_is); (case l11 => k_is); (case c11 => k_is)
    (case k11 => k_is); (case a12 => k_is); (case l12 => k_is); (case c12 => k_is); (case k12 => k_is); (case a13 => k_is)
    (case l13 => k_is); (case c13 => k_is); (case k13 => k_is); (case a14 => k_is); (case l14 => k_is); (case c14 => k_is)
    (case k14 => k_is); (case a15 => k_is); (case l15 => k_is); (case c15 => k_is); (case k15 => k_is); (case a16 => k_is)
    (case l16 => k_is); (case c16 => k_is); (case k16 => k_is); (case a17 => k_is); (case l17 => k_is); (case c17 => k_is)
    (case k17 => k_is); (case a18 => k_is); (case l18 => k_is); (case c18 => k_is); (case k18 => k_is); (case a19 => k_is)
    (case l19 => k_is); (case c19 => k_is); (case k19 => k_is); (case a20 => k_is); (case l20 => k_is); (case c20 => k_is)
    (case k20 => k_is); (case a21 => k_is); (case l21 => k_is); (case c21 => k_is); (case k21 => k_is); (case a22 => k_is)
    (case l22 => k_is); (case c22 => k_is); (case k22 => k_is); (case a23 => k_is); (case l23 => k_is); (case c23 => k_is)
    (case k23 => k_is); (case a24 => k_is); (case l24 => k_is); (case c24 => k_is); (case k24 => k_is); (case a25 => k_is)
    (case l25 => k_is); (case c25 => k_is); (case k25 => k_is); (case a26 => k_is); (case l26 => k_is); (case c26 => k_is)
    (case k26 => k_is); (case a27 => k_is); (case l27 => k_is); (case c27 => k_is); (case k27 => k_is); (case a28 => k_is)
    (case l28 => k_is); (case c28 => k_is); (case k28 => k_is); (case y0 => k_is); (case y1 => k_is); (case y2 => k_is)
    (case exClash => k_is); (case aiClash => k_is); (case liClash => k_is); (case ciClash => k_is); (case kiClash => k_is); (case z0 => k_is)
    (case z1 => k_is); (case z2 => k_is); (case z3 => k_is); (case z4 => k_is); (case z5 => k_is); (case z6 => k_is)
    (case z7 => k_is); (case z8 => k_is); (case z9 => k_is); (case z10 => k_is); (case z11 => k_is); (case z12 => k_is)
    (case zenumerate => k_is)
    (case ezClash => with_unfolding_all rfl)
    (case esClash => with_unfolding_all rfl)
