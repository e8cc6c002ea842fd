import PyProof.Rows.All
import Wide.All
import OpenK.AllK
import Wide.FinOn
import Lean
import PyProof.EqAt
import PyProof.EqKinds
import PyProof.TupleCall
import PyProof.NeKinds
import PyProof.Draws
import PyProof.SumWalkG
import PyProof.ListRange
import PyProof.ZipIter
import PyProof.Rows.SortRev
import KE.IntBitsLaws
import PyProof.ListMulRoad
import PyProof.TupleKey
import PyProof.StationsW
import PyProof.RulesAs
import PyProof.NsDelKeeps
import PyProof.Rows.Own
import PyProof.Rows.Catch
import KE.KTryMore
import KE.KIsNot
import OpenK.KDescr
import PyProof.ExcAttrAll.ValueError
import PyProof.FString
import KE.KItemsList
import KE.KPairComp
import PyProof.DictWalks
import PyProof.Rows.SortShellK
import KE.KSortTup
import KE.KDictSum
import PyProof.ReprRoads
import PyProof.ReprLen
import PyProof.CallStr
import PyProof.Rows.RuleIs
import PyProof.Rows.SeqMore2
import KE.KRevIter
import PyProof.StrLawsRepr
import PyProof.RulesTry
import PyProof.InstStoreFacts
import OpenK.KMake
import PyProof.FactsAll.range_2
import PyProof.RangeFor
import PyProof.Rows.TupAdd
import PyProof.Rows.StrJoin2
import PyProof.Rows.Range3
import PyProof.Rows.SetFrom
import PyProof.WalksMore
import PySem.Challenge.RW_fewreels_k36_placings_read
open PySem.Heap renaming get?_push_of_some → Yaa, lt_size → Yag, get?_push_size → Yam, size_push → YaI, SameBut → YbM, get?_update_self → Ycn, IsTuple → Yco, ExtBut → Ycy, IsList → Yc3, get?_update_other → Ydr
open PySem.W renaming Frag → Yab, nsIn → Yaj, keepIn → Yak, codeIn → Yan, fnOf → Yao, mg_none_of → YaE, kia_one → Ya5, kitOne → Yb0, findIn → Yb1, kia_tup → Ycc, methodObj → YcC, kitx_list → YcD, instObj → YcO, OpenLaw → YcP, lookIn → YcS, kitAny → YcT, cellsFrom_some → Ydb, kitx_tuple → Ydt, callWith_K → Ydu, specialIn → YdC, kitx_dict → YdD, kitx_bool → YdE, plainGet → YdK, kitx_int → YdL, mg_of → Yd6, WalkO → Yd7
open List renaming getElem?_eq_getElem → Yac, length_map → Yad, size_toArray → Yae, getElem?_eq_some_iff → Yaf, getElem?_map → Yai, replicate → Yal, length_append → Yap, mem_cons → Yar, mem_of_getElem? → Yav, getD_eq_getElem?_getD → Yaw, map_append → Yax, length_take → Yay, mem_append → YaA, map_cons → YaK, range → YaL, mem_cons_of_mem → YaM, mem_map → YaN, mem_range → YaO, getElem?_append_left → YaP, take_length → YaR, mem_singleton → YaU, mem_cons_self → YaV, mem_append_right → YaW, not_mem_nil → YaZ, zip → Ya0, length_drop → Ya2, getElem_of_mem → Ya3, length_cons → Ya7, getElem?_append_right → Yba, take_of_length_le → Ybb, take_add_one → Ybd, take_append_drop → Ybg, lookup_cons → Ybi, getElem_mem → Ybj, filterMap_cons → Ybn, getElem?_set_ne → Ybr, length_range → Ybs, sum_cons → Ybw, length_replicate → Ybz, replicate_succ → YbJ, length → YbK, getElem?_replicate → YbN, take_succ_eq_append_getElem → YbP, flatten_replicate_singleton → YbQ, pairwise_map → YbR, flatten_cons → YbS, nodup_cons → YbY, nodup_iff_pairwise_ne → Yb3, mem_replicate → Yb4, filterMap_map → Yb5, getD → Yb9, nodup_range → Ycd, all_eq_true → Yce, zipWith → Ycm, mem_of_mem_take → Ycs, mem_append_left → Yct, map_congr_left → Ycv, length_reverse → Ycw, getElem?_range → Ycx, pairwise_cons → YcE, mem_filterMap → YcF, reverse_cons → YcM, nodup_append → YcN, dropLast_concat_getLast → YcV, sum_append → YcY, of_mem_zip → YcZ, nil_append → Yc0, forIn_cons → Yc1, append_nil → Yc2, perm_ext_iff_of_nodup → Yc9, perm_append_singleton → Yda, nodup_nil → Ydd, getElem?_zip_eq_some → Yde, getElem?_eq_none_iff → Ydf, map_take → Ydm, map_drop → Ydn, getElem?_set_self → Ydq, mem_iff_getElem? → Ydx, map_nil → Ydy, getElem?_eq_none → Ydz, pairwise_append → YdG, mem_of_mem_drop → YdH, dropLast_concat → YdI, length_zipWith → YdM, length_flatten → YdN, take_sublist → Yd2, getElem_drop → Yd3, foldl → Yd4, append_assoc → Yd5, zipIdx_cons → Yd8, ext_getElem → Yd9, drop_length → Yea, cons_ne_nil → Yeb
open Nat renaming le_refl → Yah, lt_of_lt_of_le → Yaq, ne_of_lt → Yat, zero_le → YaX, le_trans → Ya4, lt_irrefl → Ya6, lt_succ_self → Ya8, le_of_lt → Ya9, lt_succ_of_lt → Ybm, ne_of_gt → Ybp, not_lt_zero → Ybt, lt_or_ge → Ybv, le_add_right → YbW, lt_of_le_of_lt → Yb7, add_zero → YcQ, min_eq_right → YcU, min_eq_left → Yc8, mod_lt → Ydl, div_div_eq_div_mul → Ydw, succ_pos → YdF, le_succ → YdT, add_le_add_left → YdU
open Array renaming length_toList → Yas, getElem?_eq_getElem → YaB, getElem?_toList → YaD, getElem?_eq_some_iff → YaH, getD → Ybh, mem_toList_iff → Ycq, getElem?_replicate → Ydi, forIn_toList → YdP
open Bool renaming false_ne_true → Yau, false_eq_true → YaG, eq_iff_iff → YbZ, not_true → Ycb, and_eq_true → Ycf
open Option.some renaming inj → Yaz
open PySem.Value renaming ref → YaC, none → Ybq, type → YbB, bool → Ycl, int → YcB, str → YcR, isInt → YdB
open PySem.Builtin.SmallTypes renaming nextOf → YaF, ownedTupleIsFree → Ybf, ownedTupleHandOut → Yb2
open Or renaming inl → YaJ, inr → Ycj
open PySem.PyData renaming depthAll → YaQ, int → Yb6, depth → Ydj
open Int renaming toNat_natCast → YaS, emod_nonneg → YaT, emod_lt_of_pos → YaY, toNat → YcJ, fdiv_eq_ediv_of_nonneg → Ydg, le_refl → YdV
open PySem.Builtin.Int renaming intBits → Ya1
open PySem renaming mem_of_lookup → Ybc, boot_len → Ybe, call → YdS
open PySem.F renaming plainAttrs_list → Ybk, type_list_append → YbF, slot_list_append → YbG, args_tuple_add_2 → YcX, entry_tuple_add → Yc7, slot_tuple_add → Ydc
open PySem.PassesOwn renaming never → Ybl
open PySem.SetTable.probe renaming go → Ybo
open PyProof.Rows renaming callWith_type1 → Ybu, slot_tuple_getitem → YbI
open PySem.Builtin.Slice renaming slicePlaces → Ybx, sliceAdjust → YbV, sliceApplied → Ycz
open PySem.NameKind renaming free → Yby, cell → Yd1
open PySem.Builtin.Tuple renaming tupleExact → YbA
open PySem.Builtin.List renaming listTooLong → YbC, listSubscript? → YcA, listAllItems → YcH, listSameRef → YcK
open PySem.AutoSeq1 renaming wpAny_loadPart' → YbD
open PySem.Shared renaming heap → YbE
open ForInStep renaming yield → YbH
open False renaming elim → YbL
open Ne renaming symm → YbO
open PySem.Heap.SameBut renaming update → YbT
open PySem.Str renaming ofString → YbU, empty → YcI
open Decidable renaming byContradiction → YbX
open True renaming intro → Yb8
open PySem.Heap.IsSliceOf renaming new → Yca
open PySem.Builtin.Frozenset renaming updateFrom → Ycg
open PySem.SetTable renaming fresh → Ych, fill → YcW, slot → YdX, fits → YdY
open PySem.W.KFB renaming if_not → Yci
open List.Pairwise renaming nil → Yck, imp_of_mem → YcG
open List.cons renaming inj → Ycp
open PySem.Obj renaming mapSeq → Ycr, putSet → Ydk, data_mapFields → Yd0
open Option renaming toList_some → Ycu, getD_none → YcL, map_some → YdZ
open PySem.Calls renaming Name_function_global → Yc4, callWith_builtin → Ydp
open Sum renaming inr → Yc5, inl → Yc6
open PySem.Heap.IsTuple renaming push → Ydh
open PySem.Heap.IsList renaming push → Ydo
open PySem.Around renaming under_plainId → Yds, under_plain → YdJ
open PySem.IsL renaming isList → Ydv
open PySem.SeqAt.EqAt renaming same → YdA
open List.Perm renaming swap → YdO
open PySem.Walks renaming list → YdQ
open PySem.SetFound renaming there → YdR
open PySem.Code renaming quiet_builtin → YdW
set_option Elab.async false
set_option linter.all false
set_option maxRecDepth 100000
namespace L2
open PySem PySem.Spec PyProof.Rows
abbrev Key:=Sum Int Str
def Ziz:Key->Value->Bool
 | .inl k,v=>YdB k v
 | .inr x,v=>Value.isStrOf x v
def keyH (w:World):Key->Int
 | .inl k=>hashInt k
 | .inr x=>hashStr w x
theorem Zaz:∀ {k:Key}{v:Value},Ziz k v=true->(∃ i t,k=Yc6 i/\v=YcB i t)∨(∃ x t,k=Yc5 x/\v=YcR x t)
 | .inl i,v,h=>by
  obtain⟨t,e⟩:=Value.isInt_shape (k:=i) (v:=v) h;exact .inl ⟨i,t,rfl,e⟩
 | .inr x,v,h=>by
  obtain⟨t,e⟩:=Value.isStrOf_shape (x:=x) (v:=v) h;exact .inr ⟨x,t,rfl,e⟩
theorem Ziy (a b:Int):decide ((Yc6 a:Key)=Yc6 b)=(a == b):=by
 by_cases e:a=b
 ·subst e;simp
 ·have h:¬ (Yc6 a:Key)=Yc6 b:=fun q=>e (Sum.inl.inj q);rw[decide_eq_false h];exact (beq_eq_false_iff_ne.mpr e).symm
theorem Ziv (a b:Str):decide ((Yc5 a:Key)=Yc5 b)=decide (a=b):=by
 by_cases e:a=b
 ·subst e;simp
 ·have h:¬ (Yc5 a:Key)=Yc5 b:=fun q=>e (Sum.inr.inj q);rw[decide_eq_false h,decide_eq_false e]
theorem Zix (a:Int) (b:Str):decide ((Yc6 a:Key)=Yc5 b)=false:=decide_eq_false (fun q=>nomatch q)
theorem Ziw (a:Str) (b:Int):decide ((Yc5 a:Key)=Yc6 b)=false:=decide_eq_false (fun q=>nomatch q)
def Zfp (prog:Program) (w:World):PySem.KeyKind prog w Key where
 is:=Ziz
 hash:=keyH w
 inj:=fun v a b ha hb=>by
  rcases Zaz ha with ⟨i,t,rfl,rfl⟩ | ⟨x,t,rfl,rfl⟩
  ·rcases Zaz hb with ⟨j,u,rfl,e⟩ | ⟨y,u,rfl,e⟩
   ·injection e with e1 _;rw[e1]
   ·exact nomatch e
  ·rcases Zaz hb with ⟨j,u,rfl,e⟩ | ⟨y,u,rfl,e⟩
   ·exact nomatch e
   ·injection e with e1 _;rw[e1]
 byValue:=fun k v h=>by
  rcases Zaz h with ⟨i,t,rfl,rfl⟩ | ⟨x,t,rfl,rfl⟩ <;> rfl
 pyHash:=fun hv h=>by
  rcases Zaz hv with ⟨i,t,rfl,rfl⟩ | ⟨x,t,rfl,rfl⟩
  ·exact wpAny_pyHash_int h
  ·exact wpAny_pyHash_str h
 eqBool:=fun hu hv h=>by
  rcases Zaz hu with ⟨i,t,rfl,rfl⟩ | ⟨x,t,rfl,rfl⟩
  ·rcases Zaz hv with ⟨j,u,rfl,rfl⟩ | ⟨y,u,rfl,rfl⟩
   ·rw[Ziy] at h;exact wpAny_eqBool_int h
   ·rw[Zix] at h;exact SeqAt.EqAt.int_str i t y u _ _ _ _ h
  ·rcases Zaz hv with ⟨j,u,rfl,rfl⟩ | ⟨y,u,rfl,rfl⟩
   ·rw[Ziw] at h;exact SeqAt.EqAt.str_int x t j u _ _ _ _ h
   ·rw[Ziv] at h;exact wpAny_eqBool_str h
 «strs»:=fun k x t v h=>by
  rcases Zaz h with ⟨i,u,rfl,e⟩ | ⟨y,u,rfl,e⟩
  ·exact nomatch e
  ·injection e with e1 _;subst e1;cases v <;> rfl
end L2
namespace L2
open PySem PySem.Spec PyProof.Rows
inductive V where
 | non | bl (b:Bool) | int (i:Int) | str (x:Str) | byt (b:Array UInt8) | flt (b:UInt64) | ref (a:Addr) | ty (n:String)
 deriving DecidableEq
def RelV:V->Value->Prop
 | .non,u=>u=Ybq
 | .bl b,u=>u=Ycl b
 | .int i,u=>∃ t,u=YcB i t
 | .str x,u=>∃ t,u=YcR x t
 | .byt b,u=>∃ t,u=Value.bytes b t
 | .flt b,u=>∃ t,u=Value.float b t
 | .ref a,u=>u=YaC a
 | .ty n,u=>u=YbB n
abbrev Vals:List V->List Value->Prop:=Paired RelV
theorem Vals.length {xs:List V}{us:List Value} (r:Vals xs us):xs.length=us.length:=Paired.length r
theorem Vals.get:∀ {xs:List V}{us:List Value}{i:Nat}{x:V},Vals xs us->xs[i]?=some x->∃ u,us[i]?=some u/\RelV x u
 | _,_,_,_,.nil,e=>by simp at e
 | _,_,0,_,.cons r _,e=>by simp at e;subst e;exact⟨_,rfl,r⟩
 | _,_,i+1,x,.cons _ t,e=>by
  obtain⟨u,h1,h2⟩:=Vals.get (i:=i) (x:=x) t (by simpa using e);exact⟨u,by simpa using h1,h2⟩
theorem Vals.set {x:V}{u:Value} (r:RelV x u):∀ {xs:List V}{us:List Value} (i:Nat),Vals xs us->Vals (xs.set i x) (us.set i u)
 | _,_,_,.nil=>.nil
 | _,_,0,.cons _ t=>.cons r t
 | _,_,i+1,.cons q t=>.cons q (Vals.set r i t)
theorem Vals.append:∀ {xs ys:List V}{us ws:List Value},Vals xs us->Vals ys ws->Vals (xs++ys) (us++ws)
 | _,_,_,_,.nil,s=>s
 | _,_,_,_,.cons r t,s=>.cons r (Vals.append t s)
theorem Vals.take:∀ {xs:List V}{us:List Value} (n:Nat),Vals xs us->Vals (xs.take n) (us.take n)
 | _,_,0,_=>.nil
 | _,_,_+1,.nil=>.nil
 | _,_,n+1,.cons r t=>.cons r (Vals.take n t)
theorem Vals.drop:∀ {xs:List V}{us:List Value} (n:Nat),Vals xs us->Vals (xs.drop n) (us.drop n)
 | _,_,0,r=>r
 | _,_,_+1,.nil=>.nil
 | _,_,n+1,.cons _ t=>Vals.drop n t
theorem Vals.none_of:∀ {xs:List V}{us:List Value}{i:Nat},Vals xs us->xs[i]?=none->us[i]?=none:=fun {xs us i} r e=>by
 have h1:=r.length;have h2:xs.length<=i:=Ydf.mp e;exact Ydf.mpr (by omega)
def RelO:Option V->Option Value->Prop
 | some v,some u=>RelV v u
 | none,none=>True
 | _,_=>False
def KV {κ:Type}:List (κ × V)->List (κ × Value)->Prop:=Paired fun (p:κ × V) (q:κ × Value)=>p.1=q.1/\RelV p.2 q.2
def kV:Key->V
 | .inl i=>.int i
 | .inr x=>.str x
inductive HO where
 | lst (xs:List V)
 | tup (xs:List V)
 | dK (kvs:List (Key × V)) | dT (kvs:List (List Key × V))
 | set (S:Int->Bool) (n:Nat)
 | ins (C dx:Addr) (fs:List (Str × V))
 | own (x:Addr)
 | xd (fs:List (Str × V))
 | met (f x:Addr)
 | rng (lo hi:Int)
 | frz (o:Obj) (u:HO)
 | tbl (ps:Array Value)
 | ext (φ:Heap->Prop)
abbrev Hp:=Addr->Option HO
def upd (H:Hp) (a:Addr) (o:HO):Hp:=fun b=>if b=a then some o else H b
theorem Zab {H:Hp}{a:Addr}{o:HO}:upd H a o a=some o:=by unfold upd;rw[if_pos rfl]
theorem Zah {H:Hp}{a b:Addr}{o:HO} (h:b≠a):upd H a o b=H b:=by unfold upd;rw[if_neg h]
theorem Zag {H:Hp}{a b:Addr}{o:HO} (h:H a=some o) (h':H b=none):a≠b:=by
 intro e;subst e;rw[h] at h';cases h'
def IsTupD (h:Heap) (a:Addr) (items:Array Value):Prop:=∃ o,h.get? a=some o/\o.cls=.type "tuple"/\o.dict=none/\∃ n,o.data=.seq items n
theorem IsTupD.tup {h:Heap}{a:Addr}{items:Array Value} (x:IsTupD h a items):IsTup h a items:=let ⟨o,e,c,_,d⟩:=x;⟨o,e,c,d⟩
theorem IsTupD.new (h:Heap) (items:Array Value):IsTupD (h.push { cls:=.type "tuple",data:=.seq items }) h.objs.size items:=⟨_,Yam _ rfl,rfl,rfl,_,rfl⟩
section
variable (P:Program) (w:World)
def ObjOk (H:Hp) (h:Heap) (a:Addr):HO->Prop
 | .lst xs=>xs.length<=sizeLine/\∃ (its:List Value) (n:Nat),Vals xs its/\h.get? a=some { cls:=.type "list",data:=.seq its.toArray n }
 | .tup xs=>xs.length<=sizeLine/\∃ its:List Value,Vals xs its/\IsTupD h a its.toArray
 | .dK kvs=>kvs.length<=sizeLine/\(a == sysModules)=false/\∃ vs,KV kvs vs/\h.DictOf (Zfp P w) a vs
 | .dT kvs=>kvs.length<=sizeLine/\(a == sysModules)=false/\∃ xs:List (List Key × Addr × Value),
   Paired (fun (p:List Key × V) (q:List Key × Addr × Value)=>p.1=q.1/\H q.2.1=some (.tup (p.1.map kV))/\RelV p.2 q.2.2) kvs xs /\
   ∃ o es ep,h.get? a=some o/\o.ExactDict/\o.data=.dict es ep/\es.toList=xs.map (entryOfKey (tupleKind (Zfp P w)))/\(xs.map (·.1)).Nodup
 | .set S n=>h.SetOf (intKind P w) a S n
 | .ins C dx fs=>H dx=some (.own a)/\fs.length<=1000/\dx≠a/\h.get? a=some (YcO C dx) /\
   ∃ mA,h.Ns1 dx mA/\(∀ f,RelO (fs.lookup f) (mA f))/\PySem.Within mA (fs.map (·.1))
 | .own _=>∃ o,h.get? a=some o
 | .xd fs=>∃ mA,h.Ns1 a mA/\∀ f,RelO (fs.lookup f) (mA f)
 | .rng lo hi=>∃ t u v,h.get? a=some { cls:=.type "range",data:=.fields #[.int lo t,.int hi u,.int 1 v] }
 | .frz o u=>h.get? a=some o/\ObjOk H h a u
 | .tbl ps=>h.get? a=some { cls:=.none,data:=.fields ps }
 | .met f x=>h.get? a=some (YcC (.ref f) (.ref x))
 | .ext φ=>φ h/\(∃ o,h.get? a=some o)/\∀ h1 h2:Heap,φ h1->(∀ o,h1.get? a=some o->h2.get? a=some o)->φ h2
def HOk (H:Hp) (h:Heap):Prop:=∀ a o,H a=some o->ObjOk P w H h a o
end
section
variable {P:Program}{w:World}{H H':Hp}{h h':Heap}{a:Addr}{o:HO}
theorem ObjOk.lt (x:ObjOk P w H h a o):a<h.objs.size:=by
 cases o with
 | lst xs=>obtain⟨_,_,_,_,e⟩:=x;exact Yag e
 | tup xs=>obtain⟨_,_,_,p⟩:=x;exact p.tup.lt
 | dK kvs=>obtain⟨_,_,_,_,o,_,_,e,_⟩:=x;exact Yag e
 | dT kvs=>obtain⟨_,_,_,_,o,_,_,e,_⟩:=x;exact Yag e
 | set S n=>obtain⟨o,_,_,_,e,_⟩:=x;exact Yag e
 | ins C dx fs=>obtain⟨_,_,_,e,_⟩:=x;exact Yag e
 | own y=>obtain⟨_,e⟩:=x;exact Yag e
 | xd fs=>obtain⟨_,⟨_,_,_,e,_⟩,_⟩:=x;exact Yag e
 | rng lo hi=>obtain⟨_,_,_,e⟩:=x;exact Yag e
 | frz ob u=>obtain⟨e,_⟩:=x;exact Yag e
 | tbl ps=>exact Yag (show h.get? a=some _ from x)
 | met f y=>exact Yag (show h.get? a=some _ from x)
 | ext φ=>obtain⟨_,⟨_,e⟩,_⟩:=x;exact Yag e
theorem Paired.mapP {α β:Type}{F G:α->β->Prop}:∀ {l₁:List α}{l₂:List β},Paired F l₁ l₂->(∀ a b,F a b->G a b)->Paired G l₁ l₂
 | _,_,.nil,_=>.nil
 | _,_,.cons r t,f=>.cons (f _ _ r) (Paired.mapP t f)
theorem ObjOk.stay (x:ObjOk P w H h a o) (k:∀ b u,(b=a∨H b=some (.own a))->h.get? b=some u->h'.get? b=some u)
  (ho:∀ b,H b=some (.own a)->H' b=some (.own a)) (ht:∀ b xs,H b=some (.tup xs)->H' b=some (.tup xs)):ObjOk P w H' h' a o:=by
 induction o with
 | lst xs=>obtain⟨z,its,n,r,e⟩:=x;exact⟨z,its,n,r,k _ _ (.inl rfl) e⟩
 | tup xs=>obtain⟨z,its,r,ob,e,c⟩:=x;exact⟨z,its,r,ob,k _ _ (.inl rfl) e,c⟩
 | dK kvs=>obtain⟨z,y,vs,r,ob,es,ep,e,c⟩:=x;exact⟨z,y,vs,r,ob,es,ep,k _ _ (.inl rfl) e,c⟩
 | dT kvs=>
  obtain⟨z,y,xs,r,ob,es,ep,e,c⟩:=x;exact⟨z,y,xs,Paired.mapP r fun p q z=>⟨z.1,ht _ _ z.2.1,z.2.2⟩,ob,es,ep,k _ _ (.inl rfl) e,c⟩
 | set S n=>obtain⟨ob,es,ep,t,e,c⟩:=x;exact⟨ob,es,ep,t,k _ _ (.inl rfl) e,c⟩
 | ins C dx fs=>
  obtain⟨d,z,ne,e,mA,⟨od,es,ep,e2,c⟩,r⟩:=x;exact⟨ho _ d,z,ne,k _ _ (.inl rfl) e,mA,⟨od,es,ep,k _ _ (.inr d) e2,c⟩,r⟩
 | own y=>obtain⟨ob,e⟩:=x;exact⟨ob,k _ _ (.inl rfl) e⟩
 | xd fs=>obtain⟨mA,⟨od,es,ep,e,c⟩,r⟩:=x;exact⟨mA,⟨od,es,ep,k _ _ (.inl rfl) e,c⟩,r⟩
 | rng lo hi=>obtain⟨t,u,v,e⟩:=x;exact⟨t,u,v,k _ _ (.inl rfl) e⟩
 | frz ob u ih=>obtain⟨e,q⟩:=x;exact⟨k _ _ (.inl rfl) e,ih q⟩
 | tbl ps=>
  have e:h.get? a=some { cls:=.none,data:=.fields ps }:=x;show h'.get? a=some { cls:=.none,data:=.fields ps };exact k a _ (.inl rfl) e
 | met f y=>
  have e:h.get? a=some (YcC (.ref f) (.ref y)):=x;show h'.get? a=some (YcC (.ref f) (.ref y));exact k a _ (.inl rfl) e
 | ext φ=>obtain⟨p,⟨o,e⟩,st⟩:=x;exact⟨st _ _ p fun o q=>k _ _ (.inl rfl) q,⟨o,k _ _ (.inl rfl) e⟩,st⟩
theorem HOk.lt (x:HOk P w H h) (e:H a=some o):a<h.objs.size:=(x a o e).lt
theorem HOk.fresh (x:HOk P w H h) (e:h.objs.size<=a):H a=none:=by
 cases q:H a with
 | none=>rfl
 | some u=>exact absurd (Yaq (x.lt q) e) (Ya6 _)
theorem HOk.kept (x:HOk P w H h) (k:∀ b u,h.get? b=some u->h'.get? b=some u):HOk P w H h':=fun a o e=>
 (x a o e).stay (fun b u _ q=>k b u q) (fun _ q=>q) fun _ _ q=>q
theorem HOk.laid (x:HOk P w H h) (k:∀ b u,h.get? b=some u->h'.get? b=some u) (hp:h.objs.size<=a) (new:ObjOk P w (upd H a o) h' a o):HOk P w (upd H a o) h':=fun b u e=>by
 have hn:=x.fresh hp;by_cases hb:b=a
 ·subst hb;rw[Zab] at e;cases e;exact new
 ·rw[Zah hb] at e;exact (x b u e).stay (fun c v _ q=>k c v q) (fun c q=>by rw[Zah (Zag q hn)];exact q) fun c xs q=>by rw[Zah (Zag q hn)];exact q
end
def Rd (H:Hp) (a:Addr) (u:HO):Prop:=H a=some u∨∃ o,H a=some (.frz o u)
theorem Rd.ok {P:Program}{w:World}{H:Hp}{h:Heap}{a:Addr}{u:HO} (r:Rd H a u) (x:HOk P w H h):ObjOk P w H h a u:=by
 rcases r with r | ⟨o,r⟩
 ·exact x a u r
 ·obtain⟨_,q⟩:=x a _ r;exact q
def Mut:Option HO->Prop
 | some (.lst _)=>True
 | some (.dK _)=>True
 | some (.dT _)=>True
 | some (.set _ _)=>True
 | some (.ins _ _ _)=>True
 | some (.ext _)=>True
 | _=>False
section
variable {P:Program}{w:World}{H:Hp}{h h':Heap}{x e:Addr}{o':HO}
theorem HOk.write (ok:HOk P w H h) (mu:Mut (H x)) (he:e=x∨H e=some (.own x)) (k:∀ b u,b≠e->h.get? b=some u->h'.get? b=some u) (heo:∃ u,h'.get? e=some u)
  (new:ObjOk P w (upd H x o') h' x o'):HOk P w (upd H x o') h':=fun b u q=>by
 have nown:∀ c y,H c=some (.own y)->c≠x:=fun c y r z=>by subst z;rw[r] at mu;exact mu
 have ntup:∀ c xs,H c=some (.tup xs)->c≠x:=fun c xs r z=>by subst z;rw[r] at mu;exact mu
 by_cases hb:b=x
 ·subst hb;rw[Zab] at q;cases q;exact new
 ·rw[Zah hb] at q;by_cases hbe:b=e
  ·have q':H b=some (.own x):=by
    rcases he with z | z
    ·exact absurd (hbe.trans z) hb
    ·rw[hbe];exact z
   rw[q] at q';cases q';obtain⟨v,hv⟩:=heo;exact⟨v,by rw[hbe];exact hv⟩
  ·refine (ok b u q).stay (fun c v hc r=>k c v ?_ r) (fun c r=>by rw[Zah (nown c b r)];exact r) fun c xs r=>by rw[Zah (ntup c xs r)];exact r
   rcases hc with rfl | hc
   ·exact hbe
   ·rintro rfl;rcases he with z | z
    ·exact nown c b hc z
    ·rw[hc] at z;cases z;exact hb rfl
end
structure Un (fs ex:List Addr) (H H':Hp) (h h':Heap):Prop where
 keep:∀ b o,h.get? b=some o->H b=none->b ∉ fs->b ∉ ex->h'.get? b=some o
 slot:∀ b o,h.get? b=some o->H b=none->b∈fs->b ∉ ex->∃ sl,h'.get? b=some { o with slots:=sl }
 free:∀ b o,h.get? b=some o->H b=none->b ∉ ex->H' b=none
 there:∀ b o,h.get? b=some o->b ∉ ex->∃ o',h'.get? b=some o'
 tups:∀ b xs,H b=some (.tup xs)->H' b=some (.tup xs)
 frzs:∀ b o u,H b=some (.frz o u)->H' b=some (.frz o u)
 tbls:∀ b ps,H b=some (.tbl ps)->∃ more,H' b=some (.tbl (ps++more))
section
variable {fs fs' ex ex':List Addr}{H H1 H2:Hp}{h h1 h2 h':Heap}{a x e:Addr}{o:HO}
theorem Un.any (u:Un fs ex H H1 h h1) {b:Addr}{ob:Obj} (q:h.get? b=some ob) (n:H b=none) (hx:b ∉ ex):∃ sl,h1.get? b=some { ob with slots:=sl }:=by
 by_cases hb:b∈fs
 ·exact u.slot b ob q n hb hx
 ·exact⟨ob.slots,u.keep b ob q n hb hx⟩
theorem Un.kept (k:∀ b u,h.get? b=some u->h'.get? b=some u):Un fs ex H H h h' :=
 ⟨fun b ob q _ _ _=>k b ob q,fun b ob q _ _ _=>⟨ob.slots,k b ob q⟩,fun _ _ _ n _=>n,fun b ob q _=>⟨ob,k b ob q⟩,fun _ _ q=>q,fun _ _ _ q=>q,fun _ ps q=>⟨#[],by rw[q];simp⟩⟩
theorem Un.refl:Un fs ex H H h h:=Un.kept fun _ _ q=>q
theorem Un.laid (k:∀ b u,h.get? b=some u->h'.get? b=some u) (hp:h.objs.size<=a) (hn:H a=none):Un fs ex H (upd H a o) h h' where
 keep:=fun b u q _ _ _=>k b u q
 slot:=fun b u q _ _ _=>⟨u.slots,k b u q⟩
 free:=fun b u q n _=>by rw[Zah (Yat (Yaq (Yag q) hp))];exact n
 there:=fun b u q _=>⟨u,k b u q⟩
 tups:=fun b xs q=>by rw[Zah (Zag q hn)];exact q
 frzs:=fun b u xs q=>by rw[Zah (Zag q hn)];exact q
 tbls:=fun b ps q=>⟨#[],by rw[Zah (Zag q hn),q];simp⟩
theorem Un.write (mu:Mut (H x)) (he:e=x∨H e=some (.own x)) (k:∀ b u,b≠e->h.get? b=some u->h'.get? b=some u) (heo:∃ u,h'.get? e=some u):Un fs ex H (upd H x o) h h':=by
 have hx:∀ b,H b=none->b≠x:=fun b n z=>by subst z;rw[n] at mu;exact mu
 have hb:∀ b,H b=none->b≠e:=fun b n z=>by
  subst z;rcases he with r | r
  ·exact hx b n r
  ·rw[n] at r;cases r
 have hm:∀ b u,H b=some u->¬ Mut (some u)->b≠x:=fun b u q nm z=>by subst z;rw[q] at mu;exact nm mu
 refine⟨fun b u q n _ _=>k b u (hb b n) q,fun b u q n _ _=>⟨u.slots,k b u (hb b n) q⟩,fun b u q n _=>by rw[Zah (hx b n)];exact n,fun b u q _=>?_,
  fun b xs q=>by rw[Zah (hm b _ q fun z=>z)];exact q,fun b u xs q=>by rw[Zah (hm b _ q fun z=>z)];exact q,fun b ps q=>⟨#[],by rw[Zah (hm b _ q fun z=>z),q];simp⟩⟩
 by_cases hbe:b=e
 ·subst hbe;exact heo
 ·exact⟨u,k b u hbe q⟩
end
def trk (h:Heap) (H:Hp):List Addr:=(YaL h.objs.size).filter fun a=>(H a).isSome
def hidT (h:Heap) (H:Hp):Heap:=PySem.W.hideAll h (trk h H)
theorem ZfA (h:Heap) (H:Hp):(hidT h H).objs.size=h.objs.size:=PySem.W.hideAll_size _ _
theorem ZgI {h:Heap}{H:Hp}{b:Addr}{o:Obj} (e:h.get? b=some o) (n:H b=none):(hidT h H).get? b=some o :=
 PySem.W.hideAll_get _ e fun hm=>by
  have q:(H b).isSome=true:=(List.mem_filter.mp hm).2
  rw[n] at q;simp at q
theorem ZhG {h:Heap}{H:Hp}{b:Addr}{o:Obj} (e:(hidT h H).get? b=some o):h.get? b=some o/\H b=none:=by
 have e':h.get? b=some o:=PySem.W.of_hideAll (trk h H) e;refine⟨e',?_⟩
 cases q:H b with
 | none=>rfl
 | some x=>
  have hm:b∈trk h H:=List.mem_filter.mpr ⟨YaO.mpr (Yag e'),by simp[q]⟩;have z:(hidT h H).get? b=none:=PySem.W.hideAll_none (trk h H) hm;rw[z] at e;cases e
def ZhX (g h:Heap) (L:Addr):List (Addr × Obj):=(YaL h.objs.size).filterMap fun a=>if a=L∨(g.get? a).isSome=true then none else (h.get? a).map fun o=>(a,o)
def rest (g h:Heap) (L d:Addr):List (Addr × Obj):=(ZhX g h L).filter fun p=>decide (p.1≠d)
end L2
namespace L2
open PySem PySem.Spec PyProof.Rows
structure Mod (K:Yab) (mg:Str->Option Value) (base:Heap):Prop where
 kin:K.In base
 glob:base.Ns mainGlobals mg
 blt:∃ mb,base.Ns builtinsNs mb/\∀ x:Str,x≠"__name__"->mb x=bootBuiltins x
 nolimit:base.NoLimit
structure Cx where
 prog:Program
 w:World
 K:Yab
 mg:Str->Option Value
 base:Heap
 A:Around
 N:List Str
 s₀:Shared
 H₀:Hp
 env:Env
 outer:List Env
 stack:List Env
 ex:List Addr
 fn:Str->Bool
 calm:Bool
 pn:List (Addr × Obj)
 xe:Value->Shared->Prop
def frs (l:List Env):List Addr:=l.filterMap (·.frame)
abbrev Cx.fs (X:Cx):List Addr:=frs X.outer
def Vis (sc:Scope) (x:Str):Prop:=sc.names.lookup x=some .local ∨ sc.names.lookup x=some .cell∨sc.names.lookup x=some .free
def Loc (sc:Scope) (x:Str):Prop:=sc.names.lookup x=some .local ∨ sc.names.lookup x=some .cell
def Look (env:Env) (h:Heap) (m:Str->Option Value) (x:Str) (u:Value):Prop :=
 (env.kindOf x=some .local /\ m x=some u)∨((env.kindOf x=some .cell∨env.kindOf x=some .free)/\∃ c,env.cells.lookup x=some c/\h.IsCell c (some u))
structure Cx.Ok (X:Cx):Prop where
 mod:Mod X.K X.mg X.base
 kind:X.env.scope.kind=.function
 glob:X.env.globals=mainGlobals
 blt:X.env.builtins=builtinsNs
 above:X.s₀.heap.objs.size<=X.env.locals
 inj:∀ x y c,X.env.cells.lookup x=some c->X.env.cells.lookup y=some c->x=y
 has:∀ x,(X.env.kindOf x=some .cell∨X.env.kindOf x=some .free)->∃ c,X.env.cells.lookup x=some c
 cab:∀ x c,X.fn x=true->X.env.cells.lookup x=some c->X.s₀.heap.objs.size<=c
 hd:X.calm=true->X.A.handled=none
 frames:X.A.frames=some X.stack
 stk:X.stack=X.outer∨(X.stack=X.env::X.outer/\X.env.frame=some X.env.locals)
 exf:∀ b∈X.ex,b≠X.env.locals/\∀ x c,X.env.cells.lookup x=some c->c≠b
 bs:∀ b o,X.base.get? b=some o->X.s₀.heap.get? b=some o/\X.H₀ b=none
 bsz:X.base.objs.size<=X.s₀.heap.objs.size
 noex:∀ b o,X.base.get? b=some o->b ∉ X.ex
 exfs:∀ b∈X.ex,b ∉ X.fs
 funs:X.s₀.heap.FunFrames X.base X.outer
 frf:∀ b∈X.fs,X.H₀ b=none
structure Inv (X:Cx) (pins:List (Addr × Obj)) (σ:List (Option V)) (H:Hp) (s:Shared):Prop where
 ok:X.Ok
 os:s.os=X.s₀.os
 bare:AllBare s.gens
 base:Un X.fs X.ex X.H₀ H X.s₀.heap s.heap
 loc:∃ m,s.heap.Ns X.env.locals m/\∀ (i:Nat) (x:Str) (v:V),X.N[i]?=some x->σ[i]?=some (some v)->Vis X.env.scope x->∃ u,RelV v u/\Look X.env s.heap m x u
 cell:∀ x c,X.env.cells.lookup x=some c->∃ v,s.heap.IsCell c v
 free:H X.env.locals=none
 freeC:∀ x c,X.env.cells.lookup x=some c->H c=none
 pin:∀ p∈X.pn++pins,s.heap.get? p.1=some p.2/\H p.1=none/\p.1≠X.env.locals/\p.1 ∉ X.fs/\∀ v,p.2.data≠.cell v
 hok:HOk X.prog X.w H s.heap
 len:σ.length=X.N.length
section
variable {X:Cx}{pins:List (Addr × Obj)}{σ:List (Option V)}{H H':Hp}{s:Shared}{h':Heap}
theorem Cx.Ok.nofr (ok:X.Ok) {b:Addr}{o:Obj} (e:X.base.get? b=some o):b ∉ X.fs:=fun hb=>by
 have:=(ok.funs.mem hb).1
 rw[e] at this;cases this
theorem Inv.bs (I:Inv X pins σ H s):∀ b o,X.base.get? b=some o->s.heap.get? b=some o/\H b=none:=fun b o e=>
 ⟨I.base.keep b o (I.ok.bs b o e).1 (I.ok.bs b o e).2 (I.ok.nofr e) (I.ok.noex b o e),I.base.free b o (I.ok.bs b o e).1 (I.ok.bs b o e).2 (I.ok.noex b o e)⟩
theorem Inv.bk (I:Inv X pins σ H s):∀ b o,X.base.get? b=some o->s.heap.get? b=some o:=fun b o e=>(I.bs b o e).1
theorem Inv.mod (I:Inv X pins σ H s):Mod X.K X.mg X.base:=I.ok.mod
theorem Inv.kIn (I:Inv X pins σ H s):X.K.In s.heap:=I.ok.mod.kin.keeps I.bk
theorem Inv.lt (I:Inv X pins σ H s):X.env.locals<s.heap.objs.size:=let ⟨_,hn,_⟩:=I.loc;hn.lt
theorem Inv.sz (I:Inv X pins σ H s):X.s₀.heap.objs.size<=s.heap.objs.size:=Ya4 I.ok.above (Ya9 I.lt)
theorem Inv.nofs (I:Inv X pins σ H s) {a:Addr} (h:s.heap.objs.size<=a):a ∉ X.fs:=fun hb=>by
 obtain⟨_,o,ho,_⟩:=I.ok.funs.mem hb;exact absurd (Yaq (Yag ho) (Ya4 I.sz h)) (Ya6 _)
theorem Inv.cne (I:Inv X pins σ H s):∀ x c,X.env.cells.lookup x=some c->c≠X.env.locals:=fun x c e z=>by
 obtain⟨v,o,ho,hd⟩:=I.cell x c e;obtain⟨m,⟨o',es,ep,ho',hd',_⟩,_⟩:=I.loc;rw[z,ho'] at ho;cases ho;rw[hd'] at hd;cases hd
theorem Inv.funs (I:Inv X pins σ H s):s.heap.FunFrames X.base X.outer:=by
 have all:∀ (l:List Env),(∀ b∈frs l,b∈X.fs)->X.s₀.heap.FunFrames X.base l->s.heap.FunFrames X.base l:=by
  intro l
  induction l with
  | nil=>intro _ _;trivial
  | cons env r ih=>
   intro hs hl;obtain⟨hk,⟨L,o,hf,hn,ho,hd⟩,hr⟩:=hl;have hL:L∈X.fs:=hs L (by unfold frs;rw[Ybn,hf];exact YaV);obtain⟨sl,e⟩:=I.base.slot L o ho (I.ok.frf L hL) hL fun z=>I.ok.exfs L z hL;exact⟨hk,⟨L,_,hf,hn,e,hd⟩,ih (fun b hb=>hs b (by unfold frs;rw[Ybn,hf];exact YaM _ hb)) hr⟩
 exact all X.outer (fun _ hb=>hb) I.ok.funs
theorem Inv.stack (I:Inv X pins σ H s):s.heap.FunFrames X.base X.stack:=by
 rcases I.ok.stk with e | ⟨e,hf⟩
 ·rw[e];exact I.funs
 ·rw[e];obtain⟨m,hn,_⟩:=I.loc;refine .cons (by rw[I.ok.kind];decide) hf hn ?_ I.funs;exact Heap.get?_none_of_le (Ya4 I.ok.bsz I.ok.above)
theorem Inv.stkSub (I:Inv X pins σ H s):∀ b∈frs X.stack,b∈X.env.locals::X.fs:=fun b hb=>by
 rcases I.ok.stk with e | ⟨e,hf⟩
 ·rw[e] at hb;exact YaM _ hb
 ·rw[e] at hb;unfold frs at hb;rw[Ybn,hf] at hb;exact hb
theorem Inv.stkFree (I:Inv X pins σ H s):∀ b∈frs X.stack,H b=none:=fun b hb=>by
 rcases Yar.mp (I.stkSub b hb) with e | hb
 ·rw[e];exact I.free
 ·obtain⟨_,o,ho,_⟩:=I.ok.funs.mem hb;exact I.base.free b o ho (I.ok.frf b hb) fun z=>I.ok.exfs b z hb
theorem Inv.step {g':Array GenState}{t':Nat}{d':Drawn}{ch:List Addr} (I:Inv X pins σ H s)
  (hch:∀ b∈ch,(b∈X.ex∨X.s₀.heap.objs.size<=b)/\b≠X.env.locals/\(∀ x c,X.env.cells.lookup x=some c->c≠b)/\∀ p∈X.pn++pins,p.1≠b)
  (keep:∀ b o,b≠X.env.locals->b ∉ X.fs->b ∉ ch->s.heap.get? b=some o->H b=none->h'.get? b=some o)
  (slot:∀ b o,b≠X.env.locals->b∈X.fs->b ∉ ch->s.heap.get? b=some o->H b=none->∃ sl,h'.get? b=some { o with slots:=sl }) (free:∀ b o,b ∉ ch->s.heap.get? b=some o->H b=none->H' b=none)
  (there:∀ b o,b ∉ ch->s.heap.get? b=some o->∃ o',h'.get? b=some o')
  (tups:∀ b xs,H b=some (.tup xs)->H' b=some (.tup xs)) (frzs:∀ b o u,H b=some (.frz o u)->H' b=some (.frz o u)) (tbls:∀ b ps,H b=some (.tbl ps)->∃ more,H' b=some (.tbl (ps++more)))
  (ns:∀ m,s.heap.Ns X.env.locals m->h'.Ns X.env.locals m) (hok:HOk X.prog X.w H' h') (hg:AllBare g') :
  Inv X pins σ H' { s with heap:=h',gens:=g',drawn:=d',toks:=t' }:=by
 have neL:∀ b o,X.s₀.heap.get? b=some o->b≠X.env.locals:=fun b o e=>Yat (Yaq (Yag e) I.ok.above);have neC:∀ b o,X.s₀.heap.get? b=some o->b ∉ X.ex->b ∉ ch:=fun b o e hx hb=>by
  rcases (hch b hb).1 with z | z
  ·exact hx z
  ·exact absurd (Yaq (Yag e) z) (Ya6 _)
 have cellK:∀ x c,X.env.cells.lookup x=some c->∀ v,s.heap.IsCell c v->h'.IsCell c v:=fun x c e v ⟨o,ho,hd⟩=>by
  have nch:c ∉ ch:=fun z=>(hch c z).2.2.1 x c e rfl;by_cases hc:c∈X.fs
  ·obtain⟨sl,q⟩:=slot c o (I.cne x c e) hc nch ho (I.freeC x c e);exact⟨_,q,hd⟩
  ·exact⟨o,keep c o (I.cne x c e) hc nch ho (I.freeC x c e),hd⟩
 refine⟨I.ok,I.os,hg,⟨fun b o e n hb hx=>?_,fun b o e n hb hx=>?_,fun b o e n hx=>?_,fun b o e hx=>?_,fun b xs e=>tups b xs (I.base.tups b xs e),fun b o xs e=>frzs b o xs (I.base.frzs b o xs e),fun b ps e=>?_⟩,?_,fun x c e=>?_,?_,fun x c e=>?_,fun p hp=>?_,hok,I.len⟩
 ·exact keep b o (neL b o e) hb (neC b o e hx) (I.base.keep b o e n hb hx) (I.base.free b o e n hx)
 ·obtain⟨sl,e1⟩:=I.base.slot b o e n hb hx;obtain⟨sl',e2⟩:=slot b _ (neL b o e) hb (neC b o e hx) e1 (I.base.free b o e n hx);exact⟨sl',e2⟩
 ·obtain⟨o',e1⟩:=I.base.there b o e hx;exact free b o' (neC b o e hx) e1 (I.base.free b o e n hx)
 ·obtain⟨o',e1⟩:=I.base.there b o e hx;exact there b o' (neC b o e hx) e1
 ·obtain⟨m1,e1⟩:=I.base.tbls b ps e;obtain⟨m2,e2⟩:=tbls b _ e1;exact⟨m1++m2,by rw[e2,Array.append_assoc]⟩
 ·obtain⟨m,hn,hl⟩:=I.loc;refine⟨m,ns m hn,fun i x v e1 e2 e3=>?_⟩;obtain⟨u,r,l⟩:=hl i x v e1 e2 e3;refine⟨u,r,?_⟩;rcases l with l | ⟨k,c,e,z⟩
  ·exact .inl l
  ·exact .inr ⟨k,c,e,cellK x c e _ z⟩
 ·obtain⟨v,z⟩:=I.cell x c e;exact⟨v,cellK x c e v z⟩
 ·obtain⟨m,⟨o,_,_,ho,_⟩,_⟩:=I.loc;exact free _ o (fun z=>(hch _ z).2.1 rfl) ho I.free
 ·obtain⟨v,o,ho,hd⟩:=I.cell x c e;exact free c o (fun z=>(hch c z).2.2.1 x c e rfl) ho (I.freeC x c e)
 ·obtain⟨e,n,ne,nf,d⟩:=I.pin p hp;have nch:p.1 ∉ ch:=fun z=>(hch p.1 z).2.2.2 p hp rfl;exact⟨keep p.1 p.2 ne nf nch e n,free p.1 p.2 nch e n,ne,nf,d⟩
theorem Inv.un {t':Nat} (I:Inv X pins σ H s) (u:Un X.fs [] H H' s.heap h') (hok:HOk X.prog X.w H' h'):Inv X pins σ H' { s with heap:=h',toks:=t' }:=by
 obtain⟨m,⟨o,es,ep,ho,r⟩,_⟩:=id I.loc;obtain⟨sl,hL⟩:=u.any ho I.free (by simp);exact I.step (g':=s.gens) (d':=s.drawn) (ch:=[]) (fun _ z=>nomatch z) (fun b o _ hb _ e n=>u.keep b o e n hb (by simp)) (fun b o _ hb _ e n=>u.slot b o e n hb (by simp)) (fun b o _ e n=>u.free b o e n (by simp)) (fun b o _ e=>u.there b o e (by simp)) u.tups u.frzs u.tbls (fun m' hm=>by
  obtain⟨o',es',ep',ho',r'⟩:=hm;rw[ho] at ho';cases ho';exact⟨_,es',ep',hL,r'⟩) hok I.bare
theorem Inv.call {g':Array GenState}{t':Nat}{d':Drawn}{ch:List Addr} (I:Inv X pins σ H s) (u:Un (frs X.stack) ch H H' s.heap h') (hok:HOk X.prog X.w H' h') (hg:AllBare g')
  (hch:∀ b∈ch,(b∈X.ex∨X.s₀.heap.objs.size<=b)/\b≠X.env.locals/\(∀ x c,X.env.cells.lookup x=some c->c≠b)/\∀ p∈X.pn++pins,p.1≠b) :
  Inv X pins σ H' { s with heap:=h',gens:=g',drawn:=d',toks:=t' }:=by
 obtain⟨m,⟨o,es,ep,ho,r⟩,_⟩:=id I.loc;obtain⟨sl,hL⟩:=u.any ho I.free fun z=>(hch _ z).2.1 rfl;exact I.step (ch:=ch) hch (fun b o hL hb hc e n=>u.keep b o e n (fun z=>(Yar.mp (I.stkSub b z)).elim hL hb) hc) (fun b o _ _ hc e n=>u.any e n hc) (fun b o hc e n=>u.free b o e n hc) (fun b o hc e=>u.there b o e hc) u.tups u.frzs u.tbls (fun m' hm=>by
  obtain⟨o',es',ep',ho',r'⟩:=hm;rw[ho] at ho';cases ho';exact⟨_,es',ep',hL,r'⟩) hok hg
theorem Inv.turned {t':Nat}{it:Addr} (I:Inv X pins σ H s) (k:∀ b o,b≠it->s.heap.get? b=some o->h'.get? b=some o) (hn:H it=none) (hL:it≠X.env.locals)
  (h1:it∈X.ex∨X.s₀.heap.objs.size<=it) (h2:∀ x c,X.env.cells.lookup x=some c->c≠it) (h3:∀ p∈X.pn++pins,p.1≠it):Inv X pins σ H { s with heap:=h',toks:=t' }:=by
 have nit:∀ b u,H b=some u->b≠it:=fun b u e z=>by rw[z,hn] at e;cases e
 refine I.step (g':=s.gens) (d':=s.drawn) (ch:=[it]) (fun b hb=>?_) (fun b o _ _ hc e _=>k b o (fun z=>hc (by simp[z])) e) (fun b o _ _ hc e _=>⟨o.slots,k b o (fun z=>hc (by simp[z])) e⟩) (fun _ _ _ _ n=>n)
  (fun b o hc e=>⟨o,k b o (fun z=>hc (by simp[z])) e⟩) (fun _ _ e=>e) (fun _ _ _ e=>e) (fun b ps e=>⟨#[],by rw[e];simp⟩) (fun m hm=>?_) (fun b u e=>?_) I.bare
 ·have e:b=it:=by simpa using hb
  subst e;exact⟨h1,hL,h2,h3⟩
 ·obtain⟨o,es,ep,ho,r⟩:=hm;exact⟨o,es,ep,k _ o (YbO hL) ho,r⟩
 ·refine (I.hok b u e).stay (fun c v hc q=>k c v ?_ q) (fun _ q=>q) fun _ _ q=>q;rcases hc with z | z
  ·rw[z];exact nit b u e
  ·exact nit c _ z
theorem Inv.tok (I:Inv X pins σ H s) (t:Nat):Inv X pins σ H { s with toks:=t }:=I.un (h':=s.heap) (t':=t) Un.refl I.hok
theorem Inv.kept {t':Nat} (I:Inv X pins σ H s) (k:∀ b u,s.heap.get? b=some u->h'.get? b=some u):Inv X pins σ H { s with heap:=h',toks:=t' }:=I.un (Un.kept k) (I.hok.kept k)
theorem Inv.laid {a:Addr}{o:HO}{t':Nat} (I:Inv X pins σ H s) (k:∀ b u,s.heap.get? b=some u->h'.get? b=some u) (hp:s.heap.objs.size<=a) (new:ObjOk X.prog X.w (upd H a o) h' a o) :
  Inv X pins σ (upd H a o) { s with heap:=h',toks:=t' }:=I.un (Un.laid k hp (I.hok.fresh hp)) (I.hok.laid k hp new)
theorem Inv.write {x e:Addr}{o:HO}{t':Nat} (I:Inv X pins σ H s) (mu:Mut (H x)) (he:e=x∨H e=some (.own x)) (k:∀ b u,b≠e->s.heap.get? b=some u->h'.get? b=some u) (heo:∃ u,h'.get? e=some u)
  (new:ObjOk X.prog X.w (upd H x o) h' x o):Inv X pins σ (upd H x o) { s with heap:=h',toks:=t' }:=I.un (Un.write mu he k heo) (I.hok.write mu he k heo new)
theorem Inv.weak {σ':List (Option V)} (I:Inv X pins σ H s) (hl:σ'.length=σ.length) (w:∀ (i:Nat) v,σ'[i]?=some (some v)->σ[i]?=some (some v)):Inv X pins σ' H s :=
 ⟨I.ok,I.os,I.bare,I.base,let ⟨m,hn,hl'⟩:=I.loc;⟨m,hn,fun i x v e1 e2 e3=>hl' i x v e1 (w i v e2) e3⟩,I.cell,I.free,I.freeC,I.pin,I.hok,hl.trans I.len⟩
theorem Inv.pins_of {pins':List (Addr × Obj)} (I:Inv X pins σ H s) (h:∀ p∈pins',s.heap.get? p.1=some p.2/\H p.1=none/\p.1≠X.env.locals/\p.1 ∉ X.fs/\∀ v,p.2.data≠.cell v):Inv X pins' σ H s :=
 ⟨I.ok,I.os,I.bare,I.base,I.loc,I.cell,I.free,I.freeC,fun p hp=>(YaA.mp hp).elim (fun z=>I.pin p (Yct _ z)) (h p),I.hok,I.len⟩
theorem ZdZ {N:List Str} (hN:N.Nodup) {i j:Nat}{x:Str} (a:N[i]?=some x) (b:N[j]?=some x):i=j:=by
 obtain⟨h1,e1⟩:=Yaf.mp a;obtain⟨h2,e2⟩:=Yaf.mp b;exact (List.getElem_inj hN).mp (e1.trans e2.symm)
theorem ZeM {M:Model}{A:Around}{E:Value->Shared->Prop}{i:Nat}{x:Str}{v:V}{u:Value}{Q:Unit->Shared->Prop} (I:Inv X pins σ H s) (hN:X.N.Nodup) (hi:X.N[i]?=some x) (hx:Loc X.env.scope x) (r:RelV v u)
  (h:∀ s',Inv X pins (σ.set i (some v)) H s'->(∃ a,YbM a s.heap s'.heap/\(a=X.env.locals∨X.env.cells.lookup x=some a))->Q () s') (hf:X.fn x=true∨X.env.scope.names.lookup x=some .local:=by first | exact .inl rfl | exact .inr rfl | assumption):wpAny M A (storeName X.env x u) Q E s:=by
 obtain⟨m,hn,hl⟩:=id I.loc;have hcls:(X.env.scope.kind == .class || (X.env.scope.kind == .module && X.env.locals != X.env.globals))=false:=by rw[I.ok.kind];rfl
 have hiσ:i<σ.length:=by rw[I.len];exact (Yaf.mp hi).1
 have cne:=I.cne;have tracked:∀ {a:Addr}{h':Heap},(∃ o,s.heap.get? a=some o/\H a=none)->YbM a s.heap h'->HOk X.prog X.w H h':=fun {a h'} ha hs b ob e=>by
  obtain⟨_,_,hfree⟩:=ha;refine (I.hok b ob e).stay (fun c w' hc q=>(hs.2 c ?_).trans q) (fun _ q=>q) fun _ _ q=>q;rintro rfl;rcases hc with rfl | hc
  ·rw[hfree] at e;cases e
  ·rw[hfree] at hc;cases hc
 rcases hx with hk | hk
 ·refine wpAny_storeName_local hk hn (fun h' hn' hs=>?_) hcls;obtain⟨oL,_,_,hoL,_⟩:=id hn;refine h _ ⟨I.ok,I.os,I.bare,⟨fun b o e n hb hx=>?_,fun b o e n hb hx=>?_,I.base.free,fun b o e hx=>?_,I.base.tups,I.base.frzs,I.base.tbls⟩,⟨_,hn',fun j y v' e1 e2 e3=>?_⟩,fun y c e=>?_,I.free,I.freeC,fun p hp=>?_,tracked ⟨oL,hoL,I.free⟩ hs,by simpa using I.len⟩ ⟨_,hs,.inl rfl⟩
  ·exact (hs.2 b (Yat (Yaq (Yag e) I.ok.above))).trans (I.base.keep b o e n hb hx)
  ·obtain⟨sl,e1⟩:=I.base.slot b o e n hb hx;exact⟨sl,(hs.2 b (Yat (Yaq (Yag e) I.ok.above))).trans e1⟩
  ·obtain⟨o',e1⟩:=I.base.there b o e hx;exact⟨o',(hs.2 b (Yat (Yaq (Yag e) I.ok.above))).trans e1⟩
  ·by_cases hj:j=i
   ·subst hj;rw[hi] at e1;cases e1;rw[Ydq hiσ] at e2;cases e2;exact⟨u,r,.inl ⟨hk,by simp⟩⟩
   ·rw[Ybr (YbO hj)] at e2;obtain⟨u',r',q⟩:=hl j y v' e1 e2 e3;refine⟨u',r',?_⟩;rcases q with ⟨k,e⟩ | ⟨k,c,e,z⟩
    ·refine .inl ⟨k,?_⟩;have:y≠x:=fun e=>hj (ZdZ hN e1 (e ▸ hi));simp[this,e]
    ·exact .inr ⟨k,c,e,z.sameBut hs (cne y c e)⟩
  ·obtain⟨w',z⟩:=I.cell y c e;exact⟨w',z.sameBut hs (cne y c e)⟩
  ·obtain⟨e,n,ne,nf,d⟩:=I.pin p hp;exact⟨(hs.2 p.1 ne).trans e,n,ne,nf,d⟩
 ·have hfn:X.fn x=true:=by
   rcases hf with z | z
   ·exact z
   ·rw[z] at hk;cases hk
  obtain⟨c,hc⟩:=I.ok.has x (.inl hk);obtain⟨w',z⟩:=I.cell x c hc;refine wpAny_storeName_cell I.ok.kind hk hc z (fun h' hc' hs=>?_);obtain⟨oc,hoc,hocd⟩:=id z;refine h { s with heap:=h' } ⟨I.ok,I.os,I.bare,⟨fun b o e n hb hx=>?_,fun b o e n hb hx=>?_,I.base.free,fun b o e hx=>?_,I.base.tups,I.base.frzs,I.base.tbls⟩,⟨m,hn.sameBut hs (YbO (cne x c hc)),fun j y v' e1 e2 e3=>?_⟩,fun y c' e=>?_,I.free,I.freeC,fun p hp=>?_,tracked ⟨oc,hoc,I.freeC x c hc⟩ hs,by simpa using I.len⟩ ⟨c,hs,.inr hc⟩
  ·exact (hs.2 b (Yat (Yaq (Yag e) (I.ok.cab x c hfn hc)))).trans (I.base.keep b o e n hb hx)
  ·obtain⟨sl,e1⟩:=I.base.slot b o e n hb hx;exact⟨sl,(hs.2 b (Yat (Yaq (Yag e) (I.ok.cab x c hfn hc)))).trans e1⟩
  ·obtain⟨o',e1⟩:=I.base.there b o e hx;exact⟨o',(hs.2 b (Yat (Yaq (Yag e) (I.ok.cab x c hfn hc)))).trans e1⟩
  ·by_cases hj:j=i
   ·subst hj;rw[hi] at e1;cases e1;rw[Ydq hiσ] at e2;cases e2;exact⟨u,r,.inr ⟨.inl hk,c,hc,hc'⟩⟩
   ·rw[Ybr (YbO hj)] at e2;obtain⟨u',r',q⟩:=hl j y v' e1 e2 e3;refine⟨u',r',?_⟩;rcases q with q | ⟨k,c',e,z'⟩
    ·exact .inl q
    ·refine .inr ⟨k,c',e,z'.sameBut hs ?_⟩;rintro rfl;exact hj (ZdZ hN e1 (I.ok.inj _ _ _ e hc ▸ hi))
  ·by_cases hcc:c'=c
   ·subst hcc;exact⟨_,hc'⟩
   ·obtain⟨w2,z2⟩:=I.cell y c' e;exact⟨w2,z2.sameBut hs hcc⟩
  ·obtain⟨e,n,ne,nf,d⟩:=I.pin p hp;refine⟨(hs.2 p.1 ?_).trans e,n,ne,nf,d⟩;intro q;rw[q,hoc] at e;have q':oc=p.2:=Yaz e;exact d w' (by rw[<- q'];exact hocd)
theorem ZdQ {M:Model}{A:Around}{E:Value->Shared->Prop}{i:Nat}{x:Str}{v:V}{u:Value}{Q:Unit->Shared->Prop} (I:Inv X pins σ H s) (hN:X.N.Nodup) (hi:X.N[i]?=some x) (hx:Loc X.env.scope x) (r:RelV v u)
  (h:∀ s',Inv X pins (σ.set i (some v)) H s'->Q () s') (hf:X.fn x=true∨X.env.scope.names.lookup x=some .local:=by first | exact .inl rfl | exact .inr rfl | assumption):wpAny M A (storeName X.env x u) Q E s :=
 ZeM I hN hi hx r (fun s' I' _=>h s' I') hf
theorem Inv.call' {s':Shared}{ch:List Addr} (I:Inv X pins σ H s) (ho:s'.os=s.os) (u:Un (frs X.stack) ch H H' s.heap s'.heap) (hok:HOk X.prog X.w H' s'.heap) (hg:AllBare s'.gens)
  (hch:∀ b∈ch,(b∈X.ex∨X.s₀.heap.objs.size<=b)/\b≠X.env.locals/\(∀ x c,X.env.cells.lookup x=some c->c≠b)/\∀ p∈X.pn++pins,p.1≠b):Inv X pins σ H' s':=by
 obtain⟨h',g',d',t',o'⟩:=s';have e:o'=s.os:=ho;subst e;exact I.call (g':=g') (t':=t') (d':=d') u hok hg hch
end
abbrev XK:=Value->Option Addr->Hp->Prop
abbrev St:=List (Option V)
abbrev VK:=V->Hp->Prop
abbrev TE:=St->Hp->VK->Prop
abbrev TT:=St->Hp->(Bool->Hp->Prop)->Prop
abbrev TA:=St->Hp->(List V->Hp->Prop)->Prop
structure Ends where
 nx:St->Hp->Prop
 rt:VK
 bk:St->Hp->Prop:=fun _ _=>False
 ct:St->Hp->Prop:=fun _ _=>False
abbrev TS:=Ends->St->Hp->Prop
def EP (X:Cx) (pins:List (Addr × Obj)) (σ:St) (Q:VK) (u:Value) (s':Shared):Prop:=∃ v H',Inv X pins σ H' s'/\RelV v u/\Q v H'
def TP (X:Cx) (pins:List (Addr × Obj)) (σ:St) (Q:Bool->Hp->Prop) (b:Bool) (s':Shared):Prop:=∃ H',Inv X pins σ H' s'/\Q b H'
def AP (X:Cx) (pins:List (Addr × Obj)) (σ:St) (Q:List V->Hp->Prop) (us:List Value) (s':Shared):Prop:=∃ vs H',Inv X pins σ H' s'/\Vals vs us/\Q vs H'
def SP (X:Cx) (pins:List (Addr × Obj)) (D:Ends) (f:Flow) (s':Shared):Prop :=
 match f with
 | .next=>∃ σ' H',Inv X pins σ' H' s'/\D.nx σ' H'
 | .brk=>∃ σ' H',Inv X pins σ' H' s'/\D.bk σ' H'
 | .cont=>∃ σ' H',Inv X pins σ' H' s'/\D.ct σ' H'
 | .ret u=>∃ v σ' H',Inv X pins σ' H' s'/\RelV v u/\D.rt v H'
def PE (X:Cx) (e:Expr) (t:TE):Prop :=
 ∀ (pins:List (Addr × Obj)) (s:Shared) (σ:St) (H:Hp) (Q:VK),Inv X pins σ H s->t σ H Q->wpAny (model X.prog X.w) X.A (eval e X.env) (EP X pins σ Q) X.xe s
def PT (X:Cx) (e:Expr) (t:TT):Prop :=
 ∀ (pins:List (Addr × Obj)) (s:Shared) (σ:St) (H:Hp) (Q:Bool->Hp->Prop),Inv X pins σ H s->t σ H Q->wpAny (model X.prog X.w) X.A (isTrue e X.env (eval e X.env)) (TP X pins σ Q) X.xe s
def PW (X:Cx) (e:Expr) (t:TT):Prop :=
 ∀ (whole:Sem Value) (pins:List (Addr × Obj)) (s:Shared) (σ:St) (H:Hp) (Q:Bool->Hp->Prop),Inv X pins σ H s->t σ H Q->wpAny (model X.prog X.w) X.A (isTrue e X.env whole) (TP X pins σ Q) X.xe s
theorem PW.pt {X:Cx}{e:Expr}{t:TT} (h:PW X e t):PT X e t:=h _
def PA (X:Cx) (es:List Expr) (t:TA):Prop :=
 ∀ (pos:Pos) (pins:List (Addr × Obj)) (s:Shared) (σ:St) (H:Hp) (Q:List V->Hp->Prop),Inv X pins σ H s->t σ H Q->wpAny (model X.prog X.w) X.A (spliced (backTo pos (starEach es X.env))) (AP X pins σ Q) X.xe s
def PS (X:Cx) (st:Stmt) (t:TS):Prop :=
 ∀ (pins:List (Addr × Obj)) (s:Shared) (σ:St) (H:Hp) (D:Ends),Inv X pins σ H s->t D σ H->wpAny (model X.prog X.w) X.A (exec st X.env) (SP X pins D) X.xe s
def PSs (X:Cx) (st:List Stmt) (t:TS):Prop :=
 ∀ (pins:List (Addr × Obj)) (s:Shared) (σ:St) (H:Hp) (D:Ends),Inv X pins σ H s->t D σ H->wpAny (model X.prog X.w) X.A (execs st X.env) (SP X pins D) X.xe s
theorem thn {α:Type}{t:Sem α}{Q Q':α->Shared->Prop}{M:Model}{A:Around}{E:Value->Shared->Prop}{s:Shared} (h:wpAny M A t Q E s) (hQ:∀ a s,Q a s->Q' a s):wpAny M A t Q' E s:=wpAny_mono h hQ fun _ _ x=>x
end L2
namespace L2
open PySem PySem.Spec PyProof.Rows
section
variable {X:Cx}
def tVar (i:Nat):TE:=fun σ H Q=>∃ v,σ[i]?=some (some v)/\Q v H
def tC (v:V):TE:=fun _ H Q=>Q v H
theorem Zg4 {i:Nat}{x:Str}{pos:Pos} (hN:X.N[i]?=some x) (hv:Vis X.env.scope x) (hd:(x == ("__debug__":Str))=false:=by decide) (hcd:(x == ("__classdict__":Str))=false:=by decide):PE X (.Name x pos) (tVar i):=by
 intro pins s σ H Q I h;obtain⟨v,e,h⟩:=h;obtain⟨m,hn,hl⟩:=I.loc;obtain⟨u,r,l⟩:=hl i x v hN e hv;have fin:EP X pins σ Q u s:=⟨v,H,I,r,h⟩
 rcases l with ⟨hk,hm⟩ | ⟨hk,c,hc,hcell⟩
 ·exact wpAny_Name (wpAny_loadName_local I.ok.kind hk hn hm fin) hd
 ·rcases hk with hk | hk
  ·exact wpAny_Name (wpAny_loadName_cell I.ok.kind hk hc hcell fin) hd
  ·exact wpAny_Name (wpAny_loadName_free I.ok.kind hk hc hcell fin hcd) hd
theorem Zae {i j pos}:PE X (.Constant (.int i) j pos) (tC (.int i)):=fun _ _ _ H _ I h=>wpAny_Constant_int ⟨.int i,H,I.tok _,⟨_,rfl⟩,h⟩
theorem ZdL {b j pos}:PE X (.Constant (.bool b) j pos) (tC (.bl b)):=fun _ _ _ H _ I h=>Constant_bool ⟨.bl b,H,I,rfl,h⟩
def Gl (X:Cx) (x:Str):Prop:=X.env.kindOf x=some .globalImplicit
theorem Zfu {E:Value->Shared->Prop}{pins:List (Addr × Obj)}{s:Shared}{σ:St}{H:Hp}{x:Str}{u:Value}{pos:Pos}{Q:Value->Shared->Prop} (I:Inv X pins σ H s) (hg:Gl X x) (hm:X.mg x=some u) (h:Q u s)
  (hd:(x == ("__debug__":Str))=false:=by decide):wpAny (model X.prog X.w) X.A (eval (.Name x pos) X.env) Q E s :=
 Yc4 I.ok.kind hg (Calls.loadGlobal_global (by rw[I.ok.glob];exact I.mod.glob.keeps I.bk) hm h) hd
theorem ZcF {E:Value->Shared->Prop}{pins:List (Addr × Obj)}{s:Shared}{σ:St}{H:Hp}{x:Str}{u:Value}{pos:Pos}{Q:Value->Shared->Prop} (I:Inv X pins σ H s) (hg:Gl X x) (hm:X.mg x=none) (hv:bootBuiltins x=some u) (h:Q u s)
  (hn:x≠"__name__":=by decide) (hd:(x == ("__debug__":Str))=false:=by decide):wpAny (model X.prog X.w) X.A (eval (.Name x pos) X.env) Q E s:=by
 obtain⟨mb,h1,h2⟩:=I.mod.blt;exact Yc4 I.ok.kind hg (Calls.loadGlobal_builtin (by rw[I.ok.glob];exact I.mod.glob.keeps I.bk) hm (by rw[I.ok.blt];exact h1.keeps I.bk) ((h2 x hn).trans hv) h) hd
theorem Ze2 {x:Str}{v:V}{u:Value}{pos:Pos} (hg:Gl X x) (hm:X.mg x=some u) (r:RelV v u) (hd:(x == ("__debug__":Str))=false:=by decide):PE X (.Name x pos) (tC v) :=
 fun _ _ _ H _ I h=>Zfu I hg hm ⟨v,H,I,r,h⟩ hd
theorem Zhz {x:Str}{v:V}{u:Value}{pos:Pos} (hg:Gl X x) (hm:X.mg x=none) (hv:bootBuiltins x=some u) (r:RelV v u) (hn:x≠"__name__":=by decide) (hd:(x == ("__debug__":Str))=false:=by decide):PE X (.Name x pos) (tC v) :=
 fun _ _ _ H _ I h=>ZcF I hg hm hv ⟨v,H,I,r,h⟩ hn hd
variable {a b:Expr}{ta tb:TE}{pos:Pos}
def tB (t:TE):TT:=fun σ H Q=>t σ H fun x H1=>∃ c,x=.bl c/\Q c H1
theorem Zbq {e:Expr}{t:TE} (h:PE X e t) (he:∀ whole,isTrue e X.env whole=(do let v <- whole;standAt e.pos;holding [v] (truthy v)):=by intro _;rfl):PT X e (tB t):=by
 intro pins s σ H Q I hw;refine isTrue_plain (thn (h pins s σ H _ I hw) fun v s1 ⟨x,H1,I1,r1,q1⟩=>?_) (he _);obtain⟨d,rfl,q⟩:=q1;cases r1;exact wpAny_truthy_bool ⟨H1,I1,q⟩
variable {tA tB':TT}{rest:List Expr}
def tOr (t u:TT):TT:=fun σ H Q=>t σ H fun c H1=>if c=true then Q true H1 else u σ H1 Q
def tNot (t:TT):TT:=fun σ H Q=>t σ H fun c H1=>Q (!c) H1
theorem Zc8 (ha:PT X a tA):PW X (.BoolOp .Or [a] pos) tA:=by
 intro wh pins s σ H Q I h;refine isTrue_or (thn (ha pins s σ H Q I h) fun c s1 e=>?_)
 cases c with
 | false=>exact isTrue_or_nil e
 | true=>exact e
theorem Zem (ha:PT X a tA) (hb:PW X (.BoolOp .Or (b::rest) pos) tB'):PW X (.BoolOp .Or (a::b::rest) pos) (tOr tA tB'):=by
 intro wh pins s σ H Q I h;refine isTrue_or (thn (ha pins s σ H _ I h) fun c s1 ⟨H1,I1,q1⟩=>?_)
 cases c with
 | true=>exact⟨H1,I1,q1⟩
 | false=>exact hb wh pins s1 σ H1 Q I1 q1
theorem Zbh (ha:PT X a tA):PT X (.UnaryOp .Not a pos) (tNot tA):=by
 intro pins s σ H Q I h;exact isTrue_not (ha pins s σ H (fun c H1=>Q (!c) H1) I h)
def ZiP (ta tb:TE):TE:=fun σ H Q=>ta σ H fun x H1=>∃ c,x=.bl c/\if c=true then tb σ H1 Q else Q (.bl false) H1
def ZiM (ta:TE):TE:=fun σ H Q=>ta σ H fun x H1=>∃ c,x=.bl c/\Q (.bl (!c)) H1
theorem ZdW {op}{t:TE} (h:PE X a t):PE X (.BoolOp op [a] pos) t:=fun pins s σ H Q I hw=>BoolOp_one (h pins s σ H Q I hw)
theorem ZdX (ha:PE X a ta) (hb:PE X (.BoolOp .And (b::rest) pos) tb):PE X (.BoolOp .And (a::b::rest) pos) (ZiP ta tb):=by
 intro pins s σ H Q I h;refine BoolOp_and (thn (ha pins s σ H _ I h) fun v s1 ⟨x,H1,I1,r1,q1⟩=>?_);obtain⟨c,rfl,q1⟩:=q1;cases r1;refine wpAny_truthy_bool ?_
 cases c with
 | true=>exact hb pins s1 σ H1 Q I1 q1
 | false=>exact⟨.bl false,H1,I1,rfl,q1⟩
theorem Zih (ha:PE X a ta):PE X (.UnaryOp .Not a pos) (ZiM ta):=by
 intro pins s σ H Q I h;refine UnaryOp_ (thn (ha pins s σ H _ I h) fun v s1 ⟨x,H1,I1,r1,q1⟩=>?_);obtain⟨c,rfl,q1⟩:=q1;cases r1;exact not_of (wpAny_truthy_bool ⟨.bl (!c),H1,I1,rfl,q1⟩)
end
end L2
namespace L2
open PySem PySem.Spec PyProof.Rows
def SqL (K:Yab) (H:Hp) (a:Addr) (xs:List V):Prop :=
 Rd H a (.lst xs) ∨
  ∃ (o:Obj) (its:Array Value) (n:Nat),K.lookup a=some o/\o.cls=.type "list"/\o.dict=none/\o.data=.seq its n/\its.size<=sizeLine/\Vals xs its.toList
def SqT (K:Yab) (H:Hp) (a:Addr) (xs:List V):Prop :=
 Rd H a (.tup xs) ∨
  ∃ (o:Obj) (its:Array Value) (n:Nat),K.lookup a=some o/\o.cls=.type "tuple"/\o.data=.seq its n/\its.size<=sizeLine/\Vals xs its.toList
def absV:Value->Option V
 | .none=>some .non
 | .bool b=>some (.bl b)
 | .int i _=>some (.int i)
 | .str x _=>some (.str x)
 | .bytes b _=>some (.byt b)
 | .float b _=>some (.flt b)
 | .ref a=>some (.ref a)
 | .type n=>some (.ty n)
 | _=>none
theorem RelV.abs {x:V}{u:Value} (r:RelV x u):absV u=some x:=by
 cases x with
 | non=>cases r;rfl
 | bl _=>cases r;rfl
 | int _=>obtain⟨t,rfl⟩:=r;rfl
 | str _=>obtain⟨t,rfl⟩:=r;rfl
 | byt _=>obtain⟨t,rfl⟩:=r;rfl
 | flt _=>obtain⟨t,rfl⟩:=r;rfl
 | ref _=>cases r;rfl
 | ty _=>cases r;rfl
theorem RelV.inj {x y:V}{u:Value} (r:RelV x u) (q:RelV y u):x=y:=Yaz (r.abs.symm.trans q.abs)
theorem Vals.inj:∀ {xs ys:List V}{us:List Value},Vals xs us->Vals ys us->xs=ys
 | _,_,_,.nil,.nil=>rfl
 | _,_,_,.cons r t,.cons r' t'=>by rw[r.inj r',Vals.inj t t']
section
variable {X:Cx}{pins:List (Addr × Obj)}{σ:St}{H:Hp}{s:Shared}{a:Addr}{xs ys:List V}
theorem SqL.of {K:Yab} (h:H a=some (.lst xs)):SqL K H a xs:=.inl (.inl h)
theorem SqT.of {K:Yab} (h:H a=some (.tup xs)):SqT K H a xs:=.inl (.inl h)
theorem Inv.list (I:Inv X pins σ H s) (h:SqL X.K H a xs):∃ its:List Value,Vals xs its/\PlainL s.heap a its.toArray/\xs.length<=sizeLine:=by
 rcases h with h | ⟨o,its,n,hk,hc,hd,hs,hz,r⟩
 ·obtain⟨z,its,n,r,e⟩:=h.ok I.hok;exact⟨its,r,⟨_,n,e,rfl,rfl,rfl⟩,z⟩
 ·refine⟨its.toList,r,⟨o,n,I.kIn a o hk,hc,hd,by simpa using hs⟩,?_⟩;have e:=r.length;simp only[Yas] at e;omega
theorem Inv.tuple (I:Inv X pins σ H s) (h:SqT X.K H a xs):∃ its:List Value,Vals xs its/\IsTup s.heap a its.toArray/\xs.length<=sizeLine:=by
 rcases h with h | ⟨o,its,n,hk,hc,hs,hz,r⟩
 ·obtain⟨z,its,r,p⟩:=h.ok I.hok;exact⟨its,r,p.tup,z⟩
 ·refine⟨its.toList,r,⟨o,I.kIn a o hk,hc,n,by simpa using hs⟩,?_⟩;have e:=r.length;simp only[Yas] at e;omega
theorem Inv.list_inj (I:Inv X pins σ H s) (h:SqL X.K H a xs) (h':SqL X.K H a ys):xs=ys:=by
 obtain⟨its,r,⟨o,n,e,_,_,d⟩,_⟩:=I.list h;obtain⟨its',r',⟨o',n',e',_,_,d'⟩,_⟩:=I.list h';rw[e] at e';cases e';rw[d] at d';injection d' with d1 _;have:its=its':=by simpa using congrArg Array.toList d1
 subst this;exact r.inj r'
theorem Inv.tuple_inj (I:Inv X pins σ H s) (h:SqT X.K H a xs) (h':SqT X.K H a ys):xs=ys:=by
 obtain⟨its,r,⟨o,e,_,n,d⟩,_⟩:=I.tuple h;obtain⟨its',r',⟨o',e',_,n',d'⟩,_⟩:=I.tuple h';rw[e] at e';cases e';rw[d] at d';injection d' with d1 _;have:its=its':=by simpa using congrArg Array.toList d1
 subst this;exact r.inj r'
end
abbrev Cx.wish (X:Cx) (E:Value->Shared->Prop):Cx:={ X with xe:=E }
abbrev Cx.nox (X:Cx):Cx:=X.wish fun _ _=>False
theorem Cx.Ok.wish {X:Cx} (ok:X.Ok) (E:Value->Shared->Prop):(X.wish E).Ok :=
 ⟨ok.mod,ok.kind,ok.glob,ok.blt,ok.above,ok.inj,ok.has,ok.cab,ok.hd,ok.frames,ok.stk,ok.exf,ok.bs,ok.bsz,ok.noex,ok.exfs,ok.funs,ok.frf⟩
theorem Cx.Ok.unwish {X:Cx}{E:Value->Shared->Prop} (ok:(X.wish E).Ok):X.Ok :=
 ⟨ok.mod,ok.kind,ok.glob,ok.blt,ok.above,ok.inj,ok.has,ok.cab,ok.hd,ok.frames,ok.stk,ok.exf,ok.bs,ok.bsz,ok.noex,ok.exfs,ok.funs,ok.frf⟩
section
variable {X:Cx}{pins:List (Addr × Obj)}{σ:St}{H:Hp}{s:Shared}{E:Value->Shared->Prop}
theorem Inv.wish (I:Inv X pins σ H s) (E:Value->Shared->Prop):Inv (X.wish E) pins σ H s:=⟨I.ok.wish E,I.os,I.bare,I.base,I.loc,I.cell,I.free,I.freeC,I.pin,I.hok,I.len⟩
theorem Inv.unwish (I:Inv (X.wish E) pins σ H s):Inv X pins σ H s:=⟨I.ok.unwish,I.os,I.bare,I.base,I.loc,I.cell,I.free,I.freeC,I.pin,I.hok,I.len⟩
theorem SP.unwish {D:Ends}{f:Flow}{s':Shared} (h:SP (X.wish E) pins D f s'):SP X pins D f s':=by
 cases f with
 | next=>obtain⟨σ',H',I,q⟩:=h;exact⟨σ',H',I.unwish,q⟩
 | brk=>obtain⟨σ',H',I,q⟩:=h;exact⟨σ',H',I.unwish,q⟩
 | cont=>obtain⟨σ',H',I,q⟩:=h;exact⟨σ',H',I.unwish,q⟩
 | ret u=>obtain⟨v,σ',H',I,r,q⟩:=h;exact⟨v,σ',H',I.unwish,r,q⟩
theorem PSs.nox {st:List Stmt}{t:TS} (h:PSs X.nox st t):PSs X st t:=fun pins s σ H D I hw=>
 wpAny_mono (h pins s σ H D (I.wish _) hw) (fun _ _ q=>q.unwish) fun _ _ z=>YbL z
end
section
variable {X:Cx}{st:Stmt}{rest:List Stmt}{t u:TS}{e:Expr}{te:TE}{pos:Pos}
def Zh3:TS:=fun D σ H=>D.nx σ H
def tSeq (t u:TS):TS:=fun D σ H=>t { D with nx:=u D } σ H
theorem Zb4:PSs X [] Zh3:=fun _ _ σ H _ I h=>wpAny_execs_nil ⟨σ,H,I,h⟩
theorem Zaw (h1:PS X st t) (h2:PSs X rest u):PSs X (st::rest) (tSeq t u):=by
 intro pins s σ H D I h;refine wpAny_execs_cons (thn (h1 pins s σ H { D with nx:=u D } I h) fun f s1 q=>?_)
 cases f with
 | next=>
  obtain⟨σ',H',I',q⟩:=q;exact h2 pins s1 σ' H' D I' q
 | ret v=>exact q
 | brk=>exact q
 | cont=>exact q
theorem Zao (h1:PS X st t):PSs X [st] t:=by
 intro pins s σ H D I h;refine wpAny_execs_cons (thn (h1 pins s σ H D I h) fun f s1 q=>?_)
 cases f with
 | next=>exact wpAny_execs_nil q
 | ret v=>exact q
 | brk=>exact q
 | cont=>exact q
theorem Inv.quiet {pins:List (Addr × Obj)}{σ:St}{H:Hp}{s:Shared} (I:Inv X pins σ H s):interactive X.env=false:=by simp[interactive,I.ok.kind]
def ZiN (te:TE):TS:=fun D σ H=>te σ H fun _ H1=>D.nx σ H1
theorem ZaY (he:PE X e te) (hs:swapsWith e none pos.line X.env=pure false:=by rfl):PS X (.Expr e pos) (ZiN te):=by
 intro pins s σ H D I h;exact wpAny_Expr_any (thn (he pins s σ H _ I h) fun v s1 ⟨x,H1,I1,r1,q1⟩=>⟨σ,H1,I1,q1⟩) I.quiet hs
def tRet (te:TE):TS:=fun D σ H=>te σ H D.rt
theorem Zau (he:PE X e te):PS X (.Return (some e) pos) (tRet te):=by
 intro pins s σ H D I h;exact wpAny_Return_some (thn (he pins s σ H _ I h) fun v s1 ⟨x,H1,I1,r1,q1⟩=>⟨x,σ,H1,I1,r1,q1⟩)
def tIfS (c:TT) (t u:TS):TS:=fun D σ H=>c σ H fun b H1=>if b=true then t D σ H1 else u D σ H1
theorem Zen {c:Expr}{a b:List Stmt}{tc:TT} (hc:PT X c tc) (ha:PSs X a t) (hb:PSs X b u):PS X (.If c a b pos) (tIfS tc t u):=by
 intro pins s σ H D I h;refine wpAny_If (thn (hc pins s σ H _ I h) fun d s1 ⟨H1,I1,q1⟩=>?_)
 cases d with
 | true=>exact ha pins s1 σ H1 D I1 q1
 | false=>exact hb pins s1 σ H1 D I1 q1
def Zh4:TS:=fun _ _ _=>False
theorem Za9 {sts:List Stmt}:PSs X sts Zh4:=fun _ _ _ _ _ _ h=>h.elim
end
abbrev TG:=V->St->Hp->(St->Hp->Prop)->Prop
abbrev TGs:=List V->St->Hp->(St->Hp->Prop)->Prop
def PG (X:Cx) (target:Expr) (t:TG):Prop :=
 ∀ (pins:List (Addr × Obj)) (s:Shared) (σ:St) (H:Hp) (v:V) (u:Value) (Q:St->Hp->Prop),Inv X pins σ H s->RelV v u->t v σ H Q ->
  wpAny (model X.prog X.w) X.A (assign target X.env u) (fun _ s'=>∃ σ' H',Inv X pins σ' H' s'/\Q σ' H') X.xe s
def PGs (X:Cx) (ts:List Expr) (t:TGs):Prop :=
 ∀ (pins:List (Addr × Obj)) (s:Shared) (σ:St) (H:Hp) (vs:List V) (us:List Value) (Q:St->Hp->Prop),Inv X pins σ H s->Vals vs us->t vs σ H Q ->
  wpAny (model X.prog X.w) X.A (assignInOrder ((assignEach ts X.env).map (·.2)) us) (fun _ s'=>∃ σ' H',Inv X pins σ' H' s'/\Q σ' H') X.xe s
abbrev TSet:=V->V->V->Hp->(Hp->Prop)->Prop
def PSet (X:Cx) (t:TSet):Prop :=
 ∀ (pins:List (Addr × Obj)) (s:Shared) (σ:St) (H:Hp) (o i v:V) (ov iv u:Value) (Q:Hp->Prop),Inv X pins σ H s->RelV o ov->RelV i iv->RelV v u->t o i v H Q ->
  wpAny (model X.prog X.w) X.A (setItem ov iv u) (fun _ s'=>∃ H',Inv X pins σ H' s'/\Q H') X.xe s
section
variable {X:Cx}{pos:Pos}
def Zdg (i:Nat):TG:=fun v σ H Q=>Q (σ.set i (some v)) H
theorem Zaq {i:Nat}{x:Str} (hN:X.N.Nodup) (hi:X.N[i]?=some x) (hx:Loc X.env.scope x) (hf:X.fn x=true∨X.env.scope.names.lookup x=some .local:=by first | exact .inl rfl | exact .inr rfl | assumption):PG X (.Name x pos) (Zdg i):=by
 intro pins s σ H v u Q I r h;exact wpAny_assign_Name (ZdQ I hN hi hx r (fun s' I'=>⟨_,H,I',h⟩) hf)
def gNil:TGs:=fun vs σ H Q=>vs=[]/\Q σ H
def ZfD (t:TG) (u:TGs):TGs:=fun vs σ H Q=>∃ v r,vs=v::r/\t v σ H fun σ' H'=>u r σ' H' Q
theorem ZbH:PGs X [] gNil:=by
 intro pins s σ H vs us Q I r h;obtain⟨e,h⟩:=h;subst e;cases r;exact assignInOrder_nil ⟨σ,H,I,h⟩
theorem ZaH {e:Expr}{es:List Expr}{t:TG}{u:TGs} (h1:PG X e t) (h2:PGs X es u)
  (hs:(assignEach (e::es) X.env).map (·.2)=assign e X.env::(assignEach es X.env).map (·.2):=by rfl):PGs X (e::es) (ZfD t u):=by
 intro pins s σ H vs us Q I r h;obtain⟨v,vr,e1,h⟩:=h;subst e1
 cases r with
 | cons r rr=>
  rw[hs];refine assignInOrder_cons (thn (h1 pins s σ H _ _ _ I r h) fun _ s1 ⟨σ1,H1,I1,q1⟩=>?_);exact h2 pins s1 σ1 H1 _ _ Q I1 rr q1
def gTup (K:Yab) (n:Nat) (t:TGs):TG:=fun v σ H Q=>∃ a xs,v=.ref a/\SqT K H a xs/\xs.length=n/\t xs σ H Q
theorem Ze1 {es:List Expr}{k:Nat}{t:TGs}{n:Nat} (hc:X.calm=true) (h:PGs X es t)
  (hn:(assignEach es X.env).length=n:=by rfl) (hst:(assignEach es X.env).findIdx? (·.1)=none:=by rfl):PG X (.Tuple es k pos) (gTup X.K n t):=by
 intro pins s σ H v u Q I r hw;obtain⟨a,xs,e1,hq,hl,hw⟩:=hw;subst e1;cases r;obtain⟨its,rv,ht,hz⟩:=I.tuple hq;refine assign_Tuple_tuple (I.ok.hd hc) ht (by simp[hn,<- hl,rv.length]) hst fun h' hx=>?_;have I1:Inv X pins σ H { s with heap:=h' }:=I.kept (t':=s.toks) fun b o e=>hx b o (Yat (Yag e)) e;exact h pins _ σ H xs _ Q I1 (by simpa using rv) hw
def gSub (to ti:TE) (t:TSet):TG:=fun v σ H Q=>to σ H fun o H1=>ti σ H1 fun i H2=>t o i v H2 fun H3=>Q σ H3
theorem Zid {o i:Expr}{to ti:TE}{t:TSet} (ho:PE X o to) (hi:PE X i ti) (hs:PSet X t)
  (ha:∀ v,assign (.Subscript o i pos) X.env v=(do
   let ov <- holding [v] (eval o X.env)
   let iv <- holding [v,ov] (eval i X.env)
   standAt pos
   holding [v,ov,iv] (setItem ov iv v)
   release [v,ov,iv] []):=by intro _;rfl):PG X (.Subscript o i pos) (gSub to ti t):=by
 intro pins s σ H v u Q I r h;rw[ha];refine wpAny_bind (wpAny_holding (thn (ho pins s σ H _ I h) fun ov s1 ⟨x,H1,I1,r1,q1⟩=>?_));refine wpAny_bind (wpAny_holding (thn (hi pins s1 σ H1 _ I1 q1) fun iv s2 ⟨y,H2,I2,r2,q2⟩=>?_));refine wpAny_bind (wpAny_standAt (wpAny_bind (wpAny_holding (thn (hs pins s2 σ H2 x y v ov iv u _ I2 r1 r2 r q2) fun _ s3 ⟨H3,I3,q3⟩=>?_))));exact wpAny_release ⟨σ,H3,I3,q3⟩
def tAsg (te:TE) (g:TG):TS:=fun D σ H=>te σ H fun x H1=>g x σ H1 D.nx
theorem ZeW {tg e:Expr}{te:TE}{g:TG} (he:PE X e te) (hg:PG X tg g) (hs:swapsWithSole [tg] e pos.line X.env=pure false:=by rfl) (hw:swappedStores [tg] e X.env=pure none:=by rfl)
  (h1:(assignEach [tg] X.env).map (·.2)=[assign tg X.env]:=by rfl):PS X (.Assign [tg] e pos) (tAsg te g):=by
 intro pins s σ H D I h;refine wpAny_Assign_stores (thn (he pins s σ H _ I h) fun v s1 ⟨x,H1,I1,r1,q1⟩=>?_) hs hw;rw[h1];exact thn (hg pins s1 σ H1 x v _ I1 r1 q1) fun _ s2 q=>q
theorem Zal {i:Nat}{x:Str}{e:Expr}{te:TE}{pos':Pos} (hN:X.N.Nodup) (hi:X.N[i]?=some x) (hx:Loc X.env.scope x) (he:PE X e te) (hs:swapsWith e (some (.Name x pos')) pos.line X.env=pure false:=by rfl) (hf:X.fn x=true∨X.env.scope.names.lookup x=some .local:=by first | exact .inl rfl | exact .inr rfl | assumption) :
  PS X (.Assign [.Name x pos'] e pos) (tAsg te (Zdg i)):=by
 intro pins s σ H D I h;refine wpAny_Assign_Name (thn (he pins s σ H _ I h) fun v s1 ⟨y,H1,I1,r1,q1⟩=>?_) hs;exact ZdQ I1 hN hi hx r1 (fun s2 I2=>⟨_,H1,I2,q1⟩) hf
end
section
variable {X:Cx}{pos:Pos}
def Zh1 (c:TT) (tb:TS):TS:=fun D σ H=>∃ W:Nat->St->Hp->Prop,(∃ m,W m σ H)/\∀ m σ H,W m σ H ->
 c σ H fun b H1=>if b=true then ∃ N:St->Hp->Prop,(∀ σ' H',N σ' H'->∃ m',m'<m/\W m' σ' H')/\tb { D with nx:=N,ct:=N,bk:=D.nx } σ H1 else D.nx σ H1
theorem Zgj {c:Expr}{body:List Stmt}{tc:TT}{tb:TS} (hp:PassesOwn (model X.prog X.w) X.A X.env X.xe) (hc:PT X c tc) (hb:PSs X body tb):PS X (.While c body [] pos) (Zh1 tc tb):=by
 intro pins s σ H D I h;obtain⟨W,⟨m0,w0⟩,turn⟩:=h;refine wpAny_While (codeAny_whileLoop (fun n s'=>∃ σ' H',Inv X pins σ' H' s'/\W n σ' H') ?_ m0 ⟨σ,H,I,w0⟩);rintro n s1 ⟨σ1,H1,I1,w1⟩;refine wpAny_passesOwn hp (thn (hc pins s1 σ1 H1 _ I1 (turn n σ1 H1 w1)) fun b s2 ⟨H2,I2,q2⟩=>?_)
 cases b with
 | true=>
  obtain⟨N,hN,q2⟩:=q2;rw[if_pos rfl];refine wpAny_passesOwn hp (thn (hb pins s2 σ1 H2 _ I2 q2) fun f s3 q3=>?_)
  cases f with
  | next=>
   obtain⟨σ3,H3,I3,n3⟩:=q3;obtain⟨m',hm,w3⟩:=hN σ3 H3 n3;exact⟨m',hm,σ3,H3,I3,w3⟩
  | cont=>
   obtain⟨σ3,H3,I3,n3⟩:=q3;obtain⟨m',hm,w3⟩:=hN σ3 H3 n3;exact⟨m',hm,σ3,H3,I3,w3⟩
  | brk=>exact q3
  | ret v=>exact q3
 | false=>
  rw[if_neg Yau];exact wpAny_execs_nil ⟨σ1,H2,I2,q2⟩
end
structure It where
 go:Nat->Hp->Prop
 yld:Nat->Hp->V->Hp->Prop
 stop:Nat->Hp->Prop
def FpOk (X:Cx) (pins:List (Addr × Obj)) (H:Hp) (b:Addr):Prop :=
 H b=none/\b≠X.env.locals/\b ∉ X.fs/\(b∈X.ex∨X.s₀.heap.objs.size<=b)/\(∀ x c,X.env.cells.lookup x=some c->c≠b)/\∀ p∈X.pn++pins,p.1≠b
theorem Inv.fpOk {X:Cx}{pins:List (Addr × Obj)}{σ:St}{H H':Hp}{s:Shared}{b:Addr} (I:Inv X pins σ H s) (hb:s.heap.objs.size<=b) (hn:H' b=none):FpOk X pins H' b:=by
 refine⟨hn,Ybp (Yaq I.lt hb),I.nofs hb,.inr (Ya4 I.sz hb),fun x c e z=>?_,fun p hp z=>?_⟩
 ·obtain⟨v,q⟩:=I.cell x c e;exact absurd (Yaq q.lt (by rw[z];exact hb)) (Ya6 _)
 ·exact absurd (Yaq (Yag (I.pin p hp).1) (by rw[z];exact hb)) (Ya6 _)
structure Turn (P:Program) (w:World) (K:Yab) (tg:Expr) (J:It) (fp:List Addr) (it:Addr) (tn:Nat->Heap->Prop):Prop where
 mem:it∈fp
 obj:∀ i h,tn i h->∀ b∈fp,∃ o,h.get? b=some o/\∀ v,o.data≠.cell v
 keep:∀ i h h',tn i h->(∀ b∈fp,∀ o,h.get? b=some o->h'.get? b=some o)->tn i h'
 item:∀ (X:Cx),X.prog=P->X.w=w->X.K=K->X.calm=true->∀ (i:Nat) (pins:List (Addr × Obj)) (s:Shared) (σ:St) (H:Hp) (E:Value->Shared->Prop),Inv X pins σ H s->(∀ b∈fp,FpOk X pins H b)->tn i s.heap->J.go i H ->
  wpAny (model P w) X.A (pyNext (.ref it)) (fun r s1=>∃ u,r=some u /\
   wpAny (model P w) X.A (letOwnedTupleGo tg (.ref it) u) (fun _ s2=>∃ x H',Inv X pins σ H' s2/\RelV x u/\J.yld i H x H'/\tn (i+1) s2.heap/\∀ b∈fp,H' b=none) E s1) E s
 done:∀ (X:Cx),X.prog=P->X.w=w->X.K=K->X.calm=true->∀ (i:Nat) (pins:List (Addr × Obj)) (s:Shared) (σ:St) (H:Hp) (E:Value->Shared->Prop),Inv X pins σ H s->(∀ b∈fp,FpOk X pins H b)->tn i s.heap->J.stop i H ->
  wpAny (model P w) X.A (pyNext (.ref it)) (fun r s1=>r=none/\Inv X pins σ H s1) E s
 self:∀ (A:Around) (i:Nat) (s:Shared) (Q:Value->Shared->Prop) (E:Value->Shared->Prop),tn i s.heap->Q (.ref it) s->wpAny (model P w) A (pyIter (.ref it)) Q E s
abbrev TI:=St->Hp->(It->Hp->Prop)->Prop
def PIE (X:Cx) (pins:List (Addr × Obj)) (σ:St) (tg:Expr) (R:It->Hp->Prop) (itv:Value) (s2:Shared):Prop :=
 ∃ (it:Addr) (fp:List Addr) (tn:Nat->Heap->Prop) (J:It) (H':Hp),itv=.ref it/\Inv X pins σ H' s2/\Turn X.prog X.w X.K tg J fp it tn/\tn 0 s2.heap/\(∀ b∈fp,FpOk X pins H' b)/\R J H'
def PI (X:Cx) (tg iter:Expr) (wi:TI):Prop :=
 ∀ (pins:List (Addr × Obj)) (s:Shared) (σ:St) (H:Hp) (R:It->Hp->Prop),Inv X pins σ H s->wi σ H R ->
  wpAny (model X.prog X.w) X.A (eval iter X.env) (fun v s1=>wpAny (model X.prog X.w) X.A (pyIter v) (PIE X pins σ tg R) X.xe s1) X.xe s
theorem ZhP {M:Model}{A:Around}{E:Value->Shared->Prop}{s:Shared}{tg:Expr}{it:Addr}{u:Value}{o:Obj}{n:String}{vs:Array Value}{Q:Unit->Shared->Prop} (ho:s.heap.get? it=some o) (hc:o.cls=.type n) (hd:o.data=.fields vs)
    (hn:["enumerate","zip","dict_itemiterator","dict_reverseitemiterator","odict_iterator","itertools.zip_longest","itertools.pairwise"].contains n=false) (hQ:Q () s):wpAny M A (letOwnedTupleGo tg (.ref it) u) Q E s:=by
  unfold letOwnedTupleGo;cases tg <;> first
    | exact wpAny_pure hQ
    | (cases u <;> first
        | exact wpAny_pure hQ
        | (refine wpAny_bind (wpAny_load ho ?_)
           rw[hc,hd];show wpAny M A (if (["enumerate","zip","dict_itemiterator","dict_reverseitemiterator","odict_iterator","itertools.zip_longest","itertools.pairwise"].contains n && vs[0]? == some (rawInt _))=true then _ else _) Q E s;rw[if_neg (by intro h;rw[hn,Bool.false_and] at h;cases h)];exact wpAny_pure hQ))
def Itl (K:Yab) (a:Addr):It :=
 ⟨fun i H=>∃ xs x,SqL K H a xs/\xs[i]?=some x,fun i H x H'=>H'=H/\∀ xs,SqL K H a xs->xs[i]?=some x,fun i H=>∃ xs,SqL K H a xs/\xs.length<=i⟩
def Itt (K:Yab) (a:Addr):It :=
 ⟨fun i H=>∃ xs x,SqT K H a xs/\xs[i]?=some x,fun i H x H'=>H'=H/\∀ xs,SqT K H a xs->xs[i]?=some x,fun i H=>∃ xs,SqT K H a xs/\xs.length<=i⟩
def Itr (lo:Int) (n:Nat):It:=⟨fun i _=>i<n,fun i H x H'=>H'=H/\x=.int (lo+i),fun i _=>n<=i⟩
theorem ZeG {P:Program}{w:World}{K:Yab}{tg:Expr} (a it:Addr):Turn P w K tg (Itl K a) [it] it (fun i h=>h.IsListIter it a i) where
 mem:=by simp
 obj:=fun i h st b hb=>by
  have e:b=it:=by simpa using hb
  subst e;obtain⟨o,e,c,d⟩:=st;exact⟨o,e,fun v z=>by rw[d] at z;cases z⟩
 keep:=fun i h h' st k=>st.at fun o e=>k it (by simp) o e
 item:=by
  intro X hP hw hK hc i pins s σ H E I hf st hg;subst hP hw hK;obtain⟨xs,x,hq,hx⟩:=hg;obtain⟨its,rv,p,hz⟩:=I.list hq;obtain⟨u,hu,ru⟩:=rv.get hx;obtain⟨f0,f1,f2,f3,f4,f5⟩:=hf it (by simp);refine wpAny_pyNext_list_item st p.isList (x:=u) (by simpa using hu) fun h' st' sb=>?_;have I1:Inv X pins σ H { s with heap:=h' }:=I.turned (t':=s.toks) (fun b o hb e=>(sb.2 b hb).trans e) f0 f1 f3 f4 f5;obtain⟨o,e,c,d⟩:=id st';exact⟨u,rfl,ZhP (s:={ s with heap:=h' }) e c d (by decide) ⟨x,H,I1,ru,⟨rfl,fun ys hy=>by rw[I.list_inj hy hq];exact hx⟩,st',fun b hb=>(hf b hb).1⟩⟩
 done:=by
  intro X hP hw hK hc i pins s σ H E I hf st hg;subst hP hw hK;obtain⟨xs,hq,hx⟩:=hg;obtain⟨its,rv,p,hz⟩:=I.list hq;obtain⟨f0,f1,f2,f3,f4,f5⟩:=hf it (by simp);have hl:=rv.length;exact wpAny_pyNext_list_end (I.ok.hd hc) st p.isList (by simp;omega) fun h' eb=>⟨rfl,I.turned (t':=s.toks) (fun b o hb e=>eb b o hb e) f0 f1 f3 f4 f5⟩
 self:=fun _ _ _ _ _ st h=>wpAny_pyIter_listiter st h
theorem Zcm {P:Program}{w:World}{K:Yab}{tg:Expr} (a it:Addr):Turn P w K tg (Itt K a) [it] it (fun i h=>h.IsTupleIter it a i) where
 mem:=by simp
 obj:=fun i h st b hb=>by
  have e:b=it:=by simpa using hb
  subst e;obtain⟨o,e,c,d⟩:=st;exact⟨o,e,fun v z=>by rw[d] at z;cases z⟩
 keep:=fun i h h' st k=>st.at fun o e=>k it (by simp) o e
 item:=by
  intro X hP hw hK hc i pins s σ H E I hf st hg;subst hP hw hK;obtain⟨xs,x,hq,hx⟩:=hg;obtain⟨its,rv,p,hz⟩:=I.tuple hq;obtain⟨u,hu,ru⟩:=rv.get hx;obtain⟨f0,f1,f2,f3,f4,f5⟩:=hf it (by simp);refine wpAny_pyNext_tuple_item st (show s.heap.IsTuple a its.toArray from p) (x:=u) (by simpa using hu) fun h' st' sb=>?_;have I1:Inv X pins σ H { s with heap:=h' }:=I.turned (t':=s.toks) (fun b o hb e=>(sb.2 b hb).trans e) f0 f1 f3 f4 f5;obtain⟨o,e,c,d⟩:=id st';exact⟨u,rfl,ZhP (s:={ s with heap:=h' }) e c d (by decide) ⟨x,H,I1,ru,⟨rfl,fun ys hy=>by rw[I.tuple_inj hy hq];exact hx⟩,st',fun b hb=>(hf b hb).1⟩⟩
 done:=by
  intro X hP hw hK hc i pins s σ H E I hf st hg;subst hP hw hK;obtain⟨xs,hq,hx⟩:=hg;obtain⟨its,rv,p,hz⟩:=I.tuple hq;obtain⟨f0,f1,f2,f3,f4,f5⟩:=hf it (by simp);have hl:=rv.length;exact wpAny_pyNext_tuple_end (I.ok.hd hc) st (show s.heap.IsTuple a its.toArray from p) (by simp;omega) fun h' eb=>⟨rfl,I.turned (t':=s.toks) (fun b o hb e=>eb b o hb e) f0 f1 f3 f4 f5⟩
 self:=fun _ _ _ _ _ st h=>wpAny_pyIter_tupleiter st h
theorem Zed {P:Program}{w:World}{K:Yab}{tg:Expr} (it:Addr) (lo:Int) (n:Nat):Turn P w K tg (Itr lo n) [it] it (fun i h=>IsRangeIter h it (lo+(i:Nat)*1) ((n:Int) - (i:Nat)) 1) where
 mem:=by simp
 obj:=fun i h st b hb=>by
  have e:b=it:=by simpa using hb
  subst e;exact⟨_,st,fun v z=>by
   have z':Data.fields _=Data.cell v:=z;cases z'⟩
 keep:=fun i h h' st k=>k it (by simp) _ st
 item:=by
  intro X hP hw hK hc i pins s σ H E I hf st hg;subst hP hw hK;obtain⟨f0,f1,f2,f3,f4,f5⟩:=hf it (by simp);have W:=Walks.range (prog:=X.prog) (w:=X.w) (I.ok.hd hc) it lo 1 n;refine W.item i s _ _ hg st fun v h' tk hv st' kk=>?_;obtain⟨t,rfl⟩:=hv;have I1:Inv X pins σ H { s with heap:=h',toks:=tk }:=I.turned (fun b o hb e=>kk b o (by simpa using hb) e) f0 f1 f3 f4 f5;refine⟨_,rfl,ZhP (s:={ s with heap:=h',toks:=tk }) (n:="range_iterator") st' rfl rfl (by decide) ⟨.int (lo+i),H,I1,⟨t,?_⟩,⟨rfl,rfl⟩,st',fun b hb=>(hf b hb).1⟩⟩;rw[Int.mul_one]
 done:=by
  intro X hP hw hK hc i pins s σ H E I hf st hg;subst hP hw hK;obtain⟨f0,f1,f2,f3,f4,f5⟩:=hf it (by simp);exact wpAny_pyNext_range_end (I.ok.hd hc) st (by have:n<=i:=hg;omega) fun h' eb=>⟨rfl,I.turned (t':=s.toks) (fun b o hb e=>eb b o hb e) f0 f1 f3 f4 f5⟩
 self:=fun _ _ _ _ _ st h=>wpAny_pyIter_rangeiter st h
end L2
namespace L2
open PySem PySem.Spec PyProof.Rows
section
variable {X:Cx}{tg:Expr}
def iTup (K:Yab) (tl:TE):TI:=fun σ H R=>tl σ H fun x H1=>∃ a,x=.ref a/\(∃ xs,SqT K H1 a xs)/\R (Itt K a) H1
theorem Ze0 {l:Expr}{tl:TE} (hl:PE X l tl):PI X tg l (iTup X.K tl):=by
 intro pins s σ H R I h;refine thn (hl pins s σ H _ I h) fun v s1 ⟨x,H1,I1,r1,q1⟩=>?_;obtain⟨a,e,⟨xs,hq⟩,q⟩:=q1;subst e;cases r1;obtain⟨its,rv,p,hz⟩:=I1.tuple hq;refine wpAny_pyIter_tuple (show s1.heap.IsTuple a its.toArray from p) ?_;refine⟨s1.heap.objs.size,[s1.heap.objs.size],_,_,H1,rfl,I1.kept (t':=s1.toks) fun b o e=>Yaa _ e,Zcm a _,⟨_,Yam _ rfl,rfl,rfl⟩,fun b hb=>?_,q⟩;have e:b=s1.heap.objs.size:=by simpa using hb
 subst e;exact I1.fpOk (Yah _) (I1.hok.fresh (Yah _))
theorem Zgi {pins:List (Addr × Obj)}{σ:St}{H:Hp}{s:Shared}{R:It->Hp->Prop}{E:Value->Shared->Prop}{lo hi:Int}{t u v:Tok}{tk:Nat} (I:Inv X pins σ H s) (h1:-(2 ^ 62)<=lo) (h2:lo<2 ^ 62) (h3:-(2 ^ 62)<=hi) (h4:hi<2 ^ 62)
  (q:R (Itr lo (hi - lo).toNat) H):wpAny (model X.prog X.w) X.A (pyIter (.ref s.heap.objs.size)) (PIE X pins σ tg R) E { s with heap:=s.heap.push { cls:=.type "range",data:=.fields #[.int lo t,.int hi u,.int 1 v] },toks:=tk }:=by
 refine wpAny_pyIter_range (IsRange.new ..) (small_one h1 h2 h3 h4) ?_;have I1:Inv X pins σ H { s with heap:=s.heap.push { cls:=.type "range",data:=.fields #[.int lo t,.int hi u,.int 1 v] },toks:=tk }:=I.kept fun b o e=>Yaa _ e;refine⟨(s.heap.push { cls:=.type "range",data:=.fields #[.int lo t,.int hi u,.int 1 v] }).objs.size,[(s.heap.push { cls:=.type "range",data:=.fields #[.int lo t,.int hi u,.int 1 v] }).objs.size],_,_,H,rfl,
  I1.kept (t':=tk) fun b o e=>Yaa _ e,Zed _ lo (hi - lo).toNat,?_,fun b hb=>?_,q⟩
 ·have e1:lo+((0:Nat):Int)*1=lo:=by simp
  have e2:(((hi - lo).toNat:Nat):Int) - ((0:Nat):Int)=Builtin.Range.rangeSize lo hi 1:=by rw[rangeSize_one];split <;> omega
  show IsRangeIter _ _ (lo+((0:Nat):Int)*1) ((((hi - lo).toNat:Nat):Int) - ((0:Nat):Int)) 1;rw[e1,e2];exact Yam _ rfl
 ·have e:b=(s.heap.push { cls:=.type "range",data:=.fields #[.int lo t,.int hi u,.int 1 v] }).objs.size:=by simpa using hb
  subst e;exact I1.fpOk (Yah _) (I1.hok.fresh (Yah _))
def Zi4 (ta:TA):TI:=fun σ H R=>ta σ H fun vs H1=>∃ j:Int,vs=[.int j]/\-(2 ^ 62)<=j/\j<2 ^ 62/\R (Itr 0 j.toNat) H1
theorem ZaG {a:Expr}{ta:TA}{p pos:Pos} (hg:Gl X "range") (hm:X.mg "range"=none) (ha:PA X [a] ta) (hs:starEach [a] X.env=[(false,eval a X.env)]:=by rfl):PI X tg (.Call (.Name "range" p) [a] [] pos) (Zi4 ta):=by
 intro pins s σ H R I h;refine Call_ (ZcF I hg hm boot_range (Ybu (thn (ha pos pins s σ H _ I h) fun us s1 ⟨vs,H1,I1,r1,q1⟩=>?_) hs rfl));obtain⟨j,e,q1,q2,q⟩:=q1;subst e
 cases r1 with
 | cons r rr=>
  cases rr;obtain⟨t,rfl⟩:=r;exact call_range_1 (Zgi I1 (by omega) (by omega) q1 q2 (by simpa using q))
def tFor (wi:TI) (g:TG) (tb:TS):TS:=fun D σ H=>wi σ H fun J H1=>∃ W:Nat->Nat->St->Hp->Prop,(∃ m,W 0 m σ H1)/\∀ i m σ H,W i m σ H ->
 (J.stop i H/\D.nx σ H)∨(J.go i H/\∃ N:St->Hp->Prop,(∀ σ' H',N σ' H'->∃ m',m'<m/\W (i+1) m' σ' H')/\∀ x H',J.yld i H x H'->g x σ H' fun σ2 H2=>tb { D with nx:=N,ct:=N,bk:=D.nx } σ2 H2)
def Zc9 (fp:List Addr) (h:Heap):List (Addr × Obj):=fp.filterMap fun b=>(h.get? b).map fun o=>(b,o)
theorem Zbd {fp:List Addr}{h:Heap}{b:Addr}{o:Obj} (hb:b∈fp) (e:h.get? b=some o):(b,o)∈Zc9 fp h:=YcF.mpr ⟨b,hb,by rw[e];rfl⟩
theorem Zfi {fp:List Addr}{h:Heap}{p:Addr × Obj} (hp:p∈Zc9 fp h):p.1∈fp/\h.get? p.1=some p.2:=by
 obtain⟨b,hb,e⟩:=YcF.mp hp
 cases q:h.get? b with
 | none=>rw[q] at e;cases e
 | some o=>
  rw[q] at e;have e':(b,o)=p:=Yaz e;subst e';exact⟨hb,q⟩
theorem Inv.pinned {pins:List (Addr × Obj)}{σ:St}{H:Hp}{s:Shared}{fp:List Addr} (I:Inv X pins σ H s) (hf:∀ b∈fp,FpOk X pins H b) (ho:∀ b∈fp,∃ o,s.heap.get? b=some o/\∀ v,o.data≠.cell v):Inv X (pins++Zc9 fp s.heap) σ H s :=
 I.pins_of fun p hp=>(YaA.mp hp).elim (fun z=>I.pin p (YaW _ z)) fun z=>by
  obtain⟨hb,e⟩:=Zfi z;obtain⟨f0,f1,f2,_⟩:=hf p.1 hb;obtain⟨o,e',d⟩:=ho p.1 hb;rw[e] at e';cases e';exact⟨e,f0,f1,f2,d⟩
theorem Inv.unpinned {pins pl:List (Addr × Obj)}{σ:St}{H:Hp}{s:Shared} (I:Inv X (pins++pl) σ H s):Inv X pins σ H s:=I.pins_of fun p hp=>I.pin p (YaW _ (Yct _ hp))
theorem ZbN {iter:Expr}{body:List Stmt}{wi:TI}{g:TG}{tb:TS}{pos:Pos} (hp:PassesOwn (model X.prog X.w) X.A X.env X.xe) (hc:X.calm=true) (hi:PI X tg iter wi) (hg:PG X tg g) (hb:PSs X body tb)
  (hs:∀ x,foldedSetIterable iter X.env x=pure x:=by intro _;rfl):PS X (.For tg iter body [] pos) (tFor wi g tb):=by
 intro pins s σ H D I h;refine wpAny_For (thn (hi pins s σ H _ I h) fun v s1 h1=>thn h1 fun itv s2 h2=>?_) hs;obtain⟨it,fp,tn,J,H2,e,I2,T,st2,f2,W,⟨m0,w0⟩,turn⟩:=h2;subst e;have stat:∀ {H':Hp},(∀ b∈fp,H' b=none)->∀ b∈fp,FpOk X pins H' b:=fun hn b hb=>⟨hn b hb,(f2 b hb).2⟩
 refine codeAny_forLoop_any (fun n s'=>∃ i σ' H',Inv X pins σ' H' s'/\tn i s'.heap/\(∀ b∈fp,H' b=none)/\W i n σ' H') ?_ m0 ⟨0,σ,H2,I2,st2,fun b hb=>(f2 b hb).1,w0⟩;rintro n s3 ⟨i,σ3,H3,I3,st3,fr3,w3⟩;rcases turn i n σ3 H3 w3 with ⟨stop,qn⟩ | ⟨go,N,hN,step⟩
 ·refine wpAny_passesOwn hp (thn (T.done X rfl rfl rfl hc i pins s3 σ3 H3 X.xe I3 (stat fr3) st3 stop) fun r s4 ⟨hr,I4⟩=>?_);subst hr;exact wpAny_execs_nil ⟨σ3,H3,I4,qn⟩
 ·refine wpAny_passesOwn hp (thn (T.item X rfl rfl rfl hc i pins s3 σ3 H3 X.xe I3 (stat fr3) st3 go) fun r s4 ⟨u,hr,h4⟩=>?_);subst hr;refine wpAny_passesOwn hp (thn h4 fun _ s5 ⟨x,H5,I5,r5,y5,st5,fr5⟩=>?_);have I5':=I5.pinned (stat fr5) (T.obj _ _ st5);refine wpAny_passesOwn hp (thn (hg _ s5 σ3 H5 x u _ I5' r5 (step x H5 y5)) fun _ s6 ⟨σ6,H6,I6,q6⟩=>?_);refine wpAny_passesOwn hp (thn (hb _ s6 σ6 H6 _ I6 q6) fun f s7 q7=>?_);have again:∀ {σ7:St}{H7:Hp},Inv X (pins++Zc9 fp s5.heap) σ7 H7 s7->N σ7 H7->∃ m,m<n/\∃ i σ' H',Inv X pins σ' H' s7/\tn i s7.heap/\(∀ b∈fp,H' b=none)/\W i m σ' H':=fun {σ7 H7} I7 n7=>by
   obtain⟨m',hm,w7⟩:=hN σ7 H7 n7;refine⟨m',hm,i+1,σ7,H7,I7.unpinned,T.keep _ _ _ st5 fun b hb o e=>(I7.pin (b,o) (YaW _ (YaW _ (Zbd hb e)))).1,fun b hb=>?_,w7⟩;obtain⟨o,e,d⟩:=T.obj _ _ st5 b hb;exact (I7.pin (b,o) (YaW _ (YaW _ (Zbd hb e)))).2.1
  cases f with
  | next=>obtain⟨σ7,H7,I7,n7⟩:=q7;exact again I7 n7
  | cont=>obtain⟨σ7,H7,I7,n7⟩:=q7;exact again I7 n7
  | brk=>obtain⟨σ7,H7,I7,q7⟩:=q7;exact⟨σ7,H7,I7.unpinned,q7⟩
  | ret v=>obtain⟨x7,σ7,H7,I7,r7,q7⟩:=q7;exact⟨x7,σ7,H7,I7.unpinned,r7,q7⟩
end
theorem Za1 {lo:Int}{n:Nat}{g:TG}{tb:TS}{D:Ends}{σ:St}{H:Hp} (Pv:Nat->St->Hp->Prop) (h0:Pv 0 σ H)
  (hs:∀ i σ H,i<n->Pv i σ H->g (.int (lo+i)) σ H fun σ2 H2=>tb { D with nx:=Pv (i+1),ct:=Pv (i+1),bk:=D.nx } σ2 H2) (hd:∀ σ H,Pv n σ H->D.nx σ H) :
  ∃ W:Nat->Nat->St->Hp->Prop,(∃ m,W 0 m σ H)/\∀ i m σ H,W i m σ H ->
   ((Itr lo n).stop i H/\D.nx σ H)∨((Itr lo n).go i H/\∃ N:St->Hp->Prop,(∀ σ' H',N σ' H'->∃ m',m'<m/\W (i+1) m' σ' H')/\∀ x H',(Itr lo n).yld i H x H'->g x σ H' fun σ2 H2=>tb { D with nx:=N,ct:=N,bk:=D.nx } σ2 H2):=by
 refine⟨fun i m σ H=>m=n - i/\i<=n/\Pv i σ H,⟨n,by simp,YaX _,h0⟩,?_⟩;rintro i m σ H ⟨rfl,hi,p⟩;by_cases hlt:i<n
 ·refine .inr ⟨hlt,Pv (i+1),fun σ' H' p'=>⟨n - (i+1),by omega,rfl,hlt,p'⟩,fun x H' y=>?_⟩;obtain⟨e,y⟩:=y;subst e y;exact hs i σ _ hlt p
 ·have e:i=n:=by omega
  subst e;exact .inl ⟨Yah _,hd σ H p⟩
end L2
namespace L2
open PySem PySem.Spec PyProof.Rows
abbrev R2:=V->V->Hp->VK->Prop
def OpR (X:Cx) (f:Value->Value->Sem Value) (r:R2):Prop :=
 ∀ (pins:List (Addr × Obj)) (s:Shared) (σ:St) (H:Hp) (x y:V) (v u:Value) (Q:VK),Inv X pins σ H s->RelV x v->RelV y u->r x y H Q ->
  wpAny (model X.prog X.w) X.A (f v u) (EP X pins σ Q) X.xe s
def UnR (X:Cx) (f:Value->Sem Value) (r:V->Hp->VK->Prop):Prop :=
 ∀ (pins:List (Addr × Obj)) (s:Shared) (σ:St) (H:Hp) (x:V) (v:Value) (Q:VK),Inv X pins σ H s->RelV x v->r x H Q ->
  wpAny (model X.prog X.w) X.A (f v) (EP X pins σ Q) X.xe s
def ZbA (X:Cx) (f:Value) (r:List V->Hp->VK->Prop):Prop :=
 ∀ (pins:List (Addr × Obj)) (s:Shared) (σ:St) (H:Hp) (xs:List V) (us:List Value) (Q:VK),Inv X pins σ H s->Vals xs us->r xs H Q ->
  wpAny (model X.prog X.w) X.A (call f us) (EP X pins σ Q) X.xe s
def tOp (r:R2) (ta tb:TE):TE:=fun σ H Q=>ta σ H fun x H1=>tb σ H1 fun y H2=>r x y H2 Q
def tUn (r:V->Hp->VK->Prop) (ta:TE):TE:=fun σ H Q=>ta σ H fun x H1=>r x H1 Q
def rI (C:Int->Int->Prop) (g:Int->Int->V):R2:=fun x y H Q=>∃ i j,x=.int i/\y=.int j/\C i j/\Q (g i j) H
def rI0 (g:Int->Int->V):R2:=fun x y H Q=>∃ i j,x=.int i/\y=.int j/\Q (g i j) H
def rU (g:Int->V):V->Hp->VK->Prop:=fun x H Q=>∃ i,x=.int i/\Q (g i) H
section
variable {X:Cx}{a b c:Expr}{ta tb tc:TE}{pos:Pos}
theorem binT (ha:PE X a ta) (hb:PE X b tb) {pins:List (Addr × Obj)}{s:Shared}{σ:St}{H:Hp}{R:V->V->Hp->Prop} (I:Inv X pins σ H s)
  (h:ta σ H fun x H1=>tb σ H1 fun y H2=>R x y H2) {Q:Value->Shared->Prop}{f:Value->Value->Sem Value}
  (hf:∀ v u s2 x y H2,Inv X pins σ H2 s2->RelV x v->RelV y u->R x y H2->wpAny (model X.prog X.w) X.A (f v u) Q X.xe s2) :
  wpAny (model X.prog X.w) X.A (eval a X.env) (fun v s₁=>wpAny (model X.prog X.w) X.A (eval b X.env) (fun u s₂=>wpAny (model X.prog X.w) X.A (f v u) Q X.xe s₂) X.xe s₁) X.xe s:=by
 refine thn (ha pins s σ H _ I h) fun v s1 ⟨x,H1,I1,r1,q1⟩=>?_;refine thn (hb pins s1 σ H1 _ I1 q1) fun u s2 ⟨y,H2,I2,r2,q2⟩=>?_;exact hf v u s2 x y H2 I2 r1 r2 q2
theorem Zak {op:Operator}{r:R2} (ho:OpR X (binaryOp op) r) (ha:PE X a ta) (hb:PE X b tb):PE X (.BinOp a op b pos) (tOp r ta tb):=by
 intro pins s σ H Q I h;exact wpAny_BinOp (binT ha hb I h fun v u s2 x y H2 I2 rx ry q=>ho pins s2 σ H2 x y v u Q I2 rx ry q)
theorem Zif {op:UnaryOp}{r:V->Hp->VK->Prop} (ho:UnR X (unaryOp op) r) (ha:PE X a ta):PE X (.UnaryOp op a pos) (tUn r ta):=by
 intro pins s σ H Q I h;exact UnaryOp_ (thn (ha pins s σ H _ I h) fun v s1 ⟨x,H1,I1,r1,q1⟩=>ho pins s1 σ H1 x v Q I1 r1 q1)
theorem opI {f:Value->Value->Sem Value}{C:Int->Int->Prop}{g:Int->Int->Int}
  (rule:∀ (i j:Int) (t u:Tok) (s:Shared) (Q:Value->Shared->Prop) (E:Value->Shared->Prop),C i j->Q (.int (g i j) s.toks) { s with toks:=s.toks+1 }->wpAny (model X.prog X.w) X.A (f (.int i t) (.int j u)) Q E s) :
  OpR X f (rI C fun i j=>.int (g i j)):=by
 intro pins s σ H x y v u Q I rx ry h;obtain⟨i,j,rfl,rfl,hc,q⟩:=h;obtain⟨t,rfl⟩:=rx;obtain⟨t',rfl⟩:=ry;exact rule i j t t' s _ _ hc ⟨.int (g i j),H,I.tok _,⟨_,rfl⟩,q⟩
theorem opI0 {f:Value->Value->Sem Value}{g:Int->Int->Int}
  (rule:∀ (i j:Int) (t u:Tok) (s:Shared) (Q:Value->Shared->Prop) (E:Value->Shared->Prop),Q (.int (g i j) s.toks) { s with toks:=s.toks+1 }->wpAny (model X.prog X.w) X.A (f (.int i t) (.int j u)) Q E s) :
  OpR X f (rI0 fun i j=>.int (g i j)):=by
 intro pins s σ H x y v u Q I rx ry h;obtain⟨i,j,rfl,rfl,q⟩:=h;obtain⟨t,rfl⟩:=rx;obtain⟨t',rfl⟩:=ry;exact rule i j t t' s _ _ ⟨.int (g i j),H,I.tok _,⟨_,rfl⟩,q⟩
theorem opB0 {f:Value->Value->Sem Value}{g:Int->Int->Bool}
  (rule:∀ (i j:Int) (t u:Tok) (s:Shared) (Q:Value->Shared->Prop) (E:Value->Shared->Prop),Q (.bool (g i j)) s->wpAny (model X.prog X.w) X.A (f (.int i t) (.int j u)) Q E s) :
  OpR X f (rI0 fun i j=>.bl (g i j)):=by
 intro pins s σ H x y v u Q I rx ry h;obtain⟨i,j,rfl,rfl,q⟩:=h;obtain⟨t,rfl⟩:=rx;obtain⟨t',rfl⟩:=ry;exact rule i j t t' s _ _ ⟨.bl (g i j),H,I,rfl,q⟩
def CDiv (i j:Int):Prop:=0<j/\j<1073741824
def CPow (i j:Int):Prop:=0<=j/\j<=1000000/\i.natAbs<2 ^ 64
def CMul (i j:Int):Prop:=(-(2 ^ 64)<i/\i<2 ^ 64)∨(-(2 ^ 64)<j/\j<2 ^ 64)
theorem CMul.ok {i j:Int} (h:CMul i j):IntMulOk i j:=by
 rcases h with ⟨h1,h2⟩ | ⟨h1,h2⟩
 ·exact .of_left (intBits_le_64 h1 h2)
 ·exact .of_right (intBits_le_64 h1 h2)
theorem ZaV:OpR X (binaryOp .Add) (rI0 fun i j=>.int (i+j)):=opI0 fun _ _ _ _ _ _ _ q=>add_int q
theorem Zbt:OpR X (binaryOp .Sub) (rI0 fun i j=>.int (i - j)):=opI0 fun _ _ _ _ _ _ _ q=>sub_int q
theorem ZcD:OpR X (binaryOp .Mult) (rI CMul fun i j=>.int (i*j)):=opI fun _ _ _ _ _ _ _ hc q=>mul_int q hc.ok
theorem ZhB:OpR X (binaryOp .FloorDiv) (rI CDiv fun i j=>.int (i / j)):=opI fun i j _ _ _ _ _ hc q=>by
 have h1:(0:Int)<j:=hc.1;have h2:j<1073741824:=hc.2;exact floordiv_int (by omega) (by rw[Ydg i (by omega)];exact q) (.inl (PyProof.noPylong_small (by omega)))
theorem ZaJ:OpR X (binaryOp .Mod) (rI (fun _ j=>0<j) fun i j=>.int (i % j)):=opI fun i j _ _ _ _ _ hc q=>by
 have h1:(0:Int)<j:=hc;exact mod_int' (by omega) (by rw[Int.fmod_eq_emod_of_nonneg i (by omega)];exact q)
theorem ZcC:OpR X (binaryOp .Pow) (rI CPow fun i j=>.int (i ^ j.toNat)):=opI fun _ _ _ _ _ _ _ hc q=>pow_int_small hc.1 hc.2.1 hc.2.2 q
theorem unI {f:Value->Sem Value}{g:Int->Int}
  (rule:∀ (i:Int) (t:Tok) (s:Shared) (Q:Value->Shared->Prop) (E:Value->Shared->Prop),Q (.int (g i) s.toks) { s with toks:=s.toks+1 }->wpAny (model X.prog X.w) X.A (f (.int i t)) Q E s) :
  UnR X f (rU fun i=>.int (g i)):=by
 intro pins s σ H x v Q I rx h;obtain⟨i,rfl,q⟩:=h;obtain⟨t,rfl⟩:=rx;exact rule i t s _ _ ⟨.int (g i),H,I.tok _,⟨_,rfl⟩,q⟩
theorem ZgV:UnR X (unaryOp .USub) (rU fun i=>.int (-i)):=unI fun _ _ _ _ _ q=>neg_int q
end
def scal:V->V->Bool
 | .non,.non=>true | .non,.int _=>true | .int _,.non=>true | .non,.bl _=>true | .bl _,.non=>true | .non,.str _=>true | .str _,.non=>true
 | .int _,.int _=>true | .bl _,.bl _=>true | .str _,.str _=>true | .byt _,.byt _=>true
 | .int _,.str _=>true | .str _,.int _=>true | .bl _,.str _=>true | .str _,.bl _=>true
 | _,_=>false
def rEq:R2:=fun x y H Q=>scal x y=true/\Q (.bl (decide (x=y))) H
def rNe:R2:=fun x y H Q=>scal x y=true/\Q (.bl (!decide (x=y))) H
theorem ZfJ {i j:Int}:decide (V.int i=V.int j)=(i == j):=by
 rw[YbZ];simp
theorem Zg9 {i j:Bool}:decide (V.bl i=V.bl j)=(i == j):=by
 rw[YbZ];simp
theorem ZfI {i j:Str}:decide (V.str i=V.str j)=(i == j):=by
 rw[YbZ];simp
theorem ZfK {i j:Array UInt8}:decide (V.byt i=V.byt j)=(i.toList == j.toList):=by
 rw[YbZ];cases i;cases j;simp
section
variable {X:Cx}{a b c:Expr}{ta tb tc:TE}{pos:Pos}
theorem Zax {pins:List (Addr × Obj)}{σ:St}{H:Hp}{s:Shared}{Q:VK}{k k':Bool} (I:Inv X pins σ H s) (q:Q (.bl k) H) (e:k=k'):EP X pins σ Q (.bool k') s:=by
 subst e;exact⟨.bl k,H,I,rfl,q⟩
theorem Zfa:OpR X (compareOp .Eq) rEq:=by
 intro pins s σ H x y v u Q I rx ry h;obtain⟨hs,q⟩:=h
 cases x with
 | non=>
  cases rx
  cases y with
  | non=>cases ry;exact PySem.EqNone.eq_none_none (Zax I q (by simp))
  | bl j=>cases ry;exact PySem.EqNone.eq_none_bool (Zax I q (by simp))
  | int j=>obtain⟨t',rfl⟩:=ry;exact PySem.EqNone.eq_none_int (Zax I q (by simp))
  | str j=>obtain⟨t',rfl⟩:=ry;exact PySem.EqNone.eq_none_str (Zax I q (by simp))
  | _=>exact absurd (show false=true from hs) Yau
 | bl i=>
  cases rx
  cases y with
  | non=>cases ry;exact PySem.EqNone.eq_bool_none (Zax I q (by simp))
  | bl j=>cases ry;exact eq_bool (Zax I q Zg9)
  | str j=>obtain⟨t',rfl⟩:=ry;exact PySem.EqMixed.eq_bool_str (Zax I q (by simp))
  | _=>exact absurd (show false=true from hs) Yau
 | int i=>
  obtain⟨t,rfl⟩:=rx
  cases y with
  | non=>cases ry;exact PySem.EqNone.eq_int_none (Zax I q (by simp))
  | int j=>obtain⟨t',rfl⟩:=ry;exact eq_int (Zax I q ZfJ)
  | str j=>obtain⟨t',rfl⟩:=ry;exact PySem.EqMixed.eq_int_str (Zax I q (by simp))
  | _=>exact absurd (show false=true from hs) Yau
 | str i=>
  obtain⟨t,rfl⟩:=rx
  cases y with
  | non=>cases ry;exact PySem.EqNone.eq_str_none (Zax I q (by simp))
  | bl j=>cases ry;exact PySem.EqMixed.eq_str_bool (Zax I q (by simp))
  | int j=>obtain⟨t',rfl⟩:=ry;exact PySem.EqMixed.eq_str_int (Zax I q (by simp))
  | str j=>obtain⟨t',rfl⟩:=ry;exact eq_str (Zax I q ZfI)
  | _=>exact absurd (show false=true from hs) Yau
 | byt i=>
  obtain⟨t,rfl⟩:=rx
  cases y with
  | byt j=>obtain⟨t',rfl⟩:=ry;exact PySem.W.eq_bytes (Zax I q ZfK)
  | _=>exact absurd (show false=true from hs) Yau
 | _=>cases y <;> exact absurd (show false=true from hs) Yau
theorem Zik:OpR X (compareOp .NotEq) rNe:=by
 intro pins s σ H x y v u Q I rx ry h;obtain⟨hs,q⟩:=h
 cases x with
 | non=>
  cases rx
  cases y with
  | non=>cases ry;exact PySem.EqNone.ne_none_none (Zax I q (by simp))
  | bl j=>cases ry;exact PySem.EqNone.ne_none_bool (Zax I q (by simp))
  | int j=>obtain⟨t',rfl⟩:=ry;exact PySem.EqNone.ne_none_int (Zax I q (by simp))
  | str j=>obtain⟨t',rfl⟩:=ry;exact PySem.EqNone.ne_none_str (Zax I q (by simp))
  | _=>exact absurd (show false=true from hs) Yau
 | bl i=>
  cases rx
  cases y with
  | non=>cases ry;exact PySem.EqNone.ne_bool_none (Zax I q (by simp))
  | bl j=>cases ry;exact ne_bool (Zax I q (congrArg not Zg9))
  | str j=>obtain⟨t',rfl⟩:=ry;exact PySem.EqMixed.ne_bool_str (Zax I q (by simp))
  | _=>exact absurd (show false=true from hs) Yau
 | int i=>
  obtain⟨t,rfl⟩:=rx
  cases y with
  | non=>cases ry;exact PySem.EqNone.ne_int_none (Zax I q (by simp))
  | int j=>obtain⟨t',rfl⟩:=ry;exact ne_int (Zax I q (congrArg not ZfJ))
  | str j=>obtain⟨t',rfl⟩:=ry;exact PySem.EqMixed.ne_int_str (Zax I q (by simp))
  | _=>exact absurd (show false=true from hs) Yau
 | str i=>
  obtain⟨t,rfl⟩:=rx
  cases y with
  | non=>cases ry;exact PySem.EqNone.ne_str_none (Zax I q (by simp))
  | bl j=>cases ry;exact PySem.EqMixed.ne_str_bool (Zax I q (by simp))
  | int j=>obtain⟨t',rfl⟩:=ry;exact PySem.EqMixed.ne_str_int (Zax I q (by simp))
  | str j=>obtain⟨t',rfl⟩:=ry;exact ne_str (Zax I q (congrArg not ZfI))
  | _=>exact absurd (show false=true from hs) Yau
 | byt i=>
  obtain⟨t,rfl⟩:=rx
  cases y with
  | byt j=>obtain⟨t',rfl⟩:=ry;exact PySem.W.ne_bytes (Zax I q (congrArg not ZfK))
  | _=>exact absurd (show false=true from hs) Yau
 | _=>cases y <;> exact absurd (show false=true from hs) Yau
theorem Zil:OpR X (compareOp .Lt) (rI0 fun i j=>.bl (decide (i<j))):=opB0 fun _ _ _ _ _ _ _ q=>lt_int q
theorem Ze8:OpR X (compareOp .LtE) (rI0 fun i j=>.bl (decide (i<=j))):=opB0 fun _ _ _ _ _ _ _ q=>le_int q
theorem Zgo:OpR X (compareOp .Gt) (rI0 fun i j=>.bl (decide (j<i))):=opB0 fun _ _ _ _ _ _ _ q=>gt_int q
theorem Zim:OpR X (compareOp .GtE) (rI0 fun i j=>.bl (decide (j<=i))):=opB0 fun _ _ _ _ _ _ _ q=>ge_int q
theorem ZaP (b:Expr) {op:CmpOp} (h:op≠.In:=by decide) (h2:op≠.NotIn:=by decide):behindInMarks op b=false:=by
 have e1:(op == CmpOp.In)=false:=by cases op <;> first | rfl | exact absurd rfl h
 have e2:(op == CmpOp.NotIn)=false:=by cases op <;> first | rfl | exact absurd rfl h2
 cases b <;> simp[behindInMarks,e1,e2]
theorem Zb6 {op:CmpOp}{r:R2} (ho:OpR X (compareOp op) r) (ha:PE X a ta) (hb:PE X b tb) (hm:behindInMarks op b=false):PE X (.Compare a [op] [b] pos) (tOp r ta tb):=by
 intro pins s σ H Q I h;exact wpAny_Compare1 (binT ha hb I h fun v u s2 x y H2 I2 rx ry q=>ho pins s2 σ H2 x y v u Q I2 rx ry q) hm
def Zh2 (t:TE):TT:=fun σ H Q=>t σ H fun x H'=>∃ k,x=.bl k/\Q k H'
theorem ZaT {op:CmpOp}{r:R2} (ho:OpR X (compareOp op) r) (ha:PE X a ta) (hb:PE X b tb) (hm:behindInMarks op b=false):PT X (.Compare a [op] [b] pos) (Zh2 (tOp r ta tb)):=by
 intro pins s σ H Q I h;refine wpAny_isTrue_Compare1 (thn (ha pins s σ H _ I h) fun v s1 ⟨x,H1,I1,r1,q1⟩=>thn (hb pins s1 σ H1 _ I1 q1) fun u s2 ⟨y,H2,I2,r2,q2⟩=>
  thn (ho pins s2 σ H2 x y v u _ I2 r1 r2 q2) fun c s3 ⟨z,H3,I3,r3,k,e,q3⟩=>?_) hm
 subst e;cases r3;exact wpAny_truthy_bool ⟨H3,I3,q3⟩
def ZgY (r r':R2) (ta tb tc:TE):TE:=fun σ H Q=>ta σ H fun x H1=>tb σ H1 fun y H2=>r x y H2 fun z H3=>∃ k,z=.bl k /\
 (if k=true then tc σ H3 fun w' H4=>r' y w' H4 Q else Q (.bl false) H3)
theorem Zgn {op op':CmpOp}{r r':R2} (ho:OpR X (compareOp op) r) (ho':OpR X (compareOp op') r') (ha:PE X a ta) (hb:PE X b tb) (hc:PE X c tc)
  (hm:lastMarks [op,op'] [b,c]=false:=by with_unfolding_all rfl):PE X (.Compare a [op,op'] [b,c] pos) (ZgY r r' ta tb tc):=by
 intro pins s σ H Q I h;refine Compare_chain (thn (ha pins s σ H _ I h) fun v s1 ⟨x,H1,I1,r1,q1⟩=>chain_link (thn (hb pins s1 σ H1 _ I1 q1) fun u s2 ⟨y,H2,I2,r2,q2⟩=>
  thn (ho pins s2 σ H2 x y v u _ I2 r1 r2 q2) fun d s3 ⟨z,H3,I3,r3,k,e,q3⟩=>?_)) hm
 subst e;cases r3;refine wpAny_truthy_bool ?_
 cases k with
 | false=>exact ite_ff ⟨.bl false,H3,I3,rfl,q3⟩
 | true=>exact ite_tt (chain_last (thn (hc pins s3 σ H3 _ I3 q3) fun w' s4 ⟨z',H4,I4,r4,q4⟩=>ho' pins s4 σ H4 y z' u w' Q I4 r2 r4 q4))
theorem ZdT {op op':CmpOp}{r r':R2} (ho:OpR X (compareOp op) r) (ho':OpR X (compareOp op') r') (ha:PE X a ta) (hb:PE X b tb) (hc:PE X c tc)
  (hm:lastMarks [op,op'] [b,c]=false:=by with_unfolding_all rfl):PT X (.Compare a [op,op'] [b,c] pos) (Zh2 (ZgY r r' ta tb tc)):=by
 intro pins s σ H Q I h;refine isTrue_chain (thn (ha pins s σ H _ I h) fun v s1 ⟨x,H1,I1,r1,q1⟩=>test_link (thn (hb pins s1 σ H1 _ I1 q1) fun u s2 ⟨y,H2,I2,r2,q2⟩=>
  thn (ho pins s2 σ H2 x y v u _ I2 r1 r2 q2) fun d s3 ⟨z,H3,I3,r3,k,e,q3⟩=>?_)) hm
 subst e;cases r3;refine wpAny_truthy_bool ?_
 cases k with
 | false=>
  obtain⟨k',e',q'⟩:=q3;cases e';exact ite_ff ⟨H3,I3,q'⟩
 | true=>
  refine ite_tt (test_last (thn (hc pins s3 σ H3 _ I3 q3) fun w' s4 ⟨z',H4,I4,r4,q4⟩=>thn (ho' pins s4 σ H4 y z' u w' _ I4 r2 r4 q4) fun d' s5 ⟨z2,H5,I5,r5,k2,e2,q5⟩=>?_));subst e2;cases r5;exact wpAny_truthy_bool ⟨H5,I5,q5⟩
theorem Zdd:(sizeLine:Nat)<2 ^ 63:=by rw[sizeLine_eq];decide
theorem ZbU {x:V}{us:List Value} (r:Vals [x] us):∃ u,us=[u]/\RelV x u:=by
 cases r with
 | cons r1 r2=>cases r2;exact⟨_,rfl,r1⟩
theorem Zhg {x y:V}{us:List Value} (r:Vals [x,y] us):∃ u w',us=[u,w']/\RelV x u/\RelV y w':=by
 cases r with
 | cons r1 r2=>
  cases r2 with
  | cons r3 r4=>cases r4;exact⟨_,_,rfl,r1,r3⟩
theorem Zdq:ZbA X (.type "int") (fun xs H Q=>(∃ i,xs=[.int i]/\Q (.int i) H)∨∃ k,xs=[.bl k]/\Q (.int (if k then 1 else 0)) H):=by
 intro pins s σ H xs us Q I r h;rcases h with ⟨i,rfl,q⟩ | ⟨k,rfl,q⟩
 ·obtain⟨u,rfl,t,rfl⟩:=ZbU r;exact call_int_int ⟨.int i,H,I,⟨_,rfl⟩,q⟩
 ·obtain⟨u,rfl,r1⟩:=ZbU r;cases r1;exact call_int_bool ⟨.int (if k then 1 else 0),H,I.tok _,⟨_,rfl⟩,q⟩
end
end L2
namespace L2
open PySem PySem.Spec PyProof.Rows
structure ObjM (h:Heap) (x dx C:Addr) (mA:Str->Option Value):Prop where
 obj:h.get? x=some (YcO C dx)
 ns:h.Ns1 dx mA
 ne:dx≠x
theorem Zfq {h:Heap}{dx:Addr}{mA:Str->Option Value} (n:h.Ns1 dx mA):∃ od,h.get? dx=some od/\∀ name,YcS name od=some (mA name):=by
 obtain⟨o,es,ep,ho,hd,hk,_,hm⟩:=n;refine⟨o,ho,fun name=>?_⟩;have e:=hm name;unfold nsFind findBy at e;rw[<- Array.find?_toList] at e;unfold YcS;rw[hd];dsimp only;split
 ·rename_i y q;rw[q] at e;exact congrArg some e
 ·rename_i q;rw[q] at e;have a:es.toList.any (·.refKey)=false:=by
   rw[List.any_eq_false];intro y hy;obtain⟨z,t,hkey⟩:=hk y (Ycq.mp hy);simp[DictEntry.refKey,hkey]
  have a':¬ es.toList.any (·.refKey)=true:=by rw[a];exact Yau
  rw[if_neg a'];exact congrArg some e
theorem ObjM.look {h:Heap}{x dx C:Addr}{mA:Str->Option Value} (I:ObjM h x dx C mA):∃ od,PySem.W.InstAt h x (YcO C dx) C (some od)/\∀ name,YcS name od=some (mA name) :=
 let ⟨od,ho,hl⟩:=Zfq I.ns
 ⟨od,⟨I.obj,rfl,rfl,ho⟩,hl⟩
section
variable {prog:Program}{w:World}{A:Around}{E:Value->Shared->Prop}{s:Shared}{K:Yab}{x dx C f:Addr}{mA:Str->Option Value}{name:Str}{v:Value}
end
section
variable {P:Program}{w:World}{H H':Hp}{h h':Heap}{a C dx:Addr}{fs fs':List (Str × V)}
theorem ZhM (hok:HOk P w H h) (e:H a=some (.ins C dx fs)):∃ mA,ObjM h a dx C mA/\(∀ f,RelO (fs.lookup f) (mA f))/\PySem.Within mA (fs.map (·.1))/\fs.length<=1000/\H dx=some (.own a):=by
 obtain⟨d,z,ne,ob,mA,n,r,q⟩:=(show ObjOk P w H h a (.ins C dx fs) from hok a _ e)
 exact⟨mA,⟨ob,n,ne⟩,r,q,z,d⟩
end
structure Cls (K:Yab) (C:Addr):Prop where
 pg:YdK K C YcI=true
 hd:PySem.W.hasDictIn K C=true
 po:PySem.W.plainOver K C=true
 sa:Yb1 K (.ref C) "__setattr__"=some (some (.builtin "object.__setattr__"))
theorem Cls.get {K:Yab}{C:Addr} (c:Cls K C) (f:Str):YdK K C f=true:=c.pg
structure Con (K:Yab) (C:Addr) (f:Str) (v:V) (u:Value):Prop where
 at_:Yb1 K (.ref C) f=some (some u)
 rel:RelV v u
 get:YdC K u "__get__"=some none
 cp:PySem.W.copiedNames.contains f=false
structure Meth (K:Yab) (C:Addr) (m:Str) (f:Addr):Prop where
 at_:Yb1 K (.ref C) m=some (some (.ref f))
 fn:PySem.W.isFn K (.ref f)=true
 kp:Yak K (.ref f)=true
section
variable {X:Cx}{pins:List (Addr × Obj)}{σ:St}{H:Hp}{s:Shared}{a C dx:Addr}{fs:List (Str × V)}{f:Str}{v:V}{A:Around}{E:Value->Shared->Prop}
end
section
variable {X:Cx}{o e value:Expr}{f:Str}{pos pos' tpos:Pos}{ta tv:TE}
end
section
variable {X:Cx}{pins:List (Addr × Obj)}{σ:St}{H:Hp}{s:Shared}{A:Around}{E:Value->Shared->Prop}{Q:Value->Shared->Prop}{c:Value}{b:Bool}
inductive TyOf (K:Yab) (H:Hp):V->Value->Prop where
 | non:TyOf K H .non (.type "NoneType")
 | bl (x:Bool):TyOf K H (.bl x) (.type "bool")
 | int (i:Int):TyOf K H (.int i) (.type "int")
 | str (x:Str):TyOf K H (.str x) (.type "str")
 | flt (x:UInt64):TyOf K H (.flt x) (.type "float")
 | lst {a:Addr}{xs:List V} (e:H a=some (.lst xs)):TyOf K H (.ref a) (.type "list")
 | frz {a:Addr}{o:Obj}{xs:List V} (e:H a=some (.frz o (.lst xs))):TyOf K H (.ref a) (.type "list")
 | tup {a:Addr}{xs:List V} (e:H a=some (.tup xs)):TyOf K H (.ref a) (.type "tuple")
 | dK {a:Addr}{kvs:List (Key × V)} (e:H a=some (.dK kvs)):TyOf K H (.ref a) (.type "dict")
 | dT {a:Addr}{kvs:List (List Key × V)} (e:H a=some (.dT kvs)):TyOf K H (.ref a) (.type "dict")
 | ins {a C dx:Addr}{fs:List (Str × V)} (e:H a=some (.ins C dx fs)) (cl:Cls K C) (ha:Yb1 K (.ref C) "__class__"=some (some (.builtin "object.__class__")))
   (hn:YdC K (.builtin "object.__class__") "__get__"=some (some (.builtin "getset_descriptor.__get__"))) (htk:PySem.W.takesIn K (.builtin "object.__class__")=some true)
   (hm:PySem.W.mroIn K C (.type "object")=some true):TyOf K H (.ref a) (.ref C)
theorem Zfx {x:V}{u t:Value} (I:Inv X pins σ H s) (rx:RelV x u) (ty:TyOf X.K H x t) (e:Yb0 X.K t c=some b) (h:∀ tk,Q (.bool b) { s with toks:=tk }) :
  wpAny (model X.prog X.w) A (call (.builtin "isinstance") [u,c]) Q E s:=by
 cases ty with
 | non=>cases (show u=Ybq from rx);exact Ya5 PySem.W.kitx_none I.kIn Yb8 e (fun z=>nomatch z) h
 | bl y=>cases (show u=Ycl y from rx);exact Ya5 YdE I.kIn Yb8 e (fun z=>nomatch z) h
 | int i=>obtain⟨t,q⟩:=(show ∃ t,u=YcB i t from rx);cases q;exact Ya5 YdL I.kIn Yb8 e (fun z=>nomatch z) h
 | str y=>obtain⟨t,q⟩:=(show ∃ t,u=YcR y t from rx);cases q;exact Ya5 PySem.W.kitx_str I.kIn Yb8 e (fun z=>nomatch z) h
 | flt y=>obtain⟨t,q⟩:=(show ∃ t,u=Value.float y t from rx);cases q;exact Ya5 PySem.W.kitx_float I.kIn Yb8 e (fun z=>nomatch z) h
 | @lst a xs ea=>
  cases (show u=YaC a from rx);obtain⟨_,_,n,_,h1⟩:=(show ObjOk X.prog X.w H s.heap a (.lst xs) from I.hok a _ ea)
  exact Ya5 YcD I.kIn ⟨_,h1,rfl⟩ e (fun z=>nomatch z) h
 | @frz a ob xs ea=>
  cases (show u=YaC a from rx);obtain⟨_,_,_,n,_,h1⟩:=(show ObjOk X.prog X.w H s.heap a (.frz ob (.lst xs)) from I.hok a _ ea)
  exact Ya5 YcD I.kIn ⟨_,h1,rfl⟩ e (fun z=>nomatch z) h
 | @tup a xs ea=>
  cases (show u=YaC a from rx);obtain⟨_,_,_,p⟩:=(show ObjOk X.prog X.w H s.heap a (.tup xs) from I.hok a _ ea)
  obtain⟨o,h1,h2,_⟩:=p;exact Ya5 Ydt I.kIn ⟨o,h1,h2⟩ e (fun z=>nomatch z) h
 | @dK a kvs ea=>
  cases (show u=YaC a from rx);obtain⟨_,_,vs,_,p⟩:=(show ObjOk X.prog X.w H s.heap a (.dK kvs) from I.hok a _ ea)
  obtain⟨o,es,ep,h1,h2,_⟩:=p;exact Ya5 YdD I.kIn ⟨o,h1,h2.1⟩ e (fun z=>nomatch z) h
 | @dT a kvs ea=>
  cases (show u=YaC a from rx);obtain⟨_,_,xs,_,o,es,ep,h1,h2,_⟩:=(show ObjOk X.prog X.w H s.heap a (.dT kvs) from I.hok a _ ea)
  exact Ya5 YdD I.kIn ⟨o,h1,h2.1⟩ e (fun z=>nomatch z) h
 | @ins a C dx fs ea cl ha hn htk hm=>
  cases (show u=YaC a from rx);obtain⟨mA,O,_⟩:=ZhM I.hok ea;obtain⟨od,J,_⟩:=O.look;exact Ya5 (PySem.W.kitx_own (cl.get _) cl.hd ha hn htk hm) I.kIn J e (fun z=>nomatch z) h
end
end L2
namespace L2
open PySem PySem.Spec PyProof.Rows
structure Room (k:Nat) (A:Around):Prop where
 hd:A.handled=none
 dp:A.depth+3*k+5<recursionLimit
 un:A.units+16*k+200<cLine
 gd:A.guards=some []
theorem Room.mono {j k:Nat}{A:Around} (r:Room k A) (h:j<=k):Room j A:=⟨r.hd,by have:=r.dp;omega,by have:=r.un;omega,r.gd⟩
theorem Room.deeper {k:Nat}{A:Around} (r:Room (k+1) A) (env:Env):Room k (A.deeper env) :=
 ⟨r.hd,by have:=r.dp;show A.depth+1+3*k+5<_;omega,by have:=r.un;show A.units+3+16*k+200<_;omega,r.gd⟩
theorem Room.depth {k:Nat}{A:Around} (r:Room k A):A.depth<recursionLimit:=by have:=r.dp;omega
theorem Room.units {k:Nat}{A:Around} (r:Room k A):A.units+64<cLine:=by have:=r.un;omega
def tNil:TA:=fun _ H Q=>Q [] H
def Zh5 (ta:TE) (tr:TA):TA:=fun σ H Q=>ta σ H fun x H1=>tr σ H1 fun xs H2=>Q (x::xs) H2
section
variable {X:Cx}{e:Expr}{es:List Expr}{te:TE}{t:TA}{pos:Pos}
theorem Zad:PA X [] tNil:=fun _ _ _ _ H Q I h=>Calls.spliced_nil ⟨[],H,I,.nil,h⟩
theorem Zaa (ha:PE X e te) (hr:PA X es t) (hs:starEach (e::es) X.env=(false,eval e X.env)::starEach es X.env:=by rfl):PA X (e::es) (Zh5 te t):=by
 intro pos pins s σ H Q I h;rw[hs];show wpAny _ _ (spliced ((false,eval e X.env)::backTo pos (starEach es X.env))) _ _ s;refine Calls.spliced_cons (thn (ha pins s σ H _ I h) fun u s1 ⟨x,H1,I1,r1,q1⟩=>?_);exact thn (hr pos pins s1 σ H1 _ I1 q1) fun us s2 ⟨xs,H2,I2,r2,q2⟩=>⟨x::xs,H2,I2,.cons r1 r2,q2⟩
def tTup (t:TA):TE:=fun σ H Q=>t σ H fun xs H1=>xs.length<=sizeLine/\∀ p,H1 p=none->Q (.ref p) (upd H1 p (.tup xs))
def tLst (t:TA):TE:=fun σ H Q=>t σ H fun xs H1=>xs.length<=sizeLine/\∀ p,H1 p=none->Q (.ref p) (upd H1 p (.lst xs))
theorem ZcB {x1} (h:PA X es t):PE X (.Tuple es x1 pos) (tTup t):=by
 intro pins s σ H Q I hq;refine wpAny_Tuple_spliced (thn (h pos pins s σ H _ I hq) fun us s1 ⟨xs,H1,I1,r,z,q⟩=>⟨by rw[<- r.length];exact z,?_⟩);have hf:H1 s1.heap.objs.size=none:=I1.hok.fresh (Yah _);refine⟨.ref s1.heap.objs.size,upd H1 s1.heap.objs.size (.tup xs),I1.laid (t':=s1.toks) (fun b u e=>Yaa _ e) (Yah _) ?_,rfl,q _ hf⟩;exact⟨z,us,r,⟨_,Yam _ rfl,rfl,rfl,_,rfl⟩⟩
theorem ZaF (h:PA X es t):PE X (.List es pos) (tLst t):=by
 intro pins s σ H Q I hq;refine wpAny_List_spliced (thn (h pos pins s σ H _ I hq) fun us s1 ⟨xs,H1,I1,r,z,q⟩=>⟨by rw[<- r.length];exact z,?_⟩);have hf:H1 s1.heap.objs.size=none:=I1.hok.fresh (Yah _);refine⟨.ref s1.heap.objs.size,upd H1 s1.heap.objs.size (.lst xs),I1.laid (t':=s1.toks) (fun b u e=>Yaa _ e) (Yah _) ?_,rfl,q _ hf⟩;exact⟨z,us,0,r,Yam _ rfl⟩
end
abbrev Sp:=List V->Hp->VK->XK->Prop
abbrev CXT:=List Env->Hp->Shared->XK->Value->Shared->Prop
structure Env0 (P:Program) (w:World) (K:Yab) (mg:Str->Option Value) (base:Heap) (A:Around) (outer:List Env) (s:Shared) (H:Hp):Prop where
 frames:A.frames=some outer
 mod:Mod K mg base
 bs:∀ b o,base.get? b=some o->s.heap.get? b=some o/\H b=none
 bsz:base.objs.size<=s.heap.objs.size
 funs:s.heap.FunFrames base outer
 frf:∀ b∈frs outer,H b=none
 hok:HOk P w H s.heap
 bare:AllBare s.gens
def CE (outer:List Env) (P:Program) (w:World) (H:Hp) (s:Shared) (Q:VK) (u:Value) (s':Shared):Prop :=
 ∃ v H',s'.os=s.os/\AllBare s'.gens/\Un (frs outer) [] H H' s.heap s'.heap/\HOk P w H' s'.heap/\RelV v u/\Q v H'
def CR (CX:CXT) (outer:List Env) (P:Program) (w:World) (H:Hp) (s:Shared) (Q:VK) (E:XK) (r:Result) (s':Shared):Prop :=
 match r with
 | .ok (.ret u)=>CE outer P w H s Q u s'
 | .ok _=>False
 | .error e=>CX outer H s E e s'
structure FnOk (P:Program) (w:World) (K:Yab) (mg:Str->Option Value) (base:Heap) (CX:CXT) (k:Nat) (f:Addr) (fd:FuncData) (ps:List Str) (sp:Sp):Prop where
 len:∀ vs H Q E,sp vs H Q E->vs.length=ps.length
 run:∀ (A:Around) (outer:List Env) (s:Shared) (H:Hp) (args:Args) (us:List Value) (vs:List V) (Q:VK) (E:XK),Room k A->Env0 P w K mg base A outer s H->BindsTo s fd args (ps.zip us)->Vals vs us->sp vs H Q E ->
  codeAny (model P w) A (.call (.ref f) args) (CR CX outer P w H s Q E) s
section
variable {X:Cx}{pins:List (Addr × Obj)}{σ:St}{H:Hp}{s s':Shared}
theorem Inv.env0 (I:Inv X pins σ H s):Env0 X.prog X.w X.K X.mg X.base X.A X.stack s H :=
 ⟨I.ok.frames,I.ok.mod,I.bs,Ya4 I.ok.bsz I.sz,I.stack,I.stkFree,I.hok,I.bare⟩
theorem Inv.after {Q:VK}{u:Value} (I:Inv X pins σ H s) (h:CE X.stack X.prog X.w H s Q u s'):EP X pins σ Q u s':=by
 obtain⟨v,H',os,bare,un,hok,r,q⟩:=h;obtain⟨hh,g,d,t,os'⟩:=s';obtain rfl:os'=s.os:=os;exact⟨v,H',I.call (h':=hh) (g':=g) (d':=d) (t':=t) (ch:=[]) un hok bare (fun b z=>absurd z (by simp)),r,q⟩
end
def Zf7 (sp:Sp) (dvs:List V) (E:XK) (t:TA):TE:=fun σ H Q=>t σ H fun vs H1=>sp (vs++dvs) H1 Q E
def Binds (K:Yab) (fd:FuncData) (ps:List Str) (ds:List Value):Prop :=
 ∀ (s:Shared) (us:List Value),K.In s.heap->(us++ds).length=ps.length->BindsTo s fd ⟨us,[]⟩ (ps.zip (us++ds))
theorem Binds.all {K:Yab}{fd:FuncData}{ps:List Str} (h:∀ us:List Value,us.length=ps.length->bindArgs fd ⟨us,[]⟩=pure (ps.zip us)):Binds K fd ps []:=fun s us _ hl=>by
 rw[Yc2] at hl ⊢;exact .of_eq (h us hl)
def Zf4 (CX:CXT) (X:Cx) (E:XK):Prop:=∀ (pins:List (Addr × Obj)) (σ:St) (H:Hp) (s:Shared) (e:Value) (s':Shared),Inv X pins σ H s->CX X.stack H s E e s'->X.xe e s'
section
variable {X:Cx}{CX:CXT}{k:Nat}{f C:Addr}{fd:FuncData}{ps:List Str}{sp:Sp}{dvs:List V}{ds:List Value}{E:XK}{x m:Str}{p pos apos:Pos}{e o:Expr}{es:List Expr}{ta:TE}{t:TA}
theorem Zg2 {pins:List (Addr × Obj)}{σ:St}{H:Hp}{s:Shared}{Q:VK}{us:List Value}{vs:List V} (F:FnOk X.prog X.w X.K X.mg X.base CX k f fd ps sp) (hr:Room k X.A) (hb:Binds X.K fd ps ds) (hd:Vals dvs ds) (hx:Zf4 CX X E)
  (I:Inv X pins σ H s) (r:Vals vs us) (h:sp (vs++dvs) H Q E):wpAny (model X.prog X.w) X.A (call (.ref f) us) (EP X pins σ Q) X.xe s:=by
 have r2:Vals (vs++dvs) (us++ds):=r.append hd;have hl:(us++ds).length=ps.length:=by rw[<- r2.length];exact F.len _ _ _ _ h
 refine wpAny_call (codeAny_mono (F.run X.A X.stack s H ⟨us,[]⟩ (us++ds) (vs++dvs) Q E hr I.env0 (hb s us I.kIn hl) r2 h) fun r s' hq=>?_)
 cases r with
 | error e=>exact hx pins σ H s e s' I hq
 | ok fl=>
  cases fl with
  | ret u=>exact I.after hq
  | next=>exact YbL hq
  | brk=>exact YbL hq
  | cont=>exact YbL hq
theorem Ze3 (F:FnOk X.prog X.w X.K X.mg X.base CX k f fd ps sp) (hr:Room k X.A) (hg:Gl X x) (hm:X.mg x=some (.ref f)) (hk:Yak X.K (.ref f)=true) (hb:Binds X.K fd ps ds) (hd:Vals dvs ds) (hx:Zf4 CX X E)
  (ha:PA X (e::es) t) (hdb:(x == ("__debug__":Str))=false:=by decide) (he:starEach (e::es) X.env=(false,eval e X.env)::starEach es X.env:=by rfl) (hpl:(backTo pos (starEach es X.env)).any (·.1)=false:=by rfl) :
  PE X (.Call (.Name x p) (e::es) [] pos) (Zf7 sp dvs E t):=by
 intro pins s σ H Q I h;refine wpAny_Call_Name_kw (Zfu I hg hm ?_ hdb);refine Ydu (h₀:=X.base) I.ok.mod.kin hk (thn (ha pos pins s σ H _ I h) fun us s1 ⟨vs,H1,I1,r,q⟩=>⟨I1.kIn,?_⟩) he hpl;exact Zg2 F hr hb hd hx I1 r q
structure Mk (K:Yab) (C f:Addr):Prop where
 makes:PySem.W.makesIn K C=true
 init:Yb1 K (.ref C) "__init__"=some (some (.ref f))
 fn:PySem.W.isFn K (.ref f)=true
 kp:Yak K (.ref C)=true
end
section
variable {X:Cx}{CX:CXT}{k:Nat}{f C:Addr}{fd:FuncData}{ps ks:List Str}{sp:Sp}{E:XK}{x m:Str}{p pos apos kpos:Pos}{e o:Expr}{es:List Expr}{kws:List Keyword}{te ta:TE}{t tk:TA}{nm:Option Str}
structure KBinds (K:Yab) (fd:FuncData) (ps ks:List Str) (g:List Value->List Value->List Value) (gV:List V->List V->List V):Prop where
 to:∀ (s:Shared) (us ws:List Value),K.In s.heap->(g us ws).length=ps.length->BindsTo s fd ⟨us,ks.zip ws⟩ (ps.zip (g us ws))
 rel:∀ {vs:List V}{us:List Value}{zs:List V}{ws:List Value},Vals vs us->Vals zs ws->Vals (gV vs zs) (g us ws)
variable {g:List Value->List Value->List Value}{gV:List V->List V->List V}
end
structure FnScope (N P:List Str) (sc:Scope):Prop where
 kind:sc.kind=.function
 co:sc.isCoroutine=false
 gen:sc.isGenerator=false
 nd:N.Nodup
 pre:N.take P.length=P
 par:∀ x∈P,sc.names.lookup x=some .local ∨ sc.names.lookup x=some .cell
 nofree:∀ y∈sc.names,y.2≠.free
theorem Zdr {kindOf:Str->Option NameKind}{x:Str}:∀ {binds:List (Str × Value)}{m:Str->Option Value},(∀ v,(x,v) ∉ binds)->bindL kindOf binds m x=m x
 | [],_,_=>rfl
 | (n,v)::r,m,h=>by
  unfold bindL;rw[Zdr fun w hw=>h w (YaM _ hw)];split
  ·have:x≠n:=by rintro rfl;exact h v YaV
   simp[this]
  ·rfl
theorem Zdt {kindOf:Str->Option NameKind}{x:Str}:∀ {binds:List (Str × Value)}{m:Str->Option Value},(∀ v,(x,v) ∉ binds)->bindC kindOf binds m x=m x
 | [],_,_=>rfl
 | (n,v)::r,m,h=>by
  unfold bindC;rw[Zdt fun w hw=>h w (YaM _ hw)];split
  ·rfl
  ·have:x≠n:=by rintro rfl;exact h v YaV
   simp[this]
theorem Zds {kindOf:Str->Option NameKind}{x:Str}{v:Value}:∀ {P:List Str}{vs:List Value}{i:Nat}{m:Str->Option Value},P.Nodup->P[i]?=some x->vs[i]?=some v->kindOf x=some .local ->
  bindL kindOf (P.zip vs) m x=some v
 | [],_,_,_,_,h,_,_=>by simp at h
 | _::_,[],_,_,_,_,h,_=>by simp at h
 | p::P,w::vs,0,m,nd,h1,h2,hk=>by
  simp at h1 h2;subst h1;subst h2;show bindL kindOf ((p,w)::P.zip vs) m p=_;unfold bindL;rw[Zdr fun v hv=>(YbY.mp nd).1 (YcZ hv).1,if_pos hk];simp
 | p::P,w::vs,i+1,m,nd,h1,h2,hk=>by
  show bindL kindOf ((p,w)::P.zip vs) m x=_;unfold bindL;exact Zds (i:=i) (YbY.mp nd).2 (by simpa using h1) (by simpa using h2) hk
theorem Zdu {kindOf:Str->Option NameKind}{x:Str}{v:Value}:∀ {P:List Str}{vs:List Value}{i:Nat}{m:Str->Option Value},P.Nodup->P[i]?=some x->vs[i]?=some v->kindOf x≠some .local ->
  bindC kindOf (P.zip vs) m x=some v
 | [],_,_,_,_,h,_,_=>by simp at h
 | _::_,[],_,_,_,_,h,_=>by simp at h
 | p::P,w::vs,0,m,nd,h1,h2,hk=>by
  simp at h1 h2;subst h1;subst h2;show bindC kindOf ((p,w)::P.zip vs) m p=_;unfold bindC;rw[Zdt fun v hv=>(YbY.mp nd).1 (YcZ hv).1,if_neg hk];simp
 | p::P,w::vs,i+1,m,nd,h1,h2,hk=>by
  show bindC kindOf ((p,w)::P.zip vs) m x=_;unfold bindC;exact Zdu (i:=i) (YbY.mp nd).2 (by simpa using h1) (by simpa using h2) hk
def start (N:List Str) (vs:List V):St:=vs.map some++Yal (N.length - vs.length) none
def cxOf (CX:CXT) (P:Program) (w:World) (K:Yab) (mg:Str->Option Value) (base:Heap) (N:List Str) (qual:Str) (scope:Scope) (f:Addr) (cd:Value) (A:Around) (outer:List Env) (s:Shared) (H:Hp) (E:XK):Cx where
 prog:=P
 w:=w
 K:=K
 mg:=mg
 base:=base
 A:=A.deeper (envOfC qual scope s.heap.objs.size f cd)
 N:=N
 s₀:=s
 H₀:=H
 env:=envOfC qual scope s.heap.objs.size f cd
 outer:=outer
 stack:=envOfC qual scope s.heap.objs.size f cd::outer
 ex:=[]
 calm:=true
 fn:=fun _=>true
 pn:=[]
 xe:=fun e s'=>wpAny (model P w) (A.deeper (envOfC qual scope s.heap.objs.size f cd)) (leaving (envOfC qual scope s.heap.objs.size f cd) e) (fun _ s''=>CX outer H s E e s'') (fun e' s''=>CX outer H s E e' s'') s'
theorem Zeb {sc:Scope}{n:Nat}{x:Str} (h:sc.names.lookup x=some .cell):∃ c,(cellsFrom n sc.names []).lookup x=some c:=by
 have q:=Ydb sc.names n [] (.inl h);exact Option.isSome_iff_exists.mp q
theorem Zfy {CX:CXT}{P:Program}{w:World}{K:Yab}{mg:Str->Option Value}{base:Heap}{N ps:List Str}{qual:Str}{scope:Scope}{f:Addr}{cd:Value}{A:Around}{outer:List Env}{s s1:Shared}{H:Hp}{E:XK}{us:List Value}{vs:List V}
  (S:FnScope N ps scope) (hd:A.handled=none) (e0:Env0 P w K mg base A outer s H) (hl:vs.length=ps.length) (r:Vals vs us)
  (x:InCallC s s.heap.objs.size (bindL (envOfC qual scope s.heap.objs.size f cd).kindOf (ps.zip us) fun _=>none) (cellsFrom (s.heap.objs.size+1) scope.names []) (bindC (envOfC qual scope s.heap.objs.size f cd).kindOf (ps.zip us) fun _=>none) s1) :
  Inv (cxOf CX P w K mg base N qual scope f cd A outer s H E) [] (start N vs) H s1:=by
 have hpl:ps.length<=N.length:=by have:=congrArg YbK S.pre;rw[Yay] at this;omega
 obtain⟨h1,tk,rfl,hk⟩:=x.done;have noA:∀ b:Addr,b ∉ (cxOf CX P w K mg base N qual scope f cd A outer s H E).ex:=fun b z=>absurd (show b∈([]:List Addr) from z) (by simp);refine⟨⟨e0.mod,S.kind,rfl,rfl,Yah _,fun y z c h1 h2=>?_,fun y hy=>?_,fun y c _ h=>?_,fun _=>hd,Around.frames_deeper e0.frames,.inr ⟨rfl,rfl⟩,fun b z=>absurd z (noA b),e0.bs,e0.bsz,fun b _ _=>noA b,fun b z=>absurd z (noA b),e0.funs,e0.frf⟩,
  rfl,e0.bare,Un.kept hk,⟨_,x.toInCall.ns,fun i y v h1 h2 h3=>?_⟩,fun y c h=>⟨_,x.cell y c h⟩,e0.hok.fresh (Yah _),fun y c h=>?_,fun p hp=>absurd (show p∈([]:List (Addr × Obj)) from hp) (by simp),e0.hok.kept hk,?_⟩
 ·exact name_of_addr x.apart (Ybc h1) (Ybc h2)
 ·have hy:scope.names.lookup y=some .cell∨scope.names.lookup y=some .free:=hy;rcases hy with hy | hy
  ·exact Zeb hy
  ·exact absurd rfl (S.nofree _ (Ybc hy))
 ·exact Ya9 (x.above y c (Ybc h))
 ·have hi:i<vs.length:=by
   unfold start at h2;by_cases hi:i<vs.length
   ·exact hi
   ·rw[Yba (by simpa using hi)] at h2;rw[YbN] at h2;split at h2 <;> cases h2
  have ha:vs[i]?=some v:=by
   unfold start at h2;rw[YaP (by simpa using hi),Yai] at h2
   cases e:vs[i]? with
   | none=>rw[e] at h2;cases h2
   | some a=>rw[e] at h2;cases h2;rfl
  obtain⟨u,hu,rv⟩:=r.get ha;have hp:ps[i]?=some y:=by
   rw[<- S.pre,List.getElem?_take_of_lt (by omega)];exact h1
  have ndP:ps.Nodup:=by rw[<- S.pre];exact S.nd.sublist (Yd2 _ _)
  refine⟨u,rv,?_⟩;rcases S.par y (Yav hp) with k | k
  ·exact .inl ⟨k,Zds ndP hp hu k⟩
  ·obtain⟨c,e⟩:=Zeb (n:=s.heap.objs.size+1) k;refine .inr ⟨.inl k,c,e,?_⟩;have q:=x.cell y c e;rw[Zdu ndP hp hu (by show scope.names.lookup y≠_;rw[k];decide)] at q;exact q
 ·exact e0.hok.fresh (Ya9 (x.above y c (Ybc h)))
 ·unfold start;show _=N.length;rw[Yap,Yad,Ybz];omega
theorem ZiC {CX:CXT}{P:Program}{w:World}{K:Yab}{mg:Str->Option Value}{base:Heap}{k:Nat}{f:Addr}{name qual:Str}{params:Arguments}{body:List Stmt}{scope:Scope}{dV kV doc pm cdv ct oc:Value}{an od:Option Addr}
  {osl:Array (Option Value)}{N ps:List Str}{sp:Sp} (lk:K.lookup f=some ⟨oc,od,.func (Yao name qual params body scope dV kV doc pm an cdv ct),osl⟩) (hcd:Yan K cdv qual=true) (S:FnScope N ps scope)
  (len:∀ vs H Q E,sp vs H Q E->vs.length=ps.length)
  (hbody:∀ (A:Around) (outer:List Env) (s:Shared) (H:Hp) (vs:List V) (Q:VK) (E:XK),Room k (A.deeper (envOfC qual scope s.heap.objs.size f cdv))->sp vs H Q E ->
   ∃ t,PSs (cxOf CX P w K mg base N qual scope f cdv A outer s H E) body t/\t { nx:=fun _ H'=>Q .non H',rt:=Q } (start N vs) H) :
  FnOk P w K mg base CX (k+1) f (Yao name qual params body scope dV kV doc pm an cdv ct) ps sp:=by
 refine⟨len,fun A outer s H args us vs Q E hr e0 hb r hsp=>?_⟩;have hl:=len _ _ _ _ hsp;have KX:K.In s.heap:=e0.mod.kin.keeps fun b o e=>(e0.bs b o e).1
 have lim:s.heap.NoLimit:=e0.mod.nolimit.keeps fun b o e=>(e0.bs b o e).1
 have hkind:∀ y∈ps.zip us,scope.names.lookup y.1=some .local ∨ (scope.names.lookup y.1=some .cell/\((cellsFrom (s.heap.objs.size+1) scope.names []).lookup y.1).isSome=true):=fun ⟨n,v⟩ hy=>by
  rcases S.par n (YcZ hy).1 with q | q
  ·exact .inl q
  ·exact .inr ⟨q,Ydb _ _ _ (.inl q)⟩
 refine codeAny_call_function hr.depth (KX _ _ lk) rfl S.co S.gen rfl (PySem.W.codeRec_of KX hcd) (hb _ _ _ _ ?_);refine wpAny_newFunctionEnv_cells S.kind hkind fun env he s1 x=>?_;subst he;refine⟨lim.keeps x.toInCall.keep,codeAny_func ?_⟩;obtain⟨t,ht,hq⟩:=hbody A outer s H vs Q E (hr.deeper _) hsp;have I:Inv (cxOf CX P w K mg base N qual scope f cdv A outer s H E) [] (start N vs) H s1:=Zfy S hr.hd e0 hl r x;refine wpAny_mono (ht [] s1 (start N vs) H _ I hq) (fun fl s' hs=>?_) fun e s' hs=>hs;have fin:∀ {σ':St}{H':Hp}{v:V}{u:Value},Inv (cxOf CX P w K mg base N qual scope f cdv A outer s H E) [] σ' H' s'->RelV v u->Q v H'->CE outer P w H s Q u s' :=
  fun {σ' H' v u} J rv q=>⟨v,H',J.os,J.bare,J.base,J.hok,rv,q⟩
 cases fl with
 | ret u=>
  obtain⟨v,σ',H',J,rv,q⟩:=hs;exact fin J rv q
 | next=>
  obtain⟨σ',H',J,q⟩:=hs;exact fin (v:=V.non) (u:=Ybq) J rfl q
 | brk=>
  obtain⟨_,_,_,q⟩:=hs;exact YbL q
 | cont=>
  obtain⟨_,_,_,q⟩:=hs;exact YbL q
end L2
namespace L2
open PySem PySem.Spec PyProof.Rows
section
variable {X:Cx}{x:Str}{p pos:Pos}{e:Expr}{es:List Expr}{t:TA}{id T:String}{r:List V->Hp->VK->Prop}
def tCB (r:List V->Hp->VK->Prop) (t:TA):TE:=fun σ H Q=>t σ H fun vs H1=>r vs H1 Q
theorem Zam (hc:ZbA X (.builtin id) r) (hg:Gl X x) (hm:X.mg x=none) (hv:bootBuiltins x=some (.builtin id)) (ha:PA X (e::es) t) (hn:x≠"__name__":=by decide) (hdb:(x == ("__debug__":Str))=false:=by decide)
  (he:starEach (e::es) X.env=(false,eval e X.env)::starEach es X.env:=by rfl) (hpl:(backTo pos (starEach es X.env)).any (·.1)=false:=by rfl):PE X (.Call (.Name x p) (e::es) [] pos) (tCB r t):=by
 intro pins s σ H Q I h;refine wpAny_Call_Name_kw (ZcF I hg hm hv ?_ hn hdb);exact PyProof.Rows.callWith_builtin1 (thn (ha pos pins s σ H _ I h) fun us s1 ⟨vs,H1,I1,r1,q1⟩=>hc pins s1 σ H1 vs us Q I1 r1 q1) he hpl
theorem Zav (hc:ZbA X (.type T) r) (hg:Gl X x) (hm:X.mg x=none) (hv:bootBuiltins x=some (.type T)) (ha:PA X (e::es) t) (hn:x≠"__name__":=by decide) (hdb:(x == ("__debug__":Str))=false:=by decide)
  (he:starEach (e::es) X.env=(false,eval e X.env)::starEach es X.env:=by rfl) (hpl:(backTo pos (starEach es X.env)).any (·.1)=false:=by rfl):PE X (.Call (.Name x p) (e::es) [] pos) (tCB r t):=by
 intro pins s σ H Q I h;refine wpAny_Call_Name_kw (ZcF I hg hm hv ?_ hn hdb);exact Ybu (thn (ha pos pins s σ H _ I h) fun us s1 ⟨vs,H1,I1,r1,q1⟩=>hc pins s1 σ H1 vs us Q I1 r1 q1) he hpl
end
end L2
namespace HT
open PySem PyProof.Rows
section
open PySem.SeqAt
open PySem.AutoSeq1 (wpAny_loadPart')
open PySem.MeetsSeq PySem.MeetsSeq2 PySem.MeetsSeq3
end
section
variable {prog:Program}{w:World}{A:Around}{E:Value->Shared->Prop}{s:Shared}
theorem cat_tup {t b:Addr}{vs ws:List Value}{Q:Value->Shared->Prop} (ht:IsTup s.heap t vs.toArray) (hb:IsTup s.heap b ws.toArray) (hv:vs≠[])
  (h1:ws=[]->Q (.ref t) s) (h2:ws≠[]->Q (.ref s.heap.objs.size) { s with heap:=s.heap.push { cls:=.type "tuple",data:=.seq (vs++ws).toArray } })
  (hsz:vs.length+ws.length<=sizeLine):wpAny (model prog w) A (binaryOp .Add (.ref t) (.ref b)) Q E s:=by
 obtain⟨⟨cls,dd,data,sl⟩,ho,hc,n,hd⟩:=id ht;obtain⟨⟨cls2,dd2,data2,sl2⟩,ho2,hc2,n2,hd2⟩:=id hb;simp only at hc hd hc2 hd2;subst hc hd hc2 hd2;have e:vs.toArray++ws.toArray=(vs++ws).toArray:=by simp
 by_cases hw:ws=[]
 ·exact concat_meets ⟨_,ho,rfl⟩ ⟨_,ho2,rfl⟩ noFill_tuple_add seq_tuple_add Ydc Yc7 (YcX _ _)
   (tuple_addW1 t b vs.toArray ws.toArray n n2 dd dd2 sl sl2 (by simpa using hv) (by simp[hw])) ⟨ho,ho2,h1 hw⟩
 ·refine concat_meets ⟨_,ho,rfl⟩ ⟨_,ho2,rfl⟩ noFill_tuple_add seq_tuple_add Ydc Yc7 (YcX _ _)
   (tuple_addW2 t b vs.toArray ws.toArray n n2 dd dd2 sl sl2 (by simpa using hv) (by simpa using hw) (by rw[Yae,Yae];exact hsz)) ⟨ho,ho2,?_⟩
  rw[e];exact h2 hw
def sIx (n d:Nat):Option Int->Nat
 | none=>d
 | some v=>if v<0 then (v+(n:Int)).toNat else min v.toNat n
theorem sIx_nat (n d k:Nat):sIx n d (some (k:Int))=min k n:=by
 show (if (k:Int)<0 then ((k:Int)+(n:Int)).toNat else min (k:Int).toNat n)=min k n;rw[if_neg (by omega),YaS]
theorem Zia (n d:Nat) (hd:d<=n) (o:Option Int):sIx n d o<=n:=by
 cases o with
 | none=>exact hd
 | some v=>
  show (if v<0 then (v+(n:Int)).toNat else min v.toNat n)<=n;by_cases hv:v<0
  ·rw[if_pos hv];omega
  ·rw[if_neg hv];exact Nat.min_le_right _ _
theorem ZfR (v:Int) (n d:Nat):(if v<0 then max (v+(n:Int)) 0 else min v (n:Int))=((sIx n d (some v):Nat):Int):=by
 show (if v<0 then max (v+(n:Int)) 0 else min v (n:Int))=(((if v<0 then (v+(n:Int)).toNat else min v.toNat n):Nat):Int);by_cases hv:v<0
 ·simp only[if_pos hv];omega
 ·simp only[if_neg hv];omega
theorem ZeB (lo hi:Option Int) (n:Nat):YbV lo hi 1 (n:Int)=(((sIx n 0 lo:Nat):Int),((sIx n n hi:Nat):Int)):=by
 have h1:¬ ((1:Int)<0):=by omega
 unfold YbV;simp only[h1,if_false];refine Prod.ext ?_ ?_
 ·cases lo with
  | none=>rfl
  | some v=>exact ZfR v n 0
 ·cases hi with
  | none=>rfl
  | some v=>exact ZfR v n n
theorem Zeq (i j:Nat):Ybx (i:Int) (j:Int) 1=j - i:=by
 unfold Ybx;have h1:(1:Int) > 0:=by omega
 simp only[h1,if_true,Int.ediv_one];split <;> omega
theorem Zcn {v:Value}{o:Option Int}{Q:Option Int->Shared->Prop} (p:IsPart v o) (h:Q o s):wpAny (model prog w) A (Builtin.Slice.slicePartIndex v) Q E s:=by
 cases p with
 | none=>exact slicePart_none h
 | int i t=>exact slicePart_int h
theorem ZbP {sl:Addr}{vl vu:Value}{lo hi:Option Int}{n:Nat}{Q:Int × Int × Nat->Shared->Prop} (hs:s.heap.IsSliceOf sl vl vu .none) (pl:IsPart vl lo) (pu:IsPart vu hi)
  (h:Q (((sIx n 0 lo:Nat):Int),1,sIx n n hi - sIx n 0 lo) s):wpAny (model prog w) A (Ycz (.ref sl) (pure (n:Int))) Q E s:=by
 obtain⟨os,hos,hcs,hds⟩:=id hs;unfold Ycz Builtin.Slice.sliceFields;refine wpAny_bind (wpAny_bind (wpAny_field hos hds (x:=vl) rfl (wpAny_bind (wpAny_field hos hds (x:=vu) rfl (wpAny_bind (wpAny_field hos hds (x:=.none) rfl (wpAny_pure ?_)))))));refine wpAny_bind (slicePart_none ?_);show wpAny _ _ (if ((1:Int) == 0)=true then _ else _) _ _ s;rw[if_neg (by decide)];refine wpAny_bind (Zcn pl (wpAny_bind (Zcn pu (wpAny_bind (wpAny_pure ?_)))));show wpAny _ _ (match YbV lo hi 1 (n:Int) with | (lo,hi)=>pure (lo,(1:Int),Ybx lo hi 1)) _ _ s;rw[ZeB lo hi n];show wpAny _ _ (pure (((sIx n 0 lo:Nat):Int),(1:Int),Ybx ((sIx n 0 lo:Nat):Int) ((sIx n n hi:Nat):Int) 1)) _ _ s;rw[Zeq];exact wpAny_pure h
theorem Zgk (xs:Array Value) (i k:Nat):((YaL k).filterMap fun (m:Nat)=>xs[((i:Int)+(m:Int)*1).toNat]?).toArray=((xs.toList.drop i).take k).toArray:=by
 have e:(fun (m:Nat)=>xs[((i:Int)+(m:Int)*1).toNat]?)=fun m=>xs[i+m]?:=by
  funext m
  have:((i:Int)+(m:Int)*1).toNat=i+m:=by omega
  rw[this]
 rw[e];have:=pick_run xs i k;rw[Yb5] at this;have e2:((fun x=>xs[x]?) ∘ fun x=>i+x)=fun m=>xs[i+m]?:=rfl;rw[e2] at this;rw[this]
theorem getItem_tuple_cut {t sl:Addr}{items:Array Value}{vl vu:Value}{lo hi:Option Int}{Q:Value->Shared->Prop} (ht:IsTup s.heap t items) (hs:s.heap.IsSliceOf sl vl vu .none) (pl:IsPart vl lo) (pu:IsPart vu hi)
  (hw:¬ (sIx items.size 0 lo=0/\sIx items.size items.size hi=items.size))
  (h:Q (.ref s.heap.objs.size) { s with heap:=s.heap.push { cls:=.type "tuple",data:=.seq ((items.toList.drop (sIx items.size 0 lo)).take (sIx items.size items.size hi - sIx items.size 0 lo)).toArray } })
  (hsz:items.size<=sizeLine):wpAny (model prog w) A (getItem (.ref t) (.ref sl)) Q E s:=by
 have htake:sizeOk (.seq ((items.toList.drop (sIx items.size 0 lo)).take (sIx items.size items.size hi - sIx items.size 0 lo)).toArray):=by
  show ((items.toList.drop (sIx items.size 0 lo)).take (sIx items.size items.size hi - sIx items.size 0 lo)).toArray.size<=sizeLine;rw[Yae,Yay,Ya2,Yas];omega
 have hj:sIx items.size items.size hi<=items.size:=Zia _ _ (Yah _) hi;obtain⟨os,hos,hcs,hds⟩:=id hs;have hTs:s.TypeIs (.ref sl) "slice":=⟨os,hos,hcs⟩
 unfold getItem
 try with_reducible refine wpAny_holding ?_
 first | refine wpAny_bind (wpAny_pure ?_) | skip
 refine wpAny_bind (wpAny_sequenceKey ht.typeIs (by decide) ?_);refine wpAny_bind (wpAny_callSpecial?_slot (name:=YbU "__getitem__") ht.typeIs YbI
  (wpAny_call_entry YbI ht.typeIs entry_tuple_getitem ?_ (args_tuple_getitem _ _)))
 show wpAny _ _ (Builtin.Tuple.tupleItemsOf (.ref t) >>= _) _ _ s;refine wpAny_bind (tupleItemsOf_ ht ?_);refine wpAny_bind (wpAny_typeOf hTs ?_);rw[if_pos (by decide)];refine wpAny_bind (ZbP hs pl pu ?_);have hno:¬ ((((sIx items.size 0 lo:Nat):Int) == 0 && (1:Int) == 1 && (sIx items.size items.size hi - sIx items.size 0 lo) == items.size)=true):=by
  intro q;rw[Ycf,Ycf] at q;have q1:((sIx items.size 0 lo:Nat):Int)=0:=eq_of_beq q.1.1;have q2:sIx items.size items.size hi - sIx items.size 0 lo=items.size:=eq_of_beq q.2;exact hw ⟨by omega,by omega⟩
 show wpAny _ _ (if (((sIx items.size 0 lo:Nat):Int) == 0 && (1:Int) == 1 && (sIx items.size items.size hi - sIx items.size 0 lo) == items.size)=true then _ else _) _ _ s;rw[if_neg hno,Zgk]
 first
  | exact wpAny_bind (m:=YbA _) (wpAny_newObj_type (wpAny_pure ⟨_,rfl,wpAny_pure h⟩) htake)
  | exact wpAny_bind (m:=YbA _) (wpAny_newObj_type (wpAny_bind (wpAny_pure (wpAny_pure ⟨_,rfl,wpAny_pure h⟩))) htake)
  | exact wpAny_bind (wpAny_bind (m:=YbA _) (wpAny_newObj_type (wpAny_pure (wpAny_pure ⟨_,rfl,wpAny_pure h⟩)) htake))
  | exact wpAny_bind (wpAny_bind (m:=YbA _) (wpAny_newObj_type (wpAny_pure ⟨_,rfl,wpAny_pure h⟩) htake))
end
end HT
namespace L2
open PySem PySem.Spec PyProof.Rows
abbrev TO:=St->Hp->(Option Int->Hp->Prop)->Prop
def PO (X:Cx) (e:Option Expr) (t:TO):Prop :=
 ∀ (pins:List (Addr × Obj)) (s:Shared) (σ:St) (H:Hp) (Q:Option Int->Hp->Prop),Inv X pins σ H s->t σ H Q ->
  wpAny (model X.prog X.w) X.A (evalPart e X.env) (fun u s'=>∃ o H',Inv X pins σ H' s'/\IsPart u o/\Q o H') X.xe s
def Zhi:TO:=fun _ H Q=>Q none H
def ZiL (t:TE):TO:=fun σ H Q=>t σ H fun x H1=>∃ i,x=.int i/\Q (some i) H1
section
variable {X:Cx}{e:Expr}{te:TE}{lo hi:Option Expr}{tl th:TO}{pos p2:Pos}
theorem Zb5:PO X none Zhi:=by
 intro pins s σ H Q I h;rw[evalPart_none];exact wpAny_pure ⟨none,H,I,.none,h⟩
theorem Zbn (h:PE X e te):PO X (some e) (ZiL te):=by
 intro pins s σ H Q I hw;rw[evalPart_some];refine thn (h pins s σ H _ I hw) fun u s1 ⟨x,H1,I1,r1,q1⟩=>?_;obtain⟨i,rfl,q⟩:=q1;obtain⟨t,rfl⟩:=r1;exact⟨some i,H1,I1,.int i t,q⟩
def SlR (X:Cx) (r:V->Option Int->Option Int->Hp->VK->Prop):Prop :=
 ∀ (pins:List (Addr × Obj)) (s:Shared) (σ:St) (H:Hp) (x:V) (v vl vu:Value) (lo hi:Option Int) (sl:Addr) (Q:VK),Inv X pins σ H s->RelV x v->s.heap.IsSliceOf sl vl vu .none->IsPart vl lo->IsPart vu hi->r x lo hi H Q ->
  ∃ T id,typeLookup (.type T) "__getitem__"=pure (some (.builtin id))/\s.TypeIs v T/\wpAny (model X.prog X.w) X.A (getItem v (.ref sl)) (EP X pins σ Q) X.xe s
def tSl (r:V->Option Int->Option Int->Hp->VK->Prop) (te:TE) (tl th:TO):TE:=fun σ H Q=>te σ H fun x H1=>tl σ H1 fun l H2=>th σ H2 fun u H3=>r x l u H3 Q
theorem Zbs {r:V->Option Int->Option Int->Hp->VK->Prop} (hr:SlR X r) (he:PE X e te) (hl:PO X lo tl) (hu:PO X hi th):PE X (.Subscript e (.Slice lo hi none p2) pos) (tSl r te tl th):=by
 intro pins s σ H Q I h;refine Subscript_ (thn (he pins s σ H _ I h) fun v s1 ⟨x,H1,I1,r1,q1⟩=>?_);refine wpAny_Slice (thn (hl pins s1 σ H1 _ I1 q1) fun vl s2 ⟨l,H2,I2,pl,q2⟩=>thn (hu pins s2 σ H2 _ I2 q2) fun vu s3 ⟨u,H3,I3,pu,q3⟩=>?_);rw[evalPart_none];refine wpAny_pure ?_;have I4:Inv X pins σ H3 { s3 with heap:=s3.heap.push { cls:=.type "slice",data:=.fields #[vl,vu,.none] } }:=I3.kept (t':=s3.toks) fun b ob q=>Yaa _ q;obtain⟨T,id,hT,ht,hg⟩:=hr pins { s3 with heap:=s3.heap.push { cls:=.type "slice",data:=.fields #[vl,vu,.none] } } σ H3 x v vl vu l u s3.heap.objs.size Q I4 r1 (Yca ..) pl pu q3;show wpAny (model X.prog X.w) X.A (subscriptTail e (.Slice lo hi none p2) v (.ref s3.heap.objs.size)) (EP X pins σ Q) X.xe { s3 with heap:=s3.heap.push { cls:=.type "slice",data:=.fields #[vl,vu,.none] } };exact tail_any (ops:=[.ref s3.heap.objs.size,v]) ht hT hg (by with_unfolding_all rfl)
def cutV (xs:List V) (lo hi:Option Int):List V:=(xs.drop (HT.sIx xs.length 0 lo)).take (HT.sIx xs.length xs.length hi - HT.sIx xs.length 0 lo)
theorem Zcc (xs:List V) (lo hi:Option Int):(cutV xs lo hi).length<=xs.length:=by
 unfold cutV;rw[Yay,Ya2];omega
def rSlT (K:Yab):V->Option Int->Option Int->Hp->VK->Prop:=fun x lo hi H Q=>∃ a xs,x=.ref a/\SqT K H a xs /\
 ¬ (HT.sIx xs.length 0 lo=0/\HT.sIx xs.length xs.length hi=xs.length)/\∀ p,H p=none->Q (.ref p) (upd H p (.tup (cutV xs lo hi)))
theorem Zg0:SlR X (rSlT X.K):=by
 intro pins s σ H x v vl vu lo hi sl Q I rx hs pl pu h;obtain⟨a,xs,rfl,hx,hw,q⟩:=h;cases rx;obtain⟨its,r,ht,hz⟩:=I.tuple hx;have hlen:its.toArray.size=xs.length:=by rw[Yae];exact r.length.symm
 refine⟨"tuple",_,YbI.lookup,ht.typeIs,?_⟩;refine HT.getItem_tuple_cut ht hs pl pu (by rw[hlen];exact hw) ?_ (by rw[hlen];exact hz);rw[hlen];refine⟨.ref s.heap.objs.size,_,I.laid (t':=s.toks) (o:=.tup (cutV xs lo hi)) (fun b ob q=>Yaa _ q) (Yah _) ?_,rfl,q _ (I.hok.fresh (Yah _))⟩;exact⟨Ya4 (Zcc xs lo hi) hz,_,(r.drop (HT.sIx xs.length 0 lo)).take (HT.sIx xs.length xs.length hi - HT.sIx xs.length 0 lo),IsTupD.new _ _⟩
def Zic (K:Yab):R2:=fun x y H Q=>∃ a b xs ys,x=.ref a/\y=.ref b/\SqT K H a xs/\SqT K H b ys/\xs≠[]/\xs.length+ys.length<=sizeLine /\
 (ys=[]->Q (.ref a) H)/\(ys≠[]->∀ p,H p=none->Q (.ref p) (upd H p (.tup (xs++ys))))
theorem Vals.nil_iff {xs:List V}{us:List Value} (r:Vals xs us):us=[]↔xs=[]:=by
 cases r with
 | nil=>simp
 | cons _ _=>simp
theorem ZhC:OpR X (binaryOp .Add) (Zic X.K):=by
 intro pins s σ H x y v u Q I rx ry h;obtain⟨a,b,xs,ys,rfl,rfl,ha,hb,hx,hz,q1,q2⟩:=h;cases rx;cases ry;obtain⟨its,r1,p1,_⟩:=I.tuple ha;obtain⟨its2,r2,p2,_⟩:=I.tuple hb;refine HT.cat_tup p1 p2 (fun z=>hx (r1.nil_iff.mp z)) (fun z=>⟨.ref a,H,I,rfl,q1 (r2.nil_iff.mp z)⟩) (fun z=>?_) (by rw[<- r1.length,<- r2.length];exact hz);refine⟨.ref s.heap.objs.size,_,I.laid (t':=s.toks) (o:=.tup (xs++ys)) (fun b ob q=>Yaa _ q) (Yah _) ?_,rfl,q2 (fun w=>z (r2.nil_iff.mpr w)) _ (I.hok.fresh (Yah _))⟩;exact⟨by rw[Yap];exact hz,_,r1.append r2,IsTupD.new _ _⟩
end
end L2
namespace L2
open PySem PySem.Spec PyProof.Rows
def ixN (n:Nat) (i:Int):Option Nat:=if 0<=i then (if i<n then some i.toNat else none) else if -(n:Int)<=i then some (i+n).toNat else none
def atI {α:Type} (xs:List α) (i:Int):Option α:=(ixN xs.length i).bind fun j=>xs[j]?
theorem Zfv {n:Nat}{i:Int}{j:Nat} (h:ixN n i=some j):seqIndex? i n=some j/\j<n/\-(n:Int)<=i/\i<n:=by
 unfold ixN at h;by_cases h0:0<=i
 ·rw[if_pos h0] at h;by_cases h1:i<n
  ·rw[if_pos h1] at h;have e:i.toNat=j:=Yaz h;exact⟨by rw[seqIndex_of h0 h1,e],by omega,by omega,h1⟩
  ·rw[if_neg h1] at h;cases h
 ·rw[if_neg h0] at h;by_cases h1:-(n:Int)<=i
  ·rw[if_pos h1] at h;have e:(i+n).toNat=j:=Yaz h;exact⟨by rw[seqIndex_neg (by omega) h1,e],by omega,h1,by omega⟩
  ·rw[if_neg h1] at h;cases h
theorem Zf2 {α:Type}{xs:List α}{i:Int}{v:α} (h:atI xs i=some v):∃ j,seqIndex? i xs.length=some j/\xs[j]?=some v/\j<xs.length/\-(xs.length:Int)<=i/\i<xs.length:=by
 unfold atI at h
 cases e:ixN xs.length i with
 | none=>rw[e] at h;cases h
 | some j=>
  rw[e] at h;obtain⟨h1,h2,h3,h4⟩:=Zfv e;exact⟨j,h1,h,h2,h3,h4⟩
theorem Za0 {α:Type}{xs:List α}{j:Nat}{v:α} (h:xs[j]?=some v):atI xs (j:Int)=some v:=by
 have hj:j<xs.length:=(Yaf.mp h).1
 have e:ixN xs.length (j:Int)=some j:=by
  unfold ixN;rw[if_pos (by omega),if_pos (by omega)];simp
 unfold atI;rw[e];exact h
theorem ZgR {α:Type} (xs:List α) (v:α):atI (xs++[v]) (-1)=some v:=by
 have hl:(xs++[v]).length=xs.length+1:=by simp
 have e:ixN (xs++[v]).length (-1)=some xs.length:=by
  unfold ixN;rw[hl,if_neg (by decide),if_pos (by omega)];congr 1;omega
 unfold atI;rw[e];show (xs++[v])[xs.length]?=some v;simp
def Zf3 (b:Expr):Prop:=∀ o i,subscripted b false o i=operate [o,i] (getItem o i)
def IxR (X:Cx) (r:R2):Prop :=
 ∀ (value slice:Expr) (pins:List (Addr × Obj)) (s:Shared) (σ:St) (H:Hp) (x y:V) (v u:Value) (Q:VK),Inv X pins σ H s->RelV x v->RelV y u->r x y H Q ->
  subscripted slice false v u=operate [v,u] (getItem v u)->wpAny (model X.prog X.w) X.A (subscriptTail value slice v u) (EP X pins σ Q) X.xe s
def MtR (X:Cx) (id:String) (r:V->List V->Hp->VK->Prop):Prop :=
 ∀ (pins:List (Addr × Obj)) (s:Shared) (σ:St) (H:Hp) (x:V) (xs:List V) (v:Value) (us:List Value) (Q:VK),Inv X pins σ H s->RelV x v->Vals xs us->r x xs H Q ->
  wpAny (model X.prog X.w) X.A (call (.builtin id) (v::us)) (EP X pins σ Q) X.xe s
section
variable {X:Cx}{a b:Expr}{ta tb:TE}{pos:Pos}
theorem ZaM {r:R2} (hr:IxR X r) (ha:PE X a ta) (hb:PE X b tb) (hs:Zf3 b):PE X (.Subscript a b pos) (tOp r ta tb):=by
 intro pins s σ H Q I h;exact Subscript_ (binT ha hb I h fun v u s2 x y H2 I2 rx ry q=>hr a b pins s2 σ H2 x y v u Q I2 rx ry q (hs _ _))
def rIxL (K:Yab):R2:=fun x y H Q=>∃ p xs i v,x=.ref p/\y=.int i/\SqL K H p xs/\atI xs i=some v/\Q v H
def rIxT (K:Yab):R2:=fun x y H Q=>∃ p xs i v,x=.ref p/\y=.int i/\SqT K H p xs/\atI xs i=some v/\Q v H
theorem ZaB:IxR X (rIxL X.K):=by
 intro value slice pins s σ H x y v u Q I rx ry h hs;obtain⟨p,xs,i,z,rfl,rfl,hq,he,q⟩:=h;cases rx;obtain⟨t,rfl⟩:=ry;obtain⟨its,r,pl,hz⟩:=I.list hq;obtain⟨j,h1,h2,h3,h4,h5⟩:=Zf2 he;obtain⟨w,ew,rw'⟩:=r.get h2;have hl:=r.length;have hn:=Zdd;have fin:EP X pins σ Q w s:=⟨z,H,I,rw',q⟩
 by_cases h0:0<=i
 ·have hj:i.toNat=j:=by
   rw[seqIndex_of h0 h5] at h1;exact Yaz h1
  exact item_listR pl.isList h0 (by omega) (by rw[hj];simpa using ew) fin hs
 ·have hj:(i+(its.toArray.size:Int)).toNat=j:=by
   rw[seqIndex_neg (by omega) h4] at h1;rw[Yae,<- hl];exact Yaz h1
  exact subscriptTail_builtinR (x:=w) pl.isList.typeIs slot_list_getitem.lookup
   (wpAny_getItem_list_neg (Q:=fun r s'=>r=w/\EP X pins σ Q r s') pl.isList (by omega) (by rw[Yae] <;> omega) (by omega) (by rw[hj];simpa using ew) ⟨rfl,fin⟩) hs
theorem Zd3:IxR X (rIxT X.K):=by
 intro value slice pins s σ H x y v u Q I rx ry h hs;obtain⟨p,xs,i,z,rfl,rfl,hq,he,q⟩:=h;cases rx;obtain⟨t,rfl⟩:=ry;obtain⟨its,r,pl,hz⟩:=I.tuple hq;obtain⟨j,h1,h2,h3,h4,h5⟩:=Zf2 he;obtain⟨w,ew,rw'⟩:=r.get h2;have hl:=r.length;have hn:=Zdd;have fin:EP X pins σ Q w s:=⟨z,H,I,rw',q⟩
 exact subscriptTail_builtinR (x:=w) pl.typeIs slot_tuple_getitem.lookup
  (getItem_tuple (j:=j) (Q:=fun r s'=>r=w/\EP X pins σ Q r s') pl (by omega) (by omega) (by rw[Yae,<- hl];exact h1) (by simpa using ew) ⟨rfl,fin⟩) hs
theorem Zev (its:List Value) (n j:Nat) (u:Value):Ycr (·.setIfInBounds j u) { cls:=.type "list",data:=.seq its.toArray n }={ cls:=.type "list",data:=.seq (its.set j u).toArray n }:=by
 simp[Ycr]
theorem Inv.lst {pins:List (Addr × Obj)}{σ:St}{H:Hp}{s:Shared}{p:Addr}{xs:List V} (I:Inv X pins σ H s) (h:H p=some (.lst xs)) :
  ∃ (its:List Value) (n:Nat),Vals xs its/\s.heap.get? p=some { cls:=.type "list",data:=.seq its.toArray n }/\xs.length<=sizeLine:=by
 obtain⟨z,its,n,r,e⟩:=I.hok p _ h;exact⟨its,n,r,e,z⟩
theorem Inv.lstUpd {pins:List (Addr × Obj)}{σ:St}{H:Hp}{s:Shared}{p:Addr}{xs ys:List V}{its its':List Value}{n n':Nat}{f:Obj->Obj} (I:Inv X pins σ H s) (h:H p=some (.lst xs))
  (ho:s.heap.get? p=some { cls:=.type "list",data:=.seq its.toArray n }) (hf:f { cls:=.type "list",data:=.seq its.toArray n }={ cls:=.type "list",data:=.seq its'.toArray n' }) (r:Vals ys its') (hz:ys.length<=sizeLine) (t:Nat) :
  Inv X pins σ (upd H p (.lst ys)) { s with heap:=s.heap.update p f,toks:=t }:=by
 have e:(s.heap.update p f).get? p=some { cls:=.type "list",data:=.seq its'.toArray n' }:=by
  rw[Ycn f ho (by rw[hf] <;> rfl),hf]
 refine I.write (x:=p) (e:=p) (by rw[h];trivial) (.inl rfl) (fun b u hb q=>(Ydr _ _ (YbO hb)).trans q) ⟨_,e⟩ ?_;exact⟨hz,its',n',r,e⟩
def ZiU:V->V->V->Hp->(Hp->Prop)->Prop:=fun o i v H Q=>∃ p xs k j,o=.ref p/\i=.int k/\H p=some (.lst xs)/\ixN xs.length k=some j/\Q (upd H p (.lst (xs.set j v)))
theorem Zgc:PSet X ZiU:=by
 intro pins s σ H o i v ov iv u Q I ro ri rv h;obtain⟨p,xs,k,j,rfl,rfl,hp,hj,q⟩:=h;cases ro;obtain⟨t,rfl⟩:=ri;obtain⟨its,n,r,ho,hz⟩:=I.lst hp;obtain⟨h1,h2,h3,h4⟩:=Zfv hj;have hl:=r.length;have hn:=Zdd;have I':Inv X pins σ (upd H p (.lst (xs.set j v))) { s with heap:=s.heap.update p (Ycr (·.setIfInBounds j u)) } :=
  I.lstUpd hp ho (Zev its n j u) (r.set rv j) (by rw[List.length_set];exact hz) s.toks
 by_cases h0:0<=k
 ·have hk:k.toNat=j:=by
   rw[seqIndex_of h0 h4] at h1;exact Yaz h1
  exact PySem.W.ki_setAt ho h0 (by omega) (by rw[Yae,<- hl];exact h4) (by rw[hk];exact⟨_,I',q⟩)
 ·have hk:(k+(its.toArray.size:Int)).toNat=j:=by
   rw[seqIndex_neg (by omega) h3] at h1;rw[Yae,<- hl];exact Yaz h1
  exact PySem.W.ki_setBack ho (by omega) (by rw[Yae,<- hl];exact h3) (by omega) (by rw[hk];exact⟨_,I',q⟩)
theorem Zc5 (lo hi:Option Int) (n:Nat):(sliceBounds lo hi none n).1=((HT.sIx n 0 lo:Nat):Int)/\(sliceBounds lo hi none n).2.1=((HT.sIx n n hi:Nat):Int)/\(sliceBounds lo hi none n).2.2=1:=by
 refine⟨?_,?_,rfl⟩
 ·cases lo with
  | none=>simp[sliceBounds,HT.sIx]
  | some i=>
   simp only[sliceBounds,HT.sIx,YcL,show (1:Int) > 0 by decide,if_true];by_cases h:i<0
   ·simp only[h,if_true] <;> omega
   ·simp only[h,if_false] <;> omega
 ·cases hi with
  | none=>simp[sliceBounds,HT.sIx]
  | some i=>
   simp only[sliceBounds,HT.sIx,YcL,show (1:Int) > 0 by decide,if_true];by_cases h:i<0
   ·simp only[h,if_true] <;> omega
   ·simp only[h,if_false] <;> omega
theorem ZcR (its:List Value) (lo hi:Option Int):slicePick its.toArray lo hi none=((its.drop (HT.sIx its.length 0 lo)).take (HT.sIx its.length its.length hi - HT.sIx its.length 0 lo)).toArray:=by
 obtain⟨h1,h2,h3⟩:=Zc5 lo hi its.toArray.size;unfold slicePick;rw[h1,h2,h3];simp only[sliceRange_one,pick_run,Yae] <;> rfl
def rSlL (K:Yab):V->Option Int->Option Int->Hp->VK->Prop:=fun x lo hi H Q=>∃ a xs,x=.ref a/\SqL K H a xs/\∀ p,H p=none->Q (.ref p) (upd H p (.lst (cutV xs lo hi)))
theorem ZdE:SlR X (rSlL X.K):=by
 intro pins s σ H x v vl vu lo hi sl Q I rx hs pl pu h;obtain⟨a,xs,rfl,hx,q⟩:=h;cases rx;obtain⟨its,r,ht,hz⟩:=I.list hx;have hlen:=r.length;refine⟨"list",_,slot_list_getitem.lookup,ht.isList.typeIs,?_⟩;refine wpAny_getItem_list_slice ht.isList hs pl pu .none (by simp) ?_ (by rw[Yae] <;> omega);rw[ZcR,<- hlen];refine⟨.ref s.heap.objs.size,_,I.laid (t':=s.toks) (o:=.lst (cutV xs lo hi)) (fun b ob q=>Yaa _ q) (Yah _) ?_,rfl,q _ (I.hok.fresh (Yah _))⟩;exact⟨Ya4 (Zcc xs lo hi) hz,_,0,(r.drop (HT.sIx xs.length 0 lo)).take (HT.sIx xs.length xs.length hi - HT.sIx xs.length 0 lo),Yam _ rfl⟩
theorem Zas:ZbA X (.builtin "len") (fun xs H Q=>∃ p ys,xs=[.ref p]/\(SqL X.K H p ys∨SqT X.K H p ys)/\Q (.int ys.length) H):=by
 intro pins s σ H xs us Q I r h;obtain⟨p,ys,rfl,hq,q⟩:=h;obtain⟨u,rfl,rx⟩:=ZbU r;cases rx;have hn:=Zdd;rcases hq with hq | hq
 ·obtain⟨its,r',pl,hz⟩:=I.list hq;have hlen:=r'.length;exact Calls.call_len_list pl.isList (by simp only[Yae] <;> omega) ⟨.int ys.length,H,I.tok _,⟨s.toks+1,by rw[Yae,hlen]⟩,q⟩
 ·obtain⟨its,r',pl,hz⟩:=I.tuple hq;have hlen:=r'.length;exact len_tuple pl (by simp only[Yae] <;> omega) ⟨.int ys.length,H,I.tok _,⟨s.toks+1,by rw[Yae,hlen]⟩,q⟩
theorem Zdo:ZbA X (.type "list") (fun xs H Q=>∃ p ys,xs=[.ref p]/\(SqL X.K H p ys∨SqT X.K H p ys)/\∀ l,H l=none->Q (.ref l) (upd H l (.lst ys))):=by
 intro pins s σ H xs us Q I r h;obtain⟨p,ys,rfl,hq,q⟩:=h;obtain⟨u,rfl,rx⟩:=ZbU r;cases rx;have fin:∀ (its:List Value),Vals ys its->ys.length<=sizeLine->∀ (h':Heap) (c':Nat),(∀ b o',s.heap.get? b=some o'->h'.get? b=some o') ->
   h'.get? s.heap.objs.size=some { cls:=.type "list",dict:=none,data:=.seq its.toArray c',slots:=#[] }->EP X pins σ Q (.ref s.heap.objs.size) { s with heap:=h' }:=fun its r' hz h' c' kp e=>
  ⟨.ref s.heap.objs.size,_,I.laid (t':=s.toks) kp (Yah _) (show ObjOk X.prog X.w _ h' _ (.lst ys) from⟨hz,its,c',r',e⟩),rfl,q _ (I.hok.fresh (Yah _))⟩
 rcases hq with hq | hq
 ·obtain⟨its,r',pl,hz⟩:=I.list hq;have hlen:=r'.length;obtain⟨o,ho,hc,n,hd⟩:=pl.isList;exact call_list_seq p (.inl rfl) ho hc hd (fun h' c' kp e=>fin its r' hz h' c' kp e) (by simp only[Yae] <;> omega)
 ·obtain⟨its,r',pl,hz⟩:=I.tuple hq;have hlen:=r'.length;obtain⟨o,ho,hc,n,hd⟩:=pl;exact call_list_seq p (.inr rfl) ho hc hd (fun h' c' kp e=>fin its r' hz h' c' kp e) (by simp only[Yae] <;> omega)
theorem ZaE:ZbA X (.type "tuple") (fun xs H Q=>∃ p ys,xs=[.ref p]/\((SqL X.K H p ys/\∀ l,H l=none->Q (.ref l) (upd H l (.tup ys)))∨(SqT X.K H p ys/\Q (.ref p) H))):=by
 intro pins s σ H xs us Q I r h;obtain⟨p,ys,rfl,h⟩:=h;obtain⟨u,rfl,rx⟩:=ZbU r;cases rx;rcases h with ⟨hq,q⟩ | ⟨hq,q⟩
 ·obtain⟨its,r',pl,hz⟩:=I.list hq;have hlen:=r'.length;refine call_tuple_list pl.isList (fun h' kp=>?_) (by simp only[Yae] <;> omega);have I1:Inv X pins σ H { s with heap:=h' }:=I.kept (t':=s.toks) kp;have I2:Inv X pins σ (upd H h'.objs.size (.tup ys)) { s with heap:=h'.push { cls:=.type "tuple",data:=.seq its.toArray } } :=
   I1.laid (t':=s.toks) (fun b o e=>Yaa _ e) (Yah _) (show ObjOk X.prog X.w _ _ _ (.tup ys) from⟨hz,its,r',IsTupD.new _ _⟩)
  exact⟨.ref h'.objs.size,_,I2,rfl,q _ (I1.hok.fresh (Yah _))⟩
 ·obtain⟨its,r',pl,hz⟩:=I.tuple hq;exact call_tuple_same pl ⟨.ref p,H,I,rfl,q⟩
def tyV (K:Yab) (T:String) (x:V) (H:Hp):Prop:=match x with
 | .str _=>T="str"
 | .int _=>T="int"
 | .ref p=>(T="list"/\∃ xs,SqL K H p xs)∨(T="tuple"/\∃ o,K.lookup p=some o/\o.cls=.type "tuple"/\o.dict=none) ∨
   (T="dict"/\((∃ kvs,H p=some (.dK kvs))∨∃ kvs,H p=some (.dT kvs)))∨(T="set"/\∃ S n,H p=some (.set S n))
 | _=>False
theorem ZgW {pins:List (Addr × Obj)}{σ:St}{H:Hp}{s:Shared}{T:String}{x:V}{v:Value} (I:Inv X pins σ H s) (r:RelV x v) (ty:tyV X.K T x H) :
  s.TypeIs v T/\∀ a,v=.ref a->∃ ob,s.heap.get? a=some ob/\ob.dict=none:=by
 cases x with
 | str z=>
  obtain⟨t,rfl⟩:=r;cases (show T="str" from ty);exact⟨typeIs_str s z t,fun _ e=>nomatch e⟩
 | int i=>
  obtain⟨t,rfl⟩:=r;cases (show T="int" from ty);exact⟨typeIs_int s i t,fun _ e=>nomatch e⟩
 | ref p=>
  cases r;rcases ty with ⟨rfl,xs,hq⟩ | ⟨rfl,o,hk,hc,hd⟩ | ⟨rfl,hk⟩ | ⟨rfl,S,n,hk⟩
  ·obtain⟨its,_,pl,_⟩:=I.list hq;refine⟨pl.isList.typeIs,fun a e=>?_⟩;cases e;obtain⟨o,n,e,c,hd,_⟩:=pl;exact⟨o,e,hd⟩
  ·refine⟨⟨o,I.kIn p o hk,hc⟩,fun a e=>?_⟩;cases e;exact⟨o,I.kIn _ o hk,hd⟩
  ·have z:∃ o,s.heap.get? p=some o/\o.ExactDict:=by
    rcases hk with ⟨kvs,hk⟩ | ⟨kvs,hk⟩
    ·obtain⟨_,_,_,_,o,_,_,e,ex,_⟩:=I.hok p _ hk;exact⟨o,e,ex⟩
    ·obtain⟨_,_,_,_,o,_,_,e,ex,_⟩:=I.hok p _ hk;exact⟨o,e,ex⟩
   obtain⟨o,e,ex⟩:=z;refine⟨⟨o,e,ex.1⟩,fun a e2=>?_⟩;cases e2;exact⟨o,e,ex.2.1⟩
  ·obtain⟨o,_,_,_,e,ex,_⟩:=I.hok p _ hk;refine⟨⟨o,e,ex.1⟩,fun a e2=>?_⟩;cases e2;exact⟨o,e,ex.2.1⟩
 | _=>exact YbL ty
def tBM0 (K:Yab) (T:String) (r:V->List V->Hp->VK->Prop) (to:TE):TE:=fun σ H Q=>to σ H fun x H1=>tyV K T x H1/\r x [] H1 Q
def tBM (K:Yab) (T:String) (r:V->List V->Hp->VK->Prop) (to:TE) (t:TA):TE:=fun σ H Q=>to σ H fun x H1=>tyV K T x H1/\t σ H1 fun xs H2=>r x xs H2 Q
variable {o e:Expr}{es:List Expr}{to:TE}{t:TA}{name:Str}{apos cpos:Pos}{T id:String}{r:V->List V->Hp->VK->Prop}
theorem Zij (pa:PlainAttrs T) (slot:Slot T name id) (hty:typeOf (.builtin id)=pure (.type "method_descriptor")) (hm:MtR X id r) (ho:PE X o to)
  (hbase:attributeBase o name X.env (eval o X.env)=eval o X.env:=by rfl) (hline:(apos.endLine == cpos.line)=true:=by rfl):PE X (.Call (.Attribute o name apos) [] [] cpos) (tBM0 X.K T r to):=by
 intro pins s σ H Q I h;refine wpAny_Call_method0_late hbase hline (thn (ho pins s σ H _ I h) fun v s1 ⟨x,H1,I1,r1,ty,q1⟩=>?_);obtain⟨h1,h2⟩:=ZgW I1 r1 ty;exact⟨T,id,pa,slot,hty,h1,h2,Ydp rfl (PySem.evalArgs_none (hm pins s1 σ H1 x [] v [] Q I1 r1 .nil q1))⟩
theorem Ze4 (pa:PlainAttrs T) (slot:Slot T name id) (hty:typeOf (.builtin id)=pure (.type "method_descriptor")) (hm:MtR X id r) (ho:PE X o to) (ha:PA X (e::es) t)
  (hbase:attributeBase o name X.env (eval o X.env)=eval o X.env:=by rfl)
  (hfew:((backTo cpos (starEach (e::es) X.env)).all (fun x=>!x.1) && (backToKw cpos (keywordEach [] X.env)).all (fun x=>x.1.isSome)
   && decide ((e::es).length+([]:List Keyword).length+(if ([]:List Keyword).isEmpty then 0 else 1)<30))=true:=by rfl)
  (hline:(apos.endLine == cpos.line)=true:=by rfl) (hs:starEach (e::es) X.env=(false,eval e X.env)::starEach es X.env:=by rfl) (hplain:(backTo cpos (starEach es X.env)).any (·.1)=false:=by rfl) :
  PE X (.Call (.Attribute o name apos) (e::es) [] cpos) (tBM X.K T r to t):=by
 intro pins s σ H Q I h;refine wpAny_Call_method_late hbase hfew hline rfl (thn (ho pins s σ H _ I h) fun v s1 ⟨x,H1,I1,r1,ty,q1⟩=>?_);obtain⟨h1,h2⟩:=ZgW I1 r1 ty;refine⟨T,id,pa,slot,hty,h1,h2,?_⟩;have hA:=ha cpos pins s1 σ H1 _ I1 q1;rw[hs] at hA ⊢;refine Ydp (by show (false || (backTo cpos (starEach es X.env)).any (·.1))=false;rw[hplain] <;> rfl) (Calls.evalArgs_plain ?_);exact thn hA fun us s2 ⟨vs,H2,I2,r2,q2⟩=>hm pins s2 σ H2 x vs v us Q I2 r1 r2 q2
end
end L2
namespace L2
open PySem PySem.Spec PyProof.Rows
def MtM (X:Cx) (id:String) (r:V->List V->Hp->VK->Prop):Prop :=
 ∀ (pins:List (Addr × Obj)) (s:Shared) (σ:St) (H:Hp) (x:V) (xs:List V) (v:Value) (us:List Value) (Q:VK),Inv X pins σ H s->RelV x v->Vals xs us->r x xs H Q ->
  wpAny (model X.prog X.w) X.A (call (.builtin id) (v::us)) (EP X pins σ Q) X.xe s
theorem Vals.one:∀ {x:V}{us:List Value},Vals [x] us->∃ u,us=[u]/\RelV x u
 | _,_,.cons r .nil=>⟨_,rfl,r⟩
theorem Vals.zero:∀ {us:List Value},Vals [] us->us=[]
 | _,.nil=>rfl
theorem Vals.dropLast {xs:List V}{us:List Value} (h:Vals xs us):Vals xs.dropLast us.dropLast:=by
 induction h with
 | nil=>exact .nil
 | cons r t ih=>
  cases t with
  | nil=>exact .nil
  | cons q t'=>exact .cons r ih
theorem Vals.reverse {xs:List V}{us:List Value} (h:Vals xs us):Vals xs.reverse us.reverse:=by
 induction h with
 | nil=>exact .nil
 | cons r t ih=>rw[YcM,YcM];exact Vals.append ih (.cons r .nil)
theorem Vals.rep {xs:List V}{us:List Value} (h:Vals xs us):∀ k:Nat,Vals (Yal k xs).flatten (Yal k us).flatten
 | 0=>.nil
 | k+1=>by
  rw[YbJ,YbJ,YbS,YbS];exact Vals.append h (Vals.rep h k)
theorem Zex {α:Type} (l:List α):l.eraseIdx (l.length - 1)=l.dropLast:=by
 induction l with
 | nil=>rfl
 | cons a r ih=>
  cases r with
  | nil=>rfl
  | cons b r=>
   have e:(a::b::r).length - 1=((b::r).length - 1)+1:=by
    have h1:(a::b::r).length=r.length+2:=rfl;have h2:(b::r).length=r.length+1:=rfl;omega
   rw[e,List.eraseIdx_cons_succ,ih]
   all_goals rfl
theorem Zdi (its:List Value):∀ (k:Nat) (acc:List Value),
  Yd4 (fun x1 x2=>x1++x2) acc.toArray (Yal k its.toArray)=(acc++(Yal k its).flatten).toArray
 | 0,acc=>by simp
 | k+1,acc=>by
  have e:acc.toArray++its.toArray=(acc++its).toArray:=by simp
  have e2:(acc++its)++(Yal k its).flatten=acc++(Yal (k+1) its).flatten:=by
   rw[YbJ,YbS,Yd5]
  rw[<- e2,<- Zdi its k (acc++its),<- e,YbJ,List.foldl_cons]
section
variable {X:Cx}{pins:List (Addr × Obj)}{σ:St}{H:Hp}{s:Shared}{l b:Addr}{xs ys zs:List V}
theorem Inv.lset {its its':List Value}{n:Nat}{f:Array Value->Array Value}{t':Nat} (I:Inv X pins σ H s) (hH:H l=some (.lst xs))
  (e:s.heap.get? l=some { cls:=.type "list",data:=.seq its.toArray n }) (hf:f its.toArray=its'.toArray) (hv:Vals ys its') (hz:ys.length<=sizeLine) :
  Inv X pins σ (upd H l (.lst ys)) { s with heap:=s.heap.update l (Ycr f),toks:=t' }:=by
 have q:=PySem.IsL.update e f;rw[hf] at q;refine I.write (x:=l) (e:=l) (by rw[hH];exact trivial) (.inl rfl) (fun b' u hb hu=>(Ydr s.heap (Ycr f) (YbO hb)).trans hu) ⟨_,q⟩ ?_;exact⟨hz,its',_,hv,q⟩
theorem Inv.lnew {its:List Value}{t':Nat} (I:Inv X pins σ H s) (hv:Vals ys its) (hz:ys.length<=sizeLine) :
  Inv X pins σ (upd H s.heap.objs.size (.lst ys)) { s with heap:=s.heap.push { cls:=.type "list",data:=.seq its.toArray },toks:=t' } :=
 I.laid (fun _ _ q=>Yaa _ q) (Yah _) ⟨hz,its,0,hv,Yam _ rfl⟩
theorem Inv.fresh (I:Inv X pins σ H s):H s.heap.objs.size=none:=I.hok.fresh (Yah _)
theorem Inv.lstM (I:Inv X pins σ H s) (hH:H l=some (.lst xs)):xs.length<=sizeLine/\∃ (its:List Value) (n:Nat),Vals xs its/\xs.length=its.length/\s.heap.get? l=some { cls:=.type "list",data:=.seq its.toArray n }:=by
 obtain⟨z,its,n,r,e⟩:=I.hok l _ hH;exact⟨z,its,n,r,r.length,e⟩
theorem ZbS {n:Nat} (h:n<=sizeLine):YbC n=false:=by
 unfold YbC;exact decide_eq_false (by omega)
end
section
variable {X:Cx}
def Zhv:V->List V->Hp->VK->Prop:=fun x vs H Q=>∃ l xs y,x=.ref l/\vs=[y]/\H l=some (.lst xs)/\xs.length<sizeLine/\Q .non (upd H l (.lst (xs++[y])))
theorem Zba:MtM X "list.append" Zhv:=by
 intro pins s σ H x vs v us Q I rx rv h;obtain⟨l,xs,y,rfl,rfl,hH,hz,q⟩:=h;cases rx;obtain⟨u,rfl,ru⟩:=rv.one;obtain⟨z,its,n,r,hl,e⟩:=I.lstM hH;refine call_meets F.slot_list_append ⟨_,e,rfl⟩ F.entry_list_append (F.args_list_append_2 _ _) (PySem.list_append l its.toArray n u (by rw[Yae];omega)) ⟨e,?_⟩;refine⟨.non,_,I.lset (its':=its++[u]) hH e (by simp) (r.append (.cons ru .nil)) ?_,rfl,q⟩;rw[Yap,List.length_singleton];omega
def Zhu:V->List V->Hp->VK->Prop:=fun x vs H Q=>∃ l b xs zs,x=.ref l/\vs=[.ref b]/\H l=some (.lst xs)/\H b=some (.lst zs)/\xs.length+zs.length<=sizeLine/\Q .non (upd H l (.lst (xs++zs)))
theorem Zfn:MtM X "list.extend" Zhu:=by
 intro pins s σ H x vs v us Q I rx rv h;obtain⟨l,b,xs,zs,rfl,rfl,hH,hB,hz,q⟩:=h;cases rx;obtain⟨u,rfl,ru⟩:=rv.one;cases ru;obtain⟨z,its,n,r,hl,e⟩:=I.lstM hH;obtain⟨z2,its2,n2,r2,hl2,e2⟩:=I.lstM hB;have hsz:its.toArray.size+its2.toArray.size<=sizeLine:=by rw[Yae,Yae];omega
 have hlong:¬ (!its.toArray.isEmpty && YbC (its.toArray.size+its2.toArray.size))=true:=by
  rw[ZbS hsz,Bool.and_false];exact Yau
 refine call_meets F.slot_list_extend ⟨_,e,rfl⟩ F.entry_list_extend (F.args_list_extend_2 _ _)
  (AutoSeq1.list_extend_list_list_0 l its.toArray n b its2.toArray n2 hlong (by rw[Yae];omega) (by omega)) ⟨e,e2,?_⟩
 refine⟨.non,_,I.lset (its':=its++its2) hH e (by simp) (r.append r2) ?_,rfl,q⟩;rw[Yap];omega
def rPop:V->List V->Hp->VK->Prop:=fun x vs H Q=>∃ l xs y,x=.ref l/\vs=[]/\H l=some (.lst xs)/\xs[xs.length - 1]?=some y/\Q y (upd H l (.lst xs.dropLast))
theorem Zip:MtM X "list.pop" rPop:=by
 intro pins s σ H x vs v us Q I rx rv h;obtain⟨l,xs,y,rfl,rfl,hH,hy,q⟩:=h;cases rx;have hus:=rv.zero;subst hus;obtain⟨z,its,n,r,hl,e⟩:=I.lstM hH;obtain⟨u,hu,ru⟩:=r.get hy;have hy':its.toArray[its.toArray.size - 1]?=some u:=by
  show its.toArray[its.length - 1]?=some u;rw[<- YaD,<- hl];exact hu
 refine call_meets F.slot_list_pop ⟨_,e,rfl⟩ F.entry_list_pop (F.args_list_pop_1 _) (MeetsSeq.list_pop_last l its.toArray n u hy' (by rw[Yae];omega)) ⟨e,?_⟩;refine⟨y,_,I.lset (its':=its.dropLast) hH e ?_ r.dropLast ?_,ru,q⟩
 ·show its.toArray.eraseIdxIfInBounds (its.toArray.size - 1)=its.dropLast.toArray;rw[Yae,List.eraseIdxIfInBounds_toArray,Zex]
 ·rw[List.length_dropLast];omega
def rCat:R2:=fun x y H Q=>∃ l b xs zs,x=.ref l/\y=.ref b/\H l=some (.lst xs)/\H b=some (.lst zs)/\xs.length+zs.length<=sizeLine/\∀ p,H p=none->Q (.ref p) (upd H p (.lst (xs++zs)))
theorem Zbi:OpR X (binaryOp .Add) rCat:=by
 intro pins s σ H x y v u Q I rx ry h;obtain⟨l,b,xs,zs,rfl,rfl,hH,hB,hz,q⟩:=h;cases rx;cases ry;obtain⟨z,its,n,r,hl,e⟩:=I.lstM hH;obtain⟨z2,its2,n2,r2,hl2,e2⟩:=I.lstM hB;refine PySem.P.add_list e e2 ?_ (by rw[Yae,Yae];omega);have ea:its.toArray++its2.toArray=(its++its2).toArray:=by simp
 rw[ea];exact⟨.ref _,_,I.lnew (t':=s.toks) (r.append r2) (by rw[Yap];omega),rfl,q _ I.fresh⟩
def rRep:R2:=fun x y H Q=>∃ l k xs,x=.ref l/\y=.int k/\H l=some (.lst xs)/\-(2 ^ 63)<=k/\k<2 ^ 63/\xs.length*k.toNat<=sizeLine /\
 ∀ p,H p=none->Q (.ref p) (upd H p (.lst (Yal k.toNat xs).flatten))
theorem Zft {α:Type} (xs:List α) (k:Nat):(Yal k xs).flatten.length=k*xs.length:=by
 induction k with
 | zero=>simp
 | succ k ih=>rw[YbJ,YbS,Yap,ih,Nat.succ_mul,Nat.add_comm]
theorem Ze6:OpR X (binaryOp .Mult) rRep:=by
 intro pins s σ H x y v u Q I rx ry h;obtain⟨l,k,xs,rfl,rfl,hH,h1,h2,hz,q⟩:=h;cases rx;obtain⟨t,rfl⟩:=ry;obtain⟨z,its,n,r,hl,e⟩:=I.lstM hH;have hlen:its.toArray.size*k.toNat<=sizeLine:=by rw[Yae,<- hl];exact hz
 have hcap:¬ its.toArray.size*k.toNat > (2 ^ 63 - 1) / 8:=by
  have:(sizeLine:Nat)<=(2 ^ 63 - 1) / 8:=by decide
  omega
 have hfit:¬ (!Builtin.List.listFitsIndex k)=true:=by
  rw[fitsIndex_both h1 h2];exact Yau
 have hlong:¬ YbC (its.toArray.size*k.toNat)=true:=by
  rw[ZbS hlen];exact Yau
 have hnew:Yd4 (fun x1 x2=>x1++x2) #[] (Yal (if its.toArray.isEmpty=true then 0 else k.toNat) its.toArray)=(Yal k.toNat its).flatten.toArray:=by
  have f0:∀ m:Nat,Yd4 (fun x1 x2=>x1++x2) #[] (Yal m its.toArray)=(Yal m its).flatten.toArray:=fun m=>by
   have:=Zdi its m [];rw[Yc0] at this;exact this
  rw[f0]
  cases its with
  | nil=>simp
  | cons a r'=>rw[if_neg (by simp)]
 refine wpAny_binaryOp_repeat_ref (T:="list") (U:="int") (by decide) ⟨_,e,rfl⟩ (fun s'=>typeIs_int s' k t) noFill_list_mul F.fills_int_mul F.slot_int_rmul repeat_list F.slot_int_index.lookup
  (call_meets F.slot_int_rmul (typeIs_int s k t) F.entry_int_rmul (F.args_int_rmul_2 _ _) (int___rmul___int_list k t l its.toArray n)
   ⟨e,rfl,⟨_,e,rfl⟩,call_meets F.slot_list_mul ⟨_,e,rfl⟩ F.entry_list_mul (F.args_list_mul_2 _ _) (AutoListH.list___mul___list_int_3 l its.toArray n k t hfit hcap hlong) ⟨e,?_⟩⟩)
 rw[hnew];exact⟨.ref _,_,I.lnew (t':=s.toks) (r.rep k.toNat) (by rw[Zft,Nat.mul_comm];exact hz),rfl,q _ I.fresh⟩
end
section
variable {prog:Program}{w:World}{A:Around}{E:Value->Shared->Prop}{s:Shared}
theorem ZeN (its its2:List Value) (a c:Nat):its.toArray.extract 0 a++its2.toArray++its.toArray.extract c its.toArray.size=(its.take a++its2++its.drop c).toArray:=by
  apply Array.toList_inj.mp
  first
    | (simp
       exact Ybb (by simp))
    | simp[Ybb]
    | simp
set_option maxRecDepth 100000 in
end
section
variable {X:Cx}
end
end L2
namespace Att
open PySem PySem.W PySem.Calls PyProof.Rows
theorem Zcb {P:Params}{h:Heap}:∀ (ns:List Int) (vs:List Value),WellAll P h vs (ns.map WData.int)->IntsAre vs ns:=by
 intro ns
 induction ns with
 | nil=>
  intro vs w;rw[Ydy] at w;cases w;exact .nil
 | cons n ns ih=>
  intro vs w;rw[YaK] at w
  cases w with
  | cons a b=>
   cases a;exact .cons _ _ (ih _ b)
theorem ZeQ {l:OpenLaw}{n:Nat} (hn:l.most=some n) {P:Params}{h:Heap}{args:List WData}{vals:List Value}
  (hpre:l.row.toRowW.claim.pre args=true) (hwl:WellAll P h vals args) :
  ∃ a vs ns,vals=[YaC a]/\args=[WData.list (ns.map WData.int)]/\h.get? a=some { cls:=.type "list",data:=.seq vs.toArray }/\IntsAre vs ns/\ns.length<=n:=by
 have hsh:WShape.hasAll [] args [.list .int]=true:=(pre_splitW hpre).1
 have hc:l.pre.holds [] { args:=args }=true:=(pre_splitW hpre).2
 obtain⟨d,r,rfl,h1,h2⟩:=hasAllW_cons hsh;obtain rfl:=hasAllW_nil h2;obtain⟨xs,rfl,h3⟩:=hasW_list h1;obtain⟨ns,rfl⟩:=items_int h3;have hlen:ns.length<=n:=by
  unfold OpenLaw.pre at hc;have h4:(WTm.not (.lt (.lit (.int (n:Int))) (.len (.arg 0)))).holds [] { args:=[.list (ns.map .int)] }=true:=by
   have h4:=(holds_andW hc).1
   rw[hn] at h4;exact h4
  have h5:=condW_of h4 (w_not (w_lt w_lit (w_len_list (w_arg rfl))));rw[Yad] at h5;refine Nat.le_of_not_lt fun q=>?_;have q':(n:Int)<((ns.length:Nat):Int):=by omega
  first
   | (rw[decide_eq_true q'] at h5;exact absurd h5 (by decide))
   | (simp at h5;omega)
 cases hwl with
 | cons w1 w2=>
  cases w2
  cases w1 with
  | list ho hall=>exact⟨_,_,ns,rfl,rfl,ho,Zcb ns _ hall,hlen⟩
theorem ZeX (l:OpenLaw) (args:List WData):l.row.toRowW.claim.post args (.bool true) args=true :=
 postW_of (r:=l.row.toRowW) (X:=(true == true))
  (show WShape.has [] (.bool true) .bool=true by first | rfl | decide | simp[WShape.has,WShape.arms,WShape.armsAll])
  (show (WTm.eq .res (.lit (.bool true))).value [] { args:=args,res:=some (.bool true),after:=args }=some (.bool (true == true)) from w_eq_bool (w_res rfl) w_lit) rfl
theorem attach_call {l:OpenLaw}{n:Nat}{q:Program}{loose:List Str}{XP:(Str->Option Value)->Heap->Prop}{YP:World->Heap->Prop}{d:DefRec}
  (hn:l.most=some n) (hdf:d.params.defaults=[])
  (call:∀ (w:World) (s₀ s₁:Shared) (mg mb:Str->Option Value) (fa:Addr) (o:Obj) (pm cd doc:Value) (a:Addr) (vs:List Value) (ns:List Int),
   Ground q loose [] XP w s₀ mg mb s₁.heap->YP w s₁.heap ->
   s₁.heap.get? fa=some o->o.data=.func (docDef d.name d.params d.body d.scope pm cd doc)->s₁.heap.CodeRec cd d.name->mg d.name=some (.ref fa) ->
   s₁.heap.get? a=some { cls:=.type "list",data:=.seq vs.toArray }->IntsAre vs ns->ns.length<=n->s₁.gens=#[] ->
   codeAny (model l.prog w) callerA (.call (.ref fa) ⟨[.ref a],[]⟩) (fun r s'=>r=.ok (.ret (.bool true))/\OldK s₁.heap s'.heap/\s'.os=s₁.os/\AllBare s'.gens) s₁) :
  WalkO q loose XP YP l.row.toRowW d [] (fun f vs=>YdS f vs):=by
 intro w s₀ s₁ mg mb G Y fa o pm cd doc dV kV ho hd hcd hD hmg hg args vals as hpre hlay hrd hwl hlo;obtain rfl:dV=.none:=Dflts.none hD hdf;obtain rfl:kV=.none:=Dflts.noKw hD;obtain⟨a,vs,ns,rfl,rfl,hobj,hints,hlen⟩:=ZeQ hn hpre hwl;refine enter_call (codeAny_mono (call w s₀ s₁ mg mb fa o pm cd doc a vs ns G Y ho (fd_plain hd) hcd hmg hobj hints hlen hg) fun r s' hq=>?_);obtain⟨rfl,h2,h3,h4⟩:=hq;exact⟨.inl ⟨.bool true,.bool true,[],rfl,fun _=>rfl,.bool true,ZeX l _,fun _=>⟨Yck,fun _ hm=>(nomatch hm)⟩⟩,h2,h3,h4⟩
section
variable {prog:Program}{w:World}{A:Around}{E:Value->Shared->Prop}{s:Shared}{K:Frag}
def Zi9 (h:Heap) (L d:Addr):List (Addr × Obj):=(YaL h.objs.size).filterMap fun a=>if a=L∨a=d then none else (h.get? a).map fun o=>(a,o)
end
end Att
namespace L2
open PySem PySem.Spec PyProof.Rows
theorem Zc2:∀ {vs:List Value}{ns:List Int},IntsAre vs ns->Vals (ns.map V.int) vs
 | _,_,.nil=>.nil
 | _,_,.cons n t h=>.cons ⟨t,rfl⟩ (Zc2 h)
def Only (H:Hp):Prop:=∀ b,H b=none∨∃ o xs,H b=some (.frz o (.lst xs))
theorem ZgH {P:Program}{w:World}{K:Yab}{mg mb:Str->Option Value}{CX:CXT}{k:Nat}{fa a:Addr}{fd:FuncData}{x:Str}{sp:Sp}{s₁:Shared}{vs:List Value}{ns:List Int}
  (KX:K.In s₁.heap) (hns:s₁.heap.Ns mainGlobals mg) (hb:s₁.heap.Ns builtinsNs mb) (hbb:∀ x:Str,x≠"__name__"->mb x=bootBuiltins x) (hlim:s₁.heap.NoLimit) (hg:s₁.gens=#[])
  (ha:s₁.heap.get? a=some { cls:=.type "list",data:=.seq vs.toArray }) (hi:IntsAre vs ns) (hl:ns.length<=sizeLine) (hr:Room k callerA)
  (F:∀ base:Heap,K.In base->base.Ns mainGlobals mg->FnOk P w K mg base CX k fa fd [x] sp) (hbind:∀ (s:Shared) (u:Value),BindsTo s fd ⟨[u],[]⟩ [(x,u)])
  (hsp:∀ H:Hp,Only H->SqL K H a (ns.map V.int)->sp [.ref a] H (fun v _=>v=.bl true) fun _ _ _=>False)
  (hCX:∀ H e s',CX [] H s₁ (fun _ _ _=>False) e s'->False) :
  codeAny (model P w) callerA (.call (.ref fa) ⟨[.ref a],[]⟩) (fun r s'=>r=.ok (.ret (.bool true))/\OldK s₁.heap s'.heap/\s'.os=s₁.os/\AllBare s'.gens) s₁:=by
 have rv:=Zc2 hi;have lenV:=hi.length;have core:∀ H:Hp,Only H->SqL K H a (ns.map V.int)->HOk P w H s₁.heap->(∀ b,H b≠none->b=a)->(H a≠none->K.lookup a=none) ->
   codeAny (model P w) callerA (.call (.ref fa) ⟨[.ref a],[]⟩) (fun r s'=>r=.ok (.ret (.bool true))/\OldK s₁.heap s'.heap/\s'.os=s₁.os/\AllBare s'.gens) s₁:=by
  intro H hO hS hok hA hK;have base_of:∀ {b:Addr}{o:Obj},s₁.heap.get? b=some o->H b=none->(hidT s₁.heap H).get? b=some o:=fun e n=>ZgI e n;have noA:∀ {b:Addr}{o:Obj}{es:Array DictEntry}{ep:Nat},s₁.heap.get? b=some o->o.data=.dict es ep->H b=none:=fun {b o es ep} e d=>by
   cases q:H b with
   | none=>rfl
   | some u=>
    have e':b=a:=hA b (by rw[q];simp);subst e';rw[ha] at e;cases e;have d':Data.seq vs.toArray _=Data.dict es ep:=d;cases d'
  have nsK:∀ {b:Addr}{m:Str->Option Value},s₁.heap.Ns b m->(hidT s₁.heap H).Ns b m:=fun {b m} ⟨o,es,ep,e,d,r⟩=>⟨o,es,ep,base_of e (noA e d),d,r⟩
  have hKb:K.In (hidT s₁.heap H):=fun b o e=>base_of (KX b o e) (by
   cases q:H b with
   | none=>rfl
   | some u=>
    have e':b=a:=hA b (by rw[q];simp);subst e';rw[hK (by rw[q];simp)] at e;cases e)
  have hM:Mod K mg (hidT s₁.heap H):=⟨hKb,nsK hns,⟨mb,nsK hb,hbb⟩,let ⟨mc,h1,h2⟩:=hlim;⟨mc,nsK h1,h2⟩⟩
  have e0:Env0 P w K mg (hidT s₁.heap H) callerA [] s₁ H:=⟨rfl,hM,fun b o e=>ZhG e,Nat.le_of_eq (ZfA _ _),trivial,fun b hb=>absurd (show b∈([]:List Addr) from hb) (by simp),hok,.of_eq hg⟩
  refine codeAny_mono ((F _ hKb (nsK hns)).run callerA [] s₁ H ⟨[.ref a],[]⟩ [.ref a] [.ref a] _ _ hr e0 (hbind s₁ (.ref a)) (.cons rfl .nil) (hsp H hO hS)) fun r s' h=>?_
  cases r with
  | error e=>exact (hCX H e s' h).elim
  | ok fl=>
   cases fl with
   | next=>exact YbL h
   | brk=>exact YbL h
   | cont=>exact YbL h
   | ret u=>
    obtain⟨v,H',os,bare,un,hok',r',q⟩:=h;have q':v=.bl true:=q;subst q';obtain rfl:u=Ycl true:=r';refine⟨rfl,OldK.of_keep fun b o e=>?_,os,bare⟩
    cases q:H b with
    | none=>exact un.keep b o e q (by intro z;exact absurd (show b∈([]:List Addr) from z) (by simp)) (by simp)
    | some u=>
     rcases hO b with z | ⟨ob,xs,z⟩
     ·rw[q] at z;cases z
     ·have z2:=un.frzs b ob _ z;obtain⟨e1,_⟩:=hok b _ z;obtain⟨e2,_⟩:=hok' b _ z2;rw[e] at e1;cases e1;exact e2
 cases hk:K.lookup a with
 | some o=>
  have e:=KX a o hk;rw[ha] at e;cases e;refine core (fun _=>none) (fun _=>.inl rfl) (.inr ⟨_,vs.toArray,_,hk,rfl,rfl,rfl,by rw[Yae,lenV];exact hl,by simpa using rv⟩) (fun b u z=>by have z':(none:Option HO)=some u:=z;cases z') (fun b z=>absurd rfl z) fun z=>absurd rfl z
 | none=>
  refine core (fun b=>if b=a then some (.frz { cls:=.type "list",data:=.seq vs.toArray } (.lst (ns.map V.int))) else none) (fun b=>?_) (.inl (.inr ⟨{ cls:=.type "list",data:=.seq vs.toArray },if_pos rfl⟩)) (fun b u z=>?_) (fun b z=>?_) fun _=>hk
  ·by_cases hb:b=a
   ·exact .inr ⟨_,_,if_pos hb⟩
   ·exact .inl (if_neg hb)
  ·by_cases hb:b=a
   ·have z':=(if_pos hb).symm.trans z;cases z';subst hb;exact⟨ha,by rw[Yad];exact hl,vs,_,rv,ha⟩
   ·have z':=(if_neg hb).symm.trans z;cases z'
  ·by_cases hb:b=a
   ·exact hb
   ·exact absurd (if_neg hb) z
end L2
namespace L2
open PySem PySem.Spec PyProof.Rows
theorem walk_of {l:YcP}{n k:Nat}{q:Program}{loose:List Str}{XP:(Str->Option Value)->Heap->Prop}{YP:World->Heap->Prop}{d:DefRec}{K:Params->Yab}{CX:World->CXT}{sp:World->Sp}{x:Str}
  (hn:l.most=some n) (hn2:n<=sizeLine) (hdf:d.params.defaults=[]) (hr:Room k callerA)
  (hY:∀ (w:World) (h:Heap),YP w h->(K w.params).In h)
  (F:∀ (w:World) (mg:Str->Option Value) (fa:Addr) (h:Heap),(K w.params).In h->h.Ns mainGlobals mg->mg d.name=some (.ref fa) ->
   ∃ fd:FuncData,(∀ (s:Shared) (u:Value),BindsTo s fd ⟨[u],[]⟩ [(x,u)]) /\
    ∀ base:Heap,(K w.params).In base->base.Ns mainGlobals mg->FnOk l.prog w (K w.params) mg base (CX w) k fa fd [x] (sp w))
  (hsp:∀ (w:World) (H:Hp) (a:Addr) (ns:List Int),ns.length<=n->Only H->SqL (K w.params) H a (ns.map V.int)->sp w [.ref a] H (fun v _=>v=.bl true) fun _ _ _=>False)
  (hCX:∀ (w:World) (H:Hp) (s:Shared) (e:Value) (s':Shared),CX w [] H s (fun _ _ _=>False) e s'->False) :
  Yd7 q loose XP YP l.row.toRowW d [] (fun f vs=>YdS f vs):=by
 refine Att.attach_call hn hdf fun w s₀ s₁ mg mb fa o pm cd doc a vs ns G Y ho hd hcd hmg hobj hints hlen hg=>?_;have KX:=hY w _ Y;obtain⟨fd,hb,hF⟩:=F w mg fa _ KX G.T.g hmg;exact ZgH KX G.T.g G.T.b G.T.builtins G.T.nolimit hg hobj hints (Ya4 hlen hn2) hr hF hb (fun H hO hS=>hsp w H a ns hlen hO hS) fun H e s'=>hCX w H s₁ e s'
end L2
namespace L2
open PySem PySem.Spec PyProof.Rows
def Zaj (s:Stmt):Arguments:=match s with
 | .FunctionDef _ a _ _ _ _ _ _ _ _=>a
 | _=>{ posonlyargs:=[],args:=[],vararg:=none,kwonlyargs:=[],kw_defaults:=[],kwarg:=none,defaults:=[] }
def Zai (s:Stmt):List Stmt:=match s with
 | .FunctionDef _ _ b _ _ _ _ _ _ _=>b
 | _=>[]
def Zac (s:Stmt):Scope:=match s with
 | .FunctionDef _ _ _ _ _ _ sc _ _ _=>sc
 | _=>{ kind:=.function,names:=[],isGenerator:=false,isCoroutine:=false }
abbrev CX0:CXT:=fun _ _ _ _ _ _=>False
abbrev E0:XK:=fun _ _ _=>False
theorem ZhA {X:Cx}:Zf4 CX0 X E0:=fun _ _ _ _ _ _ _ h=>h.elim
structure Fun (K:Yab) (x qual:Str) (st:Stmt) (f:Addr) (fd:FuncData):Prop where
 ex:∃ (oc:Value) (od:Option Addr) (kV doc pm:Value) (an:Option Addr) (cdv ct:Value) (osl:Array (Option Value)),
  fd=Yao x qual (Zaj st) (Zai st) (Zac st) .none kV doc pm an cdv ct/\K.lookup f=some ⟨oc,od,.func fd,osl⟩/\Yan K cdv qual=true
 kp:Yak K (.ref f)=true
section
variable {P:Program}{w:World}{K:Yab}{mg:Str->Option Value}{base:Heap}
theorem Fun.ok {x qual:Str}{st:Stmt}{f:Addr}{fd:FuncData}{N ps:List Str}{k:Nat}{sp:Sp} (F:Fun K x qual st f fd) (S:FnScope N ps (Zac st)) (len:∀ vs H Q E,sp vs H Q E->vs.length=ps.length)
  (hbody:∀ (cdv:Value) (A:Around) (outer:List Env) (s:Shared) (H:Hp) (vs:List V) (Q:VK) (E:XK),Room k (A.deeper (envOfC qual (Zac st) s.heap.objs.size f cdv))->sp vs H Q E ->
   ∃ t,PSs (cxOf CX0 P w K mg base N qual (Zac st) f cdv A outer s H E).nox (Zai st) t/\t { nx:=fun _ H'=>Q .non H',rt:=Q } (start N vs) H):FnOk P w K mg base CX0 (k+1) f fd ps sp:=by
 obtain⟨oc,od,kV,doc,pm,an,cdv,ct,osl,rfl,lk,hcd⟩:=F.ex;refine ZiC lk hcd S len fun A outer s H vs Q E hr hsp=>?_;obtain⟨t,h,q⟩:=hbody cdv A outer s H vs Q E hr hsp;exact⟨t,h.nox,q⟩
theorem Fun.binds {x qual:Str}{st:Stmt}{f:Addr}{fd:FuncData}{ps:List Str} (F:Fun K x qual st f fd)
  (h:∀ (kV doc pm:Value) (an:Option Addr) (cdv ct:Value) (us:List Value),us.length=ps.length->bindArgs (Yao x qual (Zaj st) (Zai st) (Zac st) .none kV doc pm an cdv ct) ⟨us,[]⟩=pure (ps.zip us)):Binds K fd ps []:=by
 obtain⟨oc,od,kV,doc,pm,an,cdv,ct,osl,rfl,lk,hcd⟩:=F.ex;exact .all (h kV doc pm an cdv ct)
theorem Zay {x qual:Str}{st:Stmt}{f:Addr}{oc:Value}{od an:Option Addr}{osl:Array (Option Value)}{kV doc pm cdv ct:Value} (l:K.lookup f=some ⟨oc,od,.func (Yao x qual (Zaj st) (Zai st) (Zac st) .none kV doc pm an cdv ct),osl⟩)
  (c:Yan K cdv qual=true) (k:Yak K (.ref f)=true):Fun K x qual st f (Yao x qual (Zaj st) (Zai st) (Zac st) .none kV doc pm an cdv ct):=⟨⟨oc,od,kV,doc,pm,an,cdv,ct,osl,rfl,l,c⟩,k⟩
end
theorem ZaA {n:Nat} (h:n<=1000):n<sizeLine:=Yb7 h (by decide)
section
variable {X:Cx}
theorem pv (i:Nat) {x:Str}{pos:Pos} (hN:X.N[i]?=some x:=by rfl) (hv:Vis X.env.scope x:=by first | exact YaJ rfl | exact Ycj (YaJ rfl) | exact Ycj (Ycj rfl)) (hd:(x == ("__debug__":Str))=false:=by decide)
  (hcd:(x == ("__classdict__":Str))=false:=by decide):PE X (.Name x pos) (tVar i):=Zg4 hN hv hd hcd
end
theorem iteF {A B:Prop} (h:B):if false=true then A else B:=by
 rw[if_neg Yau];exact h
theorem iteT {A B:Prop} (h:A):if true=true then A else B:=by
 rw[if_pos rfl];exact h
theorem ite2 {c A B:Prop} [Decidable c] (h1:c->A) (h2:¬ c->B):if c then A else B:=by
 by_cases h:c
 ·rw[if_pos h];exact h1 h
 ·rw[if_neg h];exact h2 h
def Same (H H':Hp):Prop:=∀ b o,H b=some o->H' b=some o
theorem Same.refl (H:Hp):Same H H:=fun _ _ h=>h
theorem Same.trans {H H1 H2:Hp} (a:Same H H1) (b:Same H1 H2):Same H H2:=fun c o h=>b c o (a c o h)
theorem Same.free {H H':Hp} (e:Same H H') {l:Addr} (h:H' l=Option.none):H l=Option.none:=by
 cases q:H l with
 | none=>rfl
 | some o=>
  rw[e l o q] at h;cases h
theorem Same.seq {K:Yab}{H H':Hp}{a:Addr}{xs:List V} (e:Same H H') (h:SqL K H a xs):SqL K H' a xs:=by
 rcases h with (h | ⟨o,h⟩) | h
 ·exact .inl (.inl (e _ _ h))
 ·exact .inl (.inr ⟨o,e _ _ h⟩)
 ·exact .inr h
end L2
set_option maxHeartbeats 4000000
namespace L2
open PySem PySem.Spec PyProof.Rows
def Zbb (env:Env):List (Str × NameKind)->List (Str × Addr)->List (Str × Addr)
 | [],cs=>cs
 | (n,k)::r,cs=>Zbb env r (if k == .free then (n,(env.cells.lookup n).getD 0)::cs else cs)
abbrev clOf (scope:Scope) (env:Env):List (Str × Addr):=Zbb env scope.names []
theorem Zbx {env:Env}:∀ (names:List (Str × NameKind)) (cs:List (Str × Addr)),(∀ x∈names,x.2=.free->∃ c,env.cells.lookup x.1=some c) ->
  (forIn names cs fun (x:Str × NameKind) r=>do
   if x.2 == .free then
    let c <- cellOf env x.1
    pure (YbH ((x.1,c)::r))
   else pure (YbH r):Sem (List (Str × Addr)))=pure (Zbb env names cs)
 | [],cs,_=>rfl
 | (n,k)::r,cs,h=>by
  rw[Yc1];have ih:=fun cs'=>Zbx (env:=env) r cs' fun x hx=>h x (YaM _ hx);by_cases hk:k=.free
  ·subst hk;obtain⟨c,hc⟩:=h (n,.free) YaV rfl;have hc':env.cells.lookup n=some c:=hc;have ec:cellOf env n=pure c:=by unfold cellOf;rw[hc']
   dsimp only;rw[if_pos (by rfl),ec];show (forIn r ((n,c)::cs) _:Sem _)=_;rw[ih]
   conv=>rhs;unfold Zbb
   rw[if_pos (by rfl),hc'];rfl
  ·have hb:(k == Yby)=false:=by simpa using hk
   dsimp only;rw[if_neg (by rw[hb];decide)];show (forIn r cs _:Sem _)=_;rw[ih]
   conv=>rhs;unfold Zbb
   rw[if_neg (by rw[hb];decide)]
theorem Zey {scope:Scope}{env:Env} (h:∀ x∈scope.names,x.2=.free->∃ c,env.cells.lookup x.1=some c):closureFor scope env=pure (clOf scope env):=by
 unfold closureFor;have e:=Zbx (env:=env) scope.names [] h;simp only[bind_pure];exact e
theorem Zdn {env:Env}{x:Str}{c:Addr}:∀ (names:List (Str × NameKind)) (cs:List (Str × Addr)),(Zbb env names cs).lookup x=some c->((x,Yby)∈names/\c=(env.cells.lookup x).getD 0)∨cs.lookup x=some c
 | [],_,h=>.inr h
 | (n,k)::r,cs,h=>by
  unfold Zbb at h;rcases Zdn r _ h with ⟨h1,h2⟩ | h1
  ·exact .inl ⟨YaM _ h1,h2⟩
  ·by_cases hk:k=.free
   ·subst hk;rw[if_pos (by rfl),Ybi] at h1
    cases e:x == n with
    | true=>
     rw[e] at h1;have en:x=n:=eq_of_beq e;subst en;exact .inl ⟨YaV,(Yaz h1).symm⟩
    | false=>rw[e] at h1;exact .inr h1
   ·have hb:(k == Yby)=false:=by simpa using hk
    rw[if_neg (by rw[hb];decide)] at h1;exact .inr h1
theorem ZfT {env:Env}{x:Str}:∀ (names:List (Str × NameKind)) (cs:List (Str × Addr)),(∃ c,cs.lookup x=some c)->∃ c,(Zbb env names cs).lookup x=some c
 | [],_,h=>h
 | (n,k)::r,cs,h=>by
  unfold Zbb;refine ZfT r _ ?_;split
  ·rw[Ybi];split
   ·exact⟨_,rfl⟩
   ·exact h
  ·exact h
theorem ZfU {env:Env}{x:Str}:∀ (names:List (Str × NameKind)) (cs:List (Str × Addr)),(x,Yby)∈names->∃ c,(Zbb env names cs).lookup x=some c
 | [],_,h=>by simp at h
 | (n,k)::r,cs,h=>by
  unfold Zbb;rcases Yar.mp h with e | h
  ·cases e;refine ZfT r _ ?_;rw[if_pos (by rfl),Ybi];exact⟨(env.cells.lookup x).getD 0,by simp⟩
  ·exact ZfU r _ h
theorem Zek {scope:Scope}{env:Env}{x:Str} (hcell:∀ y∈scope.names,y.2≠.cell) (h:(relabel scope env).names.lookup x=some .cell∨(relabel scope env).names.lookup x=some .free):(x,Yby)∈scope.names:=by
 have hm:∃ k,(x,k)∈(relabel scope env).names/\(k=.cell∨k=.free):=by
  rcases h with h | h
  ·exact⟨_,Ybc h,.inl rfl⟩
  ·exact⟨_,Ybc h,.inr rfl⟩
 obtain⟨k,hm,hk⟩:=hm;obtain⟨⟨n,k'⟩,h1,h2⟩:=YaN.mp hm;dsimp only at h2;split at h2
 ·rename_i hc;have:k'=.free:=by
   simp only[Ycf,beq_iff_eq] at hc;exact hc.1.1
  cases h2;subst this;exact h1
 ·cases h2;rcases hk with rfl | rfl
  ·exact absurd rfl (hcell _ h1)
  ·exact h1
theorem ZbM {env:Env}{x:Str}:∀ {names:List (Str × NameKind)},names.lookup x=some .free ->
  (names.map fun (n,k)=>if (k == Yby && env.scope.kind == .function && env.kindOf n == some .cell) then (n,Yd1) else (n,k)).lookup x=some .cell ∨
  (names.map fun (n,k)=>if (k == Yby && env.scope.kind == .function && env.kindOf n == some .cell) then (n,Yd1) else (n,k)).lookup x=some .free
 | [],h=>by simp at h
 | (n,k)::r,h=>by
  have ih:=@ZbM env x r;rw[YaK];dsimp only
  cases hx:x == n with
  | true=>
   simp only[Ybi,hx] at h;cases h;split
   ·left;simp[Ybi,hx]
   ·right;simp[Ybi,hx]
  | false=>
   simp only[Ybi,hx] at h;split
   ·simp only[Ybi,hx];exact ih h
   ·simp only[Ybi,hx];exact ih h
section
variable {prog:Program}{w:World}{A:Around}{R:Result->Shared->Prop}{s:Shared}
theorem Zbp {elt target iter:Expr}{ifs:List Expr}{scope:Scope}{pos:Pos}{it acc:Value}{env:Env} (I:Nat->Shared->Prop)
  (turn:∀ n s,I n s->wpAny (model prog w) A (pyNext it) (fun r s₁=>match r with
   | none=>R (.ok .next) s₁
   | some v=>wpAny (model prog w) A (letOwnedTupleGo target it v) (fun _ s₁'=>wpAny (model prog w) A (assign target env v) (fun _ s₂=>
     wpAny (model prog w) A (forIn ifs true fun c r=>if r=true then do let ok <- isTrue c env (eval c env);pure (YbH ok) else pure (YbH r)) (fun ok s₃=>
      if ok=true then wpAny (model prog w) A (eval elt env) (fun x s₄=>
       wpAny (model prog w) A (call (.builtin "list.append") [acc,x]) (fun _ s₅=>∃ m,m<n/\I m s₅) (fun _ _=>False) s₄) (fun _ _=>False) s₃
      else ∃ m,m<n/\I m s₃) (fun _ _=>False) s₂) (fun _ _=>False) s₁') (fun _ _=>False) s₁) (fun _ _=>False) s)
  (n:Nat) (h:I n s) :
  codeAny (model prog w) A (.compLoop (.ListComp elt [⟨target,iter,ifs,0⟩] scope pos) 0 it acc env) R s:=by
 refine codeAny_loop rfl I (fun n s hI=>?_) n h;show wpAny _ A ((compTurn (.ListComp elt [⟨target,iter,ifs,0⟩] scope pos) 0 it acc env).onRaise (fun x=>do noteFrame x env;theTreesLotGoes x)) _ _ s;refine wpAny_noted ?_;rw[compTurn_list];refine wpAny_bind (wpAny_standAt (wpAny_bind (wpAny_mono (turn n s hI) (fun r s₁ h₁=>?_) fun _ _ h'=>h'.elim)))
 cases r with
 | none=>exact wpAny_pure h₁
 | some v=>
  refine wpAny_bind (wpAny_mono h₁ (fun _ s₁' h₁=>?_) fun _ _ h'=>h'.elim);refine wpAny_bind (wpAny_mono h₁ (fun _ s₂ h₂=>wpAny_bind (wpAny_mono h₂ (fun ok s₃ h₃=>?_) fun _ _ h'=>h'.elim)) fun _ _ h'=>h'.elim)
  cases ok with
  | false=>exact wpAny_pure ⟨rfl,h₃⟩
  | true=>
   exact wpAny_bind (wpAny_bind (wpAny_mono h₃ (fun x s₄ h₄=>wpAny_bind (wpAny_mono h₄ (fun _ s₅ h₅=>wpAny_pure (wpAny_pure ⟨rfl,h₅⟩)) fun _ _ h'=>h'.elim)) fun _ _ h'=>h'.elim))
end
def PTs (X:Cx) (ifs:List Expr) (t:TT):Prop :=
 ∀ (pins:List (Addr × Obj)) (s:Shared) (σ:St) (H:Hp) (Q:Bool->Hp->Prop),Inv X pins σ H s->t σ H Q ->
  wpAny (model X.prog X.w) X.A (forIn ifs true fun c r=>if r=true then do let ok <- isTrue c X.env (eval c X.env);pure (YbH ok) else pure (YbH r)) (TP X pins σ Q) X.xe s
def ZbV:TT:=fun _ H Q=>Q true H
theorem ZaS {X:Cx}:PTs X [] ZbV:=fun _ _ _ H _ I h=>wpAny_tests_nil ⟨H,I,h⟩
def Cx.blk (X:Cx) (scope:Scope) (own:List Str) (js:List Nat) (s₂:Shared) (H₂:Hp) (C:Addr) (fp:List Addr) (pins:List (Addr × Obj)):Cx where
 prog:=X.prog
 w:=X.w
 K:=X.K
 mg:=X.mg
 base:=X.base
 A:=X.A
 N:=own++js.map fun j=>X.N.getD j YcI
 s₀:=s₂
 H₀:=H₂
 env:=compEnvC scope (clOf scope X.env) C X.env
 outer:=X.stack
 stack:=X.stack
 ex:=fp
 fn:=fun _=>false
 calm:=X.calm
 pn:=X.pn++pins
 xe:=fun _ _=>False
def blkσ (own:List Str) (js:List Nat) (σ:St):St:=own.map (fun _=>none)++js.map fun j=>(σ[j]?).join
section
variable {X:Cx}{pins:List (Addr × Obj)}{σ:St}{H H':Hp}{s s':Shared}{scope:Scope}{own:List Str}{js:List Nat}{C:Addr}{fp:List Addr}
structure CompOk (X:Cx) (scope:Scope) (own:List Str) (js:List Nat):Prop where
 kind:scope.kind=.function
 cell:∀ y∈scope.names,y.2≠.cell
 free:∀ y∈scope.names,y.2=.free->X.env.kindOf y.1=some .cell∨X.env.kindOf y.1=some .free
 names:∀ y∈scope.names,y.2=.local -> scope.names.lookup y.1=some .local
 out:∀ j∈js,∃ x,X.N[j]?=some x/\scope.names.lookup x=some .free
theorem CompOk.cl (c:CompOk X scope own js) (I:Inv X pins σ H s):∀ x∈scope.names,x.2=.free->∃ c,X.env.cells.lookup x.1=some c:=fun x hx hf=>I.ok.has x.1 (c.free x hx hf)
theorem CompOk.look (c:CompOk X scope own js) (I:Inv X pins σ H s) {x:Str}{a:Addr} (h:(clOf scope X.env).lookup x=some a):X.env.cells.lookup x=some a:=by
 rcases Zdn _ _ h with ⟨h1,h2⟩ | h1
 ·obtain⟨c',e⟩:=c.cl I (x,.free) h1 rfl;have e':X.env.cells.lookup x=some c':=e;rw[e'] at h2 ⊢;subst h2;rfl
 ·simp at h1
theorem ZiF (c:CompOk X scope own js) (I:Inv X pins σ H s) (hC:s.heap.objs.size<=C) (hf:∀ b∈fp,FpOk X pins H b) (ho:∀ b∈fp,∃ o,s.heap.get? b=some o):(X.blk scope own js s H C fp pins).Ok where
 mod:=I.ok.mod
 kind:=c.kind
 glob:=I.ok.glob
 blt:=I.ok.blt
 above:=hC
 inj:=fun x y a h1 h2=>I.ok.inj x y a (c.look I h1) (c.look I h2)
 has:=fun x hx=>ZfU _ _ (Zek c.cell hx)
 cab:=fun x a h=>by cases h
 hd:=I.ok.hd
 frames:=I.ok.frames
 stk:=.inl rfl
 exf:=fun b hb=>by
  obtain⟨o,e⟩:=ho b hb;exact⟨Yat (Yaq (Yag e) hC),fun x a h=>(hf b hb).2.2.2.2.1 x a (c.look I h)⟩
 bs:=I.bs
 bsz:=Ya4 I.ok.bsz I.sz
 noex:=fun b o e hb=>by
  rcases (hf b hb).2.2.2.1 with z | z
  ·exact I.ok.noex b o e z
  ·exact absurd (Yaq (Yag e) (Ya4 I.ok.bsz z)) (Ya6 _)
 exfs:=fun b hb hm=>by
  rcases Yar.mp (I.stkSub b hm) with z | z
  ·exact (hf b hb).2.1 z
  ·exact (hf b hb).2.2.1 z
 funs:=I.stack
 frf:=I.stkFree
theorem Zf0 (own:List Str) (js:List Nat) (σ:St) (X:Cx):(blkσ own js σ).length=(own++js.map fun j=>X.N.getD j YcI).length:=by
 unfold blkσ;simp
theorem ZfZ {acc:Addr}{m:Str->Option Value}{tk:Nat}{h':Heap} (c:CompOk X scope own js) (I:Inv X pins σ H s) (hC:s.heap.objs.size<=C) (hf:∀ b∈fp,FpOk X pins H b) (ho:∀ b∈fp,∃ o,s.heap.get? b=some o)
  (hn:h'.Ns C m) (k:∀ b u,s.heap.get? b=some u->h'.get? b=some u) (hacc:s.heap.objs.size<=acc) (haC:acc≠C) (hl:h'.get? acc=some { cls:=.type "list",data:=.seq ([]:List Value).toArray 0 }) :
  Inv (X.blk scope own js s H C fp pins) [] (blkσ own js σ) (upd H acc (.lst [])) { s with heap:=h',toks:=tk }:=by
 have ok:=ZiF c I hC hf ho;have fresh:∀ {a:Addr},s.heap.objs.size<=a->H a=none:=fun h=>I.hok.fresh h;have neA:∀ b o,s.heap.get? b=some o->b≠acc:=fun b o e=>Yat (Yaq (Yag e) hacc);refine⟨ok,rfl,I.bare,Un.laid k hacc (fresh hacc),⟨m,hn,fun i x v e1 e2 e3=>?_⟩,fun x a e=>?_,?_,fun x a e=>?_,fun p hp=>?_,I.hok.laid k hacc ⟨YaX _,[],0,.nil,hl⟩,Zf0 own js σ X⟩
 ·
  have hi:own.length<=i:=by
   refine Nat.le_of_not_lt fun hi=>?_;unfold blkσ at e2;rw[YaP (by simpa using hi),Yai] at e2
   cases q:own[i]? with
   | none=>rw[q] at e2;cases e2
   | some z=>rw[q] at e2;cases e2
  have e1':(js.map fun j=>X.N.getD j YcI)[i - own.length]?=some x:=by
   have e1:(own++js.map fun j=>X.N.getD j YcI)[i]?=some x:=e1
   rwa [Yba hi] at e1
  have e2':(js.map fun j=>(σ[j]?).join)[i - own.length]?=some (some v):=by
   unfold blkσ at e2;rw[Yba (by simpa using hi)] at e2;simpa using e2
  rw[Yai] at e1' e2'
  cases q:js[i - own.length]? with
  | none=>rw[q] at e1';cases e1'
  | some j=>
   rw[q] at e1' e2';obtain⟨x',hx',hfree⟩:=c.out j (Yav q);have ex:x'=x:=by
    have:X.N.getD j YcI=x:=Yaz e1';rw[Yaw,hx'] at this;exact this
   subst ex;have eσ:σ[j]?=some (some v):=by
    have e2'':(σ[j]?).join=some v:=Yaz e2'
    cases r:σ[j]? with
    | none=>rw[r] at e2'';cases e2''
    | some z=>rw[r] at e2'';cases z with
     | none=>cases e2''
     | some y=>cases e2'';rfl
   have hmem:(x',Yby)∈scope.names:=Ybc hfree;have hkX:=c.free _ hmem rfl;have vis:Vis X.env.scope x':=by
    rcases hkX with z | z
    ·exact .inr (.inl z)
    ·exact .inr (.inr z)
   obtain⟨m0,hn0,hl0⟩:=I.loc;obtain⟨u,r,l⟩:=hl0 j x' v hx' eσ vis;refine⟨u,r,.inr ⟨ZbM hfree,?_⟩⟩;obtain⟨a,ha⟩:=ZfU (env:=X.env) scope.names [] hmem;refine⟨a,ha,?_⟩;have haX:=c.look I ha;rcases l with ⟨z,_⟩ | ⟨_,a',ha',⟨o,ho',hd⟩⟩
   ·have z:X.env.kindOf x'=some .local:=z;rcases hkX with y | y
    ·have y:X.env.kindOf x'=some .cell:=y;rw[z] at y;cases y
    ·have y:X.env.kindOf x'=some .free:=y;rw[z] at y;cases y
   ·rw[haX] at ha';cases ha';exact⟨o,k _ o ho',hd⟩
 ·obtain⟨v,o,ho',hd⟩:=I.cell x a (c.look I e);exact⟨v,o,k _ o ho',hd⟩
 ·show upd H acc (.lst []) C=none;rw[Zah (YbO haC)];exact fresh hC
 ·have e':=c.look I e;obtain⟨v,o,ho',hd⟩:=I.cell x a e';rw[Zah (neA a o ho')];exact I.freeC x a e'
 ·have hp:p∈X.pn++pins:=by simpa[Cx.blk] using hp
  obtain⟨e,n,ne,nf,d⟩:=I.pin p hp;refine⟨k _ _ e,by rw[Zah (neA _ _ e)];exact n,Yat (Yaq (Yag e) hC),fun z=>?_,d⟩;rcases Yar.mp (I.stkSub _ z) with q | q
  ·exact ne q
  ·exact nf q
theorem ZhU {τ:St}{pl:List (Addr × Obj)} (I:Inv X pins σ H s) (hf:∀ b∈fp,FpOk X pins H b) (J:Inv (X.blk scope own js s H C fp pins) pl τ H' s'):Inv X pins σ H' s' :=
 I.call' J.os J.base J.hok J.bare fun b hb=>⟨(hf b hb).2.2.2.1,(hf b hb).2.1,(hf b hb).2.2.2.2.1,(hf b hb).2.2.2.2.2⟩
theorem Inv.other {h':Heap} (I:Inv X pins σ H s) (hs:YbM C s.heap h') (hn:H C=none) (hL:C≠X.env.locals) (h1:X.s₀.heap.objs.size<=C) (h2:∀ x c,X.env.cells.lookup x=some c->c≠C) (h3:∀ p∈X.pn++pins,p.1≠C) :
  Inv X pins σ H { s with heap:=h' } :=
 I.turned (t':=s.toks) (fun b o hb e=>(hs.2 b hb).trans e) hn hL (.inr h1) h2 h3
end
def ZgT (own:List Str) (g:TG):Prop:=∀ (js:List Nat) (σ:St) (x:V) (H:Hp) (Q:St->Hp->Prop),g x (blkσ own js σ) H Q ->
 g x (blkσ own js σ) H fun τ H'=>(∀ (j:Nat) v,(blkσ own js σ)[j]?=some (some v)->τ[j]?=some (some v))/\Q τ H'
theorem Zby {own:List Str}{js:List Nat}{σ:St}{i:Nat}{v:V} (hi:i<own.length):(blkσ own js σ)[i]?≠some (some v):=by
 unfold blkσ;rw[YaP (by simpa using hi),Yai]
 cases own[i]? with
 | none=>intro h;cases h
 | some z=>intro h;cases h
theorem ZaD {own:List Str}{i:Nat} (hi:i<own.length:=by decide):ZgT own (Zdg i):=fun js σ x H Q h=>⟨fun j v e=>by
 have hj:j≠i:=by rintro rfl;exact Zby hi e
 rw[Ybr (YbO hj)];exact e,h⟩
def Za6 (own:List Str) (js:List Nat) (g:TG) (tt:TT) (te:TE) (σ:St) (J:It) (H1:Hp) (Q:VK):Prop :=
 ∀ acc,H1 acc=none->∃ (W:Nat->Hp->Prop) (n:Nat),W 0 (upd H1 acc (.lst []))/\∀ i H2,W i H2 ->
  (J.stop i H2/\Q (.ref acc) H2)∨(i<n/\J.go i H2/\∀ x H3,J.yld i H2 x H3->g x (blkσ own js σ) H3 fun τ H4=>tt τ H4 fun c H5=>
   if c=true then te τ H5 fun y H6=>∃ ys,H6 acc=some (.lst ys)/\ys.length<sizeLine/\W (i+1) (upd H6 acc (.lst (ys++[y]))) else W (i+1) H5)
def ZiO (own:List Str) (js:List Nat) (wi:TI) (g:TG) (tt:TT) (te:TE):TE:=fun σ H Q=>wi σ H fun J H1=>Za6 own js g tt te σ J H1 Q
section
variable {X:Cx}{scope:Scope}{own:List Str}{js:List Nat}{elt iter target:Expr}{ifs:List Expr}{wi:TI}{g:TG}{tt:TT}{te:TE}{pos:Pos}
theorem ZhT {pins:List (Addr × Obj)}{σ:St}{H2:Hp}{s₂:Shared}{it:Addr}{fp:List Addr}{tn:Nat->Heap->Prop}{J:It}{Q:VK}{E:Value->Shared->Prop}{RR:Value->Addr->Result->Shared->Prop}
  (c:CompOk X scope own js) (hc:X.calm=true) (hgk:ZgT own g)
  (hg:∀ s H C fp pins,PG (X.blk scope own js s H C fp pins) target g) (ht:∀ s H C fp pins,PTs (X.blk scope own js s H C fp pins) ifs tt) (he:∀ s H C fp pins,PE (X.blk scope own js s H C fp pins) elt te)
  (I:Inv X pins σ H2 s₂) (T:Turn X.prog X.w X.K target J fp it tn) (st:tn 0 s₂.heap) (hf:∀ b∈fp,FpOk X pins H2 b) (h:Za6 own js g tt te σ J H2 Q)
  (hRR:∀ acc C H' s' m,s₂.heap.objs.size<=C->H' C=none->Inv X pins σ H' s'->s'.heap.Ns C m->Q (.ref acc) H'->RR (.ref acc) C (.ok .next) s') :
  wpAny (model X.prog X.w) X.A (newList []) (fun acc s₃=>wpAny (model X.prog X.w) X.A (newFunctionEnv scope X.env.globals (clOf scope X.env) [] X.env.qual none .none (some X.env)) (fun cenv s₄=>
   codeAny (model X.prog X.w) X.A (.compStart (.ListComp elt [⟨target,iter,ifs,0⟩] scope pos) 0 (.ref it) acc { cenv with scope:=relabel scope X.env }) (RR acc cenv.locals) s₄) E s₃) E s₂:=by
 refine wpAny_newObj_type (wpAny_newFunctionEnv c.cell (by intro y hy;simp at hy) (fun h₁ hns₁ hsb₁=>?_) c.kind);dsimp only at hns₁ hsb₁ ⊢;generalize hH2:s₂.heap.push { cls:=.type "list",dict:=none,data:=.seq ([]:List Value).toArray }=G2 at hns₁ hsb₁ ⊢;have hC:G2.objs.size=s₂.heap.objs.size+1:=by rw[<- hH2,YaI]
 have hDC:s₂.heap.objs.size≠G2.objs.size:=by rw[hC];exact Yat (Ya8 _)
 have hCle:s₂.heap.objs.size<=G2.objs.size:=by rw[hC];exact YdT _
 have old:∀ b o,s₂.heap.get? b=some o->h₁.get? b=some o:=fun b o e=>hsb₁.extBut b o (Yat (Yaq (Yag e) hCle)) (Yaa _ (hH2 ▸ Yaa _ e));have hacc:h₁.get? s₂.heap.objs.size=some { cls:=.type "list",data:=.seq ([]:List Value).toArray 0 }:=hsb₁.extBut _ _ hDC (Yaa _ (hH2 ▸ Yam _ rfl));have ho2:∀ b∈fp,∃ o,s₂.heap.get? b=some o:=fun b hb=>let ⟨o,e,_⟩:=T.obj 0 _ st b hb;⟨o,e⟩
 have I0:∀ tk,Inv (X.blk scope own js s₂ H2 G2.objs.size fp pins) [] (blkσ own js σ) (upd H2 s₂.heap.objs.size (.lst [])) { s₂ with heap:=h₁,toks:=tk }:=fun tk=>
  ZfZ c I hCle hf ho2 hns₁ old (Yah _) hDC hacc
 obtain⟨W,nn,w0,turn⟩:=h s₂.heap.objs.size (I.hok.fresh (Yah _));generalize hacc':s₂.heap.objs.size=acc at *;generalize hGC:G2.objs.size=C at *;have st1:tn 0 h₁:=T.keep 0 _ _ st fun b _ o e=>old b o e;have fOk:∀ {H':Hp},(∀ b∈fp,H' b=none)->∀ b∈fp,FpOk (X.blk scope own js s₂ H2 C fp pins) [] H' b:=fun hn b hb=>by
  obtain⟨f0,f1,f2,f3,f4,f5⟩:=hf b hb;obtain⟨o,e⟩:=ho2 b hb;refine⟨hn b hb,Yat (Yaq (Yag e) (by rw[<- hacc'] at hCle;exact hCle)),fun z=>?_,.inl hb,fun x a h=>f4 x a (c.look I h),fun p hp=>f5 p (by simpa[Cx.blk] using hp)⟩;rcases Yar.mp (I.stkSub b z) with q | q
  ·exact f1 q
  ·exact f2 q
 have loop:∀ s₃:Shared,s₃={ s₂ with heap:=h₁,toks:=s₂.toks+([]:List (Str × Value)).length } ->
   codeAny (model X.prog X.w) X.A (.compLoop (.ListComp elt [⟨target,iter,ifs,0⟩] scope pos) 0 (.ref it) (.ref acc) (compEnvC scope (clOf scope X.env) C X.env)) (RR (.ref acc) C) s₃:=by
  rintro s₃ rfl;refine Zbp (fun n s'=>∃ i H',n=nn - i/\Inv (X.blk scope own js s₂ H2 C fp pins) [] (blkσ own js σ) H' s'/\tn i s'.heap/\(∀ b∈fp,H' b=none)/\W i H') ?_ nn ⟨0,_,rfl,I0 _,st1,fun b hb=>?_,w0⟩
  ·rintro n s3 ⟨i,H3,en,I3,st3,fr3,w3⟩;rcases turn i H3 w3 with ⟨stop,qn⟩ | ⟨hin,go,step⟩
   ·refine thn (T.done (X.blk scope own js s₂ H2 C fp pins) rfl rfl rfl hc i [] s3 _ H3 (fun _ _=>False) I3 (fOk fr3) st3 stop) fun r s4 ⟨hr,I4⟩=>?_;subst hr;obtain⟨m,hn,_⟩:=I4.loc;exact hRR acc C H3 s4 m hCle I4.free (ZhU I hf I4) hn qn
   ·refine thn (T.item (X.blk scope own js s₂ H2 C fp pins) rfl rfl rfl hc i [] s3 _ H3 (fun _ _=>False) I3 (fOk fr3) st3 go) fun r s4 ⟨u,hr,h4⟩=>?_;subst hr;refine thn h4 fun _ s5 ⟨x,H5,I5,r5,y5,st5,fr5⟩=>?_;have I5':=I5.pinned (fOk fr5) (T.obj _ _ st5);have again:∀ {σ7:St}{H7:Hp}{s7:Shared},Inv (X.blk scope own js s₂ H2 C fp pins) ([]++Zc9 fp s5.heap) σ7 H7 s7->(∀ (j:Nat) v,(blkσ own js σ)[j]?=some (some v)->σ7[j]?=some (some v))->W (i+1) H7 ->
      ∃ m,m<n/\∃ i H',m=nn - i/\Inv (X.blk scope own js s₂ H2 C fp pins) [] (blkσ own js σ) H' s7/\tn i s7.heap/\(∀ b∈fp,H' b=none)/\W i H':=fun {σ7 H7 s7} I7 hw w7=>by
     refine⟨nn - (i+1),by omega,i+1,H7,rfl,(I7.unpinned).weak ((Zf0 own js σ X).trans I7.len.symm) hw,T.keep _ _ _ st5 fun b hb o e=>(I7.pin (b,o) (YaW _ (YaW _ (Zbd hb e)))).1,fun b hb=>?_,w7⟩;obtain⟨o,e,d⟩:=T.obj _ _ st5 b hb;exact (I7.pin (b,o) (YaW _ (YaW _ (Zbd hb e)))).2.1
    refine thn (hg s₂ H2 C fp pins _ s5 _ H5 x u _ I5' r5 (hgk _ _ _ _ _ (step x H5 y5))) fun _ s6 ⟨σ6,H6,I6,kp,q6⟩=>?_;refine thn (ht s₂ H2 C fp pins _ s6 σ6 H6 _ I6 q6) fun ok s7 ⟨H7,I7,q7⟩=>?_
    cases ok with
    | false=>
     exact again I7 kp q7
    | true=>
     refine thn (he s₂ H2 C fp pins _ s7 σ6 H7 _ I7 q7) fun y s8 ⟨v,H8,I8,r8,ys,hl,hz,w8⟩=>?_;refine thn (Zba (X:=X.blk scope own js s₂ H2 C fp pins) _ s8 σ6 H8 (.ref acc) [v] (.ref acc) [y] (fun _ H9=>W (i+1) H9) I8 rfl (.cons r8 .nil) ⟨acc,ys,v,rfl,rfl,hl,hz,w8⟩) fun _ s9 ⟨_,H9,I9,_,w9⟩=>?_;exact again I9 kp w9
  ·rw[Zah ?_]
   ·exact (hf b hb).1
   ·obtain⟨o,e⟩:=ho2 b hb;rw[<- hacc'];exact Yat (Yag e)
 exact codeAny_compStart_list (loop _ rfl) (T.self _ 0 _ _ _ st1 (loop _ rfl))
theorem ZaU (c:CompOk X scope own js) (hc:X.calm=true) (hi:PI X target iter wi) (hgk:ZgT own g)
  (hg:∀ s H C fp pins,PG (X.blk scope own js s H C fp pins) target g) (ht:∀ s H C fp pins,PTs (X.blk scope own js s H C fp pins) ifs tt) (he:∀ s H C fp pins,PE (X.blk scope own js s H C fp pins) elt te)
  (hs:∀ x,foldedSetIterable iter X.env x=pure x:=by intro _;rfl):PE X (.ListComp elt [⟨target,iter,ifs,0⟩] scope pos) (ZiO own js wi g tt te):=by
 intro pins s σ H Q I h;rw[eval_ListComp];refine wpAny_comprehension_free (use:=none) rfl hs (Zey (c.cl I)) c.kind c.names (thn (hi pins s σ H _ I h) fun v s1 h1=>thn h1 fun itv s2 h2=>?_);obtain⟨it,fp,tn,J,H2,e,I2,T,st2,f2,hw⟩:=h2;subst e;refine ZhT (RR:=fun acc C=>compPost (model X.prog X.w) X.A X.xe none (EP X pins σ Q) acc C) c hc hgk hg ht he I2 T st2 f2 hw ?_;intro acc C H' s' m hCs hCn I' hn q;refine⟨m,hn,fun h' hs'=>⟨.ref acc,H',I'.other hs' hCn ?_ ?_ ?_ ?_,rfl,q⟩⟩
 ·exact Ybp (Yaq I2.lt hCs)
 ·exact Ya4 I2.sz hCs
 ·intro x a e z;obtain⟨v,q⟩:=I2.cell x a e;exact absurd (Yaq q.lt (by rw[z];exact hCs)) (Ya6 _)
 ·intro p hp z;exact absurd (Yaq (Yag (I2.pin p hp).1) (by rw[z];exact hCs)) (Ya6 _)
end
section
variable {K:Yab}{own:List Str}{js:List Nat}{g:TG}{tt:TT}{te:TE}{σ:St}{H1:Hp}{Q:VK}
theorem ZbJ {lo:Int}{n:Nat} (Pv:Addr->Nat->Hp->Prop) (h0:∀ acc,H1 acc=none->Pv acc 0 (upd H1 acc (.lst [])))
  (hs:∀ acc i H,H1 acc=none->i<n->Pv acc i H->g (.int (lo+i)) (blkσ own js σ) H fun τ H4=>tt τ H4 fun c H5=>
   if c=true then te τ H5 fun y H6=>∃ ys,H6 acc=some (.lst ys)/\ys.length<sizeLine/\(i+1<=n/\Pv acc (i+1) (upd H6 acc (.lst (ys++[y])))) else (i+1<=n/\Pv acc (i+1) H5))
  (hd:∀ acc H,H1 acc=none->Pv acc n H->Q (.ref acc) H):Za6 own js g tt te σ (Itr lo n) H1 Q:=by
 intro acc hacc;refine⟨fun i H=>i<=n/\Pv acc i H,n,⟨YaX _,h0 acc hacc⟩,?_⟩;rintro i H ⟨hi,p⟩;by_cases hlt:i<n
 ·refine .inr ⟨hlt,hlt,fun x H' y=>?_⟩;obtain⟨e,y⟩:=y;subst e y;exact hs acc i _ hacc hlt p
 ·have e:i=n:=by omega
  subst e;exact .inl ⟨Yah _,hd acc H hacc p⟩
end
def ZfQ (scope sc:Scope) (js:List Nat) (N:List Str):Bool :=
 (scope.kind == .function) && (scope.names.all fun y=>(y.2 != .cell) && ((y.2 != .free) || (sc.names.lookup y.1 == some .cell) || (sc.names.lookup y.1 == some .free)) && ((y.2 != .local) || (scope.names.lookup y.1 == some .local))) &&
 (js.all fun j=>match N[j]? with | some x=>scope.names.lookup x == some .free | none=>false)
theorem CompOk.by {X:Cx}{scope sc:Scope}{own N:List Str}{js:List Nat} (hX:X.env.scope=sc) (hN:X.N=N) (h:ZfQ scope sc js N=true):CompOk X scope own js:=by
 unfold ZfQ at h;simp only[Ycf,beq_iff_eq,Yce,Bool.or_eq_true,bne_iff_ne,ne_eq] at h;obtain⟨⟨h1,h2⟩,h3⟩:=h;refine⟨h1,fun y hy=>(h2 y hy).1.1,fun y hy hf=>?_,fun y hy hl=>?_,fun j hj=>?_⟩
 ·show X.env.scope.names.lookup y.1=_∨X.env.scope.names.lookup y.1=_;rw[hX];rcases (h2 y hy).1.2 with (z | z) | z
  ·exact absurd hf z
  ·exact .inl z
  ·exact .inr z
 ·rcases (h2 y hy).2 with z | z
  ·exact absurd hl z
  ·exact z
 ·have:=h3 j hj;rw[hN]
  cases e:N[j]? with
  | none=>rw[e] at this;cases this
  | some x=>rw[e] at this;exact⟨x,rfl,by simpa using this⟩
end L2
namespace L2
open PySem PySem.Spec PyProof.Rows PySem.SeqAt
section
variable {X:Cx}
theorem Vals.bl_get {bs:List Bool}{us:List Value} (r:Vals (bs.map V.bl) us) {i:Nat}{v:Value} (e:us[i]?=some v):∃ b,bs[i]?=some b/\v=.bool b:=by
 cases q:(bs.map V.bl)[i]? with
 | none=>
  have:=r.none_of q;rw[e] at this;cases this
 | some x=>
  obtain⟨u,h1,h2⟩:=r.get q;rw[e] at h1;cases h1;rw[Yai] at q
  cases z:bs[i]? with
  | none=>rw[z] at q;cases q
  | some b=>rw[z] at q;cases q;exact⟨b,rfl,h2⟩
theorem ZeU {bs:List Bool}:(YaL bs.length).all (fun i=>bs.getD i true)=bs.all id:=by
 rw[YbZ,Yce,Yce];constructor
 ·intro h b hb;obtain⟨i,hi,e⟩:=Ya3 hb;have:=h i (YaO.mpr hi);simpa[Yaw,hi,e] using this
 ·intro h i hi;have hi':=YaO.mp hi;have:=h bs[i] (Ybj hi');simpa[Yaw,hi'] using this
theorem ZgO (hc:X.calm=true):ZbA X (.builtin "all") (fun xs H Q=>∃ (a:Addr) (bs:List Bool),xs=[.ref a]/\SqL X.K H a (bs.map V.bl)/\Q (.bl (bs.all id)) H):=by
 intro pins s σ H xs us Q I r h;obtain⟨a,bs,rfl,hq,q⟩:=h;obtain⟨u,rfl,r1⟩:=ZbU r;cases r1;obtain⟨its,rv,p,hz⟩:=I.list hq;refine call_all_walk (wpAny_pyIter_list p.isList ?_);have hlt:=(let ⟨o,n,e,_⟩:=p;Yag e:a<s.heap.objs.size)
 have hne:a≠s.heap.objs.size:=Yat hlt;have hlen:its.toArray.size=bs.length:=by rw[Yae,<- rv.length,Yad]
 refine⟨s.heap.objs.size,_,_,_,_,_,fun i=>bs.getD i true,rfl,YdQ (A:=X.A.in1) (I.ok.hd hc) _ a hne its.toArray,⟨⟨_,Yam _ rfl,rfl,rfl⟩,?_⟩,?_,?_⟩
 ·obtain⟨o,n,e,c,_,d⟩:=p;exact⟨o,Yaa _ e,c,n,d⟩
 ·intro i v s' Q' E' hP hQ;have hP':its[i]?=some v:=by simpa using hP
  obtain⟨b,hb,rfl⟩:=rv.bl_get hP';refine wpAny_truthy_bool ?_;dsimp only at hQ;rw[Yaw,hb] at hQ;exact hQ
 ·intro h' tk k;rw[hlen,ZeU];refine⟨.bl (bs.all id),H,I.kept (h':=h') (t':=tk) fun b o e=>k b o ?_ (Yaa _ e),rfl,q⟩;intro hm;have:b=s.heap.objs.size:=by simpa using hm
  rw[this] at e;exact absurd (Yag e) (Ya6 _)
theorem Vals.int_at {ns:List Int}{us:List Value} (r:Vals (ns.map V.int) us) {i:Nat} (h:i<ns.length):∃ t,us[i]?=some (.int ns[i] t):=by
 have q:(ns.map V.int)[i]?=some (V.int ns[i]):=by rw[Yai,Yac h];rfl
 obtain⟨u,h1,t,rfl⟩:=r.get q;exact⟨t,h1⟩
theorem Zfz {ns:List Int}{its:List Value} (r:Vals (ns.map V.int) its) {j:Nat} (h:j<its.toArray.size):∃ t,its.toArray[j]=.int (ns.getD j 0) t:=by
 have hj:j<ns.length:=by rw[Yae,<- r.length,Yad] at h;exact h
 obtain⟨t,q⟩:=r.int_at hj;obtain⟨_,q'⟩:=Yaf.mp q;exact⟨t,by simpa[Yaw,hj] using q'⟩
end
end L2
namespace L2
open PySem PySem.Spec PyProof.Rows PySem.SeqAt
section
variable {prog:Program}{w:World}{A:Around}{R:Result->Shared->Prop}{I:Addr}{fp wr:List Addr}{n:Nat}{P:Nat->Value->Prop}{St:Nat->Heap->Prop}
end
section
variable {X:Cx}
end
end L2
namespace L2
open PySem PySem.Spec PyProof.Rows PySem.SeqAt
def Ite (K:Yab) (a:Addr):It :=
 ⟨fun i H=>∃ xs x,SqL K H a xs/\xs[i]?=some x,fun i H y H'=>∃ p x,H p=none/\y=.ref p/\H'=upd H p (.tup [.int i,x])/\∀ xs,SqL K H a xs->xs[i]?=some x,fun i H=>∃ xs,SqL K H a xs/\xs.length<=i⟩
theorem ZeH {P:Program}{w:World}{K:Yab}{es:List Expr}{x1}{pos:Pos} (a it e:Addr) (hne:e≠it):Turn P w K (.Tuple es x1 pos) (Ite K a) [e,it] e (fun i h=>(∃ old,IsEnum h e it (i:Nat) old)/\h.IsListIter it a i) where
 mem:=by simp
 obj:=fun i h st b hb=>by
  obtain⟨⟨old,s1⟩,s2⟩:=st;rcases Yar.mp hb with z | z
  ·subst z;exact⟨_,s1,fun v z=>nomatch z⟩
  ·have z:b=it:=by simpa using z
   subst z;obtain⟨o,e,c,d⟩:=s2;exact⟨o,e,fun v z=>by rw[d] at z;cases z⟩
 keep:=fun i h h' st k=>by
  obtain⟨⟨old,s1⟩,s2⟩:=st;exact⟨⟨old,k e (by simp) _ s1⟩,s2.at fun o q=>k it (by simp) o q⟩
 item:=by
  intro X hP hw hK hc i pins s σ H E I hf st hg;subst hP hw hK;obtain⟨xs,x,hq,hx⟩:=hg;obtain⟨its,rv,p,hz⟩:=I.list hq;obtain⟨u,hu,ru⟩:=rv.get hx;obtain⟨⟨old,s1⟩,s2⟩:=st;refine wpAny_pyNext_enum_item s1 s2 p.isList (x:=u) (by simpa using hu) hne fun h' ho hit ht hsz hk=>?_;refine⟨_,rfl,?_⟩;refine wpAny_letOwnedTupleGo_enum ho fun h'' he hs=>?_;have fresh:H s.heap.objs.size=none:=I.hok.fresh (Yah _);have k:∀ b o,b ∉ [e,it]->s.heap.get? b=some o->h''.get? b=some o:=fun b o hb q=>by
   have hb':b≠e/\b≠it:=by simpa using hb
   exact (hs.2 b hb'.1).trans (hk b o hb'.1 hb'.2 q)
  have nE:∀ b∈[e,it],H b=none:=fun b hb=>(hf b hb).1
  have nit:∀ b u,H b=some u->b ∉ [e,it]:=fun b u q z=>by rw[nE b z] at q;cases q
  have hpe:s.heap.objs.size≠e:=Ybp (Yag s1);have htup:h''.get? s.heap.objs.size=some { cls:=.type "tuple",data:=.seq #[.int i s.toks,u] }:=(hs.2 _ hpe).trans ht;have newOk:ObjOk X.prog X.w (upd H s.heap.objs.size (.tup [.int i,x])) h'' s.heap.objs.size (.tup [.int i,x]):=by
   refine⟨?_,[.int i s.toks,u],.cons ⟨_,rfl⟩ (.cons ru .nil),⟨_,htup,rfl,rfl,0,rfl⟩⟩;show 2<=sizeLine
   decide
  have I1:Inv X pins σ (upd H s.heap.objs.size (.tup [.int i,x])) { s with heap:=h'',toks:=s.toks+1 }:=by
   refine I.step (g':=s.gens) (d':=s.drawn) (ch:=[e,it]) (fun b hb=>?_) (fun b o _ _ hc q _=>k b o hc q) (fun b o _ _ hc q _=>⟨o.slots,k b o hc q⟩) (fun b o _ q n=>?_) (fun b o hc q=>⟨o,k b o hc q⟩)
    (fun b xs q=>by rw[Zah (Zag q fresh)];exact q) (fun b o xs q=>by rw[Zah (Zag q fresh)];exact q) (fun b ps q=>⟨#[],by rw[Zah (Zag q fresh),q];simp⟩) (fun m hm=>?_) (fun b ob q=>?_) I.bare
   ·obtain⟨f0,f1,f2,f3,f4,f5⟩:=hf b hb;exact⟨f3,f1,f4,f5⟩
   ·rw[Zah (Yat (Yag q))];exact n
   ·obtain⟨o,es,ep,ho,r⟩:=hm;refine⟨o,es,ep,k _ o (fun z=>?_) ho,r⟩;exact (hf _ z).2.1 rfl
   ·by_cases hb:b=s.heap.objs.size
    ·subst hb;rw[Zab] at q;cases q;exact newOk
    ·rw[Zah hb] at q;refine (I.hok b ob q).stay (fun c v hc r=>k c v ?_ r) (fun c r=>by rw[Zah (Zag r fresh)];exact r) fun c xs r=>by rw[Zah (Zag r fresh)];exact r
     rcases hc with z | z
     ·rw[z];exact nit b ob q
     ·exact nit c _ z
  refine⟨.ref s.heap.objs.size,_,I1,rfl,⟨s.heap.objs.size,x,fresh,rfl,rfl,fun ys hy=>by rw[I.list_inj hy hq];exact hx⟩,⟨⟨u,?_⟩,?_⟩,fun b hb=>?_⟩
  ·have he:IsEnum h'' e it ((i:Int)+1) u:=he;show IsEnum h'' e it ((i+1:Nat):Int) u;rw[show ((i+1:Nat):Int)=(i:Int)+1 by omega];exact he
  ·exact hit.extBut hs.extBut (YbO hne)
  ·have lt:b<s.heap.objs.size:=by
    rcases Yar.mp hb with z | z
    ·rw[z];exact Yag s1
    ·have z:b=it:=by simpa using z
     rw[z];obtain⟨o,q,_⟩:=s2;exact Yag q
   rw[Zah (Yat lt)];exact nE b hb
 done:=by
  intro X hP hw hK hc i pins s σ H E I hf st hg;subst hP hw hK;obtain⟨xs,hq,hx⟩:=hg;obtain⟨its,rv,p,hz⟩:=I.list hq;obtain⟨⟨old,s1⟩,s2⟩:=st;obtain⟨f0,f1,f2,f3,f4,f5⟩:=hf it (by simp);have hl:=rv.length;exact wpAny_pyNext_enum_end (I.ok.hd hc) s1 s2 p.isList (by simp;omega) fun h' eb=>⟨rfl,I.turned (t':=s.toks) (fun b o hb q=>eb b o hb q) f0 f1 f3 f4 f5⟩
 self:=fun _ _ _ _ _ st h=>by
  obtain⟨⟨old,s1⟩,_⟩:=st;exact wpAny_pyIter_enum s1 h
section
variable {X:Cx}
theorem ZaW:ZbA X (.builtin "isinstance") (fun xs H Q=>∃ x T t b,xs=[x,.ty T]/\TyOf X.K H x t/\Yb0 X.K t (.type T)=some b/\Q (.bl b) H):=by
 intro pins s σ H xs us Q I r h;obtain⟨x,T,t,b,rfl,ty,e,q⟩:=h;obtain⟨u,u2,rfl,r1,r2⟩:=Zhg r;cases r2;exact Zfx I r1 ty e fun tk=>⟨.bl b,H,I.tok _,rfl,q⟩
end
end L2
namespace L2
open PySem PySem.Spec PyProof.Rows
section
variable {κ:Type} [DecidableEq κ]
end
section
variable {P:Program}{w:World}{H:Hp}{h:Heap}{a:Addr}
end
section
variable {X:Cx}{pins:List (Addr × Obj)}{σ:St}{H:Hp}{s:Shared}{a:Addr}{y v:V}{u r:Value}{o:Option V}{A:Around}{E:Value->Shared->Prop}
end
section
variable {X:Cx}{pins:List (Addr × Obj)}{σ:St}{H:Hp}{s:Shared}{a:Addr}{kvs:List (Key × V)}{k:Key}{u:Value}{A:Around}{E:Value->Shared->Prop}
end
section
variable {X:Cx}{o i e value:Expr}{pos pos' tpos:Pos}{td ty tv:TE}
end
section
variable {X:Cx}{pos:Pos}
end
structure M1 (X:Cx) (o:Expr) (m:Str) (apos:Pos) (e:Expr) (cpos:Pos):Prop where
 base:attributeBase o m X.env (eval o X.env)=eval o X.env
 few:((backTo cpos (starEach [e] X.env)).all (fun x=>!x.1) && (backToKw cpos (keywordEach [] X.env)).all (fun x=>x.1.isSome)
  && decide (([e]:List Expr).length+([]:List Keyword).length+(if ([]:List Keyword).isEmpty then 0 else 1)<30))=true
 line:(apos.endLine == cpos.line)=true
 trees:backTo cpos (starEach [e] X.env)=[(false,eval e X.env)]
structure M2 (X:Cx) (o:Expr) (m:Str) (apos:Pos) (e f:Expr) (cpos:Pos):Prop where
 base:attributeBase o m X.env (eval o X.env)=eval o X.env
 few:((backTo cpos (starEach [e,f] X.env)).all (fun x=>!x.1) && (backToKw cpos (keywordEach [] X.env)).all (fun x=>x.1.isSome)
  && decide (([e,f]:List Expr).length+([]:List Keyword).length+(if ([]:List Keyword).isEmpty then 0 else 1)<30))=true
 line:(apos.endLine == cpos.line)=true
 trees:backTo cpos (starEach [e,f] X.env)=[(false,eval e X.env),(false,eval f X.env)]
section
variable {X:Cx}{pins:List (Addr × Obj)}{σ:St}{H:Hp}{s:Shared}{a:Addr}{y d:V}{u r:Value}{o:Option V}{A:Around}{E:Value->Shared->Prop}
end
section
variable {X:Cx}{o e f:Expr}{apos cpos:Pos}{td ty tx:TE}
end
section
variable {X:Cx}{pins:List (Addr × Obj)}{σ:St}{H:Hp}{s:Shared}{a:Addr}{kvs:List (Key × V)}{A:Around}{E:Value->Shared->Prop}
end
section
variable {X:Cx}{pins:List (Addr × Obj)}{σ:St}{H:Hp}{s:Shared}{a:Addr}{y:V}{u:Value}{A:Around}{E:Value->Shared->Prop}
end
end L2
namespace L2
open PySem PySem.Spec PyProof.Rows
section
variable {κ:Type} [DecidableEq κ]
end
end L2
namespace L2
open PySem PySem.Spec PyProof.Rows PySem.SeqAt
section
variable {prog:Program}{w:World}{A:Around}{E:Value->Shared->Prop}{s:Shared}
theorem ZcE {it t:Addr}{i:Nat}{items:Array Value}{x:Value}{Q:Value->Shared->Prop} (hit:s.heap.IsTupleIter it t i) (ht:s.heap.IsTuple t items) (hx:items[i]?=some x)
  (hQ:∀ h',h'.IsTupleIter it t (i+1)->YbM it s.heap h'->Q x { s with heap:=h' }):wpAny (model prog w) A (YaF (.ref it)) Q E s:=by
 obtain⟨o,ho,hc,hd⟩:=id hit;obtain⟨ol,hol,_,nl,hdl⟩:=ht;unfold YaF;refine wpAny_bind (wpAny_callSpecial?_slot (name:=YbU "__next__") hit.typeIs F.slot_tuple_iterator_next (wpAny_call_entry F.slot_tuple_iterator_next hit.typeIs F.entry_tuple_iterator_next ?_ (F.args_tuple_iterator_next_1 _)));show wpAny _ _ (field (.ref it) 0 >>= _) _ _ s;refine wpAny_bind (wpAny_field ho hd (x:=.ref t) rfl ?_);show wpAny _ _ (if (YaC t == Ybq)=true then _ else _) _ _ s;rw[if_neg (show ¬ ((YaC t == Ybq)=true) from Yau)];show wpAny _ _ (field (.ref it) 1 >>= _) _ _ s;refine wpAny_bind (wpAny_field ho hd (x:=.int i 0) rfl ?_);show wpAny _ _ (seqItems? (.ref t) >>= _) _ _ s;refine wpAny_bind (wpAny_seqItems hol hdl ?_);simp only[YaS,hx];refine wpAny_bind (wpAny_setField ho hd (by simp) (wpAny_pure ⟨x,rfl,wpAny_pure (hQ _ ?_ (YbT ..))⟩));exact⟨_,Ycn _ ho (Obj.isFreed_of_fields (Yd0 hd _)),(Obj.cls_mapFields ..).trans hc,by rw[Yd0 hd];simp[rawInt]⟩
theorem ZaZ {it t:Addr}{i:Nat}{items:Array Value}{Q:Value->Shared->Prop} (hh:A.handled=none) (hit:s.heap.IsTupleIter it t i) (ht:s.heap.IsTuple t items) (hx:items[i]?=none)
  (hE:∀ h' e,Ycy it s.heap h'->(∃ o,h'.get? e=some o/\o.cls=.type "StopIteration")->E (.ref e) { s with heap:=h' }):wpAny (model prog w) A (YaF (.ref it)) Q E s:=by
 obtain⟨o,ho,hc,hd⟩:=id hit;obtain⟨ol,hol,_,nl,hdl⟩:=ht;unfold YaF;refine wpAny_bind (wpAny_callSpecial?_slot (name:=YbU "__next__") hit.typeIs F.slot_tuple_iterator_next (wpAny_call_entry F.slot_tuple_iterator_next hit.typeIs F.entry_tuple_iterator_next ?_ (F.args_tuple_iterator_next_1 _)));show wpAny _ _ (field (.ref it) 0 >>= _) _ _ s;refine wpAny_bind (wpAny_field ho hd (x:=.ref t) rfl ?_);show wpAny _ _ (if (YaC t == Ybq)=true then _ else _) _ _ s;rw[if_neg (show ¬ ((YaC t == Ybq)=true) from Yau)];show wpAny _ _ (field (.ref it) 1 >>= _) _ _ s;refine wpAny_bind (wpAny_field ho hd (x:=.int i 0) rfl ?_);show wpAny _ _ (seqItems? (.ref t) >>= _) _ _ s;refine wpAny_bind (wpAny_seqItems hol hdl ?_);simp only[YaS,hx];refine wpAny_bind (wpAny_rule (wpAny_bind (wpAny_setField ho hd (by simp) ?_)));show wpAny _ _ (newExc (.type "StopIteration") [] >>= _) _ _ _;refine wpAny_bind ?_;simp only[newExc,newTuple];refine wpAny_bind (wpAny_newObj_type ?_ (by size_fits));refine wpAny_bind (m:=firstArgMember _ _) (wpAny_of_eq (a:=Ybq) (by first | rfl | (simp only[firstArgMember];rfl)) ?_);refine wpAny_newObj_type ?_ (by size_fits);simp only[raiseNew];refine wpAny_bind (wpAny_handled ?_)
 first | rw[show A.in1.handled=none from hh] | rw[hh]
 refine wpAny_bind (wpAny_pure (wpAny_throw ?_));exact hE _ _ (((YbT ..).extBut.push _).push _) ⟨_,Yam _ rfl,rfl⟩
theorem ZfG (hh:A.handled=none) (it l:Addr) (hne:l≠it) (items:Array Value):Draws prog w A it [it,l] items.size (fun i v=>items[i]?=some v) (fun i h=>h.IsTupleIter it l i/\h.IsTuple l items) where
 live:=fun _ _ st=>let ⟨o,ho,_⟩:=st.1;⟨o,ho⟩
 frame:=fun _ _ _ st hk=>⟨st.1.at fun o e=>hk it (by simp) o e,let ⟨o,e,c⟩:=st.2;⟨o,hk l (by simp) o e,c⟩⟩
 item:=fun i s Q E hi st hQ=>by
  refine ZcE st.1 st.2 (x:=items[i]) (by simp[hi]) fun h' hit' hs'=>?_;exact hQ _ h' s.toks (by simp[hi]) ⟨hit',let ⟨o,e,c⟩:=st.2;⟨o,(hs'.2 l hne).trans e,c⟩⟩ hs'
 done:=fun s Q E st hE=>ZaZ hh st.1 st.2 (by simp) hE
end
theorem Zdk (l:Addr) (items:Array Value) (n:Nat) (dct:Option Addr) (sl:Array (Option Value)) :
  Meets (Builtin.«enumerate.__new__» ⟨[.type "enumerate",.ref l],[]⟩) (fun _ R s=>s.heap.get? l=some { cls:=.type "tuple",dict:=dct,data:=.seq items n,slots:=sl } /\
   R (.ok (.ret (.ref (s.heap.push { cls:=.type "tuple_iterator",data:=.fields #[.ref l,.int 0 0] }).objs.size)))
    { s with heap:=(s.heap.push { cls:=.type "tuple_iterator",data:=.fields #[.ref l,.int 0 0] }).push { cls:=.type "enumerate",data:=.fields #[.none,.bool false,.ref s.heap.objs.size,rawInt 0,.none,.none] } }) :=
 .of_wp fun prog w A R s h=>by
  obtain⟨hp,g,d,tk,os⟩:=s;obtain⟨hl,h⟩:=h;have hsub:=sub_enumerate;have hL:Yco (YbE ⟨hp,g,d,tk,os⟩) l items:=⟨_,hl,rfl,n,rfl⟩
  wp_walk using YbD hl
  refine wpAny_stack_any fun st=>wpAny_pure ?_;split
  ·rename_i c _ _ _ _ _;cases (c == YbB "enumerate")
   ·wp_walk using YbD hl,wpAny_pyIter_tuple hL
    exact⟨_,rfl,h⟩
   ·wp_walk using YbD hl,wpAny_pyIter_tuple hL
    exact⟨_,rfl,h⟩
  ·wp_walk using YbD hl,wpAny_pyIter_tuple hL
   exact⟨_,rfl,h⟩
section
variable {prog:Program}{w:World}{A:Around}{E:Value->Shared->Prop}{s:Shared}
theorem Zdj {e it l:Addr}{i:Nat}{items:Array Value}{old:Value}{Q:Option Value->Shared->Prop} (hh:A.handled=none) (he:IsEnum s.heap e it i old) (hit:s.heap.IsTupleIter it l i) (hl:s.heap.IsTuple l items) (hx:items[i]?=none)
  (hQ:∀ h',Ycy it s.heap h'->Q none { s with heap:=h' }):wpAny (model prog w) A (pyNext (.ref e)) Q E s:=by
 have hT:s.TypeIs (.ref e) "enumerate":=⟨_,he,rfl⟩
 unfold pyNext;refine wpAny_bind (wpAny_attempt (wpAny_callSpecial?_slot (name:=YbU "__next__") hT F.slot_enumerate_next (wpAny_call_entry F.slot_enumerate_next hT F.entry_enumerate_next ?_ (F.args_enumerate_next_1 _))));show wpAny _ _ (field (.ref e) 2 >>= _) _ _ _;refine wpAny_bind (wpAny_field he rfl (x:=.ref it) rfl ?_);refine wpAny_bind (ZaZ hh hit hl hx fun h' x he' hx'=>?_);obtain⟨o,ho,hc⟩:=hx';refine wpAny_bind (wpAny_isInstance (T:="StopIteration") (b:=true) ⟨o,ho,hc⟩ isSubtype_stop ?_);exact wpAny_pure (hQ _ he')
theorem ZcY {l:Addr}{items:Array Value}{Q:Value->Shared->Prop} (hL:s.heap.IsTuple l items)
  (h:∀ h',IsEnum h' (s.heap.objs.size+1) s.heap.objs.size 0 .none->h'.IsTupleIter s.heap.objs.size l 0->(∀ b o,s.heap.get? b=some o->h'.get? b=some o)->Q (.ref (s.heap.objs.size+1)) { s with heap:=h' }) :
  wpAny (model prog w) A (call (.type "enumerate") [.ref l]) Q E s:=by
 obtain⟨⟨c,dct,dt,sl⟩,hl,hc,n,hd⟩:=hL
 replace hc:c=.type "tuple":=hc
 replace hd:dt=.seq items n:=hd
 subst hc hd;refine callType_new F.called_enumerate (by decide) (F.typeCall_enumerate_1 _) (F.newCall_enumerate_1 _) (fun obj=>F.args_object_init_2 obj _) F.entry_enumerate_new (Zdk l items n dct sl) ⟨hl,?_⟩;have hz:(s.heap.push { cls:=.type "tuple_iterator",data:=.fields #[.ref l,.int 0 0] }).objs.size=s.heap.objs.size+1:=YaI ..;show _/\_;rw[hz];have he:IsEnum ((s.heap.push { cls:=.type "tuple_iterator",data:=.fields #[.ref l,.int 0 0] }).push { cls:=.type "enumerate",data:=.fields #[.none,.bool false,.ref s.heap.objs.size,rawInt 0,.none,.none] }) (s.heap.objs.size+1) s.heap.objs.size 0 .none:=by
  have:=Yam (s.heap.push { cls:=.type "tuple_iterator",data:=.fields #[.ref l,.int 0 0] }) (o:={ cls:=.type "enumerate",data:=.fields #[.none,.bool false,.ref s.heap.objs.size,rawInt 0,.none,.none] }) rfl;rw[hz] at this;exact this
 exact⟨⟨_,he,rfl⟩,h _ he ⟨_,Yaa _ (Yam _ rfl),rfl,rfl⟩ fun b o x=>Yaa _ (Yaa _ x)⟩
end
def IteT (K:Yab) (a:Addr):It :=
 ⟨fun i H=>∃ xs x,SqT K H a xs/\xs[i]?=some x,fun i H y H'=>∃ p x,H p=none/\y=.ref p/\H'=upd H p (.tup [.int i,x])/\∀ xs,SqT K H a xs->xs[i]?=some x,fun i H=>∃ xs,SqT K H a xs/\xs.length<=i⟩
theorem Zee {P:Program}{w:World}{K:Yab}{es:List Expr}{x1}{pos:Pos} (a it e:Addr) (hne:e≠it):Turn P w K (.Tuple es x1 pos) (IteT K a) [e,it] e (fun i h=>(∃ old,IsEnum h e it (i:Nat) old)/\h.IsTupleIter it a i) where
 mem:=by simp
 obj:=fun i h st b hb=>by
  obtain⟨⟨old,s1⟩,s2⟩:=st;rcases Yar.mp hb with z | z
  ·subst z;exact⟨_,s1,fun v z=>nomatch z⟩
  ·have z:b=it:=by simpa using z
   subst z;obtain⟨o,e,c,d⟩:=s2;exact⟨o,e,fun v z=>by rw[d] at z;cases z⟩
 keep:=fun i h h' st k=>by
  obtain⟨⟨old,s1⟩,s2⟩:=st;exact⟨⟨old,k e (by simp) _ s1⟩,s2.at fun o q=>k it (by simp) o q⟩
 item:=by
  intro X hP hw hK hc i pins s σ H E I hf st hg;subst hP hw hK;obtain⟨xs,x,hq,hx⟩:=hg;obtain⟨its,rv,p,hz⟩:=I.tuple hq;obtain⟨u,hu,ru⟩:=rv.get hx;obtain⟨⟨old,s1⟩,s2⟩:=st;have hlt:(i:Nat)<its.toArray.size:=by
   have:=(Yaf.mp hu).1
   simpa using this
  have nea:a≠it:=by
   rintro rfl;obtain⟨o1,q1,c1,_⟩:=p;obtain⟨o2,q2,c2,_⟩:=id s2;rw[q1] at q2;cases q2;rw[c1] at c2;injection c2 with z;exact absurd z (by decide)
  have nee:a≠e:=by
   rintro rfl;obtain⟨o1,q1,c1,_⟩:=p;have s1':s.heap.get? a=some _:=s1;rw[q1] at s1';cases s1';injection c1 with z;exact absurd z (by decide)
  have it2:s.heap.IsTuple a its.toArray:=p;refine wpAny_pyNext_enum_itemD (ZfG (A:=X.A.in1) (I.ok.hd hc) it a nea its.toArray) s1 ⟨s2,it2⟩ hlt hne (by simp[hne,YbO nee]) fun u' h' tk' hu' ho hst ht hsz hk=>?_;have eu:u'=u:=by
   have:its.toArray[i]?=some u:=by simpa using hu
   rw[this] at hu';exact (Yaz hu').symm
  subst eu;have hit:=hst.1;refine⟨_,rfl,?_⟩;refine wpAny_letOwnedTupleGo_enum ho fun h'' he hs=>?_;have fresh:H s.heap.objs.size=none:=I.hok.fresh (Yah _);have k:∀ b o,b ∉ [e,it]->s.heap.get? b=some o->h''.get? b=some o:=fun b o hb q=>by
   have hb':b≠e/\b≠it:=by simpa using hb
   exact (hs.2 b hb'.1).trans (hk b o hb'.1 hb'.2 q)
  have nE:∀ b∈[e,it],H b=none:=fun b hb=>(hf b hb).1
  have nit:∀ b u,H b=some u->b ∉ [e,it]:=fun b u q z=>by rw[nE b z] at q;cases q
  have hpe:s.heap.objs.size≠e:=Ybp (Yag s1);have htup:h''.get? s.heap.objs.size=some { cls:=.type "tuple",data:=.seq #[.int i tk',u'] }:=(hs.2 _ hpe).trans ht;have newOk:ObjOk X.prog X.w (upd H s.heap.objs.size (.tup [.int i,x])) h'' s.heap.objs.size (.tup [.int i,x]):=by
   refine⟨?_,[.int i tk',u'],.cons ⟨_,rfl⟩ (.cons ru .nil),⟨_,htup,rfl,rfl,0,rfl⟩⟩;show 2<=sizeLine
   decide
  have I1:Inv X pins σ (upd H s.heap.objs.size (.tup [.int i,x])) { s with heap:=h'',toks:=tk'+1 }:=by
   refine I.step (g':=s.gens) (d':=s.drawn) (ch:=[e,it]) (fun b hb=>?_) (fun b o _ _ hc q _=>k b o hc q) (fun b o _ _ hc q _=>⟨o.slots,k b o hc q⟩) (fun b o _ q n=>?_) (fun b o hc q=>⟨o,k b o hc q⟩)
    (fun b xs q=>by rw[Zah (Zag q fresh)];exact q) (fun b o xs q=>by rw[Zah (Zag q fresh)];exact q) (fun b ps q=>⟨#[],by rw[Zah (Zag q fresh),q];simp⟩) (fun m hm=>?_) (fun b ob q=>?_) I.bare
   ·obtain⟨f0,f1,f2,f3,f4,f5⟩:=hf b hb;exact⟨f3,f1,f4,f5⟩
   ·rw[Zah (Yat (Yag q))];exact n
   ·obtain⟨o,es,ep,ho,r⟩:=hm;refine⟨o,es,ep,k _ o (fun z=>?_) ho,r⟩;exact (hf _ z).2.1 rfl
   ·by_cases hb:b=s.heap.objs.size
    ·subst hb;rw[Zab] at q;cases q;exact newOk
    ·rw[Zah hb] at q;refine (I.hok b ob q).stay (fun c v hc r=>k c v ?_ r) (fun c r=>by rw[Zah (Zag r fresh)];exact r) fun c xs r=>by rw[Zah (Zag r fresh)];exact r
     rcases hc with z | z
     ·rw[z];exact nit b ob q
     ·exact nit c _ z
  refine⟨.ref s.heap.objs.size,_,I1,rfl,⟨s.heap.objs.size,x,fresh,rfl,rfl,fun ys hy=>by rw[I.tuple_inj hy hq];exact hx⟩,⟨⟨u',?_⟩,?_⟩,fun b hb=>?_⟩
  ·have he:IsEnum h'' e it ((i:Int)+1) u':=he;show IsEnum h'' e it ((i+1:Nat):Int) u';rw[show ((i+1:Nat):Int)=(i:Int)+1 by omega];exact he
  ·exact hit.extBut hs.extBut (YbO hne)
  ·have lt:b<s.heap.objs.size:=by
    rcases Yar.mp hb with z | z
    ·rw[z];exact Yag s1
    ·have z:b=it:=by simpa using z
     rw[z];obtain⟨o,q,_⟩:=s2;exact Yag q
   rw[Zah (Yat lt)];exact nE b hb
 done:=by
  intro X hP hw hK hc i pins s σ H E I hf st hg;subst hP hw hK;obtain⟨xs,hq,hx⟩:=hg;obtain⟨its,rv,p,hz⟩:=I.tuple hq;obtain⟨⟨old,s1⟩,s2⟩:=st;obtain⟨f0,f1,f2,f3,f4,f5⟩:=hf it (by simp);have hl:=rv.length;exact Zdj (I.ok.hd hc) s1 s2 (show s.heap.IsTuple a its.toArray from p) (by simp;omega) fun h' eb=>⟨rfl,I.turned (t':=s.toks) (fun b o hb q=>eb b o hb q) f0 f1 f3 f4 f5⟩
 self:=fun _ _ _ _ _ st h=>by
  obtain⟨⟨old,s1⟩,_⟩:=st;exact wpAny_pyIter_enum s1 h
def SqB (b:Bool) (K:Yab) (H:Hp) (a:Addr) (xs:List V):Prop:=match b with | true=>SqL K H a xs | false=>SqT K H a xs
def IteB (b:Bool) (K:Yab) (a:Addr):It:=match b with | true=>Ite K a | false=>IteT K a
def ZiB (K:Yab) (ta:TA):TI:=fun σ H R=>ta σ H fun vs H1=>∃ a b,vs=[.ref a]/\(∃ xs,SqB b K H1 a xs)/\R (IteB b K a) H1
theorem Zgl {X:Cx}{es:List Expr}{x1}{tpos:Pos}{e:Expr}{ta:TA}{p pos:Pos} (hg:Gl X "enumerate") (hm:X.mg "enumerate"=none) (ha:PA X [e] ta) (hs:starEach [e] X.env=[(false,eval e X.env)]:=by rfl) :
  PI X (.Tuple es x1 tpos) (.Call (.Name "enumerate" p) [e] [] pos) (ZiB X.K ta):=by
 intro pins s σ H R I h;refine Call_ (ZcF I hg hm (show bootBuiltins "enumerate"=some (.type "enumerate") by decide +kernel) (Ybu (thn (ha pos pins s σ H _ I h) fun us s1 ⟨vs,H1,I1,r1,q1⟩=>?_) hs rfl));obtain⟨a,b,e1,⟨xs,hq⟩,q⟩:=q1;subst e1;obtain⟨u,rfl,r⟩:=ZbU r1;cases r;have fp:∀ b∈[s1.heap.objs.size+1,s1.heap.objs.size],FpOk X pins H1 b:=fun b hb=>by
  have ge:s1.heap.objs.size<=b:=by
   rcases Yar.mp hb with z | z
   ·rw[z];exact YdT _
   ·have z:b=s1.heap.objs.size:=by simpa using z
    rw[z];exact Yah _
  exact I1.fpOk ge (I1.hok.fresh ge)
 cases b with
 | true=>
  obtain⟨its,rv,pl,hz⟩:=I1.list hq;refine call_enumerate_list pl.isList fun h' he hi hsz k=>wpAny_pyIter_enum he ?_;exact⟨s1.heap.objs.size+1,[s1.heap.objs.size+1,s1.heap.objs.size],_,_,H1,rfl,I1.kept (t':=s1.toks) k,ZeH a s1.heap.objs.size _ (Ybp (Ya8 _)),⟨⟨.none,he⟩,hi⟩,fp,q⟩
 | false=>
  obtain⟨its,rv,pl,hz⟩:=I1.tuple hq;refine ZcY (show s1.heap.IsTuple a its.toArray from pl) fun h' he hi k=>wpAny_pyIter_enum he ?_;exact⟨s1.heap.objs.size+1,[s1.heap.objs.size+1,s1.heap.objs.size],_,_,H1,rfl,I1.kept (t':=s1.toks) k,Zee a s1.heap.objs.size _ (Ybp (Ya8 _)),⟨⟨.none,he⟩,hi⟩,fp,q⟩
theorem ZfE {b:Bool}{K:Yab}{a:Addr}{xs:List V}{g:TG}{tb:TS}{D:Ends}{σ:St}{H:Hp} (Pv:Nat->St->Hp->Prop) (h0:Pv 0 σ H) (hl:∀ i σ H,i<=xs.length->Pv i σ H->SqB b K H a xs)
  (hs:∀ i x p σ H,xs[i]?=some x->Pv i σ H->H p=none->g (.ref p) σ (upd H p (.tup [.int i,x])) fun σ2 H2=>tb { D with nx:=Pv (i+1),ct:=Pv (i+1),bk:=D.nx } σ2 H2) (hd:∀ σ H,Pv xs.length σ H->D.nx σ H) :
  ∃ W:Nat->Nat->St->Hp->Prop,(∃ m,W 0 m σ H)/\∀ i m σ H,W i m σ H ->
   ((IteB b K a).stop i H/\D.nx σ H)∨((IteB b K a).go i H/\∃ N:St->Hp->Prop,(∀ σ' H',N σ' H'->∃ m',m'<m/\W (i+1) m' σ' H')/\∀ x H',(IteB b K a).yld i H x H'->g x σ H' fun σ2 H2=>tb { D with nx:=N,ct:=N,bk:=D.nx } σ2 H2):=by
 refine⟨fun i m σ H=>m=xs.length - i/\i<=xs.length/\Pv i σ H,⟨xs.length,by simp,YaX _,h0⟩,?_⟩;rintro i m σ H ⟨rfl,hi,p⟩;have q:=hl i σ H hi p;by_cases hlt:i<xs.length
 ·have gx:xs[i]?=some xs[i]:=by simp[hlt]
  refine .inr ⟨by cases b <;> exact⟨xs,xs[i],q,gx⟩,Pv (i+1),fun σ' H' p'=>⟨xs.length - (i+1),by omega,rfl,hlt,p'⟩,fun x H' y=>?_⟩;have y:∃ pa z,H pa=none/\x=.ref pa/\H'=upd H pa (.tup [.int i,z])/\xs[i]?=some z:=by
   cases b with
   | true=>obtain⟨pa,z,hp,e1,e2,y⟩:=y;exact⟨pa,z,hp,e1,e2,y xs q⟩
   | false=>obtain⟨pa,z,hp,e1,e2,y⟩:=y;exact⟨pa,z,hp,e1,e2,y xs q⟩
  obtain⟨pa,z,hp,e1,e2,y'⟩:=y;subst e1 e2;exact hs i z pa σ H y' p hp
 ·have e:i=xs.length:=by omega
  subst e;exact .inl ⟨by cases b <;> exact⟨xs,q,Yah _⟩,hd σ H p⟩
end L2
namespace L2
open PySem PySem.Spec PyProof.Rows PySem.SeqAt
section
variable {X:Cx}
theorem Zbm (ns:List Int):∀ k,k<=ns.length->preSum (fun i=>ns.getD i 0) k=(ns.take k).sum
 | 0,_=>by simp[preSum]
 | k+1,h=>by
  have hk:k<ns.length:=by omega
  rw[YbP hk,YcY,<- Zbm ns k (by omega)];simp[preSum,Yaw,hk]
theorem Zbc (hc:X.calm=true):ZbA X (.builtin "sum") (fun xs H Q=>∃ (a:Addr) (ns:List Int),xs=[.ref a]/\SqL X.K H a (ns.map V.int)/\Q (.int ns.sum) H):=by
 intro pins s σ H xs us Q I r h;obtain⟨a,ns,rfl,hq,q⟩:=h;obtain⟨u,rfl,r1⟩:=ZbU r;cases r1;obtain⟨its,rv,p,hz⟩:=I.list hq;refine call_sum_walkG (wpAny_pyIter_list p.isList ?_);have hlt:=(let ⟨o,n,e,_⟩:=p;Yag e:a<s.heap.objs.size)
 have hne:a≠s.heap.objs.size:=Yat hlt;have hlen:its.toArray.size=ns.length:=by rw[Yae,<- rv.length,Yad]
 refine⟨s.heap.objs.size,_,_,_,_,_,fun i=>ns.getD i 0,rfl,YdQ (A:=X.A.in1) (I.ok.hd hc) _ a hne its.toArray,⟨⟨_,Yam _ rfl,rfl,rfl⟩,?_⟩,?_,?_,?_⟩
 ·obtain⟨o,n,e,c,_,d⟩:=p;exact⟨o,Yaa _ e,c,n,d⟩
 ·intro b hb;rcases Yar.mp hb with z | z
  ·rw[z,YaI];exact Ya8 _
  ·have z:b=a:=by simpa using z
   rw[z,YaI];exact Ybm hlt
 ·intro i v e;have hi:i<its.toArray.size:=(YaH.mp e).1
  obtain⟨t,q⟩:=Zfz rv hi;rw[YaB hi] at e;have e':=Yaz e;rw[q] at e';exact⟨t,e'.symm⟩
 ·intro h' tk t' k;refine⟨.int ns.sum,H,I.kept (h':=h') (t':=tk) fun b o e=>k b o ?_ (Yaa _ e),⟨t',?_⟩,q⟩
  ·intro hm;have:b=s.heap.objs.size:=by simpa using hm
   rw[this] at e;exact absurd (Yag e) (Ya6 _)
  ·rw[hlen,Zbm ns _ (Yah _),YaR]
end
end L2
namespace L2
open PySem PySem.Spec PyProof.Rows PySem.SeqAt
section
variable {X:Cx}
end
end L2
namespace L2
open PySem PySem.Spec PyProof.Rows PySem.SeqAt
theorem Inv.pairOut {X:Cx}{pins:List (Addr × Obj)}{σ:St}{H:Hp}{s:Shared}{h':Heap}{fp:List Addr}{x y:V}{u v:Value}{tk:Nat} (I:Inv X pins σ H s) (hf:∀ b∈fp,FpOk X pins H b)
  (k:∀ b o,b ∉ fp->s.heap.get? b=some o->h'.get? b=some o) (ht:IsPair h' s.heap.objs.size u v) (hlf:∀ b∈fp,b<s.heap.objs.size) (hth:∀ b∈fp,∃ o,h'.get? b=some o) (rx:RelV x u) (ry:RelV y v) :
  Inv X pins σ (upd H s.heap.objs.size (.tup [x,y])) { s with heap:=h',toks:=tk }:=by
 have fresh:H s.heap.objs.size=none:=I.hok.fresh (Yah _);have nit:∀ b o,H b=some o->b ∉ fp:=fun b o q z=>by rw[(hf b z).1] at q;cases q
 have newOk:ObjOk X.prog X.w (upd H s.heap.objs.size (.tup [x,y])) h' s.heap.objs.size (.tup [x,y]):=by
  refine⟨?_,[u,v],.cons rx (.cons ry .nil),⟨_,ht,rfl,rfl,0,rfl⟩⟩;show 2<=sizeLine
  decide
 refine I.step (g':=s.gens) (d':=s.drawn) (ch:=fp) (fun b hb=>?_) (fun b o _ _ hc q _=>k b o hc q) (fun b o _ _ hc q _=>⟨o.slots,k b o hc q⟩) (fun b o _ q n=>?_) (fun b o hc q=>⟨o,k b o hc q⟩)
  (fun b xs q=>by rw[Zah (Zag q fresh)];exact q) (fun b o xs q=>by rw[Zah (Zag q fresh)];exact q) (fun b ps q=>⟨#[],by rw[Zah (Zag q fresh),q];simp⟩) (fun m hm=>?_) (fun b ob q=>?_) I.bare
 ·obtain⟨f0,f1,f2,f3,f4,f5⟩:=hf b hb;exact⟨f3,f1,f4,f5⟩
 ·rw[Zah (Yat (Yag q))];exact n
 ·obtain⟨o,es,ep,ho,r⟩:=hm;exact⟨o,es,ep,k _ o (fun z=>(hf _ z).2.1 rfl) ho,r⟩
 ·by_cases hb:b=s.heap.objs.size
  ·subst hb;rw[Zab] at q;cases q;exact newOk
  ·rw[Zah hb] at q;refine (I.hok b ob q).stay (fun c v hc r=>k c v ?_ r) (fun c r=>by rw[Zah (Zag r fresh)];exact r) fun c xs r=>by rw[Zah (Zag r fresh)];exact r
   rcases hc with z | z
   ·rw[z];exact nit b ob q
   ·exact nit c _ z
theorem Inv.turnedAll {X:Cx}{pins:List (Addr × Obj)}{σ:St}{H:Hp}{s:Shared}{h':Heap}{fp:List Addr}{tk:Nat} (I:Inv X pins σ H s) (hf:∀ b∈fp,FpOk X pins H b) (k:∀ b o,b ∉ fp->s.heap.get? b=some o->h'.get? b=some o) :
  Inv X pins σ H { s with heap:=h',toks:=tk }:=by
 have nit:∀ b o,H b=some o->b ∉ fp:=fun b o q z=>by rw[(hf b z).1] at q;cases q
 refine I.step (g':=s.gens) (d':=s.drawn) (ch:=fp) (fun b hb=>?_) (fun b o _ _ hc q _=>k b o hc q) (fun b o _ _ hc q _=>⟨o.slots,k b o hc q⟩) (fun b o _ q n=>n) (fun b o hc q=>⟨o,k b o hc q⟩) (fun _ _ q=>q) (fun _ _ _ q=>q) (fun b ps q=>⟨#[],by rw[q];simp⟩) (fun m hm=>?_) (fun b ob q=>?_) I.bare
 ·obtain⟨f0,f1,f2,f3,f4,f5⟩:=hf b hb;exact⟨f3,f1,f4,f5⟩
 ·obtain⟨o,es,ep,ho,r⟩:=hm;exact⟨o,es,ep,k _ o (fun z=>(hf _ z).2.1 rfl) ho,r⟩
 ·refine (I.hok b ob q).stay (fun c v hc r=>k c v ?_ r) (fun _ q=>q) fun _ _ q=>q;rcases hc with z | z
  ·rw[z];exact nit b ob q
  ·exact nit c _ z
end L2
namespace L2
open PySem PySem.Spec PyProof.Rows PySem.SeqAt
section
variable {X:Cx}
theorem Ze7:OpR X (binaryOp .Mult) (rI (fun i j=>∃ m n,Ya1 i<=m/\Ya1 j<=n/\m+n<=134217728) fun i j=>.int (i*j)) :=
 opI fun _ _ _ _ _ _ _ hc q=>mul_int q (by obtain⟨m,n,h1,h2,h3⟩:=hc;exact IntMulOk.of_le h1 h2 h3)
theorem Zgp:OpR X (binaryOp .FloorDiv) (rI (fun _ j=>0<j/\Ya1 j<=8000) fun i j=>.int (i / j)):=opI fun i j _ _ _ _ _ hc q=>by
 have h1:(0:Int)<j:=hc.1;have h2:j.natAbs<2 ^ 8000:=intBits_le_iff.mp hc.2;refine floordiv_int (by omega) (by rw[Ydg i (by omega)];exact q) (.inl (PyProof.noPylong_of_log2 ?_));have h3:j.natAbs.log2<8000:=(Nat.log2_lt (by omega)).mpr h2;omega
theorem ZfW (hc:X.calm=true):ZbA X (.builtin "sum") (fun xs H Q=>∃ (a:Addr) (ns:List Int),xs=[.ref a]/\SqT X.K H a (ns.map V.int)/\Q (.int ns.sum) H):=by
 intro pins s σ H xs us Q I r h;obtain⟨a,ns,rfl,hq,q⟩:=h;obtain⟨u,rfl,r1⟩:=ZbU r;cases r1;obtain⟨its,rv,p0,hz⟩:=I.tuple hq;have p:s.heap.IsTuple a its.toArray:=p0;refine call_sum_walkG (wpAny_pyIter_tuple p ?_);have hlt:a<s.heap.objs.size:=by obtain⟨o,e,_⟩:=p;exact Yag e
 have hne:a≠s.heap.objs.size:=Yat hlt;have hlen:its.toArray.size=ns.length:=by rw[Yae,<- rv.length,Yad]
 refine⟨s.heap.objs.size,_,_,_,_,_,fun i=>ns.getD i 0,rfl,Walks.tuple (A:=X.A.in1) (I.ok.hd hc) _ a hne its.toArray,⟨⟨_,Yam _ rfl,rfl,rfl⟩,?_⟩,?_,?_,?_⟩
 ·obtain⟨o,e,c,d⟩:=p;exact⟨o,Yaa _ e,c,d⟩
 ·intro b hb;rcases Yar.mp hb with z | z
  ·rw[z,YaI];exact Ya8 _
  ·have z:b=a:=by simpa using z
   rw[z,YaI];exact Ybm hlt
 ·intro i v e;have hi:i<its.toArray.size:=(YaH.mp e).1
  obtain⟨t,q⟩:=Zfz rv hi;rw[YaB hi] at e;have e':=Yaz e;rw[q] at e';exact⟨t,e'.symm⟩
 ·intro h' tk t' k;refine⟨.int ns.sum,H,I.kept (h':=h') (t':=tk) fun b o e=>k b o ?_ (Yaa _ e),⟨t',?_⟩,q⟩
  ·intro hm;have:b=s.heap.objs.size:=by simpa using hm
   rw[this] at e;exact absurd (Yag e) (Ya6 _)
  ·rw[hlen,Zbm ns _ (Yah _),YaR]
end
section
variable {prog:Program}{w:World}{A:Around}{E:Value->Shared->Prop}{s:Shared}
end
section
variable {X:Cx}
end
theorem ZcW {K:Yab}{own:List Str}{js:List Nat}{g:TG}{tt:TT}{te:TE}{σ:St}{H1:Hp}{Q:VK}{a:Addr}{xs:List V} (Pv:Addr->Nat->Hp->Prop) (h0:∀ acc,H1 acc=none->Pv acc 0 (upd H1 acc (.lst []))) (hl:∀ acc i H,H1 acc=none->i<=xs.length->Pv acc i H->SqT K H a xs)
  (hs:∀ acc i x H,H1 acc=none->xs[i]?=some x->Pv acc i H->g x (blkσ own js σ) H fun τ H4=>tt τ H4 fun c H5=>
   if c=true then te τ H5 fun y H6=>∃ ys,H6 acc=some (.lst ys)/\ys.length<sizeLine/\(i+1<=xs.length/\Pv acc (i+1) (upd H6 acc (.lst (ys++[y])))) else (i+1<=xs.length/\Pv acc (i+1) H5))
  (hd:∀ acc H,H1 acc=none->Pv acc xs.length H->Q (.ref acc) H):Za6 own js g tt te σ (Itt K a) H1 Q:=by
 intro acc hacc;refine⟨fun i H=>i<=xs.length/\Pv acc i H,xs.length,⟨YaX _,h0 acc hacc⟩,?_⟩;rintro i H ⟨hi,p⟩;have q:=hl acc i H hacc hi p;by_cases hlt:i<xs.length
 ·refine .inr ⟨hlt,⟨xs,xs[i],q,by simp[hlt]⟩,fun x H' y=>?_⟩;obtain⟨e,y⟩:=y;subst e;exact hs acc i x _ hacc (y xs q) p
 ·have e:i=xs.length:=by omega
  subst e;exact .inl ⟨⟨xs,q,Yah _⟩,hd acc H hacc p⟩
end L2
namespace Lv
open PySem L2
theorem ZdJ {X:Cx}{x:Str}{T:String}{pos:Pos} (hg:Gl X x) (hm:X.mg x=none) (hv:bootBuiltins x=some (.type T)) (hn:x≠"__name__":=by decide) (hd:(x == ("__debug__":Str))=false:=by decide):PE X (.Name x pos) (tC (.ty T)) :=
 Zhz hg hm hv rfl hn hd
theorem ZdK {X:Cx}{x:Str}{i:Int}{t:Tok}{pos:Pos} (hg:Gl X x) (hm:X.mg x=some (.int i t)) (hd:(x == ("__debug__":Str))=false:=by decide):PE X (.Name x pos) (tC (.int i)) :=
 Ze2 hg hm ⟨t,rfl⟩ hd
structure Txt (mg:Str->Option Value):Prop where
 isinstance:mg "isinstance"=none
 int:mg "int"=none
 bool:mg "bool"=none
 list:mg "list"=none
 tuple:mg "tuple"=none
 min:mg "min"=none
 max:mg "max"=none
 len:mg "len"=none
 range:mg "range"=none
 all:mg "all"=none
 sum:mg "sum"=none
 sorted:mg "sorted"=none
 zip:mg "zip"=none
theorem ZaI:bootBuiltins "isinstance"=some (.builtin "isinstance"):=by decide +kernel
theorem ZgQ:bootBuiltins "int"=some (.type "int"):=by decide +kernel
theorem Zhb:bootBuiltins "bool"=some (.type "bool"):=by decide +kernel
theorem Zha:bootBuiltins "list"=some (.type "list"):=by decide +kernel
theorem ZaO:bootBuiltins "tuple"=some (.type "tuple"):=by decide +kernel
theorem Zi7:bootBuiltins "all"=some (.builtin "all"):=by decide +kernel
theorem Zez:bootBuiltins "sum"=some (.builtin "sum"):=by decide +kernel
theorem Zca {K:Yab}:Yb0 K (.type "int") (.type "int")=some true:=by rfl
theorem ZbO {K:Yab}:Yb0 K (.type "int") (.type "bool")=some false:=by with_unfolding_all rfl
theorem Zb9 {K:Yab}:Yb0 K (.type "tuple") (.type "tuple")=some true:=by rfl
structure Cal (P:Program) (w:World) (K:Yab) (mg:Str->Option Value) (base:Heap) (k:Nat) (x:Str) (ps:List Str) (sp:Sp) (f:Addr) (fd:FuncData):Prop where
 ok:FnOk P w K mg base CX0 k f fd ps sp
 mg:mg x=some (.ref f)
 kp:Yak K (.ref f)=true
 bd:Binds K fd ps []
theorem Zar {X:Cx}{k:Nat}{x:Str}{ps:List Str}{sp:Sp}{f:Addr}{fd:FuncData}{e:Expr}{es:List Expr}{t:TA}{p pos:Pos} (C:Cal X.prog X.w X.K X.mg X.base k x ps sp f fd) (hr:Room k X.A) (hg:Gl X x) (ha:PA X (e::es) t)
  (hdb:(x == ("__debug__":Str))=false:=by decide) (he:starEach (e::es) X.env=(false,eval e X.env)::starEach es X.env:=by rfl) (hpl:(backTo pos (starEach es X.env)).any (·.1)=false:=by rfl) :
  PE X (.Call (.Name x p) (e::es) [] pos) (Zf7 sp [] E0 t):=Ze3 C.ok hr hg C.mg C.kp C.bd .nil ZhA ha hdb he hpl
theorem Zbv (K:Yab) {X:Cx} (hK:X.K=K:=by rfl):IxR X (rIxL K):=by subst hK;exact ZaB
theorem Zbo {xs:List Int}{i:Nat}{x:V} (h:(xs.map V.int)[i]?=some x):∃ p,xs[i]?=some p/\x=.int p:=by
 rw[Yai] at h
 cases e:xs[i]? with
 | none=>rw[e] at h;cases h
 | some p=>rw[e] at h;exact⟨p,rfl,(Yaz h).symm⟩
theorem _root_.L2.Same.new {q:Addr}{H:Hp}{o:HO} (h:H q=none):Same H (upd H q o):=fun b u e=>by rw[Zah (Zag e h)];exact e
theorem _root_.L2.Same.put {q:Addr}{H H':Hp}{o:HO} (s:Same H H') (h:H q=none):Same H (upd H' q o):=fun b u e=>by rw[Zah (Zag e h)];exact s b u e
theorem _root_.L2.Same.tup {K:Yab}{H H':Hp}{a:Addr}{xs:List V} (e:Same H H') (h:SqT K H a xs):SqT K H' a xs:=by
 rcases h with (h | ⟨o,h⟩) | h
 ·exact .inl (.inl (e _ _ h))
 ·exact .inl (.inr ⟨o,e _ _ h⟩)
 ·exact .inr h
theorem Zg7 {n:Nat}{x:Int} (h0:0<=x) (h1:x<n):ixN n x=some x.toNat:=by
 unfold ixN;rw[if_pos h0,if_pos h1]
theorem Zc0 {fs:List Int}{x:Int} (h0:0<=x) (h1:x<fs.length):atI (fs.map V.int) x=some (.int (fs.getD x.toNat 0)):=by
 unfold atI;have hx:x.toNat<fs.length:=by omega
 rw[Yad,Zg7 h0 h1];show (fs.map V.int)[x.toNat]?=_;rw[Yai,Yac hx,Yaw,Yac hx];rfl
theorem ZgS {c0:Int}{cr:List Int}:atI ((c0::cr).map V.int) 0=some (.int c0):=Za0 (j:=0) rfl
theorem cutG {i:Nat}{x:V}{a R:TS}{D:Ends}{σ:St}{H:Hp} (M:St->Hp->Prop) (h1:∀ R':TS,(∀ σ' H',M σ' H'->R' D σ' H')->Zdg i x σ H (tSeq a R' D)) (h2:∀ σ' H',M σ' H'->R D σ' H'):Zdg i x σ H (tSeq a R D):=h1 R h2
def ZbW:Sp:=fun vs H Q _=>∃ i,vs=[.int i]/\Q (.bl true) H
theorem ZbK {m:Int} (h0:0<=m) (h1:m<2 ^ 64):Ya1 m<=8000:=Ya4 (intBits_le_64 (by omega) h1) (by decide)
def Za3 (c:List Int):List Int:=(c.tail.map (c.getD 0 0+·))++[c.getD 0 0]
def Zbw (p:Nat):List Int:=1::Yal (p - 1) 0
def cnt (p:Nat):Nat->List Int
 | 0=>Zbw p
 | n+1=>Za3 (cnt p n)
theorem Zfm {c:List Int} (h:c≠[]):(Za3 c).length=c.length:=by
 cases c with
 | nil=>exact absurd rfl h
 | cons x r=>simp[Za3]
theorem Zcd {p:Nat} (hp:1<=p):∀ n,(cnt p n).length=p
 | 0=>by simp[cnt,Zbw];omega
 | n+1=>by
  have:=Zcd hp n;show (Za3 (cnt p n)).length=p;rw[Zfm (by intro z;rw[z] at this;simp at this;omega),this]
def Down (c:List Int):Prop:=c.Pairwise (· ≥ ·)/\∀ x∈c,0<=x
theorem ZfH {c:List Int} (h:Down c):Down (Za3 c):=by
 cases c with
 | nil=>exact⟨by simp[Za3],by intro x hx;simp[Za3] at hx;omega⟩
 | cons a r=>
  obtain⟨h1,h2⟩:=h;have h3:=YcE.mp h1;have h0:0<=a:=h2 a (by simp);refine⟨?_,?_⟩
  ·show ((r.map (a+·))++[a]).Pairwise (· ≥ ·);rw[YdG];refine⟨?_,by simp,?_⟩
   ·rw[YbR];exact h3.2.imp fun h=>by omega
   ·intro x hx y hy;obtain⟨z,hz,rfl⟩:=YaN.mp hx;have:=h2 z (by simp[hz]);have:y=a:=by simpa using hy
    omega
  ·show ∀ x∈(r.map (a+·))++[a],0<=x;intro x hx;rcases YaA.mp hx with hx | hx
   ·obtain⟨z,hz,rfl⟩:=YaN.mp hx;have:=h2 z (by simp[hz]);omega
   ·have:x=a:=by simpa using hx
    omega
theorem ZbT (p:Nat):∀ n,Down (cnt p n)
 | 0=>by
  refine⟨?_,?_⟩
  ·show (1::Yal (p - 1) (0:Int)).Pairwise (· ≥ ·);rw[YcE];refine⟨fun y hy=>?_,?_⟩
   ·have:=(Yb4.mp hy).2
    omega
   ·rw[List.pairwise_replicate];exact .inr (YdV _)
  ·intro x hx;rcases Yar.mp hx with rfl | hx
   ·decide
   ·have:=(Yb4.mp hx).2
    omega
 | n+1=>ZfH (ZbT p n)
def ZeO:Sp:=fun vs H Q _=>∃ i,vs=[.int i]/\2<=i/\i<=7/\Q .non H
def ZdC:Sp:=fun vs H Q _=>∃ p:Nat,vs=[.int p]/\2<=p/\p<=7/\∀ l H',H l=none->H' l=some (.tup ((Zbw p).map V.int))->Same H H'->Q (.ref l) H'
def ZeP (K:Yab):Sp:=fun vs H Q _=>∃ (a:Addr) (c:List Int),vs=[.ref a]/\SqT K H a (c.map V.int)/\2<=c.length/\c.length<=7/\∀ l H',H l=none->H' l=some (.tup ((Za3 c).map V.int))->Same H H'->Q (.ref l) H'
def ZcP:Sp:=fun vs H Q _=>∃ p n:Nat,vs=[.int p,.int n]/\2<=p/\p<=7/\n<=300/\∀ l H',H l=none->H' l=some (.tup ((cnt p n).map V.int))->Same H H'->Q (.ref l) H'
def Zdw:Sp:=fun vs H Q _=>∃ p n:Nat,vs=[.int p,.int n]/\2<=p/\p<=7/\n<=300/\∀ H',Same H H'->Q (.int (cnt p n).sum) H'
def Zgb (K:Yab):Sp:=fun vs H Q _=>∃ (a:Addr) (ns:List Int),vs=[.ref a]/\SqL K H a (ns.map V.int)/\ns.length<=63/\∀ H',Q (.bl true) H'
end Lv
namespace Lv
open PySem L2
def hd (p n:Nat):Int:=(cnt p n).getD 0 0
def tot (p n:Nat):Int:=(cnt p n).sum
theorem Zea {p:Nat} (hp:2<=p) (n:Nat):∃ a b r,cnt p n=a::b::r/\r.length=p - 2:=by
 have h:=Zcd (p:=p) (by omega) n
 match hc:cnt p n with
 | []=>rw[hc] at h;simp at h;omega
 | [x]=>rw[hc] at h;simp at h;omega
 | a::b::r=>rw[hc] at h;exact⟨a,b,r,rfl,by simp at h;omega⟩
theorem Zd7 {p:Nat} (hp:2<=p):∀ n,1<=hd p n
 | 0=>by simp[hd,cnt,Zbw]
 | n+1=>by
  obtain⟨a,b,r,e,_⟩:=Zea hp n;have ih:=Zd7 hp n;have nn:=(ZbT p n).2 b (by rw[e];simp);unfold hd at ih ⊢;show 1<=(Za3 (cnt p n)).getD 0 0;rw[e] at ih ⊢;simp[Za3] at ih ⊢;omega
theorem ZeL (c:Int):∀ r:List Int,(r.map (c+·)).sum=r.length*c+r.sum
 | []=>by simp
 | x::r=>by
  rw[YaK,Ybw,ZeL c r,Ybw,Ya7,Int.natCast_succ,Int.add_mul];omega
theorem Zf9 (a:Int) (r:List Int):(Za3 (a::r)).sum=(a::r).sum+r.length*a:=by
 show ((r.map (a+·))++[a]).sum=_;rw[YcY,ZeL,Ybw,Ybw,List.sum_nil];omega
theorem ZdP {p:Nat} (hp:2<=p) (n:Nat):tot p (n+1)=tot p n+(p - 1:Nat)*hd p n:=by
 obtain⟨a,b,r,e,hr⟩:=Zea hp n;unfold tot hd;show (Za3 (cnt p n)).sum=_;rw[e,Zf9];have:(b::r).length=p - 1:=by simp;omega
 rw[this];rfl
theorem ZgX {p:Nat} (hp:2<=p) (n:Nat):tot p n+1<=tot p (n+1):=by
 rw[ZdP hp];have h1:=Zd7 hp n;have h2:((1:Nat):Int)*1<=((p - 1:Nat):Int)*hd p n:=Int.mul_le_mul (by omega) h1 (by decide) (by omega);omega
theorem ZbR {p:Nat} (hp:2<=p) {m n:Nat} (h:m<=n):tot p m<=tot p n:=by
  induction n with
  | zero => have : m = 0 := by omega
            subst this;exact YdV _
  | succ n ih=>
    by_cases e:m=n+1
    · subst e;exact YdV _
    · have:=ih (by omega);have:=ZgX hp n;omega
theorem Zh7 {c:List Int} (h:∀ x∈c,0<=x):c.getD 0 0<=c.sum:=by
 cases c with
 | nil=>simp
 | cons a r=>
  have:∀ l:List Int,(∀ x∈l,0<=x)->0<=l.sum:=by
   intro l
   induction l with
   | nil=>intro _;simp
   | cons x y ih=>
    intro h;rw[Ybw];have:=h x (by simp);have:=ih fun z hz=>h z (by simp[hz]);omega
  have:=this r fun x hx=>h x (by simp[hx]);rw[Ybw];simp;omega
end Lv
namespace L2
open PySem PySem.Spec PyProof.Rows PySem.SeqAt
def HIt (b:Bool) (h:Heap) (it l:Addr) (i:Nat):Prop:=match b with | true=>h.IsListIter it l i | false=>h.IsTupleIter it l i
def HSq (b:Bool) (h:Heap) (l:Addr) (xs:Array Value):Prop:=match b with | true=>h.IsList l xs | false=>h.IsTuple l xs
theorem HIt.at {b:Bool}{h h':Heap}{it l:Addr}{i:Nat} (x:HIt b h it l i) (e:∀ o,h.get? it=some o->h'.get? it=some o):HIt b h' it l i:=by
 cases b
 ·exact Heap.IsTupleIter.at x e
 ·exact Heap.IsListIter.at x e
theorem HIt.ext {b:Bool}{h h':Heap}{it l c:Addr}{i:Nat} (x:HIt b h it l i) (hs:Ycy c h h') (n:it≠c):HIt b h' it l i:=x.at fun o e=>hs _ _ n e
theorem HIt.obj {b:Bool}{h:Heap}{it l:Addr}{i:Nat} (x:HIt b h it l i):∃ o,h.get? it=some o/\∀ v:Option Value,o.data≠.cell v:=by
 cases b
 ·obtain⟨o,e,_,d⟩:=x;exact⟨o,e,fun v q=>by rw[d] at q;cases q⟩
 ·obtain⟨o,e,_,d⟩:=x;exact⟨o,e,fun v q=>by rw[d] at q;cases q⟩
theorem HSq.ext {b:Bool}{h h':Heap}{l c:Addr}{xs:Array Value} (x:HSq b h l xs) (hs:Ycy c h h') (n:l≠c):HSq b h' l xs:=by
 cases b
 ·exact Heap.IsTuple.extBut x hs n
 ·exact Heap.IsList.extBut x hs n
section
variable {prog:Program}{w:World}{A:Around}{E:Value->Shared->Prop}{s:Shared}
theorem ZhH {b:Bool}{it l:Addr}{i:Nat}{items:Array Value}{x:Value}{Q:Value->Shared->Prop} (hit:HIt b s.heap it l i) (hl:HSq b s.heap l items) (hx:items[i]?=some x) (hQ:∀ h',HIt b h' it l (i+1)->YbM it s.heap h'->Q x { s with heap:=h' }) :
  wpAny (model prog w) A (YaF (.ref it)) Q E s:=by
 cases b
 ·exact ZcE hit hl hx hQ
 ·exact wpAny_nextOf_list_item hit hl hx hQ
theorem Zdb {b:Bool}{it l:Addr}{i:Nat}{items:Array Value}{Q:Value->Shared->Prop} (hh:A.handled=none) (hit:HIt b s.heap it l i) (hl:HSq b s.heap l items) (hx:items[i]?=none)
  (hE:∀ h' e,Ycy it s.heap h'->(∃ o,h'.get? e=some o/\o.cls=.type "StopIteration")->E (.ref e) { s with heap:=h' }):wpAny (model prog w) A (YaF (.ref it)) Q E s:=by
 cases b
 ·exact ZaZ hh hit hl hx hE
 ·exact wpAny_nextOf_list_end hh hit hl hx hE
theorem ZeE {b1 b2:Bool}{z TI TO i1 i2 l1 l2:Addr}{k1 k2:Nat}{xs ys:Array Value}{x y a b:Value}{Q:Value->Shared->Prop} (D:ZipApart z TI TO i1 i2 l1 l2) (hz:IsZip s.heap z TI TO .none) (hTI:IsPair s.heap TI (.ref i1) (.ref i2)) (hTO:IsPair s.heap TO a b)
  (h1:HIt b1 s.heap i1 l1 k1) (h2:HIt b2 s.heap i2 l2 k2) (hl1:HSq b1 s.heap l1 xs) (hl2:HSq b2 s.heap l2 ys) (hx:xs[k1]?=some x) (hy:ys[k2]?=some y)
  (hQ:∀ h',IsZip h' z TI TO (rawInt s.heap.objs.size)->IsPair h' TO x y->HIt b1 h' i1 l1 (k1+1)->HIt b2 h' i2 l2 (k2+1)->IsPair h' s.heap.objs.size x y->h'.objs.size=s.heap.objs.size+1 ->
   (∀ c o,c≠z->c≠TO->c≠i1->c≠i2->s.heap.get? c=some o->h'.get? c=some o)->Q (.ref s.heap.objs.size) { s with heap:=h' }) :
  wpAny (model prog w) A (Builtin.«zip.__next__» ⟨[.ref z],[]⟩) (fun fin s'=>∃ v,fin=.done (.ret v)/\Q v s') E s:=by
 refine wpAny_bind (m:=field (.ref z) 2) (wpAny_field hz rfl (x:=.bool false) rfl ?_);refine wpAny_bind (m:=field (.ref z) 3) (wpAny_field hz rfl (x:=.ref TI) rfl (wpAny_bind (wpAny_seqItems hTI rfl ?_)));refine wpAny_bind (m:=Ybf (.ref z)) ?_;unfold Ybf;refine wpAny_bind (wpAny_field hz rfl (x:=.none) rfl (wpAny_pure ?_));simp only[if_true];refine wpAny_bind (wpAny_rule (wpAny_bind (wpAny_field hz rfl (x:=.ref TO) rfl ?_)));refine wpAny_bind (wpAny_setField_rec hz (by simp) fun h₁ hz₁ hs₁=>?_)
 replace hz₁:IsZip h₁ z TI TO .ellipsis:=hz₁
 refine wpAny_bind ?_;simp only[Yd8,List.zipIdx_nil,Yc1,List.forIn_nil];refine wpAny_bind (wpAny_bind (wpAny_onRaise (wpAny_bind (m:=YaF (.ref i1)) ?_)));refine ZhH (h1.ext hs₁.extBut D.i1z) (hl1.ext hs₁.extBut D.l1z) hx fun h₂ h1₂ hs₂=>wpAny_pure ?_;have t2:IsPair h₂ TO a b:=hs₂.extBut _ _ D.TOi1 (hs₁.extBut _ _ D.TOz hTO);refine wpAny_bind (wpAny_seqItems t2 rfl (wpAny_bind (wpAny_updateSeq_pair t2 fun h₃ hTO₃ hs₃=>?_)))
 replace hTO₃:IsPair h₃ TO x b:=hTO₃
 refine wpAny_bind (wpAny_letGo (wpAny_pure (wpAny_bind (wpAny_bind (wpAny_onRaise (wpAny_bind (m:=YaF (.ref i2)) ?_))))));refine ZhH (((h2.ext hs₁.extBut D.i2z).ext hs₂.extBut D.i12.symm).ext hs₃.extBut D.TOi2.symm) (((hl2.ext hs₁.extBut D.l2z).ext hs₂.extBut D.l2i1).ext hs₃.extBut D.l2TO) hy fun h₄ h2₄ hs₄=>wpAny_pure ?_;have t4:IsPair h₄ TO x b:=hs₄.extBut _ _ D.TOi2 hTO₃;refine wpAny_bind (wpAny_seqItems t4 rfl (wpAny_bind (wpAny_updateSeq_pair t4 fun h₅ hTO₅ hs₅=>?_)))
 replace hTO₅:IsPair h₅ TO x y:=hTO₅
 refine wpAny_bind (wpAny_letGo (wpAny_pure (wpAny_pure (wpAny_bind (wpAny_seqItems hTO₅ rfl (wpAny_bind (wpAny_newTuple ?_)))))));have hsz:h₅.objs.size=s.heap.objs.size:=by rw[hs₅.1,hs₄.1,hs₃.1,hs₂.1,hs₁.1]
 have hz₅:IsZip h₅ z TI TO .ellipsis:=hs₅.extBut _ _ D.TOz.symm (hs₄.extBut _ _ D.i2z.symm (hs₃.extBut _ _ D.TOz.symm (hs₂.extBut _ _ D.i1z.symm hz₁)));have k5:∀ c o,c≠z->c≠TO->c≠i1->c≠i2->s.heap.get? c=some o->h₅.get? c=some o:=fun c o c1 c2 c3 c4 e=>hs₅.extBut _ _ c2 (hs₄.extBut _ _ c4 (hs₃.extBut _ _ c2 (hs₂.extBut _ _ c3 (hs₁.extBut _ _ c1 e))));have j1:HIt b1 h₅ i1 l1 (k1+1):=((h1₂.ext hs₃.extBut D.TOi1.symm).ext hs₄.extBut D.i12).ext hs₅.extBut D.TOi1.symm;have j2:HIt b2 h₅ i2 l2 (k2+1):=h2₄.ext hs₅.extBut D.TOi2.symm;have zlt:z<h₅.objs.size:=Yag hz₅;refine wpAny_bind (m:=Yb2 (.ref z) (.ref h₅.objs.size)) ?_;unfold Yb2;have hz₆:IsZip (h₅.push { cls:=.type "tuple",data:=.seq #[x,y] }) z TI TO .ellipsis:=Yaa _ hz₅;refine wpAny_bind (wpAny_setField_rec hz₆ (by simp) fun h₇ hz₇ hs₇=>?_)
 replace hz₇:IsZip h₇ z TI TO (rawInt h₅.objs.size):=hz₇
 refine wpAny_setField_rec hz₇ (by simp) fun h₈ hz₈ hs₈=>?_
 replace hz₈:IsZip h₈ z TI TO (rawInt h₅.objs.size):=hz₈
 have up:∀ c o,c≠z->h₅.get? c=some o->h₈.get? c=some o:=fun c o c1 e=>hs₈.extBut _ _ c1 (hs₇.extBut _ _ c1 (Yaa _ e));have t8:IsPair h₈ h₅.objs.size x y:=hs₈.extBut _ _ (Ybp zlt) (hs₇.extBut _ _ (Ybp zlt) (Yam _ rfl));have z8:h₈.objs.size=h₅.objs.size+1:=by rw[hs₈.1,hs₇.1,YaI]
 rw[hsz] at hz₈ t8 z8;refine wpAny_pure ⟨_,rfl,?_⟩;show Q (.ref h₅.objs.size) _;rw[hsz];exact hQ h₈ hz₈ (up _ _ D.TOz hTO₅) (j1.at fun o e=>up _ o D.i1z e) (j2.at fun o e=>up _ o D.i2z e) t8 z8 fun c o c1 c2 c3 c4 e=>up c o c1 (k5 c o c1 c2 c3 c4 e)
theorem Zf6 {b1 b2:Bool}{z TI TO i1 i2 l1 l2:Addr}{k1 k2:Nat}{xs ys:Array Value}{a b:Value}{Q:Fin->Shared->Prop} (hh:A.handled=none) (D:ZipApart z TI TO i1 i2 l1 l2) (hz:IsZip s.heap z TI TO .none) (hTI:IsPair s.heap TI (.ref i1) (.ref i2)) (hTO:IsPair s.heap TO a b)
  (h1:HIt b1 s.heap i1 l1 k1) (h2:HIt b2 s.heap i2 l2 k2) (hl1:HSq b1 s.heap l1 xs) (hl2:HSq b2 s.heap l2 ys) (hend:xs[k1]?=none∨ys[k2]?=none)
  (hE:∀ h' e,(∀ c o,c≠z->c≠TO->c≠i1->c≠i2->s.heap.get? c=some o->h'.get? c=some o)->(∃ o,h'.get? e=some o/\o.cls=.type "StopIteration")->E (.ref e) { s with heap:=h' }):wpAny (model prog w) A (Builtin.«zip.__next__» ⟨[.ref z],[]⟩) Q E s:=by
 refine wpAny_bind (m:=field (.ref z) 2) (wpAny_field hz rfl (x:=.bool false) rfl ?_);refine wpAny_bind (m:=field (.ref z) 3) (wpAny_field hz rfl (x:=.ref TI) rfl (wpAny_bind (wpAny_seqItems hTI rfl ?_)));refine wpAny_bind (m:=Ybf (.ref z)) ?_;unfold Ybf;refine wpAny_bind (wpAny_field hz rfl (x:=.none) rfl (wpAny_pure ?_));simp only[if_true];refine wpAny_bind (wpAny_rule (wpAny_bind (wpAny_field hz rfl (x:=.ref TO) rfl ?_)));refine wpAny_bind (wpAny_setField_rec hz (by simp) fun h₁ hz₁ hs₁=>?_)
 replace hz₁:IsZip h₁ z TI TO .ellipsis:=hz₁
 refine wpAny_bind ?_;simp only[Yd8,List.zipIdx_nil,Yc1,List.forIn_nil];refine wpAny_bind (wpAny_bind (wpAny_onRaise (wpAny_bind (m:=YaF (.ref i1)) ?_)))
 cases hx:xs[k1]? with
 | none=>
  refine Zdb hh (h1.ext hs₁.extBut D.i1z) (hl1.ext hs₁.extBut D.l1z) hx fun h₂ e hs₂ ⟨oe,hoe,hce⟩=>?_;have hz₂:IsZip h₂ z TI TO .ellipsis:=hs₂ _ _ D.i1z.symm hz₁;have ez:e≠z:=fun x=>by subst x;rw[hz₂] at hoe;cases hoe;simp at hce
  exact wpAny_setField_rec hz₂ (by simp) fun h₃ _ hs₃=>hE h₃ e (fun c o c1 _ c3 _ x=>hs₃.extBut _ _ c1 (hs₂ _ _ c3 (hs₁.extBut _ _ c1 x))) ⟨oe,hs₃.extBut _ _ ez hoe,hce⟩
 | some x=>
  have hy:ys[k2]?=none:=hend.resolve_left (by rw[hx];simp);refine ZhH (h1.ext hs₁.extBut D.i1z) (hl1.ext hs₁.extBut D.l1z) hx fun h₂ h1₂ hs₂=>wpAny_pure ?_;have t2:IsPair h₂ TO a b:=hs₂.extBut _ _ D.TOi1 (hs₁.extBut _ _ D.TOz hTO);refine wpAny_bind (wpAny_seqItems t2 rfl (wpAny_bind (wpAny_updateSeq_pair t2 fun h₃ hTO₃ hs₃=>?_)));refine wpAny_bind (wpAny_letGo (wpAny_pure (wpAny_bind (wpAny_bind (wpAny_onRaise (wpAny_bind (m:=YaF (.ref i2)) ?_))))));refine Zdb hh (((h2.ext hs₁.extBut D.i2z).ext hs₂.extBut D.i12.symm).ext hs₃.extBut D.TOi2.symm) (((hl2.ext hs₁.extBut D.l2z).ext hs₂.extBut D.l2i1).ext hs₃.extBut D.l2TO) hy fun h₄ e hs₄ ⟨oe,hoe,hce⟩=>?_;have hz₄:IsZip h₄ z TI TO .ellipsis:=hs₄ _ _ D.i2z.symm (hs₃.extBut _ _ D.TOz.symm (hs₂.extBut _ _ D.i1z.symm hz₁));have ez:e≠z:=fun x=>by subst x;rw[hz₄] at hoe;cases hoe;simp at hce
  exact wpAny_setField_rec hz₄ (by simp) fun h₅ _ hs₅=>hE h₅ e (fun c o c1 c2 c3 c4 x=>hs₅.extBut _ _ c1 (hs₄ _ _ c4 (hs₃.extBut _ _ c2 (hs₂.extBut _ _ c3 (hs₁.extBut _ _ c1 x))))) ⟨oe,hs₅.extBut _ _ ez hoe,hce⟩
theorem Zc7 {b1 b2:Bool}{z TI TO i1 i2 l1 l2:Addr}{k1 k2:Nat}{xs ys:Array Value}{x y a b:Value}{Q:Option Value->Shared->Prop} (D:ZipApart z TI TO i1 i2 l1 l2) (hz:IsZip s.heap z TI TO .none) (hTI:IsPair s.heap TI (.ref i1) (.ref i2)) (hTO:IsPair s.heap TO a b)
  (h1:HIt b1 s.heap i1 l1 k1) (h2:HIt b2 s.heap i2 l2 k2) (hl1:HSq b1 s.heap l1 xs) (hl2:HSq b2 s.heap l2 ys) (hx:xs[k1]?=some x) (hy:ys[k2]?=some y)
  (hQ:∀ h',IsZip h' z TI TO (rawInt s.heap.objs.size)->IsPair h' TO x y->HIt b1 h' i1 l1 (k1+1)->HIt b2 h' i2 l2 (k2+1)->IsPair h' s.heap.objs.size x y->h'.objs.size=s.heap.objs.size+1 ->
   (∀ c o,c≠z->c≠TO->c≠i1->c≠i2->s.heap.get? c=some o->h'.get? c=some o)->Q (some (.ref s.heap.objs.size)) { s with heap:=h' }):wpAny (model prog w) A (pyNext (.ref z)) Q E s:=by
 have hT:s.TypeIs (.ref z) "zip":=⟨_,hz,rfl⟩
 unfold pyNext;exact wpAny_bind (wpAny_attempt (wpAny_callSpecial?_slot (name:=YbU "__next__") hT F.slot_zip_next (wpAny_call_entry F.slot_zip_next hT F.entry_zip_next (ZeE D hz hTI hTO h1 h2 hl1 hl2 hx hy fun h' a1 a2 a3 a4 a5 a6 a7=>wpAny_pure (hQ h' a1 a2 a3 a4 a5 a6 a7)) (F.args_zip_next_1 _))))
theorem ZdH {b1 b2:Bool}{z TI TO i1 i2 l1 l2:Addr}{k1 k2:Nat}{xs ys:Array Value}{a b:Value}{Q:Option Value->Shared->Prop} (hh:A.handled=none) (D:ZipApart z TI TO i1 i2 l1 l2) (hz:IsZip s.heap z TI TO .none) (hTI:IsPair s.heap TI (.ref i1) (.ref i2)) (hTO:IsPair s.heap TO a b)
  (h1:HIt b1 s.heap i1 l1 k1) (h2:HIt b2 s.heap i2 l2 k2) (hl1:HSq b1 s.heap l1 xs) (hl2:HSq b2 s.heap l2 ys) (hend:xs[k1]?=none∨ys[k2]?=none)
  (hQ:∀ h',(∀ c o,c≠z->c≠TO->c≠i1->c≠i2->s.heap.get? c=some o->h'.get? c=some o)->Q none { s with heap:=h' }):wpAny (model prog w) A (pyNext (.ref z)) Q E s:=by
 have hT:s.TypeIs (.ref z) "zip":=⟨_,hz,rfl⟩
 unfold pyNext;refine wpAny_bind (wpAny_attempt (wpAny_callSpecial?_slot (name:=YbU "__next__") hT F.slot_zip_next (wpAny_call_entry F.slot_zip_next hT F.entry_zip_next (Zf6 hh D hz hTI hTO h1 h2 hl1 hl2 hend fun h' e hk ⟨o,ho,hc⟩=>?_) (F.args_zip_next_1 _))));exact wpAny_bind (wpAny_isInstance (T:="StopIteration") (b:=true) ⟨o,ho,hc⟩ isSubtype_stop (wpAny_pure (hQ _ hk)))
def ZhL (b:Bool):String:=match b with | true=>"list_iterator" | false=>"tuple_iterator"
def zB1 (b1:Bool) (h:Heap) (l1:Addr):Heap:=h.push { cls:=.type (ZhL b1),data:=.fields #[.ref l1,.int 0 0] }
def zB2 (b1 b2:Bool) (h:Heap) (l1 l2:Addr):Heap:=(zB1 b1 h l1).push { cls:=.type (ZhL b2),data:=.fields #[.ref l2,.int 0 0] }
def zB3 (b1 b2:Bool) (h:Heap) (l1 l2:Addr):Heap:=(zB2 b1 b2 h l1 l2).push { cls:=.type "tuple",data:=.seq #[.ref h.objs.size,.ref (zB1 b1 h l1).objs.size] }
def zB4 (b1 b2:Bool) (h:Heap) (l1 l2:Addr):Heap:=(zB3 b1 b2 h l1 l2).push { cls:=.type "tuple",data:=.seq #[.none,.none] }
def zB5 (b1 b2:Bool) (h:Heap) (l1 l2:Addr):Heap:=(zB4 b1 b2 h l1 l2).push { cls:=.type "zip",data:=.fields #[.none,.bool false,.bool false,.ref (zB2 b1 b2 h l1 l2).objs.size,.ref (zB3 b1 b2 h l1 l2).objs.size] }
theorem Zf5 (b1 b2:Bool) (l1 l2:Addr) (xs ys:Array Value) :
  Meets (Builtin.«zip.__new__» ⟨[.type "zip",.ref l1,.ref l2],[]⟩) (fun _ R s=>HSq b1 s.heap l1 xs/\HSq b2 s.heap l2 ys/\R (.ok (.ret (.ref (zB4 b1 b2 s.heap l1 l2).objs.size))) { s with heap:=zB5 b1 b2 s.heap l1 l2 }) :=
 .of_wp fun prog w A R s h=>by
  obtain⟨hp,g,d,tk,os⟩:=s;obtain⟨hl1,hl2,h⟩:=h;have hsub:=sub_zip;cases b1 <;> cases b2
  ·have p1:Yco (YbE ⟨hp,g,d,tk,os⟩) l1 xs:=hl1;have p2:Yco (YbE ⟨hp.push { cls:=.type "tuple_iterator",data:=.fields #[.ref l1,.int 0 0] },g,d,tk,os⟩) l2 ys:=Ydh hl2 _
   wp_walk using wpAny_pyIter_tuple p1,wpAny_pyIter_tuple p2
   exact⟨_,rfl,h⟩
  ·have p1:Yco (YbE ⟨hp,g,d,tk,os⟩) l1 xs:=hl1;have p2:Yc3 (YbE ⟨hp.push { cls:=.type "tuple_iterator",data:=.fields #[.ref l1,.int 0 0] },g,d,tk,os⟩) l2 ys:=Ydo hl2 _
   wp_walk using wpAny_pyIter_tuple p1,wpAny_pyIter_list p2
   exact⟨_,rfl,h⟩
  ·have p1:Yc3 (YbE ⟨hp,g,d,tk,os⟩) l1 xs:=hl1;have p2:Yco (YbE ⟨hp.push { cls:=.type "list_iterator",data:=.fields #[.ref l1,.int 0 0] },g,d,tk,os⟩) l2 ys:=Ydh hl2 _
   wp_walk using wpAny_pyIter_list p1,wpAny_pyIter_tuple p2
   exact⟨_,rfl,h⟩
  ·have p1:Yc3 (YbE ⟨hp,g,d,tk,os⟩) l1 xs:=hl1;have p2:Yc3 (YbE ⟨hp.push { cls:=.type "list_iterator",data:=.fields #[.ref l1,.int 0 0] },g,d,tk,os⟩) l2 ys:=Ydo hl2 _
   wp_walk using wpAny_pyIter_list p1,wpAny_pyIter_list p2
   exact⟨_,rfl,h⟩
theorem HIt.made {b:Bool}{h:Heap}{it l:Addr} (e:h.get? it=some { cls:=.type (ZhL b),data:=.fields #[.ref l,.int 0 0] }):HIt b h it l 0:=by
 cases b
 ·exact⟨_,e,rfl,rfl⟩
 ·exact⟨_,e,rfl,rfl⟩
theorem ZfV {b1 b2:Bool}{l1 l2:Addr}{xs ys:Array Value}{Q:Value->Shared->Prop} (hl1:HSq b1 s.heap l1 xs) (hl2:HSq b2 s.heap l2 ys)
  (h:∀ h',IsZip h' (s.heap.objs.size+4) (s.heap.objs.size+2) (s.heap.objs.size+3) .none->IsPair h' (s.heap.objs.size+2) (.ref s.heap.objs.size) (.ref (s.heap.objs.size+1))->IsPair h' (s.heap.objs.size+3) .none .none ->
   HIt b1 h' s.heap.objs.size l1 0->HIt b2 h' (s.heap.objs.size+1) l2 0->(∀ c o,s.heap.get? c=some o->h'.get? c=some o)->Q (.ref (s.heap.objs.size+4)) { s with heap:=h' }):wpAny (model prog w) A (call (.type "zip") [.ref l1,.ref l2]) Q E s:=by
 refine callType_new F.called_zip (by decide) (F.typeCall_zip_2 _ _) (F.newCall_zip_2 _ _) (fun obj=>F.args_object_init_3 obj _ _) F.entry_zip_new (Zf5 b1 b2 l1 l2 xs ys) ⟨hl1,hl2,?_⟩;have z1:(zB1 b1 s.heap l1).objs.size=s.heap.objs.size+1:=YaI ..;have z2:(zB2 b1 b2 s.heap l1 l2).objs.size=s.heap.objs.size+2:=by unfold zB2;rw[YaI,z1]
 have z3:(zB3 b1 b2 s.heap l1 l2).objs.size=s.heap.objs.size+3:=by unfold zB3;rw[YaI,z2]
 have z4:(zB4 b1 b2 s.heap l1 l2).objs.size=s.heap.objs.size+4:=by unfold zB4;rw[YaI,z3]
 have g5:(zB5 b1 b2 s.heap l1 l2).get? (zB4 b1 b2 s.heap l1 l2).objs.size=some _:=Yam _ rfl;have g4:(zB5 b1 b2 s.heap l1 l2).get? (zB3 b1 b2 s.heap l1 l2).objs.size=some _:=Yaa _ (Yam _ rfl);have g3:(zB5 b1 b2 s.heap l1 l2).get? (zB2 b1 b2 s.heap l1 l2).objs.size=some _:=Yaa _ (Yaa _ (Yam _ rfl));have g2:(zB5 b1 b2 s.heap l1 l2).get? (zB1 b1 s.heap l1).objs.size=some _:=Yaa _ (Yaa _ (Yaa _ (Yam _ rfl)));have g1:(zB5 b1 b2 s.heap l1 l2).get? s.heap.objs.size=some _:=Yaa _ (Yaa _ (Yaa _ (Yaa _ (Yam _ rfl))));show _/\_;rw[z2,z3,z4] at g5;rw[z1,z2] at g3;rw[z3] at g4;rw[z1] at g2;rw[z4];exact⟨⟨_,g5,rfl⟩,h _ g5 g3 g4 (HIt.made g1) (HIt.made g2) fun c o x=>Yaa _ (Yaa _ (Yaa _ (Yaa _ (Yaa _ x))))⟩
end
theorem SqB.heap {X:Cx}{b:Bool}{pins:List (Addr × Obj)}{σ:St}{H:Hp}{s:Shared}{a:Addr}{xs:List V} (I:Inv X pins σ H s) (h:SqB b X.K H a xs):∃ its:List Value,Vals xs its/\HSq b s.heap a its.toArray:=by
 cases b
 ·obtain⟨its,r,p,_⟩:=I.tuple h;exact⟨its,r,p⟩
 ·obtain⟨its,r,p,_⟩:=I.list h;exact⟨its,r,p.isList⟩
theorem HSq.lt {b:Bool}{h:Heap}{l:Addr}{xs:Array Value} (x:HSq b h l xs):l<h.objs.size:=by
 cases b
 ·obtain⟨o,e,_⟩:=x;exact Yag e
 ·obtain⟨o,e,_⟩:=x;exact Yag e
theorem SqB.inj {X:Cx}{b:Bool}{pins:List (Addr × Obj)}{σ:St}{H:Hp}{s:Shared}{a:Addr}{xs ys:List V} (I:Inv X pins σ H s) (h:SqB b X.K H a xs) (g:SqB b X.K H a ys):xs=ys:=by
 cases b
 ·exact I.tuple_inj h g
 ·exact I.list_inj h g
def ItzB (b1 b2:Bool) (K:Yab) (a b:Addr):It :=
  ⟨fun i H=>∃ xs ys x y,SqB b1 K H a xs/\SqB b2 K H b ys/\xs[i]?=some x/\ys[i]?=some y,
   fun i H z H'=>∃ p x y,H p=none/\z=.ref p/\H'=upd H p (.tup [x,y])/\(∀ xs,SqB b1 K H a xs->xs[i]?=some x)/\∀ ys,SqB b2 K H b ys->ys[i]?=some y,
   fun i H=>∃ xs ys,SqB b1 K H a xs/\SqB b2 K H b ys/\(xs.length<=i∨ys.length<=i)⟩
end L2
namespace L2
open PySem PySem.Spec PyProof.Rows PySem.SeqAt
def ZgU (b1 b2:Bool) (z TI TO i1 i2 l1 l2:Addr) (i:Nat) (h:Heap):Prop:=IsZip h z TI TO .none/\IsPair h TI (.ref i1) (.ref i2)/\(∃ a b,IsPair h TO a b)/\HIt b1 h i1 l1 i/\HIt b2 h i2 l2 i
theorem ZeF {P:Program}{w:World}{K:Yab}{es:List Expr}{x1}{pos:Pos}{b1 b2:Bool}{z TI TO i1 i2 l1 l2:Addr} (D:ZipApart z TI TO i1 i2 l1 l2):Turn P w K (.Tuple es x1 pos) (ItzB b1 b2 K l1 l2) [z,TI,TO,i1,i2] z (ZgU b1 b2 z TI TO i1 i2 l1 l2) where
 mem:=by simp
 obj:=fun i h st b hb=>by
  obtain⟨h1,h2,⟨a,c,h3⟩,h4,h5⟩:=st;simp only[Yar,YaZ,or_false] at hb;rcases hb with rfl | rfl | rfl | rfl | rfl
  ·exact⟨_,h1,fun v q=>nomatch q⟩
  ·exact⟨_,h2,fun v q=>nomatch q⟩
  ·exact⟨_,h3,fun v q=>nomatch q⟩
  ·exact h4.obj
  ·exact h5.obj
 keep:=fun i h h' st k=>by
  obtain⟨h1,h2,⟨a,c,h3⟩,h4,h5⟩:=st;exact⟨k z (by simp) _ h1,k TI (by simp) _ h2,⟨a,c,k TO (by simp) _ h3⟩,h4.at fun o q=>k i1 (by simp) o q,h5.at fun o q=>k i2 (by simp) o q⟩
 item:=by
  intro X hP hw hK hc i pins s σ H E I hf st hg;subst hP hw hK;obtain⟨xs,ys,x,y,hq1,hq2,hx,hy⟩:=hg;obtain⟨its,rv,p⟩:=hq1.heap I;obtain⟨its2,rv2,p2⟩:=hq2.heap I;obtain⟨u,hu,ru⟩:=rv.get hx;obtain⟨u2,hu2,ru2⟩:=rv2.get hy;obtain⟨s1,s2,⟨a,c,s3⟩,s4,s5⟩:=id st;refine Zc7 D s1 s2 s3 s4 s5 p p2 (x:=u) (y:=u2) (by simpa using hu) (by simpa using hu2) fun h' g1 g2 g3 g4 g5 g6 hk=>?_;refine⟨_,rfl,?_⟩;refine wpAny_letOwnedTupleGo_zip g1 fun h'' he hs=>?_;have live:∀ b∈[z,TI,TO,i1,i2],b<s.heap.objs.size:=fun b hb=>by
   obtain⟨h1,h2,⟨a,c,h3⟩,h4,h5⟩:=st;obtain⟨o4,e4,_⟩:=h4.obj;obtain⟨o5,e5,_⟩:=h5.obj;simp only[Yar,YaZ,or_false] at hb;rcases hb with rfl | rfl | rfl | rfl | rfl
   ·exact Yag h1
   ·exact Yag h2
   ·exact Yag h3
   ·exact Yag e4
   ·exact Yag e5
  have hsz:s.heap.objs.size≠z:=Ybp (live z (by simp));have k:∀ b o,b ∉ [z,TI,TO,i1,i2]->s.heap.get? b=some o->h''.get? b=some o:=fun b o hb q=>by
   simp only[Yar,YaZ,or_false,not_or] at hb;exact (hs.2 b hb.1).trans (hk b o hb.1 hb.2.2.1 hb.2.2.2.1 hb.2.2.2.2 q)
  have st':ZgU b1 b2 z TI TO i1 i2 l1 l2 (i+1) h'':=by
   refine⟨he,(hs.2 TI D.TIz).trans (hk TI _ D.TIz D.TITO D.TIi1 D.TIi2 s2),⟨u,u2,(hs.2 TO D.TOz).trans g2⟩,?_,?_⟩
   ·exact g3.ext hs.extBut D.i1z
   ·exact g4.ext hs.extBut D.i2z
  have th:∀ b∈[z,TI,TO,i1,i2],∃ o,h''.get? b=some o:=fun b hb=>by
   obtain⟨h1,h2,⟨a,c,h3⟩,h4,h5⟩:=st';obtain⟨o4,e4,_⟩:=h4.obj;obtain⟨o5,e5,_⟩:=h5.obj;simp only[Yar,YaZ,or_false] at hb;rcases hb with rfl | rfl | rfl | rfl | rfl
   ·exact⟨_,h1⟩
   ·exact⟨_,h2⟩
   ·exact⟨_,h3⟩
   ·exact⟨_,e4⟩
   ·exact⟨_,e5⟩
  have fresh:H s.heap.objs.size=none:=I.hok.fresh (Yah _);refine⟨.ref s.heap.objs.size,_,I.pairOut (fp:=[z,TI,TO,i1,i2]) (tk:=s.toks) hf k ((hs.2 _ hsz).trans g5) live th ru ru2,rfl,⟨s.heap.objs.size,x,y,fresh,rfl,rfl,fun ys hy=>by rw[hy.inj I hq1];exact hx,fun zs hz=>by rw[hz.inj I hq2];exact hy⟩,st',fun b hb=>?_⟩;rw[Zah (Yat (live b hb))];exact (hf b hb).1
 done:=by
  intro X hP hw hK hc i pins s σ H E I hf st hg;subst hP hw hK;obtain⟨xs,ys,hq1,hq2,hx⟩:=hg;obtain⟨its,rv,p⟩:=hq1.heap I;obtain⟨its2,rv2,p2⟩:=hq2.heap I;obtain⟨s1,s2,⟨a,c,s3⟩,s4,s5⟩:=st;have e1:=rv.length;have e2:=rv2.length;refine ZdH (I.ok.hd hc) D s1 s2 s3 s4 s5 p p2 (by rcases hx with q | q;exact .inl (by simp;omega);exact .inr (by simp;omega)) fun h' hk=>⟨rfl,I.turnedAll (fp:=[z,TI,TO,i1,i2]) (tk:=s.toks) hf fun b o hb q=>?_⟩
  simp only[Yar,YaZ,or_false,not_or] at hb;exact hk b o hb.1 hb.2.2.1 hb.2.2.2.1 hb.2.2.2.2 q
 self:=fun _ _ _ _ _ st h=>wpAny_pyIter_zip st.1 h
def Zi3 (K:Yab) (ta:TA):TI:=fun σ H R=>ta σ H fun vs H1=>∃ b1 b2 a b,vs=[.ref a,.ref b]/\(∃ xs,SqB b1 K H1 a xs)/\(∃ ys,SqB b2 K H1 b ys)/\R (ItzB b1 b2 K a b) H1
theorem ZeZ {X:Cx}{es:List Expr}{x1}{tpos:Pos}{e f:Expr}{ta:TA}{p pos:Pos} (hg:Gl X "zip") (hm:X.mg "zip"=none) (ha:PA X [e,f] ta) (hs:starEach [e,f] X.env=[(false,eval e X.env),(false,eval f X.env)]:=by rfl) (hs2:starEach [f] X.env=[(false,eval f X.env)]:=by rfl) :
  PI X (.Tuple es x1 tpos) (.Call (.Name "zip" p) [e,f] [] pos) (Zi3 X.K ta):=by
 intro pins s σ H R I h;refine Call_ (ZcF I hg hm (show bootBuiltins "zip"=some (.type "zip") by decide +kernel) (Ybu (thn (ha pos pins s σ H _ I h) fun us s1 ⟨vs,H1,I1,r1,q1⟩=>?_) (by rw[hs,hs2]) (by rw[hs2];rfl)));obtain⟨b1,b2,a,b,e1,⟨xs,hq⟩,⟨ys,hq2⟩,q⟩:=q1;subst e1;obtain⟨u,u2,rfl,r,r2⟩:=Zhg r1;cases r;cases r2;obtain⟨its,rv,pl⟩:=hq.heap I1;obtain⟨its2,rv2,pl2⟩:=hq2.heap I1;have la:=pl.lt;have lb:=pl2.lt;have ne:∀ {i j:Nat},i≠j->s1.heap.objs.size+i≠s1.heap.objs.size+j:=fun h z=>h (Nat.add_left_cancel z);have nl:∀ {c:Addr} (i:Nat),c<s1.heap.objs.size->c≠s1.heap.objs.size+i:=fun i h=>Yat (Yaq h (YbW _ _));refine ZfV pl pl2 fun h' g1 g2 g3 g4 g5 k=>wpAny_pyIter_zip g1 ?_;have D:ZipApart (s1.heap.objs.size+4) (s1.heap.objs.size+2) (s1.heap.objs.size+3) (s1.heap.objs.size+0) (s1.heap.objs.size+1) a b :=
  ⟨ne (by decide),ne (by decide),ne (by decide),ne (by decide),ne (by decide),ne (by decide),ne (by decide),ne (by decide),ne (by decide),ne (by decide),nl 4 la,nl 3 la,nl 0 la,nl 1 la,nl 4 lb,nl 3 lb,nl 0 lb,nl 1 lb⟩
 refine⟨s1.heap.objs.size+4,[s1.heap.objs.size+4,s1.heap.objs.size+2,s1.heap.objs.size+3,s1.heap.objs.size+0,s1.heap.objs.size+1],_,_,H1,rfl,I1.kept (t':=s1.toks) k,ZeF D,⟨g1,g2,⟨_,_,g3⟩,g4,g5⟩,fun c hc=>?_,q⟩;have ge:s1.heap.objs.size<=c:=by
  simp only[Yar,YaZ,or_false] at hc;rcases hc with rfl | rfl | rfl | rfl | rfl <;> exact YbW _ _
 exact I1.fpOk ge (I1.hok.fresh ge)
theorem ZgM {b1 b2:Bool}{K:Yab}{own:List Str}{js:List Nat}{g:TG}{tt:TT}{te:TE}{σ:St}{H1:Hp}{Q:VK}{a b:Addr}{xs ys:List V} (hlen:xs.length<=ys.length) (Pv:Addr->Nat->Hp->Prop) (h0:∀ acc,H1 acc=none->Pv acc 0 (upd H1 acc (.lst [])))
  (hl:∀ acc i H,H1 acc=none->i<=xs.length->Pv acc i H->SqB b1 K H a xs/\SqB b2 K H b ys)
  (hs:∀ acc i x y p H,H1 acc=none->xs[i]?=some x->ys[i]?=some y->Pv acc i H->H p=none->g (.ref p) (blkσ own js σ) (upd H p (.tup [x,y])) fun τ H4=>tt τ H4 fun c H5=>
   if c=true then te τ H5 fun y H6=>∃ ys,H6 acc=some (.lst ys)/\ys.length<sizeLine/\(i+1<=xs.length/\Pv acc (i+1) (upd H6 acc (.lst (ys++[y])))) else (i+1<=xs.length/\Pv acc (i+1) H5))
  (hd:∀ acc H,H1 acc=none->Pv acc xs.length H->Q (.ref acc) H):Za6 own js g tt te σ (ItzB b1 b2 K a b) H1 Q:=by
 intro acc hacc;refine⟨fun i H=>i<=xs.length/\Pv acc i H,xs.length,⟨YaX _,h0 acc hacc⟩,?_⟩;rintro i H ⟨hi,p⟩;obtain⟨q1,q2⟩:=hl acc i H hacc hi p;by_cases hlt:i<xs.length
 ·have hl2:i<ys.length:=by omega
  refine .inr ⟨hlt,⟨xs,ys,xs[i],ys[i],q1,q2,by simp[hlt],by simp[hl2]⟩,fun x H' y=>?_⟩;obtain⟨pa,z1,z2,hp,e1,e2,y1,y2⟩:=y;subst e1 e2;exact hs acc i z1 z2 pa H hacc (y1 xs q1) (y2 ys q2) p hp
 ·have e:i=xs.length:=by omega
  subst e;exact .inl ⟨⟨xs,ys,q1,q2,.inl (Yah _)⟩,hd acc H hacc p⟩
end L2
namespace Lv
open PySem L2
theorem ZcU (K:Yab) {X:Cx}{es:List Expr}{k:Nat}{t:TGs}{n:Nat}{pos:Pos} (hc:X.calm=true) (h:PGs X es t) (hK:X.K=K:=by rfl) (hn:(assignEach es X.env).length=n:=by rfl) (hst:(assignEach es X.env).findIdx? (·.1)=none:=by rfl):PG X (.Tuple es k pos) (gTup K n t):=by
 subst hK;exact Ze1 hc h hn hst
end Lv
namespace L2
open PySem PySem.Spec PyProof.Rows PySem.SeqAt
theorem Zgq (K:Yab) {X:Cx} (hK:X.K=K:=by rfl):OpR X (binaryOp .Add) (Zic K):=by subst hK;exact ZhC
section
variable {X:Cx}
def LLs (H:Hp) (rs:List Addr) (N:List (List Int)):Prop:=rs.length=N.length/\∀ (j:Nat) r xs,rs[j]?=some r->N[j]?=some xs->H r=some (.lst (xs.map V.int))
def TTs (H:Hp) (rs:List Addr) (N:List (List Int)):Prop:=rs.length=N.length/\∀ (j:Nat) r xs,rs[j]?=some r->N[j]?=some xs->H r=some (.tup (xs.map V.int))
theorem LLs.same {H H':Hp}{rs:List Addr}{N:List (List Int)} (h:LLs H rs N) (s:Same H H'):LLs H' rs N:=⟨h.1,fun j r xs a b=>s _ _ (h.2 j r xs a b)⟩
theorem TTs.same {H H':Hp}{rs:List Addr}{N:List (List Int)} (h:TTs H rs N) (s:Same H H'):TTs H' rs N:=⟨h.1,fun j r xs a b=>s _ _ (h.2 j r xs a b)⟩
theorem TTs.lst {H:Hp}{rs:List Addr}{N:List (List Int)}{acc:Addr}{ys zs:List V} (h:TTs H rs N) (e:H acc=some (.lst zs)):TTs (upd H acc (.lst ys)) rs N:=⟨h.1,fun j r xs a b=>by
 have:=h.2 j r xs a b;rw[Zah (by intro z;subst z;rw[e] at this;cases this)];exact this⟩
theorem ZcQ {α:Type}{xs:List α}{x y:α}{j:Nat} (h:(xs++[x])[j]?=some y):xs[j]?=some y∨(j=xs.length/\y=x):=by
 by_cases hj:j<xs.length
 ·rw[YaP hj] at h;exact .inl h
 ·rw[Yba (by omega)] at h;have:j - xs.length=0:=by
   cases e:j - xs.length with
   | zero=>rfl
   | succ m=>rw[e] at h;simp at h
  rw[this] at h;exact .inr ⟨by omega,by simpa using h.symm⟩
theorem TTs.snoc {H:Hp}{rs:List Addr}{N:List (List Int)}{r:Addr}{x:List Int} (h:TTs H rs N) (e:H r=some (.tup (x.map V.int))):TTs H (rs++[r]) (N++[x]):=⟨by simp[h.1],fun j r' xs a b=>by
 rcases ZcQ a with a | ⟨a,rfl⟩
 ·rcases ZcQ b with b | ⟨b,_⟩
  ·exact h.2 j r' xs a b
  ·have:=(Yaf.mp a).1;have:=h.1;omega
 ·rcases ZcQ b with b | ⟨_,rfl⟩
  ·have:=(Yaf.mp b).1;have:=h.1;omega
  ·exact e⟩
theorem Zbz (n:Nat):((YaL n).all fun _=>true)=true:=by simp
end
end L2
namespace Lv
open PySem L2
def fstN (N:List (List Int)):List Int:=(N.headD []).map (·+1)
def ZdM (N:List (List Int)):List (List Int):=(N.tail.map (fstN N++·))++[fstN N]
def num0 (p:Nat):List (List Int):=[0]::Yal (p - 1) []
def num (p:Nat):Nat->List (List Int)
 | 0=>num0 p
 | n+1=>ZdM (num p n)
def lens (N:List (List Int)):List Int:=N.map fun l=>(l.length:Int)
theorem Zfs (N:List (List Int)):lens (ZdM N)=Za3 (lens N):=by
 cases N with
 | nil=>simp[lens,ZdM,Za3,fstN]
 | cons a r=>
  simp[lens,ZdM,Za3,fstN,Function.comp_def]
theorem Zbu (p:Nat):∀ n,lens (num p n)=cnt p n
 | 0=>by simp[lens,num,num0,cnt,Zbw]
 | n+1=>by
  show lens (ZdM (num p n))=Za3 (cnt p n);rw[Zfs,Zbu p n]
theorem Zb7 {p:Nat} (hp:1<=p) (n:Nat):(num p n).length=p:=by
 have:=congrArg YbK (Zbu p n);rw[Zcd hp] at this;simpa[lens] using this
theorem Zit {c:List Int} (h:∀ x∈c,0<=x) {x:Int} (hx:x∈c):x<=c.sum:=by
 induction c with
 | nil=>cases hx
 | cons a r ih=>
  have nn:∀ l:List Int,(∀ x∈l,0<=x)->0<=l.sum:=by
   intro l
   induction l with
   | nil=>intro _;simp
   | cons x y ih=>
    intro h;rw[Ybw];have:=h x (by simp);have:=ih fun z hz=>h z (by simp[hz]);omega
  rw[Ybw];have ha:=h a (by simp);have hr:∀ x∈r,0<=x:=fun x hx=>h x (by simp[hx]);rcases Yar.mp hx with rfl | hx
  ·have:=nn r hr;omega
  ·have:=ih hr hx;omega
theorem Zfl {p n:Nat}{xs:List Int} (h:xs∈num p n):(xs.length:Int)<=tot p n:=by
 refine Zit (ZbT p n).2 ?_;rw[<- Zbu p n];exact YaN.mpr ⟨xs,h,rfl⟩
theorem ZgF {p:Nat} (hp:2<=p) (n:Nat):∃ a r,num p n=a::r/\a≠[]/\r.length=p - 1:=by
 have h:=Zb7 (p:=p) (by omega) n
 cases e:num p n with
 | nil=>rw[e] at h;simp at h;omega
 | cons a r=>
  rw[e] at h;refine⟨a,r,rfl,?_,by simp at h;omega⟩;rintro rfl;have h1:=Zd7 hp n;unfold hd at h1;rw[<- Zbu p n,e] at h1;simp[lens] at h1
theorem Za8 {n:Nat} (h:n<=8000):n<sizeLine:=Yb7 h (by decide)
theorem ZiI {p:Nat} (hp:2<=p) (h7:p<=7):4000<tot p 20:=by
 have:p=2∨p=3∨p=4∨p=5∨p=6∨p=7:=by omega
 rcases this with rfl | rfl | rfl | rfl | rfl | rfl <;> decide +kernel
theorem Zi0 {p n:Nat} (hp:2<=p) (h7:p<=7) (h:tot p n<=4000):n<=19:=by
 refine Classical.byContradiction fun z=>?_;have:=ZbR hp (show 20<=n by omega);have:=ZiI hp h7;omega
def ZcH:Sp:=fun vs H Q _=>∃ p n:Nat,vs=[.int p,.int n]/\2<=p/\p<=7/\n<=300/\tot p n<=4000/\∀ H',Same H H'->Q .non H'
def ZcJ:Sp:=fun vs H Q _=>∃ (a:Addr) (rs:List Addr) (N:List (List Int)),vs=[.ref a]/\H a=some (.tup (rs.map V.ref))/\TTs H rs N/\2<=N.length/\N.length<=7/\N.headD []≠[]/\(∀ xs∈N,xs.length<=4000) /\
 ∀ l qs H',H l=none->H' l=some (.tup (qs.map V.ref))->TTs H' qs (ZdM N)->Same H H'->Q (.ref l) H'
def Zdz:Sp:=fun vs H Q _=>∃ p n:Nat,vs=[.int p,.int n]/\2<=p/\p<=7/\n<=300/\tot p n<=4000/\∀ l qs H',H l=none->H' l=some (.tup (qs.map V.ref))->TTs H' qs (num p n)->Same H H'->Q (.ref l) H'
theorem ZeS {α:Type}{n j:Nat}{x y:α} (h:(Yal n x)[j]?=some y):y=x:=by
 rw[YbN] at h;split at h
 ·exact (Yaz h).symm
 ·cases h
theorem Za4 {rs:List Addr}{i:Nat}{x:V} (h:(rs.map V.ref)[i]?=some x):∃ r,rs[i]?=some r/\x=.ref r:=by
 rw[Yai] at h
 cases e:rs[i]? with
 | none=>rw[e] at h;cases h
 | some p=>rw[e] at h;exact⟨p,rfl,(Yaz h).symm⟩
def Zhj:Sp:=fun vs H Q _=>∃ i,vs=[.int i]/\i<=4000/\Q .non H
def ZcN:Sp:=fun vs H Q _=>∃ p:Nat,vs=[.int p]/\2<=p/\p<=7/\∀ l qs H',H l=none->H' l=some (.tup (qs.map V.ref))->TTs H' qs (num0 p)->Same H H'->Q (.ref l) H'
def ZdD (fn:Addr):Sp:=fun vs H Q _=>∃ p n:Nat,vs=[.int p,.int n,.ref fn]/\2<=p/\p<=7/\n<=300/\tot p n<=4000/\∀ l qs H',H l=none->H' l=some (.tup (qs.map V.ref))->TTs H' qs (num p n)->Same H H'->Q (.ref l) H'
end Lv
namespace Lv
open PySem L2 PySem.Spec PyProof.Rows
structure FunD (K:Yab) (x qual:Str) (st:Stmt) (f da:Addr) (fd:FuncData):Prop where
 ex:∃ (oc:Value) (od:Option Addr) (kV doc pm:Value) (an:Option Addr) (cdv ct:Value) (osl:Array (Option Value)),
  fd=Yao x qual (Zaj st) (Zai st) (Zac st) (.ref da) kV doc pm an cdv ct/\K.lookup f=some ⟨oc,od,.func fd,osl⟩/\Yan K cdv qual=true
 kp:Yak K (.ref f)=true
section
variable {P:Program}{w:World}{K:Yab}{mg:Str->Option Value}{base:Heap}
theorem FunD.ok {x qual:Str}{st:Stmt}{f da:Addr}{fd:FuncData}{N ps:List Str}{k:Nat}{sp:Sp} (F:FunD K x qual st f da fd) (S:FnScope N ps (Zac st)) (len:∀ vs H Q E,sp vs H Q E->vs.length=ps.length)
  (hbody:∀ (cdv:Value) (A:Around) (outer:List Env) (s:Shared) (H:Hp) (vs:List V) (Q:VK) (E:XK),Room k (A.deeper (envOfC qual (Zac st) s.heap.objs.size f cdv))->sp vs H Q E ->
   ∃ t,PSs (cxOf CX0 P w K mg base N qual (Zac st) f cdv A outer s H E).nox (Zai st) t/\t { nx:=fun _ H'=>Q .non H',rt:=Q } (start N vs) H):FnOk P w K mg base CX0 (k+1) f fd ps sp:=by
 obtain⟨oc,od,kV,doc,pm,an,cdv,ct,osl,rfl,lk,hcd⟩:=F.ex;refine ZiC lk hcd S len fun A outer s H vs Q E hr hsp=>?_;obtain⟨t,h,q⟩:=hbody cdv A outer s H vs Q E hr hsp;exact⟨t,h.nox,q⟩
theorem FunD.binds {x qual:Str}{st:Stmt}{f da:Addr}{fd:FuncData}{ps:List Str}{o:Obj}{items:Array Value}{n:Nat} (F:FunD K x qual st f da fd) (ho:K.lookup da=some o) (hs:o.data=.seq items n) (ds:List Value) (qs:List Str) (hq:qs.length+ds.length=ps.length)
  (h:∀ (kV doc pm:Value) (an:Option Addr) (cdv ct:Value) (us:List Value),us.length=qs.length ->
   ∃ k:Option (Array Value)->Sem (List (Str × Value)),bindArgs (Yao x qual (Zaj st) (Zai st) (Zac st) (.ref da) kV doc pm an cdv ct) ⟨us,[]⟩=seqItems? (.ref da) >>= k/\k (some items)=pure (ps.zip (us++ds))):Binds K fd ps ds:=by
 obtain⟨oc,od,kV,doc,pm,an,cdv,ct,osl,rfl,lk,hcd⟩:=F.ex;intro s us X hl;obtain⟨k,h1,h2⟩:=h kV doc pm an cdv ct us (by rw[Yap] at hl;omega);exact PySem.W.binds_K X rfl ho hs h1 h2
theorem ZhR {x qual:Str}{st:Stmt}{f da:Addr}{oc:Value}{od an:Option Addr}{osl:Array (Option Value)}{kV doc pm cdv ct:Value} (l:K.lookup f=some ⟨oc,od,.func (Yao x qual (Zaj st) (Zai st) (Zac st) (.ref da) kV doc pm an cdv ct),osl⟩)
  (c:Yan K cdv qual=true) (k:Yak K (.ref f)=true):FunD K x qual st f da (Yao x qual (Zaj st) (Zai st) (Zac st) (.ref da) kV doc pm an cdv ct):=⟨⟨oc,od,kV,doc,pm,an,cdv,ct,osl,rfl,l,c⟩,k⟩
end
structure CalD (P:Program) (w:World) (K:Yab) (mg:Str->Option Value) (base:Heap) (k:Nat) (x:Str) (ps:List Str) (dvs:List V) (sp:Sp) (f:Addr) (fd:FuncData):Prop where
 ok:FnOk P w K mg base CX0 k f fd ps sp
 mg:mg x=some (.ref f)
 kp:Yak K (.ref f)=true
 bd:∃ ds,Binds K fd ps ds/\Vals dvs ds
theorem Zhy {X:Cx}{k:Nat}{x:Str}{ps:List Str}{dvs:List V}{sp:Sp}{f:Addr}{fd:FuncData}{e:Expr}{es:List Expr}{t:TA}{p pos:Pos} (C:CalD X.prog X.w X.K X.mg X.base k x ps dvs sp f fd) (hr:Room k X.A) (hg:Gl X x) (ha:PA X (e::es) t)
  (hdb:(x == ("__debug__":Str))=false:=by decide) (he:starEach (e::es) X.env=(false,eval e X.env)::starEach es X.env:=by rfl) (hpl:(backTo pos (starEach es X.env)).any (·.1)=false:=by rfl) :
  PE X (.Call (.Name x p) (e::es) [] pos) (Zf7 sp dvs E0 t):=by
 obtain⟨ds,h1,h2⟩:=C.bd;exact Ze3 C.ok hr hg C.mg C.kp h1 h2 ZhA ha hdb he hpl
def Zh6 (j:Nat) (f:Addr) (t:TE):TE:=fun σ H Q=>σ[j]?=some (some (.ref f))/\t σ H Q
theorem Zhx {X:Cx}{k:Nat}{x y:Str}{ps:List Str}{sp:Sp}{f:Addr}{fd:FuncData}{e:Expr}{es:List Expr}{t:TA}{p pos:Pos} (j:Nat) (C:Cal X.prog X.w X.K X.mg X.base k y ps sp f fd) (hr:Room k X.A) (ha:PA X (e::es) t) (hN:X.N[j]?=some x:=by rfl) (hv:Vis X.env.scope x:=by first | exact YaJ rfl | exact Ycj (YaJ rfl) | exact Ycj (Ycj rfl))
  (hdb:(x == ("__debug__":Str))=false:=by decide) (hcd:(x == ("__classdict__":Str))=false:=by decide) (he:starEach (e::es) X.env=(false,eval e X.env)::starEach es X.env:=by rfl) (hpl:(backTo pos (starEach es X.env)).any (·.1)=false:=by rfl) :
  PE X (.Call (.Name x p) (e::es) [] pos) (Zh6 j f (Zf7 sp [] E0 t)):=by
 intro pins s σ H Q I h;obtain⟨h0,h⟩:=h;refine wpAny_Call_Name_kw ?_;refine thn (Zg4 hN hv hdb hcd pins s σ H (fun v H1=>v=.ref f/\t σ H1 fun vs H2=>sp (vs++[]) H2 Q E0) I ⟨_,h0,rfl,h⟩) fun u s1 ⟨v,H1,I1,r,ev,q⟩=>?_;subst ev;obtain rfl:u=YaC f:=r;refine Ydu (h₀:=X.base) I.ok.mod.kin C.kp (thn (ha pos pins s1 σ H1 _ I1 q) fun us s2 ⟨vs,H2,I2,r2,q2⟩=>⟨I2.kIn,?_⟩) he hpl;exact Zg2 C.ok hr C.bd .nil ZhA I2 r2 q2
theorem Zii {X:Cx}{k:Nat}{x:Str}{ps:List Str}{sp:Sp}{f:Addr}{fd:FuncData}{pos:Pos} (C:Cal X.prog X.w X.K X.mg X.base k x ps sp f fd) (hg:Gl X x) (hd:(x == ("__debug__":Str))=false:=by decide):PE X (.Name x pos) (tC (.ref f)) :=
 Ze2 hg C.mg rfl hd
def ZcK:Sp:=fun vs H Q _=>∃ i m,vs=[.int i,.int m]/\0<=i/\i<=m/\Q .non H
end Lv
namespace L2
open PySem PySem.Spec PyProof.Rows
end L2
namespace L2
open PySem PySem.Spec PyProof.Rows
def Fly (H:Hp) (h0 h:Heap) (ea:Addr) (cls:Value) (od:Option Addr) (fl:Value):Prop :=
 ∃ (a0:Value) (T:Addr) (oe oT:Obj) (vs ts:Array Value),(H ea=none/\H T=none/\h0.get? ea=none/\h0.get? T=none) /\
  h.get? ea=some oe/\((oe.cls=cls/\vs[0]?=some a0)/\oe.dict=od)/\oe.data=.fields vs/\vs[1]?=some (.ref T)/\T≠ea/\h.get? T=some oT/\oT.data=.fields ts/\ts[3]?=some fl
def CX1 (P:Program) (w:World):CXT:=fun outer H s E e s'=>∃ (ea:Addr) (cls:Value) (od:Option Addr) (H':Hp),e=.ref ea/\s'.os=s.os/\AllBare s'.gens/\Un (frs outer) [] H H' s.heap s'.heap/\HOk P w H' s'.heap/\Fly H' s.heap s'.heap ea cls od .none/\E cls od H'
section
variable {P:Program}{w:World}{K:Yab}{mg:Str->Option Value}{base:Heap}{N:List Str}{qual:Str}{scope:Scope}{f:Addr}{cd:Value}{A:Around}{outer:List Env}{s:Shared}{H:Hp}{E:XK}
end
end L2
namespace L2
open PySem PySem.Spec PyProof.Rows PySem.W
section
variable {prog:Program}{w:World}{A:Around}{E:Value->Shared->Prop}{s:Shared}{K:Frag}{x C D:Addr}{ox:Obj}
def ZfF (K:Frag) (C:Addr):Bool:=findIn K (.ref C) "__getattribute__" == some (some (.builtin "BaseException.__getattribute__")) && (findIn K (.ref C) "__getattr__" == some none &&
 (findIn K (.ref C) "__class__" == some (some (.builtin "object.__class__")) && (mroIn K C (.type "object") == some true && (mroIn K C (.type "BaseException") == some true && ((clsIn K C).isSome &&
 (specialIn K (.builtin "object.__class__") "__get__" == some (some (.builtin "getset_descriptor.__get__")) && takesIn K (.builtin "object.__class__") == some true))))))
def ZiE (K:Frag) (C:Addr):Bool:=excIn K C [.type "ValueError",.type "Exception",.type "BaseException",.type "object"] "ValueError.__new__" && ZfF K C
end
section
variable {X:Cx}
end
end L2
namespace L2
open PySem PySem.Spec PyProof.Rows PySem.W
section
variable {P:Program}{w:World}{K:Yab}{mg:Str->Option Value}{base:Heap}
end
structure CalE (P:Program) (w:World) (K:Yab) (mg:Str->Option Value) (base:Heap) (k:Nat) (x:Str) (ps:List Str) (dvs:List V) (sp:Sp) (f:Addr) (fd:FuncData):Prop where
 ok:FnOk P w K mg base (CX1 P w) k f fd ps sp
 mg:mg x=some (.ref f)
 kp:Yak K (.ref f)=true
 bd:∃ ds,Binds K fd ps ds/\Vals dvs ds
section
variable {X:Cx}
inductive FParts (X:Cx):List Expr->List TE->Prop
 | nil:FParts X [] []
 | con {x:Str}{j pos}{es:List Expr}{ts:List TE} (h:x.length<=1000) (r:FParts X es ts):FParts X (.Constant (.str x) j pos::es) ts
 | val {v:Expr}{t:TE}{pos:Pos}{es:List Expr}{ts:List TE} (h:PE X v t) (r:FParts X es ts):FParts X (.FormattedValue v (-1) none pos::es) (t::ts)
end
section
variable {X:Cx}{pins:List (Addr × Obj)}{σ:St}{H:Hp}{s:Shared}
end
def Ends.without (D:Ends) (i:Nat):Ends:={ nx:=fun σ H=>D.nx (σ.set i none) H,rt:=D.rt,bk:=fun σ H=>D.bk (σ.set i none) H,ct:=fun σ H=>D.ct (σ.set i none) H }
section
variable {X:Cx}
end
end L2
namespace L2
open PySem PySem.Spec PyProof.Rows
def ZdY:Expr->Bool
 | .Starred ..=>false
 | _=>true
theorem Zef {e:Expr}{es:List Expr}{env:Env} (h:ZdY e=true):starEach (e::es) env=(false,eval e env)::starEach es env:=by
 cases e <;> first | rfl | (cases h)
structure WA (X:Cx) (es:List Expr) (t:TA):Prop where
 out:PA X es t
structure WS (X:Cx) (st:Stmt) (t:TS):Prop where
 out:PS X st t
structure WSs (X:Cx) (sts:List Stmt) (t:TS):Prop where
 out:PSs X sts t
section
variable {X:Cx}{st:Stmt}{rest a b:List Stmt}{t u:TS}{c e:Expr}{tc:TT}{pos:Pos}{es:List Expr}{te:TE}{ta:TA}
theorem Zaf (h1:WS X st t) (h2:WSs X rest u):WSs X (st::rest) (tSeq t u):=⟨Zaw h1.out h2.out⟩
theorem Zat (h:WS X st t):WSs X [st] t:=⟨Zao h.out⟩
theorem ZaX:WSs X [] Zh3:=⟨Zb4⟩
theorem wss {sts:List Stmt} (h:PSs X sts t):WSs X sts t:=⟨h⟩
theorem Zcf (hc:PT X c tc) (ha:WSs X a t) (hb:WSs X b u):WS X (.If c a b pos) (tIfS tc t u):=⟨Zen hc ha.out hb.out⟩
theorem ws (h:PS X st t):WS X st t:=⟨h⟩
theorem ZhZ:WA X [] tNil:=⟨Zad⟩
theorem ZbB (hn:ZdY e=true) (ha:PE X e te) (hr:WA X es ta):WA X (e::es) (Zh5 te ta):=⟨Zaa ha hr.out (Zef hn)⟩
end
section
variable {P:Program}{w:World}{K:Yab}{mg:Str->Option Value}{base:Heap}
theorem okW {x qual:Str}{st:Stmt}{f:Addr}{fd:FuncData}{N ps:List Str}{k:Nat}{sp:Sp} (F:Fun K x qual st f fd) (S:FnScope N ps (Zac st)) (len:∀ vs H Q E,sp vs H Q E->vs.length=ps.length)
  (hbody:∀ (cdv:Value) (A:Around) (outer:List Env) (s:Shared) (H:Hp) (vs:List V) (Q:VK) (E:XK),Room k (A.deeper (envOfC qual (Zac st) s.heap.objs.size f cdv))->sp vs H Q E ->
   ∃ t,WSs (cxOf CX0 P w K mg base N qual (Zac st) f cdv A outer s H E).nox (Zai st) t/\t { nx:=fun _ H'=>Q .non H',rt:=Q } (start N vs) H):FnOk P w K mg base CX0 (k+1) f fd ps sp :=
 F.ok S len fun cdv A outer s H vs Q E hr hsp=>by
  obtain⟨t,h,q⟩:=hbody cdv A outer s H vs Q E hr hsp;exact⟨t,h.out,q⟩
end
end L2
namespace L2
open PySem PySem.Spec PyProof.Rows PySem.SeqAt
section
variable {X:Cx}{pins:List (Addr × Obj)}{σ:St}{H:Hp}{s:Shared}{a:Addr}{u v:HO}{kvs:List (Key × V)}
end
section
variable {X:Cx}
end
section
variable {X:Cx}
end
section
variable {prog:Program}{w:World}{A:Around}{R:Result->Shared->Prop}{s:Shared}
end
section
variable {X:Cx}{pins:List (Addr × Obj)}{σ:St}{H H':Hp}{s s':Shared}{scope:Scope}{own:List Str}{js:List Nat}{C:Addr}{fp:List Addr}
end
section
variable {X:Cx}{scope:Scope}{own:List Str}{js:List Nat}{kx vx iter target:Expr}{ifs:List Expr}{wi:TI}{g:TG}{tt:TT}{tk tv:TE}{pos:Pos}
end
end L2
namespace L2
open PySem PyProof.Rows
structure KO extends KeyOrd where
 ky:Keyed->α
namespace KO
variable {O:KO}{x y z:Keyed}
def le (O:KO) (x y:Keyed):Prop:=O.blt (O.ky y) (O.ky x)=false
abbrev Srt (O:KO) (l:List Keyed):Prop:=l.Pairwise O.le
end KO
section
variable {prog:Program}{w:World}{A:Around}{E:Value->Shared->Prop}{s:Shared}{O:KO}{knd:SortKind}{ok:Keyed->Prop}{st:SortSt}
def Asks (prog:Program) (w:World) (A:Around) (s:Shared) (O:KO) (knd:SortKind) (ok:Keyed->Prop):Prop :=
 ∀ x y,ok x->ok y->∀ (E:Value->Shared->Prop) (Q:Bool->Shared->Prop),Q (O.blt (O.ky x) (O.ky y)) s->wpAny (model prog w) A (keyLt' knd x.1 y.1) Q E s
end
section
variable {O:KO}{a b out:List Keyed}{ia ib:Nat}{x:Keyed}
structure MI (O:KO) (a b out:List Keyed) (ia ib:Nat):Prop where
 perm:(out++(a.drop ia++b.drop ib)).Perm (a++b)
 srt:O.Srt out
 le:∀ x∈out,∀ y∈a.drop ia++b.drop ib,O.le x y
end
section
variable {prog:Program}{w:World}{A:Around}{E:Value->Shared->Prop}{s:Shared}{O:KO}{knd:SortKind}{ok:Keyed->Prop}{st:SortSt}
end
section
variable {O:KO}{a b out:List Keyed}{na nb:Nat}{x:Keyed}
structure MH (O:KO) (a b out:List Keyed) (na nb:Nat):Prop where
 perm:(a.take na++b.take nb++out.reverse).Perm (a++b)
 srt:O.Srt out.reverse
 le:∀ x∈a.take na++b.take nb,∀ y∈out,O.le x y
end
section
variable {prog:Program}{w:World}{A:Around}{E:Value->Shared->Prop}{s:Shared}{O:KO}{knd:SortKind}{ok:Keyed->Prop}{st:SortSt}
structure FB (knd:SortKind) (b₀:Array Keyed) (p₀:Array (Nat × Nat × Nat)) (lo:Nat) (st:SortSt):Prop where
 perm:(arrOf st).Perm b₀
 keep:∀ i,i<lo->(arrOf st)[i]?=b₀[i]?
 kind:kindOf st=knd
 failed:failedOf st=none
 pend:pendingOf st=p₀
section
variable {b₀:Array Keyed}{p₀:Array (Nat × Nat × Nat)}{lo:Nat}
end
end
end L2
namespace L2
open PySem PyProof.Rows
section
variable {prog:Program}{w:World}{A:Around}{E:Value->Shared->Prop}{s:Shared}{O:KO}{knd:SortKind}{ok:Keyed->Prop}{st:SortSt}{b₀:Array Keyed}{p₀:Array (Nat × Nat × Nat)}{lo:Nat}
def pos:Nat->List (List Keyed)->List (Nat × Nat)
 | _,[]=>[]
 | o,r::rs=>(o,r.length)::pos (o+r.length) rs
def pr (p:Nat × Nat × Nat):Nat × Nat:=(p.1,p.2.1)
structure RI (O:KO) (knd:SortKind) (a₀:List Keyed) (runs:List (List Keyed)) (rest:List Keyed) (st:SortSt):Prop where
 arr:(arrOf st).toList=runs.flatten++rest
 perm:(arrOf st).toList.Perm a₀
 srt:∀ r∈runs,O.Srt r
 ne:∀ r∈runs,1<=r.length
 kind:kindOf st=knd
 failed:failedOf st=none
 pend:(pendingOf st).toList.map pr=pos 0 runs
end
end L2
namespace L2
open PySem PyProof.Rows
section
variable {prog:Program}{w:World}{A:Around}{E:Value->Shared->Prop}{s:Shared}{O:KO}{knd:SortKind}{ok:Keyed->Prop}{st τ:SortSt}
end
end L2
namespace L2
open PySem PySem.Spec PyProof.Rows PySem.SeqAt
section
variable {prog:Program}{w:World}{A:Around}{E:Value->Shared->Prop}{s:Shared}
end
section
variable {X:Cx}
end
end L2
namespace L2
open PySem PyProof.Rows
section
variable {prog:Program}{w:World}{A:Around}{E:Value->Shared->Prop}{s:Shared}{O:KO}{knd:SortKind}{ok:Keyed->Prop}
structure Sortable (prog:Program) (w:World) (s:Shared) (O:KO) (vs:List Value):Prop where
 ex:∃ (knd:SortKind) (ok:Keyed->Prop),(∀ v∈vs,ok (v,v))/\(∀ A h',(∀ b o,s.heap.get? b=some o->h'.get? b=some o)->Asks prog w A { s with heap:=h' } O knd ok) /\
  ∀ (A:Around) (E:Value->Shared->Prop) h',(∀ b o,s.heap.get? b=some o->h'.get? b=some o)->2<=vs.length->∀ Q:SortKind->Shared->Prop,Q knd { s with heap:=h' }->wpAny (model prog w) A (keyKind' vs.toArray) Q E { s with heap:=h' }
def lxB:List Int->List Int->Bool
 | _,[]=>false
 | [],_::_=>true
 | a::as,b::bs=>if a=b then lxB as bs else decide (a<b)
end
end L2
namespace L2
open PySem PySem.Spec PyProof.Rows PySem.SeqAt
section
variable {X:Cx}
def adr:Value->Addr
 | .ref a=>a
 | _=>0
end
end L2
namespace L2
open PySem PySem.Spec PyProof.Rows PySem.SeqAt
section
variable {prog:Program}{w:World}{A:Around}{E:Value->Shared->Prop}{s:Shared}{O:KO}
end
section
variable {X:Cx}{pins:List (Addr × Obj)}{σ:St}{H:Hp}{s:Shared}{h':Heap}
end
section
variable {X:Cx}
end
end L2
namespace L2
open PySem PySem.Spec PyProof.Rows
structure WE (X:Cx) (e:Expr) (t:TE):Prop where
 out:PE X e t
section
variable {X:Cx}{a b e k v:Expr}{ta tb te tk tv:TE}{pos:Pos}{es:List Expr}{t:TA}
theorem we (h:PE X e te):WE X e te:=⟨h⟩
theorem ZiH {r:R2} (hr:IxR X r) (ha:WE X a ta) (hb:WE X b tb) (hs:Zf3 b):WE X (.Subscript a b pos) (tOp r ta tb):=⟨ZaM hr ha.out hb.out hs⟩
theorem ZhY (h:WA X es t):WE X (.List es pos) (tLst t):=⟨ZaF h.out⟩
end
end L2
namespace Lv
open PySem L2
open Classical in
def cn (xs:List Int) (m:Int):Int:=(xs.count m:Int)
def Bd (B:Int) (N:List (List Int)):Prop:=∀ xs∈N,∀ m∈xs,0<=m/\m<=B
theorem Zf1 (p:Nat):∀ n:Nat,Bd n (num p n)
 | 0=>fun xs a m b=>by
  rcases Yar.mp (show xs∈[0]::Yal (p - 1) [] from a) with rfl | h
  ·have:m=0:=by simpa using b
   omega
  ·rw[(Yb4.mp h).2] at b;cases b
 | n+1=>fun xs a m b=>by
  have ih:=Zf1 p n;have hf:∀ m∈fstN (num p n),0<=m/\m<=((n+1:Nat):Int):=fun m hm=>by
   unfold fstN at hm;obtain⟨y,hy,rfl⟩:=YaN.mp hm
   cases e:num p n with
   | nil=>rw[e] at hy;cases hy
   | cons c r=>
    rw[e] at hy;have:=ih c (by rw[e];exact YaV) y hy;omega
  rcases YaA.mp (show xs∈((num p n).tail.map (fstN (num p n)++·))++[fstN (num p n)] from a) with h | h
  ·obtain⟨y,hy,rfl⟩:=YaN.mp h;rcases YaA.mp b with b | b
   ·exact hf m b
   ·have:=ih y (List.mem_of_mem_tail hy) m b;omega
  ·rw[YaU.mp h] at b;exact hf m b
end Lv
namespace L2
open PySem PySem.Spec PyProof.Rows
mutual
inductive RdN (H:Hp):V->PyData->Prop
 | non:RdN H .non .none
 | bl (b:Bool):RdN H (.bl b) (.bool b)
 | int (i:Int):RdN H (.int i) (.int i)
 | str (x:Str):RdN H (.str x) (.str x)
 | lst {a:Addr}{xs:List V}{ds:List PyData}:H a=some (.lst xs)->RdL H xs ds->RdN H (.ref a) (.list ds)
 | tup {a:Addr}{xs:List V}{ds:List PyData}:H a=some (.tup xs)->RdL H xs ds->RdN H (.ref a) (.tuple ds)
inductive RdL (H:Hp):List V->List PyData->Prop
 | nil:RdL H [] []
 | cons {x:V}{xs:List V}{d:PyData}{ds:List PyData}:RdN H x d->RdL H xs ds->RdL H (x::xs) (d::ds)
end
section
variable {P:Program}{w:World}{H:Hp}{h:Heap}
end
section
variable {X:Cx}
theorem Ze9:OpR X (compareOp .IsNot) (fun x y H Q=>∃ b c:Bool,x=.bl b/\y=.bl c/\Q (.bl (b != c)) H):=by
 intro pins s σ H x y v u Q I rx ry h;obtain⟨b,c,rfl,rfl,q⟩:=h;cases rx;cases ry;exact isnot_bool ⟨.bl _,H,I,rfl,q⟩
end
end L2
namespace L2
open PySem PySem.Spec PyProof.Rows PySem.SeqAt
section
variable {P:Program}{w:World}{H:Hp}{s:Shared}
theorem RdL.len_eq:∀ {xs ys:List V}{ds:List PyData},RdL H xs ds->RdL H ys ds->xs.length=ys.length
 | _,_,_,.nil,r=>by cases r;rfl
 | _,_,_,.cons _ q,r=>by
  cases r with
  | cons _ q2=>rw[Ya7,Ya7,RdL.len_eq q q2]
mutual
theorem RdN.eqs (ok:HOk P w H s.heap):∀ {x:V}{d:PyData},RdN H x d->∀ {y:V},RdN H y d->∀ {u v:Value},RelV x u->RelV y v->∀ A:Around,A.units+d.depth<cLine->EqAt A s u v true
 | _,_,.non,y,r,u,v,h1,h2,A,hu=>by
  cases r;cases (show u=Ybq from h1);cases (show v=Ybq from h2);exact YdA _
 | _,_,.bl b,y,r,u,v,h1,h2,A,hu=>by
  cases r;cases (show u=Ycl b from h1);cases (show v=Ycl b from h2);exact YdA _
 | _,_,.int i,y,r,u,v,h1,h2,A,hu=>by
  cases r;obtain⟨t,z⟩:=(show ∃ t,u=YcB i t from h1);cases z;obtain⟨t2,z⟩:=(show ∃ t,v=YcB i t from h2);cases z;have:=EqAt.int_int (A:=A) (s:=s) i t i t2;rw[beq_self_eq_true] at this;exact this
 | _,_,.str x,y,r,u,v,h1,h2,A,hu=>by
  cases r;obtain⟨t,z⟩:=(show ∃ t,u=YcR x t from h1);cases z;obtain⟨t2,z⟩:=(show ∃ t,v=YcR x t from h2);cases z;have:=EqAt.str_str (A:=A) (s:=s) x t x t2;rw[show (x == x)=true from by rw[<- str_beq];exact beq_self_eq_true _] at this;exact this
 | _,_,.lst (a:=a) (xs:=xs) (ds:=ds) e q,y,r,u,v,h1,h2,A,hu=>by
  cases r with
  | lst e2 q2=>
   rename_i b ys;cases (show u=YaC a from h1);cases (show v=YaC b from h2);by_cases hab:a=b
   ·subst hab;exact YdA _
   obtain⟨_,i1,n1,v1,g1⟩:=(show ObjOk P w H s.heap a (.lst xs) from ok a _ e)
   obtain⟨_,i2,n2,v2,g2⟩:=(show ObjOk P w H s.heap b (.lst ys) from ok b _ e2)
   have hd:A.units+(YaQ ds+1)<cLine:=hu;have hl:=q.len_eq q2;refine EqAt.of_refs hab ?_;have:=RcAt.lists (A:=A) (s:=s) (e:=fun _=>true) (l:=a) (b:=b) (items:=i1.toArray) (items2:=i2.toArray) ⟨_,g1,rfl,n1,rfl⟩ ⟨_,g2,rfl,n2,rfl⟩ (by rw[Yae,Yae,<- v1.length,<- v2.length,hl]) (by omega) (fun j h1 h2=>by
    have:=RdL.eqs ok q q2 v1 v2 A.in1 (by show A.units+1+_<_;omega) j (by simpa using h1) (by simpa using h2);simpa using this)
   rw[Zbz] at this;exact this
 | _,_,.tup (a:=a) (xs:=xs) (ds:=ds) e q,y,r,u,v,h1,h2,A,hu=>by
  cases r with
  | tup e2 q2=>
   rename_i b ys;cases (show u=YaC a from h1);cases (show v=YaC b from h2);by_cases hab:a=b
   ·subst hab;exact YdA _
   obtain⟨_,i1,v1,o1,g1,c1,_,n1,k1⟩:=(show ObjOk P w H s.heap a (.tup xs) from ok a _ e)
   obtain⟨_,i2,v2,o2,g2,c2,_,n2,k2⟩:=(show ObjOk P w H s.heap b (.tup ys) from ok b _ e2)
   have hd:A.units+(YaQ ds+1)<cLine:=hu;have hl:=q.len_eq q2;refine EqAt.of_refs hab ?_;have:=RcAt.tuples (A:=A) (s:=s) (e:=fun _=>true) (l:=a) (b:=b) (items:=i1.toArray) (items2:=i2.toArray) ⟨o1,g1,c1,n1,k1⟩ ⟨o2,g2,c2,n2,k2⟩ (by omega) (fun j h1 h2=>by
    have:=RdL.eqs ok q q2 v1 v2 A.in1 (by show A.units+1+_<_;omega) j (by simpa using h1) (by simpa using h2);simpa using this)
   rw[Zbz,Yae,Yae,<- v1.length,<- v2.length,hl,beq_self_eq_true] at this;exact this
theorem RdL.eqs (ok:HOk P w H s.heap):∀ {xs:List V}{ds:List PyData},RdL H xs ds->∀ {ys:List V},RdL H ys ds->∀ {us vs:List Value},Vals xs us->Vals ys vs->∀ A:Around,A.units+YaQ ds<cLine->∀ (j:Nat) (h1:j<us.length) (h2:j<vs.length),EqAt A s us[j] vs[j] true
 | _,_,.nil,ys,r,us,vs,v1,v2,A,hu,j,h1,h2=>by
  cases v1;exact absurd h1 (Ybt _)
 | _,_,.cons (d:=d) (ds:=ds) p q,ys,r,us,vs,v1,v2,A,hu,j,h1,h2=>by
  cases r with
  | cons p2 q2=>
   cases v1 with
   | cons a1 b1=>
    cases v2 with
    | cons a2 b2=>
     have hm:YaQ (d::ds)=max d.depth (YaQ ds):=by rw[YaQ]
     rw[hm] at hu
     cases j with
     | zero=>exact RdN.eqs ok p p2 a1 a2 A (by omega)
     | succ j=>exact RdL.eqs ok q q2 b1 b2 A (by omega) j (by simpa using h1) (by simpa using h2)
end
end
def rEqR:R2:=fun x y H Q=>∃ (a b:Addr) (d:PyData),x=.ref a/\y=.ref b/\RdN H (.ref a) d/\RdN H (.ref b) d/\d.depth<=10/\Q (.bl true) H
section
variable {X:Cx}
theorem Zg3 {P:Program}{w:World}{H:Hp}{s:Shared}{A:Around}{xs ys:List V}{ds:List PyData}{i1 i2:List Value} (ok:HOk P w H s.heap) (q:RdL H xs ds) (q2:RdL H ys ds) (v1:Vals xs i1) (v2:Vals ys i2) (hu:A.units+1+YaQ ds<cLine) :
  ∀ j (h1:j<i1.toArray.size) (h2:j<i2.toArray.size),EqAt A.in1 s i1.toArray[j] i2.toArray[j] true:=fun j h1 h2=>by
 have:=RdL.eqs ok q q2 v1 v2 A.in1 (by show A.units+1+_<_;omega) j (by simpa using h1) (by simpa using h2);simpa using this
theorem Zin (hu:X.A.units+12<cLine):OpR X (compareOp .Eq) rEqR:=by
 intro pins s σ H x y v u Q I rx ry h;obtain⟨a,b,d,rfl,rfl,r1,r2,hd,q⟩:=h;cases rx;cases ry
 cases r1 with
 | lst e p=>
  rename_i xs ds
  cases r2 with
  | lst e2 p2=>
   rename_i ys;obtain⟨_,i1,n1,v1,g1⟩:=(show ObjOk X.prog X.w H s.heap a (.lst xs) from I.hok a _ e)
   obtain⟨_,i2,n2,v2,g2⟩:=(show ObjOk X.prog X.w H s.heap b (.lst ys) from I.hok b _ e2)
   have hd':YaQ ds+1<=10:=hd;refine RcAt.lists (e:=fun _=>true) (items:=i1.toArray) (items2:=i2.toArray) ⟨_,g1,rfl,n1,rfl⟩ ⟨_,g2,rfl,n2,rfl⟩ (by rw[Yae,Yae,<- v1.length,<- v2.length,p.len_eq p2]) (by omega) (Zg3 I.hok p p2 v1 v2 (by omega)) _ _ _ _ ?_;rw[Zbz];exact⟨.bl true,H,I,rfl,q⟩
 | tup e p=>
  rename_i xs ds
  cases r2 with
  | tup e2 p2=>
   rename_i ys;obtain⟨_,i1,v1,o1,g1,c1,_,n1,k1⟩:=(show ObjOk X.prog X.w H s.heap a (.tup xs) from I.hok a _ e)
   obtain⟨_,i2,v2,o2,g2,c2,_,n2,k2⟩:=(show ObjOk X.prog X.w H s.heap b (.tup ys) from I.hok b _ e2)
   have hd':YaQ ds+1<=10:=hd;refine RcAt.tuples (e:=fun _=>true) (items:=i1.toArray) (items2:=i2.toArray) ⟨o1,g1,c1,n1,k1⟩ ⟨o2,g2,c2,n2,k2⟩ (by omega) (Zg3 I.hok p p2 v1 v2 (by omega)) _ _ _ _ ?_;rw[Zbz,Yae,Yae,<- v1.length,<- v2.length,p.len_eq p2,beq_self_eq_true];exact⟨.bl true,H,I,rfl,q⟩
end
end L2
namespace L2
open PySem PySem.Spec PyProof.Rows
section
variable {X:Cx}
end
end L2
namespace Lv
open PySem L2
def rl (p n i:Nat):List Int:=(num p n).getD i []
end Lv
namespace Lv
open PySem L2
theorem Zfj {p:Nat} (hp:2<=p) (n:Nat):∃ x r,num p n=x::r/\r.length+1=p:=by
 have hl:=Zb7 (p:=p) (by omega) n
 cases h:num p n with
 | nil=>rw[h] at hl;simp at hl;omega
 | cons x r=>exact⟨x,r,rfl,by rw[h] at hl;simpa using hl⟩
end Lv
namespace L2
open PySem
end L2
namespace Lv
open PySem L2
def sm (g:Nat->Int):Nat->Int
 | 0=>0
 | k+1=>sm g k+g (k+1)
end Lv
namespace L2
open PySem PySem.Spec PyProof.Rows PySem.SeqAt
inductive TyS (H:Hp):V->Value->Prop
 | int (i:Int):TyS H (.int i) (.type "int")
 | bl (b:Bool):TyS H (.bl b) (.type "bool")
 | lst {a:Addr}{xs:List V} (e:H a=some (.lst xs)):TyS H (.ref a) (.type "list")
 | tup {a:Addr}{xs:List V} (e:H a=some (.tup xs)):TyS H (.ref a) (.type "tuple")
theorem ZdO:∀ {Ts:List String}{its:List Value},Vals (Ts.map V.ty) its->its=Ts.map YbB
 | [],_,r=>by cases r;rfl
 | T::Ts,_,r=>by
  cases r with
  | cons r1 r2=>
   rw[ZdO r2];cases (show _=YbB T from r1);rfl
section
variable {X:Cx}
theorem Zdp:ZbA X (.builtin "isinstance") (fun xs H Q=>∃ (x:V) (tp:Addr) (Ts:List String) (t:Value) (b:Bool),xs=[x,.ref tp]/\H tp=some (.tup (Ts.map V.ty))/\TyS H x t/\YcT X.K t (Ts.map YbB)=some b/\Q (.bl b) H):=by
 intro pins s σ H xs us Q I r h;obtain⟨x,tp,Ts,t,b,rfl,htp,ty,e,q⟩:=h;obtain⟨u,u2,rfl,r1,r2⟩:=Zhg r;cases r2;obtain⟨_,its,rv,⟨oc,od,oa,osl⟩,h1,h2,h3,n,h4⟩:=(show ObjOk X.prog X.w H s.heap tp (.tup (Ts.map V.ty)) from I.hok tp _ htp)
 dsimp only at h2 h3 h4;subst h2;subst h3;subst h4;rw[ZdO rv] at h1;have fin:∀ tk,EP X pins σ Q (.bool b) { s with toks:=tk }:=fun tk=>⟨.bl b,H,I.tok _,rfl,q⟩
 cases ty with
 | int i=>obtain⟨t,z⟩:=(show ∃ t,u=YcB i t from r1);cases z;exact Ycc YdL I.kIn Yb8 h1 e (fun z=>nomatch z) fin
 | bl y=>cases (show u=Ycl y from r1);exact Ycc YdE I.kIn Yb8 h1 e (fun z=>nomatch z) fin
 | @lst a xs ea=>
  cases (show u=YaC a from r1);obtain⟨_,_,n,_,g1⟩:=(show ObjOk X.prog X.w H s.heap a (.lst xs) from I.hok a _ ea)
  exact Ycc YcD I.kIn ⟨_,g1,rfl⟩ h1 e (fun z=>nomatch z) fin
 | @tup a xs ea=>
  cases (show u=YaC a from r1);obtain⟨_,_,_,o,g1,g2,_⟩:=(show ObjOk X.prog X.w H s.heap a (.tup xs) from I.hok a _ ea)
  exact Ycc Ydt I.kIn ⟨o,g1,g2⟩ h1 e (fun z=>nomatch z) fin
end
end L2
namespace HT
open PySem PySem.Spec PyProof.Rows
section
variable {prog:Program}{w:World}{A:Around}{E:Value->Shared->Prop}{s:Shared}
end
end HT
namespace L2
open PySem PySem.Spec PyProof.Rows PySem.SeqAt
inductive TyA (H:Hp):V->String->Prop
 | non:TyA H .non "NoneType"
 | int (i:Int):TyA H (.int i) "int"
 | bl (b:Bool):TyA H (.bl b) "bool"
 | str (x:Str):TyA H (.str x) "str"
 | lst {a:Addr}{xs:List V} (e:H a=some (.lst xs)):TyA H (.ref a) "list"
 | tup {a:Addr}{xs:List V} (e:H a=some (.tup xs)):TyA H (.ref a) "tuple"
 | dK {a:Addr}{kvs:List (Key × V)} (e:H a=some (.dK kvs)):TyA H (.ref a) "dict"
section
variable {X:Cx}
end
end L2
namespace Lv
open PySem L2 PySem.W
structure ExcTab (K:Frag) (reel C:Addr) (all:List Addr):Prop where
 ok:ZiE K C=true
 exm:exmOne K (.ref C) (.ref reel)=some true
 isR:kitOne K (.ref C) (.ref reel)=some true
 isV:kitOne K (.ref C) (.type "ValueError")=some true
 one:∀ D∈all,kitOne K (.ref C) (.ref D)=some (D == C)
structure Excs (K:Frag) (mg:Str->Option Value) where
 reel:Addr
 nWays:Addr
 nRoom:Addr
 nLevel:Addr
 nStand:Addr
 tMany:Addr
 tFew:Addr
 nPlace:Addr
 nText:Addr
 nLine:Addr
 nBack:Addr
 nPhase:Addr
 clash:Addr
 mReel:mg "ReelError"=some (.ref reel)
 mWays:mg "NoWays"=some (.ref nWays)
 mRoom:mg "NoRoom"=some (.ref nRoom)
 mLevel:mg "NoLevel"=some (.ref nLevel)
 mStand:mg "NoStanding"=some (.ref nStand)
 mMany:mg "TooMany"=some (.ref tMany)
 mFew:mg "TooFew"=some (.ref tFew)
 mPlace:mg "NoPlace"=some (.ref nPlace)
 mText:mg "NoText"=some (.ref nText)
 mLine:mg "NoLine"=some (.ref nLine)
 mBack:mg "NoBack"=some (.ref nBack)
 mPhase:mg "NoPhase"=some (.ref nPhase)
 mClash:mg "Clash"=some (.ref clash)
 nd:([nWays,nRoom,nLevel,nStand,tMany,tFew,nPlace,nText,nLine,nBack,nPhase,clash]:List Addr).Nodup
def Excs.all {K:Frag}{mg:Str->Option Value} (X:Excs K mg):List Addr:=[X.nWays,X.nRoom,X.nLevel,X.nStand,X.tMany,X.tFew,X.nPlace,X.nText,X.nLine,X.nBack,X.nPhase,X.clash]
def anT:List String:=["NoneType","bool","int","str","list","tuple","dict"]
structure Thing (K:Frag) (H:Hp) (v:V) (T:String):Prop where
 ty:TyOf K H v (.type T)
 mem:T∈anT
def NotIn (lo hi:Int) (v:V) (T:String):Prop:=T≠"int"∨∃ i,v=.int i/\¬ (lo<=i/\i<=hi)
end Lv
namespace Lv
open PySem L2 PySem.W
end Lv
namespace Lv
open PySem L2 PySem.W
end Lv
namespace Lv
open PySem L2 PySem.W
end Lv
namespace L2
open PySem PySem.Spec PyProof.Rows PySem.W
end L2
namespace Lv
open PySem L2 PySem.W
end Lv
namespace Lv
open PySem L2 PySem.Spec PyProof.Rows
end Lv
namespace L2
open PySem PySem.Spec PyProof.Rows PySem.SeqAt
section
variable {X:Cx}
end
theorem ZfL {b1 b2:Bool}{K:Yab}{own:List Str}{js:List Nat}{g:TG}{tt:TT}{te:TE}{σ:St}{H1:Hp}{Q:VK}{a b:Addr}{xs ys:List V} (hlen:ys.length<=xs.length) (Pv:Addr->Nat->Hp->Prop) (h0:∀ acc,H1 acc=none->Pv acc 0 (upd H1 acc (.lst [])))
  (hl:∀ acc i H,H1 acc=none->i<=ys.length->Pv acc i H->SqB b1 K H a xs/\SqB b2 K H b ys)
  (hs:∀ acc i x y p H,H1 acc=none->xs[i]?=some x->ys[i]?=some y->Pv acc i H->H p=none->g (.ref p) (blkσ own js σ) (upd H p (.tup [x,y])) fun τ H4=>tt τ H4 fun c H5=>
   if c=true then te τ H5 fun y H6=>∃ zs,H6 acc=some (.lst zs)/\zs.length<sizeLine/\(i+1<=ys.length/\Pv acc (i+1) (upd H6 acc (.lst (zs++[y])))) else (i+1<=ys.length/\Pv acc (i+1) H5))
  (hd:∀ acc H,H1 acc=none->Pv acc ys.length H->Q (.ref acc) H):Za6 own js g tt te σ (ItzB b1 b2 K a b) H1 Q:=by
 intro acc hacc;refine⟨fun i H=>i<=ys.length/\Pv acc i H,ys.length,⟨YaX _,h0 acc hacc⟩,?_⟩;rintro i H ⟨hi,p⟩;obtain⟨q1,q2⟩:=hl acc i H hacc hi p;by_cases hlt:i<ys.length
 ·have hl2:i<xs.length:=by omega
  refine .inr ⟨hlt,⟨xs,ys,xs[i],ys[i],q1,q2,by simp[hl2],by simp[hlt]⟩,fun x H' y=>?_⟩;obtain⟨pa,z1,z2,hp,e1,e2,y1,y2⟩:=y;subst e1 e2;exact hs acc i z1 z2 pa H hacc (y1 xs q1) (y2 ys q2) p hp
 ·have e:i=ys.length:=by omega
  subst e;exact .inl ⟨⟨xs,ys,q1,q2,.inr (Yah _)⟩,hd acc H hacc p⟩
end L2
namespace L2
open PySem PySem.Spec PyProof.Rows PySem.SeqAt
section
variable {X:Cx}
end
end L2
namespace L2
open PySem PySem.Spec PyProof.Rows PySem.SeqAt
theorem Zcz {α:Type}:∀ ys:List α,(YaL ys.length).filterMap (ys[·]?)=ys
 | []=>rfl
 | y::ys=>by
  rw[Ya7,List.range_succ_eq_map,Ybn];show y::(List.map Nat.succ (YaL ys.length)).filterMap ((y::ys)[·]?)=_;rw[Yb5];exact congrArg (y::·) (Zcz ys)
theorem Zd8 {α β:Type}{f g:α->Option β}:∀ {l:List α},(∀ x∈l,f x=g x)->l.filterMap f=l.filterMap g
 | [],_=>rfl
 | x::l,h=>by rw[Ybn,Ybn,h x (by simp),Zd8 fun y hy=>h y (by simp[hy])]
theorem Zch (its:List Value):slicePick its.toArray none none (some (-1))=its.reverse.toArray:=by
 unfold slicePick;have e1:sliceBounds none none (some (-1)) its.toArray.size=((its.length:Int) - 1,-1,-1):=by
  simp[sliceBounds]
 rw[e1];have e2:sliceRange ((its.length:Int) - 1) (-1) (-1)=(YaL its.length).map fun k=>its.length - 1 - k:=by
  unfold sliceRange;have:(if (its.length:Int) - 1 > -1 then ((its.length:Int) - 1 - (-1) - (-1) - 1) / (-(-1)) else 0).toNat=its.length:=by
   by_cases h:(its.length:Int) - 1 > -1
   ·rw[if_pos h,show (-(-1):Int)=1 by decide,Int.ediv_one];omega
   ·rw[if_neg h];omega
  dsimp only;rw[if_neg (by decide),this];apply Ycv;intro k hk;have:=YaO.mp hk;omega
 show (List.filterMap _ (sliceRange ((its.length:Int) - 1) (-1) (-1))).toArray=_;rw[e2,Yb5];congr 1;have e3:=Zcz its.reverse;rw[Ycw] at e3;rw[<- e3];apply Zd8;intro k hk;have:=YaO.mp hk;show its.toArray[its.length - 1 - k]?=_;rw[List.getElem?_toArray,List.getElem?_reverse this]
def ZiV (K:Yab):V->Hp->VK->Prop:=fun x H Q=>∃ a xs,x=.ref a/\SqL K H a xs/\∀ p,H p=none->Q (.ref p) (upd H p (.lst xs.reverse))
def ZiK (K:Yab) (te:TE) (ts:TO):TE:=fun σ H Q=>te σ H fun x H1=>ts σ H1 fun k H2=>k=some (-1)/\ZiV K x H2 Q
section
variable {X:Cx}{e st:Expr}{te:TE}{ts:TO}{pos p2:Pos}
theorem Zig (he:PE X e te) (hst:PO X (some st) ts):PE X (.Subscript e (.Slice none none (some st) p2) pos) (ZiK X.K te ts):=by
 intro pins s σ H Q I h;refine Subscript_ (thn (he pins s σ H _ I h) fun v s1 ⟨x,H1,I1,r1,q1⟩=>?_);refine wpAny_Slice ?_;rw[evalPart_none];refine wpAny_pure ?_;refine wpAny_pure ?_;refine thn (hst pins s1 σ H1 _ I1 q1) fun vu s3 ⟨u,H3,I3,pu,ek,q3⟩=>?_;subst ek;obtain⟨a,xs,rfl,hx,q⟩:=q3;cases r1;have I4:Inv X pins σ H3 { s3 with heap:=s3.heap.push { cls:=.type "slice",data:=.fields #[.none,.none,vu] } }:=I3.kept (t':=s3.toks) fun b ob q=>Yaa _ q;obtain⟨its,r,ht,hz⟩:=I4.list hx;have hlen:=r.length;show wpAny (model X.prog X.w) X.A (subscriptTail e (.Slice none none (some st) p2) (.ref a) (.ref s3.heap.objs.size)) (EP X pins σ Q) X.xe { s3 with heap:=s3.heap.push { cls:=.type "slice",data:=.fields #[.none,.none,vu] } };refine tail_any (ops:=[.ref a,.ref s3.heap.objs.size]) ht.isList.typeIs slot_list_getitem.lookup ?_ (by with_unfolding_all rfl);refine wpAny_getItem_list_slice ht.isList (Yca ..) .none .none pu (by simp) ?_ (by rw[Yae] <;> omega);rw[Zch];refine⟨.ref (s3.heap.push { cls:=.type "slice",data:=.fields #[.none,.none,vu] }).objs.size,_,I4.laid (t':=s3.toks) (o:=.lst xs.reverse) (fun b ob q=>Yaa _ q) (Yah _) ?_,rfl,q _ (I4.hok.fresh (Yah _))⟩;exact⟨by rw[Ycw];omega,_,0,Vals.reverse r,Yam _ rfl⟩
end
end L2
namespace Lv
open PySem L2
def mxAt:List Int->Nat
 | []=>0
 | x::r=>if r.all (·<=x) then 0 else mxAt r+1
structure IsTop (d:List Int) (r:Nat):Prop where
 lt:r<d.length
 ge:∀ j (h:j<d.length),d[j]<=d[r]
 fst:∀ j (h:j<r),d[j]<d[r]
def Zi2 (c v:List Int):List Int:=Ycm (· - ·) c v
def came (p:Nat):Nat->Nat × List Int
 | 0=>(0,Yal p 0)
 | n+1=>
  let L:=if (came p n).2=cnt p (came p n).1 then (came p n).1+1 else (came p n).1
  let r:=mxAt (Zi2 (cnt p L) (came p n).2)
  (L,(came p n).2.set r ((came p n).2.getD r 0+1))
end Lv
namespace L2
open PySem PySem.Spec PyProof.Rows PySem.SeqAt
section
variable {X:Cx}
end
end L2
namespace Lv
open PySem L2
end Lv
namespace Lv
open PySem L2
end Lv
namespace L2
open PySem PySem.Spec PyProof.Rows PySem.SeqAt
section
variable {X:Cx}
end
end L2
namespace L2
open PySem PySem.Spec PyProof.Rows PySem.SeqAt
section
variable {X:Cx}
end
end L2
namespace L2
open PySem PySem.Spec PyProof.Rows PySem.SeqAt
end L2
namespace L2
open PySem PySem.Spec PyProof.Rows PySem.W
structure RoomS (k:Nat) (A:Around):Prop where
 dp:A.depth+3*k+5<recursionLimit
 un:A.units+16*k+200<cLine
 gd:A.guards=some []
structure FnOkS (P:Program) (w:World) (K:Yab) (mg:Str->Option Value) (base:Heap) (CX:CXT) (k:Nat) (f:Addr) (fd:FuncData) (ps:List Str) (sp:Sp):Prop where
 len:∀ vs H Q E,sp vs H Q E->vs.length=ps.length
 run:∀ (A:Around) (outer:List Env) (s:Shared) (H:Hp) (args:Args) (us:List Value) (vs:List V) (Q:VK) (E:XK),RoomS k A->Env0 P w K mg base A outer s H->BindsTo s fd args (ps.zip us)->Vals vs us->sp vs H Q E ->
  codeAny (model P w) A (.call (.ref f) args) (CR CX outer P w H s Q E) s
section
variable {P:Program}{w:World}{K:Yab}{mg:Str->Option Value}{base:Heap}
end
structure CalS (P:Program) (w:World) (K:Yab) (mg:Str->Option Value) (base:Heap) (k:Nat) (x:Str) (ps:List Str) (sp:Sp) (f:Addr) (fd:FuncData):Prop where
 ok:FnOkS P w K mg base CX0 k f fd ps sp
 mg:mg x=some (.ref f)
 kp:Yak K (.ref f)=true
 bd:Binds K fd ps []
section
variable {X:Cx}
end
end L2
namespace Lv
open PySem L2
end Lv
namespace Lv
open PySem L2
end Lv
namespace Lv
open PySem L2
def pz (x:Int):Int:=if x<0 then 0 else x
def sv (xs:List Int) (t:Int):Int:=(xs.map fun x=>pz (t - x)).sum
def Sub (ys xs:List Int):Prop:=∀ m,cn ys m<=cn xs m
structure Lst (xs:List Int) (r v:Int):Prop where
 le:∀ t,r*t - sv xs t<=v
 eq:∃ θ∈xs,v=r*θ - sv xs θ
end Lv
namespace Lv
open PySem L2
end Lv
namespace Lv
open PySem L2
def Zcl:Int:=10000000000000000000000000000000000000000000000000000000000000
def upI:List Int->Bool
 | []=>true
 | [_]=>true
 | a::b::r=>decide (a<=b) && upI (b::r)
inductive El (H:Hp):V->Prop
 | int {z:Int} (h1:-Zcl - 2<z) (h2:z<Zcl+2):El H (.int z)
 | bl (b:Bool):El H (.bl b)
 | non:El H .non
 | str {x:Str} (h:x.length<=400) (hc:∀ c∈x.cps.toList,c<16 ^ 8):El H (.str x)
 | lst {a:Addr}{zs:List Int} (e:H a=some (.lst (zs.map V.int))) (hl:zs.length<=3) (hb:∀ z∈zs,-Zcl - 2<z/\z<Zcl+2):El H (.ref a)
 | tup {a:Addr}{zs:List Int} (e:H a=some (.tup (zs.map V.int))) (hl:zs.length<=3) (hb:∀ z∈zs,-Zcl - 2<z/\z<Zcl+2):El H (.ref a)
inductive Lf (H:Hp):V->Prop
 | non:Lf H .non
 | int (i:Int) (h:i=7):Lf H (.int i)
 | bl (b:Bool):Lf H (.bl b)
 | str (x:Str):Lf H (.str x)
 | d0 {a:Addr} (e:H a=some (.dK [])):Lf H (.ref a)
 | d1 {a:Addr} (e:H a=some (.dK [(.inl 1,.int 2)])):Lf H (.ref a)
structure Sh (d:PyData) (n:Nat):Prop where
 ok:d.showable=true
 nd:d.hasDict=false
 dp:d.depth<=1
 sz:d.shown.length<=n
end Lv
namespace Lv
open PySem L2
def Free (N:List (List Int)) (m:List Nat) (o:Int):Prop:=0<=o/\o<N.length/\m.getD o.toNat 0≠(N.getD o.toNat []).length
instance (N:List (List Int)) (m:List Nat) (o:Int):Decidable (Free N m o):=by unfold Free;infer_instance
def ZiX (m:List Nat) (o:Int):List Nat:=m.set o.toNat (m.getD o.toNat 0+1)
def atO (N:List (List Int)) (m:List Nat) (o:Int):Int:=(N.getD o.toNat []).getD (m.getD o.toNat 0) 0
def hold (N:List (List Int)):List Nat->List Int->List Int->Option (List Nat × List Int)
 | m,t,[]=>some (m,t)
 | m,t,o::os=>if Free N m o then hold N (ZiX m o) (t++[atO N m o]) os else none
def InM (N:List (List Int)) (m:List Nat):Prop:=m.length=N.length/\∀ j,j<N.length->m.getD j 0<=(N.getD j []).length
end Lv
namespace Lv
open PySem L2
def lenN (N:List (List Int)):List Nat:=N.map YbK
def opn (N:List (List Int)) (m:List Nat) (j:Nat):Bool:=decide (m.getD j 0<(N.getD j []).length)
def opnL (N:List (List Int)) (m:List Nat):List Nat:=(YaL N.length).filter (opn N m)
structure OrS (N:List (List Int)) (m:List Nat) (t os:List Int):Prop where
 hd:hold N (N.map fun _=>0) [] os=some (m,t)
 up:upI t=true
 lst:∀ l,t.getLast?=some l->∀ j∈opnL N m,l<=atO N m j
 inm:InM N m
 sm:m.sum=os.length
end Lv
namespace L2
open PySem PySem.Spec PyProof.Rows
abbrev two (elt t1 i1:Expr) (f1:List Expr) (t2 i2:Expr) (f2:List Expr) (scope:Scope) (pos:Pos):Expr:=.ListComp elt [⟨t1,i1,f1,0⟩,⟨t2,i2,f2,0⟩] scope pos
section
variable {prog:Program}{w:World}{A:Around}{R:Result->Shared->Prop}{s:Shared}{elt t1 i1:Expr}{f1:List Expr}{t2 i2:Expr}{f2:List Expr}{scope:Scope}{pos:Pos}{it acc:Value}{env:Env}
end
end L2
namespace L2
open PySem PySem.Spec PyProof.Rows
section
variable {X:Cx}{scope:Scope}{own:List Str}{js fr:List Nat}{elt t1 i1:Expr}{f1:List Expr}{t2 i2:Expr}{f2:List Expr}{wi wi2:TI}{g1 g2:TG}{tt1 tt2:TT}{te:TE}{pos:Pos}
end
end L2
namespace L2
open PySem PySem.Spec PyProof.Rows PySem.SeqAt
def ItlB (b:Bool) (K:Yab) (a:Addr):It:=match b with | true=>Itl K a | false=>Itt K a
def ZiA (K:Yab) (tl:TE):TI:=fun σ H R=>tl σ H fun x H1=>∃ a b,x=.ref a/\(∃ xs,SqB b K H1 a xs)/\R (ItlB b K a) H1
theorem Zgm (K:Yab) {X:Cx}{tg l:Expr}{tl:TE} (hl:PE X l tl) (hK:X.K=K:=by rfl):PI X tg l (ZiA K tl):=by
 subst hK;intro pins s σ H R I h;refine thn (hl pins s σ H _ I h) fun v s1 ⟨x,H1,I1,r1,q1⟩=>?_;obtain⟨a,b,e,⟨xs,hq⟩,q⟩:=q1;subst e;cases r1;have fp:∀ b∈[s1.heap.objs.size],FpOk X pins H1 b:=fun b hb=>by
  have e:b=s1.heap.objs.size:=by simpa using hb
  subst e;exact I1.fpOk (Yah _) (I1.hok.fresh (Yah _))
 cases b with
 | true=>
  obtain⟨its,rv,p,hz⟩:=I1.list hq;exact wpAny_pyIter_list p.isList ⟨s1.heap.objs.size,[s1.heap.objs.size],_,_,H1,rfl,I1.kept (t':=s1.toks) fun b o e=>Yaa _ e,ZeG a _,⟨_,Yam _ rfl,rfl,rfl⟩,fp,q⟩
 | false=>
  obtain⟨its,rv,p,hz⟩:=I1.tuple hq;exact wpAny_pyIter_tuple (show s1.heap.IsTuple a its.toArray from p) ⟨s1.heap.objs.size,[s1.heap.objs.size],_,_,H1,rfl,I1.kept (t':=s1.toks) fun b o e=>Yaa _ e,Zcm a _,⟨_,Yam _ rfl,rfl,rfl⟩,fp,q⟩
theorem ZdI {X:Cx}{tg l:Expr}{tl:TE} (hl:PE X l tl):PI X tg l (ZiA X.K tl):=Zgm X.K hl
theorem Zfw {b:Bool}{K:Yab}{H:Hp}{a:Addr}{xs:List V}{i:Nat} (q:SqB b K H a xs) (hi:i<xs.length):(ItlB b K a).go i H:=by
 cases b <;> exact⟨xs,xs[i],q,Yac hi⟩
theorem Zd5 {b:Bool}{K:Yab}{H H':Hp}{a:Addr}{xs:List V}{i:Nat}{x:V} (q:SqB b K H a xs) (y:(ItlB b K a).yld i H x H'):H'=H/\xs[i]?=some x:=by
 cases b <;> exact⟨y.1,y.2 xs q⟩
theorem Zde {b:Bool}{K:Yab}{H:Hp}{a:Addr}{xs:List V}{i:Nat} (q:SqB b K H a xs) (hi:xs.length<=i):(ItlB b K a).stop i H:=by
 cases b <;> exact⟨xs,q,hi⟩
section
variable {b:Bool}{K:Yab}{own:List Str}{js:List Nat}{g1 g2 g:TG}{tt1 tt2 tt:TT}{wi2:TI}{te:TE}{σ τ:St}{H1 H6:Hp}{Q:VK}{a acc:Addr}{xs:List V}
theorem ZfN (Pv:Addr->Nat->Hp->Prop) (h0:∀ acc,H1 acc=none->Pv acc 0 (upd H1 acc (.lst []))) (hl:∀ acc i H,H1 acc=none->i<=xs.length->Pv acc i H->SqB b K H a xs)
  (hs:∀ acc i x H,H1 acc=none->xs[i]?=some x->Pv acc i H->g x (blkσ own js σ) H fun τ H4=>tt τ H4 fun c H5=>
   if c=true then te τ H5 fun y H6=>∃ ys,H6 acc=some (.lst ys)/\ys.length<sizeLine/\(i+1<=xs.length/\Pv acc (i+1) (upd H6 acc (.lst (ys++[y])))) else (i+1<=xs.length/\Pv acc (i+1) H5))
  (hd:∀ acc H,H1 acc=none->Pv acc xs.length H->Q (.ref acc) H):Za6 own js g tt te σ (ItlB b K a) H1 Q:=by
 intro acc hacc;refine⟨fun i H=>i<=xs.length/\Pv acc i H,xs.length,⟨YaX _,h0 acc hacc⟩,?_⟩;rintro i H ⟨hi,p⟩;have q:=hl acc i H hacc hi p;rcases Ybv i xs.length with hlt | hge
 ·refine .inr ⟨hlt,Zfw q hlt,fun x H' y=>?_⟩;obtain⟨rfl,hx⟩:=Zd5 q y;exact hs acc i x _ hacc hx p
 ·obtain rfl:i=xs.length:=by omega
  exact .inl ⟨Zde q (Yah _),hd acc H hacc p⟩
theorem ZgK {tb:TS}{D:Ends}{H:Hp} (Pv:Nat->St->Hp->Prop) (h0:Pv 0 σ H) (hl:∀ i σ H,i<=xs.length->Pv i σ H->SqB b K H a xs)
  (hs:∀ i x σ H,xs[i]?=some x->Pv i σ H->g x σ H fun σ2 H2=>tb { D with nx:=Pv (i+1),ct:=Pv (i+1),bk:=D.nx } σ2 H2) (hd:∀ σ H,Pv xs.length σ H->D.nx σ H) :
  ∃ W:Nat->Nat->St->Hp->Prop,(∃ m,W 0 m σ H)/\∀ i m σ H,W i m σ H ->
   ((ItlB b K a).stop i H/\D.nx σ H)∨((ItlB b K a).go i H/\∃ N:St->Hp->Prop,(∀ σ' H',N σ' H'->∃ m',m'<m/\W (i+1) m' σ' H')/\∀ x H',(ItlB b K a).yld i H x H'->g x σ H' fun σ2 H2=>tb { D with nx:=N,ct:=N,bk:=D.nx } σ2 H2):=by
 refine⟨fun i m σ H=>m=xs.length - i/\i<=xs.length/\Pv i σ H,⟨xs.length,by simp,YaX _,h0⟩,?_⟩;rintro i m σ H ⟨rfl,hi,p⟩;have q:=hl i σ H hi p;rcases Ybv i xs.length with hlt | hge
 ·refine .inr ⟨Zfw q hlt,Pv (i+1),fun σ' H' z=>⟨xs.length - (i+1),by omega,rfl,hlt,z⟩,fun x H' y=>?_⟩;obtain⟨rfl,hx⟩:=Zd5 q y;exact hs i x σ _ hx p
 ·obtain rfl:i=xs.length:=by omega
  exact .inl ⟨Zde q (Yah _),hd σ H p⟩
end
end L2
namespace Lv
open PySem L2
def prs:Nat->List (List Int)->List Nat->List (Int × Nat)
 | k,x::N,m::ms=>(x.drop m).map (fun z=>(z,k))++prs (k+1) N ms
 | _,_,_=>[]
def Zis (p q:Int × Nat):Prop:=p.1<q.1∨(p.1=q.1/\p.2<=q.2)
structure MgS (N:List (List Int)) (m:List Nat) (tk:List (Int × Nat)):Prop where
 inm:InM N m
 perm:(tk++prs 0 N m).Perm (prs 0 N (N.map fun _=>0))
 srt:tk.Pairwise Zis
 le:∀ p∈tk,∀ q∈prs 0 N m,Zis p q
 sm:m.sum=tk.length
def SeqI (H:Hp) (r:Addr) (xs:List V):Prop:=H r=some (.lst xs)∨H r=some (.tup xs)
structure RwS (H:Hp) (a:Addr) (rs:List Addr) (N:List (List Int)):Prop where
 top:SeqI H a (rs.map V.ref)
 len:rs.length=N.length
 row:∀ (j:Nat) r xs,rs[j]?=some r->N[j]?=some xs->SeqI H r (xs.map V.int)
theorem ZhQ {qs:List Addr}{i:Nat}{x:V} (h:(qs.map V.ref)[i]?=some x):∃ p,qs[i]?=some p/\x=.ref p:=by
 rw[Yai] at h
 cases e:qs[i]? with
 | none=>rw[e] at h;cases h
 | some p=>rw[e] at h;exact⟨p,rfl,(Yaz h).symm⟩
theorem ZcS {H:Hp}:∀ zs:List Int,RdL H (zs.map V.int) (zs.map Yb6)
 | []=>.nil
 | z::zs=>.cons (.int z) (ZcS zs)
structure GoodT (N:List (List Int)):Prop where
 many:N.length<=12
 tot:(lenN N).sum<=400
 bnd:∀ xs∈N,∀ z∈xs,-Zcl<z/\z<Zcl
 srt:∀ xs∈N,xs.Pairwise (·<=·)
structure GoodB (b:Nat) (N:List (List Int)):Prop where
 len:∀ xs∈N,xs.length<=b
 bnd:∀ xs∈N,∀ z∈xs,-Zcl<z/\z<Zcl
 srt:∀ xs∈N,xs.Pairwise (·<=·)
end Lv
namespace L2
open PySem PySem.Spec PyProof.Rows PySem.SeqAt
section
variable {X:Cx}
end
end L2
namespace Lv
open PySem L2
def Fr (S:List Addr) (H H':Hp):Prop:=∀ b o,H b=some o->b ∉ S->H' b=some o
abbrev Rows:=List (Option (List Int))
def datO:Option (List Int)->PyData
 | none=>.none
 | some xs=>.list (xs.map Yb6)
def ZiS (ds:Rows):PyData:=.list (ds.map datO)
def shp (D:List Rows):List (List Bool):=D.map fun ds=>ds.map Option.isSome
theorem ZbI:∀ (zs:List Int),YaQ (zs.map Yb6)=0
 | []=>rfl
 | z::zs=>by simp only[YaK,YaQ,Ydj,ZbI zs];rfl
abbrev Cell:=Option (Addr × List Int)
abbrev Reel:=Addr × List Cell
def cV:Cell->V
 | none=>.non
 | some (r,_)=>.ref r
def cA:Cell->List Addr
 | none=>[]
 | some (r,_)=>[r]
def cOk (H:Hp):Cell->Prop
 | none=>True
 | some (r,xs)=>H r=some (.lst (xs.map V.int))
def tA (t:Reel):List Addr:=t.1::t.2.flatMap cA
def adr (T:List Reel):List Addr:=T.flatMap tA
def tOk (H:Hp) (t:Reel):Prop:=H t.1=some (.lst (t.2.map cV))/\∀ c∈t.2,cOk H c
def NRL (H:Hp) (T:List Reel):Prop:=∀ t∈T,tOk H t
def TB (H:Hp) (tr:List Addr) (B:List (List Bool)):Prop:=tr.length=B.length/\∀ (j:Nat) r bs,tr[j]?=some r->B[j]?=some bs->H r=some (.tup (bs.map V.bl))
end Lv
namespace Lv
open PySem L2
def St (S:List Addr) (H:Hp) (Φ:Hp->Prop):Prop:=∀ H',Fr S H H'->Φ H'
structure Bld (S:List Addr) (H:Hp) (us:List V) (rs tr:List Addr) (D:List Rows) (R:List (List Int)):Prop where
 due:St S H fun H'=>RdL H' us (D.map ZiS)
 rows:St S H fun H'=>LLs H' rs R
 lay:St S H fun H'=>TB H' tr (shp D)
end Lv
namespace Lv
open PySem L2
end Lv
namespace Lv
open PySem L2
def les (m x:Int):Int:=if x - m > 0 then x - m else 0
def ZhW (c:List Int) (out:Nat) (m:Int):List Int:=(c.map (les m)).set out m
def Zi8 (a b:List Int):Prop:=a.length=b.length/\∀ j:Nat,a.getD j 0<=b.getD j 0
def Cov (c L:List Int):Prop:=∃ l:List Int,l.Perm (c)/\Zi8 l (L++[0])
end Lv
namespace L2
open PySem PySem.Spec PyProof.Rows PySem.SeqAt
section
variable {X:Cx}
end
end L2
namespace Lv
open PySem L2
def rk (st:List Int):List Int:=st.mergeSort fun a b=>decide (a ≥ b)
def CovL (L r:List Int):Prop:=∀ j,j<L.length->r.getD j 0<=L.getD j 0
instance (L r:List Int):Decidable (CovL L r):=inferInstanceAs (Decidable (∀ j,j<L.length->r.getD j 0<=L.getD j 0))
def big:Int:=1000000000000000000000000000000000000000000000000000000000000
structure Stand (p:Nat) (st:List Int):Prop where
 p2:2<=p
 p7:p<=7
 len:st.length=p+1
 nn:∀ x∈st,0<=x
 le:∀ x∈st,x<=big
 zero:(0:Int)∈st
 pos:∃ x∈st,1<=x
def mxl:List Int->Int
 | []=>0
 | x::r=>if mxl r > x then mxl r else x
structure On (p:Nat) (c:List Int) (n:Nat):Prop where
 len:c.length=p+1
 cov:Cov c (cnt p n)
 nn:∀ x∈c,0<=x
 pos:∃ x∈c,1<=x
end Lv
namespace Lv
open PySem L2
end Lv
namespace Lv
open PySem L2
end Lv
namespace L2
open PySem PySem.Spec PyProof.Rows
section
variable {X:Cx}
end
end L2
namespace Lv
open PySem L2
theorem Zew {K:Yab}:YcT K (.type "list") (["list","tuple"].map YbB)=some true:=by with_unfolding_all rfl
def Zdv:Sp:=fun vs H Q _=>∃ (a:Addr) (xs:List V) (n:Int),vs=[.ref a,.int n]/\H a=some (.tup xs)/\(xs.length:Int)=n/\Q (.bl true) H
end Lv
namespace L2
open PySem PySem.Spec PyProof.Rows PySem.W
abbrev VB:List Value:=[.type "ValueError",.type "Exception",.type "BaseException",.type "object"]
def ZiD (K:Frag) (C:Addr):Bool:=match K.lookup C with
 | some ⟨.type "type",_,.cls cd,sl⟩=>(match cd.mro,sl.toList with
  | .ref D::bm,[_,_,_,_,some (.builtin n),_]=>D == C && (n == "ValueError.__new__" && (!cd.hasDel && (tailIn K VB bm && (nsOkIn K cd.ns && cd.hasDict))))
  | _,_=>false)
 | _=>false
def ZhS (K:Frag) (C fI:Addr):Bool:=ZiD K C && (ZfF K C && (findIn K (.ref C) "__setattr__" == some (some (.builtin "object.__setattr__")) && (findIn K (.ref C) "at" == some none && (isFn K (.ref fI) && (keepIn K (.ref C) && findIn K (.ref C) "__init__" == some (some (.ref fI)))))))
section
variable {prog:Program}{w:World}{A:Around}{E:Value->Shared->Prop}{s:Shared}{K:Frag}{x C fI:Addr}{v:Value}
abbrev newExc (C t:Addr):Obj:={ cls:=.ref C,data:=.fields #[.ref t,.none,.none,.none,.bool false,.none] }
end
end L2
namespace L2
open PySem PySem.Spec PyProof.Rows PySem.W
section
variable {X:Cx}{o value:Expr}{pos pos':Pos}{ta tv:TE}{C fI:Addr}
end
end L2
namespace Lv
open PySem L2 PySem.W
structure ExcTabI (K:Frag) (reel C fI:Addr) (all:List Addr):Prop where
 ok:ZhS K C fI=true
 exm:exmOne K (.ref C) (.ref reel)=some true
 exmS:exmOne K (.ref C) (.ref C)=some true
 isR:kitOne K (.ref C) (.ref reel)=some true
 isV:kitOne K (.ref C) (.type "ValueError")=some true
 one:∀ D∈all,kitOne K (.ref C) (.ref D)=some (D == C)
end Lv
namespace Lv
open PySem L2
def PhOk (c:List Int) (out m:Int):Prop:=(0<=out/\out<(c.length:Int))/\(c.getD out.toNat 0<=0/\(1<=m/\m<=mxl c))
instance (c:List Int) (out m:Int):Decidable (PhOk c out m):=by unfold PhOk;infer_instance
def ZcI:Sp:=fun vs H Q _=>∃ i n:Int,vs=[.int i,.int n]/\Q (.bl (decide (0<=i/\i<n))) H
end Lv
namespace Lv
open PySem L2
def wk:List Int->List (Int × Int)->Nat->Except Nat (List Int)
 | c,[],_=>.ok c
 | c,(o,m)::r,i=>if PhOk c o m then wk (ZhW c o.toNat m) r (i+1) else .error i
def fin (c:List Int) (ps:List (Int × Int)):Except Nat (List Int):=match wk c ps 0 with
 | .ok d=>if 1<d.sum then .error ps.length else .ok d
 | .error i=>.error i
structure Way (c0:List Int) (ps:List (Int × Int)) (i:Nat) (c:List Int):Prop where
 wk:wk c0 ps 0=wk c (ps.drop i) i
 len:c.length=c0.length
 nn:∀ x∈c,0<=x
structure Cts (p:Nat) (c:List Int):Prop where
 len:c.length=p+1
 nn:∀ x∈c,0<=x
 le:∀ x∈c,x<=big
 pos:∃ x∈c,1<=x
end Lv
namespace Lv
open PySem L2
def Zb1:Sp:=fun vs H Q _=>∃ (a:Addr) (xs:List V) (bb:Bool),vs=[.ref a]/\H a=some (if bb then .lst xs else .tup xs)/\∀ H',Same H H'->Q (.bl true) H'
end Lv
namespace Lv
open PySem L2
def srt (xs:List Int):List Int:=xs.mergeSort fun a b=>decide (a<=b)
def rl90 (cs:Rows):List (List Int):=cs.filterMap id
def mrg (cs:Rows):Option (List Int):=if rl90 cs=[] then none else some (srt (rl90 cs).flatten)
def tkA (D:List Rows) (m i:Nat):Rows:=D.filterMap fun r=>(r.take m)[i]?
def phR (D:List Rows) (o m:Nat):List Rows:=(D.map (·.drop m)).set o ((YaL m).map fun i=>mrg (tkA D m i))
def thg (cs:Rows):Int:=((rl90 cs).map fun xs=>(xs.length:Int)).sum
def lns (D:List Rows):List Int:=D.map fun r=>(r.length:Int)
def allT (D:List Rows):List Int:=(rl90 D.flatten).flatten
abbrev refT (T:List Reel):List V:=T.map fun t=>V.ref t.1
def plR:List Rows->List (Int × Int)->List Rows
 | D,[]=>D
 | D,(o,m)::r=>plR (phR D o.toNat m.toNat) r
def rdR:List Rows->List (Int × Int)->List (List Int)
 | _,[]=>[]
 | D,(o,m)::r=>(D.map fun q=>thg (q.take m.toNat))::rdR (phR D o.toNat m.toNat) r
def Pls:List Rows->List (Int × Int)->Prop
 | _,[]=>True
 | D,(o,m)::r=>PhOk (lns D) o m/\Pls (phR D o.toNat m.toNat) r
end Lv
namespace Lv
open PySem L2
def fmJ (p:Int) (L:Nat):Nat:=(((L:Int) - 2) % (p - 1)+2).toNat
def hfF (p:Int):Nat->List Int->Int
 | 0,_=>0
 | k+1,ws=>if ws.length<=1 then 0 else (ws.take (fmJ p ws.length)).sum+hfF p k (srt ((ws.take (fmJ p ws.length)).sum::ws.drop (fmJ p ws.length)))
def hf (p:Int) (ws:List Int):Int:=hfF p ws.length (srt ws)
end Lv
namespace L2
open PySem PySem.Spec PyProof.Rows PySem.SeqAt
section
variable {prog:Program}{w:World}{A:Around}{E:Value->Shared->Prop}{s:Shared}
end
section
variable {X:Cx}{tg:Expr}
end
end L2
namespace L2
open PySem PySem.Spec PyProof.Rows
section
variable {X:Cx}{tg:Expr}
end
end L2
namespace Lv
open PySem L2
inductive Chain (p:Nat):Int->List Int->List (List Int)->Prop
 | one (m x:Int):Chain p m [x] []
 | step (m:Int) (th T rest:List Int) (L:List (List Int)) (h1:th.Perm (T++rest)) (h2:T≠[]) (h3:T.length<=p) (h:Chain p (m+1) (rest++[m]) L):Chain p m th (T::L)
inductive Built (p r:Nat):List (List Int)->List Int->Prop
 | nil:Built p r [] ((YaL r).map fun (i:Nat)=>(i:Int))
 | snoc (L:List (List Int)) (th T rest:List Int) (h:Built p r L th) (h1:th.Perm (T++rest)) (h2:T≠[]) (h3:T.length<=p):Built p r (L++[T]) (rest++[((r+L.length:Nat):Int)])
end Lv
namespace Lv
open PySem L2
theorem cut3 {a b c R:TS}{D:Ends}{σ:L2.St}{H:Hp} (M:L2.St->Hp->Prop) (h1:∀ R':TS,(∀ σ' H',M σ' H'->R' D σ' H')->tSeq a (tSeq b (tSeq c R')) D σ H) (h2:∀ σ' H',M σ' H'->R D σ' H'):tSeq a (tSeq b (tSeq c R)) D σ H:=h1 R h2
def ZdA:Sp:=fun vs H Q _=>∃ (c:Int) (k:Nat),vs=[.int c,.int k]/\k<=1000/\∀ d H',0<=d->Same H H'->Q (.int d) H'
end Lv
namespace L2
open PySem PySem.Spec PyProof.Rows PySem.SeqAt
end L2
namespace Lv
open PySem L2
def upL (ks:List (List Int)):Prop:=ks.Pairwise (fun p q=>lxB q p=false)
def k0 (k:List Int):Int:=k.getD 0 0
def k1 (k:List Int):Int:=k.getD 1 0
inductive JRun (p:Nat):Nat->Int->List (List Int)->Int->List (List Int)->Prop
 | done (m:Nat) (n:Int) (ks:List (List Int)) (h:ks.length<=1):JRun p m n ks 0 []
 | step (m:Nat) (n:Int) (ks ks':List (List Int)) (r:Int) (T:List Int) (L:List (List Int)) (h2:2<=ks.length)
   (hT:T.Perm ((ks.take m).map k1)) (hT2:T.Pairwise (·<=·)) (hk:ks'.Perm (ks.drop m++[[((ks.take m).map k0).sum,n]])) (hs:upL ks')
   (h:JRun p p (n+1) ks' r L):JRun p m n ks (((ks.take m).map k0).sum+r) (T::L)
def lkI (D:List (Int × Int)) (x:Int):Option Int:=(D.find? fun q=>decide (q.1=x)).map (·.2)
def okT (m:Nat) (D:List (Int × Int)) (T:List Int):Prop:=T.length=m/\(∀ x∈T,(lkI D x).isSome=true)/\T.Pairwise (·<·)/\srt (T.map fun x=>(lkI D x).getD 0)=(srt (D.map (·.2))).take T.length
instance (m:Nat) (D:List (Int × Int)) (T:List Int):Decidable (okT m D T):=by unfold okT;infer_instance
end Lv
namespace Lv
open PySem L2
end Lv
namespace Lv
open PySem L2
def pre:Int->List Int->List Int
 | _,[]=>[]
 | s,x::r=>(s+x)::pre (s+x) r
end Lv
namespace L2
open PySem PySem.Spec PyProof.Rows PySem.SeqAt
section
variable {X:Cx}
end
end L2
namespace Lv
open PySem L2
def ZiR (r:List (List Int)) (t:Nat):List Int:=r.getD t []
def S (q:Int) (g:Nat->List Int) (a:List Int):Int:=((YaL a.length).map fun t=>((g t).count q:Int)*a.getD t 0).sum
def pot (q:Int):List (List (List Int))->List (List Int)->Int
 | r::R,a::N=>S q (ZiR r) a+pot q R N
 | _,_=>0
end Lv
namespace Lv
open PySem L2
end Lv
namespace Lv
open PySem L2
end Lv
namespace Lv
open PySem L2
end Lv
namespace L2
open PySem PySem.Spec PyProof.Rows PySem.SeqAt
section
variable {X:Cx}{scope:Scope}{own:List Str}{js fr:List Nat}{elt i1 t1 i2 t2:Expr}{f1 f2:List Expr}{wi wi2:TI}{g1 g2:TG}{tt1 tt2:TT}{te:TE}{pos:Pos}
end
end L2
namespace L2
open PySem PySem.Spec PyProof.Rows PySem.SeqAt
section
variable {b:Bool}{K:Yab}{g2:TG}{tt2:TT}{te:TE}{τ:St}{H6:Hp}{a acc:Addr}{xs:List V}
end
end L2
namespace Lv
open PySem L2
def intW:V->Int
 | .int i=>i
 | _=>0
def kf (H:Hp) (p:Addr):List Int:=match H p with
 | some (.tup vs)=>vs.map intW
 | _=>[]
theorem Ziu {H:Hp}{p:Addr}{k:List Int} (h:H p=some (.tup (k.map V.int))):kf H p=k:=by
 unfold kf;rw[h];show (k.map V.int).map intW=k;rw[List.map_map];exact (Ycv fun _ _=>rfl).trans (List.map_id k)
def TuM (H:Hp) (ps:List Addr) (ks:List (List Int)):Prop:=(∀ p∈ps,∃ k:List Int,k≠[]/\H p=some (.tup (k.map V.int)))/\ps.map (kf H)=ks
theorem TuM.nil {H:Hp}:TuM H [] []:=⟨fun p hp=>(nomatch hp),rfl⟩
theorem TuM.keep {H H':Hp}{ps:List Addr}{ks:List (List Int)} (h:TuM H ps ks) (k:∀ p∈ps,H' p=H p):TuM H' ps ks:=by
 refine⟨fun p hp=>by rw[k p hp];exact h.1 p hp,?_⟩;rw[<- h.2];refine Ycv fun p hp=>?_;unfold kf;rw[k p hp]
theorem TuM.same {H H':Hp}{ps:List Addr}{ks:List (List Int)} (h:TuM H ps ks) (s:Same H H'):TuM H' ps ks:=h.keep fun p hp=>by
 obtain⟨k,_,e⟩:=h.1 p hp;rw[e,s _ _ e]
theorem TuM.at {H:Hp}{ps:List Addr}{ks:List (List Int)} (h:TuM H ps ks) {j:Nat}{p:Addr} (e:ps[j]?=some p):∃ k,ks[j]?=some k/\H p=some (.tup (k.map V.int)):=by
 obtain⟨k,_,e2⟩:=h.1 p (Yav e);exact⟨k,by rw[<- h.2,Yai,e,YdZ,Ziu e2],e2⟩
theorem TuM.len {H:Hp}{ps:List Addr}{ks:List (List Int)} (h:TuM H ps ks):ps.length=ks.length:=by rw[<- h.2,Yad]
end Lv
namespace L2
open PySem PySem.Spec PyProof.Rows PySem.SeqAt
theorem ZcG {K:Yab}{own:List Str}{i k m:Nat} (hi:i<own.length:=by decide) (hk:k<own.length:=by decide) (hm:m<own.length:=by decide):ZgT own (gTup K 2 (ZfD (Zdg i) (ZfD (gTup K 2 (ZfD (Zdg k) (ZfD (Zdg m) gNil))) gNil))):=fun js σ x H Q h=>by
 obtain⟨a,xs,rfl,hq,hl,v,r,rfl,w,r',rfl,⟨b,ys,rfl,hq2,hl2,v2,r2,rfl,w2,r3,rfl,e2,e,h⟩⟩:=h;refine⟨a,_,rfl,hq,hl,v,_,rfl,_,r',rfl,⟨b,_,rfl,hq2,hl2,v2,_,rfl,w2,r3,rfl,e2,e,fun j z e=>?_,h⟩⟩;have hj:j≠i:=by rintro rfl;exact Zby hi e
 have hj':j≠k:=by rintro rfl;exact Zby hk e
 have hj3:j≠m:=by rintro rfl;exact Zby hm e
 rw[Ybr (YbO hj3),Ybr (YbO hj'),Ybr (YbO hj)];exact e
theorem Zd4 (K:Yab) {X:Cx} (hK:X.K=K:=by rfl):IxR X (rIxT K):=by subst hK;exact Zd3
end L2
namespace Lv
open PySem L2
def numV (N:List (List Int)) (k:List Int):Int:=(N.getD (k.getD 0 0).toNat []).getD (k.getD 1 0).toNat 0
def InN (N:List (List Int)) (k:List Int):Prop:=∃ (r p:Nat) (xs:List Int),k=[(r:Int),(p:Int)]/\N[r]?=some xs/\p<xs.length
def ZbQ (N:List (List Int)) (ls:List Int) (ks:List (List Int)):List Int:=Ycm (fun l k=>l*numV N k) ls ks
theorem Zel {N:List (List Int)}{ls:List Int}{ks:List (List Int)}{i:Nat}{l:Int}{k:List Int} (h1:ls[i]?=some l) (h2:ks[i]?=some k):ZbQ N (ls.take (i+1)) (ks.take (i+1))=ZbQ N (ls.take i) (ks.take i)++[l*numV N k]:=by
 have a:=(Yaf.mp h1).1
 have b:=(Yaf.mp h2).1
 unfold ZbQ;rw[Ybd,h1,Ybd,h2,Ycu,Ycu,List.zipWith_append (by rw[Yay,Yay];omega)];rfl
end Lv
namespace L2
open PySem PySem.Spec PyProof.Rows PySem.SeqAt
end L2
namespace Lv
open PySem L2
end Lv
namespace Lv
open PySem L2
end Lv
namespace Lv
open PySem L2
end Lv
namespace Lv
open PySem L2
end Lv
namespace Lv
open PySem L2
end Lv
namespace Lv
open PySem L2
end Lv
namespace Lv
open PySem L2
end Lv
namespace Lv
open PySem L2
end Lv
namespace Lv
open PySem L2
end Lv
namespace Lv
open PySem L2
end Lv
namespace Lv
open PySem L2
section
variable {α:Type}
structure Adds (g:List α->Int):Prop where
 nil:g []=0
 app:∀ a b,g (a++b)=g a+g b
def dt (g:List α->Int):List (List α)->List Int->Int
 | r::rs,n::ns=>n*g r+dt g rs ns
 | _,_=>0
def sg (g:List α->Int) (rs:List (List α)):Int:=(rs.map g).sum
def ptR (g:List α->Int):List (List (List α))->List (List Int)->Int
 | R::RR,W::WW=>dt g R W+ptR g RR WW
 | _,_=>0
def es:List Int->(Nat->Int)->Int
 | [],_=>0
 | n::ns,h=>(n+1)*h 0+es ns fun j=>h (j+1)
end
theorem Zfk {p:Nat} (hp:2<=p) (n:Nat):∃ x r,num p n=x::r/\r.length+1=p/\num p (n+1)=(r.map (x.map (·+1)++·))++[x.map (·+1)]:=by
 obtain⟨x,r,e,hr⟩:=Zfj hp n;refine⟨x,r,e,hr,?_⟩;show ZdM (num p n)=_;rw[e];rfl
end Lv
namespace Lv
open PySem L2
end Lv
namespace Lv
open PySem L2
section
variable {S:List Addr}{H H':Hp}{a w:Addr}
end
end Lv
namespace Lv
open PySem L2
section
variable {α:Type}
def ones (RR:List (List (List α))):List (List Int):=RR.map fun R=>R.map fun _=>1
def tl (g:List α->Int) (RR:List (List (List α))):Int:=(RR.map fun R=>sg g R).sum
end
end Lv
namespace Lv
open PySem L2
def phO (p t:Nat):Int:=((p:Int) - t) % ((p:Int)+1)
end Lv
namespace Lv
open PySem L2
def fill (x y:Int):List Bool:=Yal x.toNat false++Yal y.toNat true
def layB (c v:List Int):List (List Bool):=Ycm (fun x y=>fill (x - y) y) c v
def lay (p n:Nat):List (List Bool):=layB (cnt p (came p n).1) (came p n).2
end Lv
namespace L2
open PySem PySem.Spec PyProof.Rows
end L2
namespace Lv
open PySem L2
def sel (xs:List Int) (bs:List Bool):List Int:=((xs.zip bs).filter (·.2)).map (·.1)
def ZiT (N:List (List Int)) (B:List (List Bool)):List Int:=(Ycm sel N B).flatten
end Lv
namespace Lv
open PySem L2
def opr (D:List Rows):List (List (List Int)):=D.map fun r=>r.map fun c=>c.getD []
def gl (r:List Int):Int:=(r.length:Nat)
def phL (p:Nat):Nat->Nat->List (Int × Int)
 | _,0=>[]
 | t,m+1=>(phO p t,hd p m)::phL p (t+1) m
def SrtD (D:List Rows):Prop:=∀ r∈D,∀ xs:List Int,some xs∈r->xs.Pairwise (·<=·)
def HasR (D:List Rows):Prop:=∃ r∈D,∃ xs:List Int,some xs∈r
def ZiG (o:Int) (s:List Int):Prop:=∃ a:Nat,o=a/\s[a]?=some 0/\∀ (j:Nat) x,s[j]?=some x->j≠a->1<=x
end Lv
namespace L2
open PySem PySem.Spec PyProof.Rows
section
variable {M:Model}{A:Around}{E:Value->Shared->Prop}
end
section
variable {X:Cx}{pins:List (Addr × Obj)}{σ:St}{H H':Hp}{s s':Shared}{scope:Scope}{own:List Str}{js:List Nat}{C:Addr}{fp:List Addr}
structure CompOkK (X:Cx) (scope:Scope) (own:List Str) (js:List Nat):Prop where
 kind:scope.kind=.function
 free:∀ y∈scope.names,y.2=.free->X.env.kindOf y.1=some .cell∨X.env.kindOf y.1=some .free
 names:∀ y∈scope.names,scope.names.lookup y.1=some y.2
 out:∀ j∈js,∃ x,X.N[j]?=some x/\scope.names.lookup x=some .free
end
section
variable {X:Cx}{scope:Scope}{own:List Str}{js:List Nat}{elt iter target:Expr}{ifs:List Expr}{wi:TI}{g:TG}{tt:TT}{te:TE}{pos:Pos}
end
end L2
namespace Lv
open PySem L2
end Lv
namespace Lv
open PySem L2
def fil1:List Bool->List (List Int)->Rows
 | [],_=>[]
 | false::bs,rows=>none::fil1 bs rows
 | true::bs,rows=>some (rows.headD [])::fil1 bs rows.tail
def filB:List (List Bool)->List (List Int)->List Rows
 | [],_=>[]
 | b::B,rows=>fil1 b (rows.take (b.count true))::filB B (rows.drop (b.count true))
def wS (rows:List (List Int)) (ns:List Int):List Int:=Ycm (fun r w=>(r.length:Int)*w) rows ns
structure Pl52 (p n:Nat) (B:List (List Bool)) (rows:List (List Int)):Prop where
 pls:Pls (filB B rows++[[]]) (phL p 0 n)
 left:(plR (filB B rows++[[]]) (phL p 0 n)).flatten=[some (srt rows.flatten)]
 read:((rdR (filB B rows++[[]]) (phL p 0 n)).map List.sum).sum=(wS rows (ZiT (num p n) B)).sum
 out:(∀ b∈B,∀ x∈b,x=true)->(∀ r∈rows,r≠[])->∀ (i:Nat) q s,(phL p 0 n)[i]?=some q->(rdR (filB B rows++[[]]) (phL p 0 n))[i]?=some s->ZiG q.1 s
end Lv
namespace Lv
open PySem L2
theorem ZgE (p n:Nat):((num p n).flatten.length:Int)=tot p n:=by
 unfold tot;rw[<- Zbu];have:∀ N:List (List Int),((N.flatten.length:Nat):Int)=(lens N).sum:=fun N=>by
  induction N with
  | nil=>rfl
  | cons x N ih=>
   unfold lens at *;rw[YbS,Yap,YaK,Ybw];omega
 exact this _
end Lv
namespace Lv
open PySem L2
structure Plcd (N:List (List Int)) (rows:List (List Int)) (ks:List (List Int)) (i:Nat) (D:List Rows):Prop where
 len:D.map YbK=(N++[[]]).map YbK
 free:∀ (r j:Nat) xs,N[r]?=some xs->j<xs.length->[(r:Int),(j:Int)] ∉ ks.take i->∃ row,D[r]?=some row/\row[j]?=some none
 all:(allT D).Perm (rows.take i).flatten
 pt:ptR gl (opr D) (N++[[]])=(ZbQ N ((rows.take i).map fun r=>(r.length:Int)) (ks.take i)).sum
 srt:(∀ r∈rows,r.Pairwise (·<=·))->SrtD D
 has:1<=i->1<=rows.length->HasR D
end Lv
namespace L2
open PySem PySem.Spec PyProof.Rows PySem.SeqAt
end L2
namespace Lv
open PySem L2
theorem Same.sqB {b:Bool}{K:Yab}{H H':Hp}{a:Addr}{xs:List V} (e:Same H H') (h:SqB b K H a xs):SqB b K H' a xs:=by
 cases b with
 | true=>exact e.seq h
 | false=>exact e.tup h
theorem Zdm {b:Bool}{K:Yab}{own:List Str}{js:List Nat}{g:TG}{te:TE}{σ:L2.St}{H1:Hp}{Q:VK}{a:Addr}{xs:List V} (ys:List V) (hq:SqB b K H1 a xs) (hl:xs.length=ys.length) (hlen:xs.length<=20000)
  (hs:∀ (i:Nat) x y,xs[i]?=some x->ys[i]?=some y->∀ H,Same H1 H->∀ R:VK,(∀ H',Same H H'->R y H')->g x (blkσ own js σ) H fun τ H4=>te τ H4 R)
  (hd:∀ acc H,H1 acc=none->Same H1 H->H acc=some (.lst ys)->Q (.ref acc) H):Za6 own js g ZbV te σ (ItlB b K a) H1 Q:=by
 refine ZfN (b:=b) (K:=K) (a:=a) (xs:=xs) (fun acc i H=>Same H1 H/\H acc=some (.lst (ys.take i))) (fun acc h0=>⟨Same.new h0,Zab⟩) (fun acc i H h0 _ z=>?_) ?_ ?_
 ·exact Same.sqB z.1 hq
 ·rintro acc i x H h0 hx ⟨s1,hacc⟩;have hi:=(Yaf.mp hx).1
  have hy:=Yac (l:=ys) (i:=i) (by omega);refine (cast ?_ (hs i x _ hx hy H s1 (fun y H6=>∃ zs,H6 acc=some (.lst zs)/\zs.length<sizeLine/\(i+1<=xs.length/\(Same H1 (upd H6 acc (.lst (zs++[y])))/\upd H6 acc (.lst (zs++[y])) acc=some (.lst (ys.take (i+1)))))) fun H' s'=>?_))
  ·unfold ZbV;simp only[if_true]
  ·refine⟨_,s' _ _ hacc,?_,hi,(s1.trans s').put h0,?_⟩
   ·rw[sizeLine_eq,Yay];omega
   ·rw[Zab,Ybd,hy];simp
 ·rintro acc H h0 ⟨s1,hacc⟩;rw[hl,YaR] at hacc;exact hd acc H h0 s1 hacc
end Lv
namespace Lv
open PySem L2
end Lv
namespace Lv
open PySem L2
structure Bl (H:Hp) (l pl cl rl tg:Addr) (fs cs:List Int) (T:List Reel) (ts:List Int):Prop where
 hl:H l=some (.lst (fs.map V.int))
 hc:H cl=some (.lst (cs.map V.int))
 hr:H rl=some (.lst (refT T))
 ht:H tg=some (.lst (ts.map V.int))
 hN:NRL H T
 hA:∀ x∈adr T,x≠pl/\x≠rl/\x≠tg
structure Dst (l pl cl rl tg:Addr):Prop where
 lp:l≠pl
 lr:l≠rl
 lt:l≠tg
 cp:cl≠pl
 cr:cl≠rl
 ct:cl≠tg
 rp:rl≠pl
 rt:rl≠tg
 tp:tg≠pl
variable {H H':Hp}{l pl cl rl tg:Addr}{fs cs:List Int}{T:List Reel}{ts:List Int}
end Lv
namespace Lv
open PySem L2
section
variable {K:Yab}
end
end Lv
namespace Fw
open PySem L2
def val (ns:List Int) (p:Int):Int:=ns.getD p.toNat 0
def upto (n:Nat):List Int:=(YaL n).map fun (i:Nat)=>(i:Int)
def there (n:Nat) (r:Int) (w:List Int):List Int:=(upto (min n (w.length+r.toNat))).filter fun p=>!w.contains p
def fits (ns w:List Int) (p:Int):Bool:=w.isEmpty || decide (val ns (w.getLast?.getD 0)<=val ns p)
def cand (ns hs w:List Int):List Int:=if (hs.filter (fits ns w)).isEmpty then hs else hs.filter (fits ns w)
def pick (ns:List Int):List Int->Int
 | []=>0
 | b::c=>(b::c).foldl (fun b p=>if val ns p<val ns b then p else b) b
def writ (ns:List Int) (r:Int):Nat->List Int
 | 0=>[]
 | t+1=>writ ns r t++[pick ns (cand ns (there ns.length r (writ ns r t)) (writ ns r t))]
structure Good (n:Nat) (r:Int) (w:List Int):Prop where
 nd:w.Nodup
 lt:∀ q∈w,0<=q/\q<n/\q+1<w.length+r
end Fw
namespace Fw
open PySem L2
end Fw
namespace Fw
open PySem L2
abbrev Key2:=Nat × Int
def nxtK (k:Option Key2) (v:Int):Key2:=match k with | none=>(0,v) | some (r,l)=>(if v<l then r+1 else r,v)
def Zd2:Option Key2->List Int->List Key2
 | _,[]=>[]
 | k,v::vs=>nxtK k v::Zd2 (some (nxtK k v)) vs
def wk (ns:List Int) (r:Int) (t:Nat):List Key2:=Zd2 none ((writ ns r t).map (val ns))
def lk (ns:List Int) (r:Int) (t:Nat):Option Key2:=(wk ns r t).getLast?
structure Holds (n:Nat) (r:Int) (v:List Int):Prop where
 nd:v.Nodup
 lt:∀ (i:Nat) p,v[i]?=some p->0<=p/\p<n/\p<i+r
end Fw
namespace Lv
open PySem L2 Fw
end Lv
namespace L2
open PySem PySem.Spec PyProof.Rows PySem.SeqAt
end L2
namespace Lv
open PySem L2 Fw
structure Rws3 (H0 H:Hp) (l:Addr) (rf:List Addr) (R:List (List Int)):Prop where
 top:H l=some (.lst (rf.map V.ref))
 rows:LLs H rf R
 own:∀ q∈rf,H0 q=none/\q≠l
 nd:rf.Nodup
end Lv
namespace L2
open PySem PySem.Spec PyProof.Rows PySem.SeqAt
section
variable {X:Cx}
end
end L2
namespace Lv
open PySem L2 Fw
structure HoldsP (n:Nat) (r:Int) (ws:List Int):Prop where
 len:ws.length=n
 nd:ws.Nodup
 rg:∀ p∈ws,0<=p/\p<(n:Int)
 bd:∀ (i:Nat) (p:Int),ws[i]?=some p->p<i+r
structure HoldsT (n:Nat) (r:Int) (ws:List Int) (t:Nat):Prop where
 nd:(ws.take t).Nodup
 rg:∀ p∈ws.take t,0<=p/\p<(n:Int)
 bd:∀ (i:Nat) (p:Int),(ws.take t)[i]?=some p->p<i+r
end Lv
namespace Lv
open PySem L2 Fw
end Lv
namespace Lv
open PySem L2 Fw
structure HI (n:Nat) (r:Int) (ly fs:List Int) (c:Nat):Prop where
 pm:(fs++ly).Perm (upto c)
 bd:∀ (i:Nat) (p:Int),fs[i]?=some p->p<i+r
 cn:c=min n (fs.length+r.toNat)
end Lv
namespace Lv
open PySem L2 Fw
end Lv
namespace Lv
open PySem L2 Fw
end Lv
namespace L2
open PySem PySem.Spec PyProof.Rows PySem.SeqAt
section
variable {X:Cx}{tg:Expr}
end
end L2
namespace L2
open PySem PySem.Spec PyProof.Rows
section
variable {own:List Str}{js:List Nat}{g:TG}{tt:TT}{te:TE}{σ:L2.St}{H1:Hp}{Q:VK}
theorem ZfM {b1 b2:Bool}{K:Yab}{a b:Addr}{xs ys:List V} (zs:List V) (hq1:SqB b1 K H1 a xs) (hq2:SqB b2 K H1 b ys) (hl:ys.length<=xs.length) (hz:zs.length=ys.length) (hlen:ys.length<=20000)
  (hs:∀ (i:Nat) x y z,xs[i]?=some x->ys[i]?=some y->zs[i]?=some z->∀ p H,Same H1 H->H p=some (.tup [x,y])->∀ R:VK,(∀ H',Same H H'->R z H')->g (.ref p) (blkσ own js σ) H fun τ H4=>te τ H4 R)
  (hd:∀ acc H,H1 acc=none->Same H1 H->H acc=some (.lst zs)->Q (.ref acc) H):Za6 own js g ZbV te σ (ItzB b1 b2 K a b) H1 Q:=by
 refine ZfL (xs:=xs) (ys:=ys) hl (fun acc i H=>Same H1 H/\H acc=some (.lst (zs.take i))) (fun acc h0=>⟨Same.new h0,Zab⟩) (fun acc i H h0 _ z=>⟨Lv.Same.sqB z.1 hq1,Lv.Same.sqB z.1 hq2⟩) ?_ ?_
 ·rintro acc i x y p H h0 hx hy ⟨s1,hacc⟩ hp;have hi:=(Yaf.mp hy).1
  have hy':=Yac (l:=zs) (i:=i) (by omega);have s2:Same H (upd H p (.tup [x,y])):=Same.new hp;refine (cast ?_ (hs i x y _ hx hy hy' p _ (s1.trans s2) Zab (fun y H6=>∃ zs',H6 acc=some (.lst zs')/\zs'.length<sizeLine/\(i+1<=ys.length/\(Same H1 (upd H6 acc (.lst (zs'++[y])))/\upd H6 acc (.lst (zs'++[y])) acc=some (.lst (zs.take (i+1)))))) fun H' s'=>?_))
  ·unfold ZbV;simp only[if_true]
  ·refine⟨_,s' _ _ (s2 _ _ hacc),?_,hi,((s1.trans s2).trans s').put h0,?_⟩
   ·rw[sizeLine_eq,Yay];omega
   ·rw[Zab,Ybd,hy'];simp
 ·rintro acc H h0 ⟨s1,hacc⟩;rw[<- hz,YaR] at hacc;exact hd acc H h0 s1 hacc
theorem ZfP {lo:Int}{n:Nat} (zs:List V) (hz:zs.length=n) (hlen:n<=20000)
  (hs:∀ i z,i<n->zs[i]?=some z->∀ H,Same H1 H->∀ R:VK,(∀ H',Same H H'->R z H')->g (.int (lo+(i:Nat))) (blkσ own js σ) H fun τ H4=>te τ H4 R)
  (hd:∀ acc H,H1 acc=none->Same H1 H->H acc=some (.lst zs)->Q (.ref acc) H):Za6 own js g ZbV te σ (Itr lo n) H1 Q:=by
 refine ZbJ (fun acc i H=>Same H1 H/\H acc=some (.lst (zs.take i))) (fun acc h0=>⟨Same.new h0,Zab⟩) ?_ fun acc H h0 ⟨s1,hacc⟩=>hd acc H h0 s1 (by rw[hacc,<- hz,YaR]);rintro acc i H h0 hi ⟨s1,hacc⟩;have hy':=Yac (l:=zs) (i:=i) (by omega);refine (cast ?_ (hs i _ hi hy' H s1 (fun y H6=>∃ zs',H6 acc=some (.lst zs')/\zs'.length<sizeLine/\(i+1<=n/\(Same H1 (upd H6 acc (.lst (zs'++[y])))/\upd H6 acc (.lst (zs'++[y])) acc=some (.lst (zs.take (i+1)))))) fun H' s'=>?_))
 ·unfold ZbV;simp only[if_true]
 ·refine⟨_,s' _ _ hacc,?_,hi,(s1.trans s').put h0,?_⟩
  ·rw[sizeLine_eq,Yay];omega
  ·rw[Zab,Ybd,hy'];simp
end
end L2
namespace Lv
open PySem L2
def ZiY (p L:Nat):Nat:=if L=0 then 0 else (L - 1) / p+1
def Zjb (p:Nat) (xs:List Int):List (List Int):=(YaL (ZiY p xs.length)).map fun i=>(xs.drop (i*p)).take p
def Zja (ns:List Int):List Int:=ns.map fun n=>min n ((ns.length:Int) - 1)
end Lv
namespace Lv
open PySem L2
end Lv
namespace Lv
open PySem L2
end Lv
namespace Lv
open PySem L2
def Zi1 (r:List (List Int)):List Int:=r.getLastD []
def wr (L:List (List (List Int))):List Int:=(L.map Zi1).flatten
end Lv
namespace Lv
open PySem L2
theorem Zd9 (xs:List V) (c:Nat):cutV xs none (some (c:Int))=xs.take c:=by
 unfold cutV;show (xs.drop 0).take (HT.sIx xs.length xs.length (some (c:Int)) - 0)=_;rw[HT.sIx_nat,Nat.sub_zero,List.drop_zero];by_cases h:c<=xs.length
 ·rw[Yc8 h]
 ·rw[YcU (by omega),YaR,Ybb (by omega)]
theorem ZgL (xs:List V) (c:Nat):cutV xs (some (c:Int)) none=xs.drop c:=by
 unfold cutV;rw[HT.sIx_nat];show (xs.drop (min c xs.length)).take (xs.length - min c xs.length)=_;by_cases h:c<=xs.length
 ·rw[Yc8 h,Ybb (by simp)]
 ·rw[YcU (by omega),Yea,List.drop_of_length_le (by omega)];simp
end Lv
namespace StT
open PySem PySem.SetTable
def f5 (N x:Nat):Nat:=(x*5+1) % N
def it5 (N:Nat):Nat->Nat->Nat
 | 0,x=>x
 | s+1,x=>it5 N s (f5 N x)
theorem ZcV (N:Nat):∀ (s t x:Nat),it5 N (s+t) x=it5 N t (it5 N s x)
 | 0,t,x=>by rw[Nat.zero_add];rfl
 | s+1,t,x=>by rw[Nat.succ_add];exact ZcV N s t (f5 N x)
def orb (N:Nat):Nat->Nat->Nat->Nat
 | 0,_,acc=>acc
 | s+1,x,acc=>orb N s (f5 N x) (acc ||| (1 <<< x))
theorem Ze5 (N j:Nat):∀ (s x acc:Nat),(orb N s x acc).testBit j=true->acc.testBit j=true∨∃ t,t<s/\it5 N t x=j
 | 0,x,acc,h=>.inl h
 | s+1,x,acc,h=>by
  rcases Ze5 N j s _ _ h with h | ⟨t,ht,e⟩
  ·rw[Nat.testBit_or,Bool.or_eq_true] at h;rcases h with h | h
   ·exact .inl h
   ·refine .inr ⟨0,YdF _,?_⟩;rw[Nat.one_shiftLeft,Nat.testBit_two_pow] at h;exact of_decide_eq_true h
  ·exact .inr ⟨t+1,by omega,e⟩
theorem ZeR {N:Nat} (h1:orb N N 0 0=2 ^ N - 1) (h2:it5 N N 0=0):∀ i j,i<N->j<N->∃ s,s<N/\it5 N s i=j:=by
 have all:∀ j,j<N->∃ s,s<N/\it5 N s 0=j:=fun j hj=>by
  have:(orb N N 0 0).testBit j=true:=by rw[h1,Nat.testBit_two_pow_sub_one];exact decide_eq_true hj
  rcases Ze5 N j N 0 0 this with h | h
  ·simp at h
  ·exact h
 intro i j hi hj;obtain⟨a,ha,ea⟩:=all i hi;obtain⟨b,hb,eb⟩:=all j hj;by_cases hab:a<=b
 ·exact⟨b - a,by omega,by rw[<- ea,<- ZcV,show a+(b - a)=b by omega,eb]⟩
 ·refine⟨N - a+b,by omega,?_⟩;rw[<- ea,<- ZcV,show a+(N - a+b)=N+b by omega,ZcV,h2,eb]
def Msk (m:Nat):Prop:=m=7∨m=31∨m=127∨m=511∨m=2047
theorem Zfo {m:Nat} (h:Msk m):∀ i j,i<m+1->j<m+1->∃ s,s<m+1/\it5 (m+1) s i=j:=by
 rcases h with rfl | rfl | rfl | rfl | rfl
 ·exact ZeR (by decide +kernel) (by decide +kernel)
 ·exact ZeR (by decide +kernel) (by decide +kernel)
 ·exact ZeR (by decide +kernel) (by decide +kernel)
 ·exact ZeR (by decide +kernel) (by decide +kernel)
 ·exact ZeR (by decide +kernel) (by decide +kernel)
def lpI (m:Nat) (h:Int):Nat->Nat × Nat
 | 0=>(bits h % (m+1),bits h)
 | k+1=>leap m (lpI m h k).1 (lpI m h k).2
theorem Zg6 (m:Nat) (h:Int):∀ k,(lpI m h k).2=bits h / 32 ^ k
 | 0=>by simp[lpI]
 | k+1=>by
  show (leap m (lpI m h k).1 (lpI m h k).2).2=_;unfold leap;rw[Zg6 m h k,Ydw,Nat.pow_succ]
theorem ZhV (h:Int):bits h<2 ^ 64:=by
 unfold bits;have h1:=YaT h (show (2 ^ 64:Int)≠0 by decide);have h2:=YaY h (show (0:Int)<2 ^ 64 by decide);omega
theorem ZiZ (m:Nat) (h:Int):∀ k,(lpI m h k).1<m+1
 | 0=>Ydl _ (YdF _)
 | k+1=>Ydl _ (YdF _)
theorem ZhJ (m:Nat) (h:Int) (k:Nat):(lpI m h (12+(k+1))).1=f5 (m+1) (lpI m h (12+k)).1:=by
 show (leap m (lpI m h (12+k)).1 (lpI m h (12+k)).2).1=_;unfold leap f5;have:(lpI m h (12+k)).2 / 32=0:=by
  rw[Zg6,Ydw,<- Nat.pow_succ];refine Nat.div_eq_of_lt (Yaq (ZhV h) ?_);refine Ya4 (show 2 ^ 64<=32 ^ 13 by decide) (Nat.pow_le_pow_right (by decide) (by omega))
 rw[this,YcQ]
theorem Ziq (m:Nat) (h:Int):∀ s k,(lpI m h (12+k+s)).1=it5 (m+1) s (lpI m h (12+k)).1
 | 0,k=>rfl
 | s+1,k=>by
  rw[it5,<- ZhJ,show 12+k+(s+1)=12+(k+1)+s by omega];exact Ziq m h s (k+1)
theorem Zd1 {m:Nat} (hm:Msk m) (h:Int) (j:Nat) (hj:j<m+1):∃ k,k<turns m/\(lpI m h k).1=j:=by
 obtain⟨s,hs,e⟩:=Zfo hm (lpI m h (12+0)).1 j (ZiZ m h _) hj;exact⟨12+s,by unfold turns;omega,by have:=Ziq m h s 0;rw[e] at this;exact this⟩
def adv (m:Nat) (p:Probe):Probe :=
 if p.more > 0 then { p with j:=p.j+1,more:=p.more - 1 } else
 let (i,perturb):=leap m p.i p.perturb
 { p with j:=i,more:=runEnd m i - i,i,perturb }
def pst (m:Nat) (h:Int):Probe:={ j:=bits h % (m+1),more:=runEnd m (bits h % (m+1)) - bits h % (m+1),i:=bits h % (m+1),perturb:=bits h,dummy:=none }
def pth (m:Nat) (h:Int):Nat->Probe
 | 0=>pst m h
 | n+1=>adv m (pth m h n)
theorem Zb3 (m:Nat) (h:Int):∀ n,(pth m h n).dummy=none
 | 0=>rfl
 | n+1=>by
  show (adv m (pth m h n)).dummy=none;unfold adv;split
  ·exact Zb3 m h n
  ·exact Zb3 m h n
def ZeD (m:Nat) (h:Int) (n k:Nat):Prop:=(pth m h n).j=(lpI m h k).1/\(pth m h n).i=(lpI m h k).1/\(pth m h n).perturb=(lpI m h k).2/\(pth m h n).more=runEnd m (lpI m h k).1 - (lpI m h k).1
theorem Zhs (m i:Nat):runEnd m i - i<=9:=by unfold runEnd;split <;> omega
theorem Zd6 {m:Nat}{h:Int}{n k:Nat} (a:ZeD m h n k):∀ q,q<=runEnd m (lpI m h k).1 - (lpI m h k).1->(pth m h (n+q)).j=(lpI m h k).1+q/\(pth m h (n+q)).i=(lpI m h k).1/\(pth m h (n+q)).perturb=(lpI m h k).2/\(pth m h (n+q)).more=runEnd m (lpI m h k).1 - (lpI m h k).1 - q
 | 0,_=>⟨by rw[YcQ,YcQ];exact a.1,a.2.1,a.2.2.1,a.2.2.2⟩
 | q+1,hq=>by
  obtain⟨b1,b2,b3,b4⟩:=Zd6 a q (by omega);have e:pth m h (n+(q+1))=adv m (pth m h (n+q)):=rfl;have hp:(pth m h (n+q)).more > 0:=by omega
  rw[e];unfold adv;rw[if_pos hp];exact⟨by dsimp only;omega,b2,b3,by dsimp only;omega⟩
theorem Zd0 {m:Nat}{h:Int}{n k:Nat} (a:ZeD m h n k):ZeD m h (n+(runEnd m (lpI m h k).1 - (lpI m h k).1)+1) (k+1):=by
 obtain⟨b1,b2,b3,b4⟩:=Zd6 a _ (Yah _);have e:pth m h (n+(runEnd m (lpI m h k).1 - (lpI m h k).1)+1)=adv m (pth m h (n+(runEnd m (lpI m h k).1 - (lpI m h k).1))):=rfl;have hp:¬ (pth m h (n+(runEnd m (lpI m h k).1 - (lpI m h k).1))).more > 0:=by omega
 unfold ZeD;rw[e];unfold adv;rw[if_neg hp,b2,b3];exact⟨rfl,rfl,rfl,rfl⟩
theorem Zhc (m:Nat) (h:Int):∀ k,∃ n,n<=10*k/\ZeD m h n k
 | 0=>⟨0,Yah _,rfl,rfl,rfl,rfl⟩
 | k+1=>by
  obtain⟨n,hn,a⟩:=Zhc m h k;exact⟨_,by have:=Zhs m (lpI m h k).1;omega,Zd0 a⟩
theorem ZhI {m:Nat} (hm:Msk m) (h:Int) (j:Nat) (hj:j<m+1):∃ n,n<10*turns m/\(pth m h n).j=j:=by
 obtain⟨k,hk,e⟩:=Zd1 hm h j hj;obtain⟨n,hn,a⟩:=Zhc m h k;exact⟨n,by omega,a.1.trans e⟩
theorem ZdS {m:Nat} (h:Int):∀ n,(pth m h n).j<m+1/\(pth m h n).j+(pth m h n).more<=m
 | 0=>by
  have:=Ydl (bits h) (show 0<m+1 by omega);show bits h % (m+1)<m+1/\bits h % (m+1)+(runEnd m (bits h % (m+1)) - bits h % (m+1))<=m;unfold runEnd;split <;> omega
 | n+1=>by
  obtain⟨a,b⟩:=ZdS (m:=m) h n;show (adv m (pth m h n)).j<m+1/\(adv m (pth m h n)).j+(adv m (pth m h n)).more<=m;unfold adv;split
  ·dsimp only;omega
  ·have:=Ydl ((pth m h n).i*5+1+(pth m h n).perturb / 32) (show 0<m+1 by omega);dsimp only[leap];unfold runEnd;split <;> omega
end StT
namespace StT
open PySem PySem.SetTable
def Rise (xs:Array Nat):Prop:=xs.toList.Pairwise (·<·)
theorem Rise.lt {xs:Array Nat} (h:Rise xs) {i j:Nat} (hij:i<j) (hj:j<xs.size):xs.getD i 0<xs.getD j 0:=by
 have hi:i<xs.size:=by omega
 have:=List.pairwise_iff_getElem.mp h i j (by simpa using hi) (by simpa using hj) hij;simpa[Ybh,hi,hj] using this
theorem ZcZ {xs:Array Nat} (hr:Rise xs) (j:Nat):∀ (fuel lo hi:Nat),hi - lo<=fuel->lo<=hi->hi<=xs.size->(∀ i,i<lo->xs.getD i 0<j)->(∀ i,hi<=i->i<xs.size->j<=xs.getD i 0) ->
  ∃ r,below.go xs j fuel lo hi=r/\r<=xs.size/\(∀ i,i<r->xs.getD i 0<j)/\∀ i,r<=i->i<xs.size->j<=xs.getD i 0
 | 0,lo,hi,hf,h1,h2,a,b=>⟨lo,rfl,by omega,a,fun i h=>b i (by omega)⟩
 | fuel+1,lo,hi,hf,h1,h2,a,b=>by
  unfold below.go;by_cases hlt:lo<hi
  ·rw[if_pos hlt];dsimp only;by_cases hm:xs.getD ((lo+hi) / 2) j<j
   ·rw[if_pos hm];have hs:(lo+hi) / 2<xs.size:=by omega
    have hm:xs.getD ((lo+hi) / 2) 0<j:=by simpa[Ybh,hs] using hm
    refine ZcZ hr j fuel _ _ (by omega) (by omega) h2 (fun i hi'=>?_) b;by_cases e:i=(lo+hi) / 2
    ·rw[e];exact hm
    ·exact Nat.lt_trans (hr.lt (by omega) hs) hm
   ·rw[if_neg hm];have hs:(lo+hi) / 2<xs.size:=by omega
    have hm:¬ xs.getD ((lo+hi) / 2) 0<j:=by simpa[Ybh,hs] using hm
    refine ZcZ hr j fuel _ _ (by omega) (by omega) (by omega) a (fun i hi' hi2=>?_);by_cases e:i=(lo+hi) / 2
    ·rw[e];omega
    ·have:=hr.lt (show (lo+hi) / 2<i by omega) hi2;omega
  ·rw[if_neg hlt];exact⟨lo,rfl,by omega,a,fun i h=>b i (by omega)⟩
theorem Zbe {xs:Array Nat} (hr:Rise xs) (j:Nat):below xs j<=xs.size/\(∀ i,i<below xs j->xs.getD i 0<j)/\∀ i,below xs j<=i->i<xs.size->j<=xs.getD i 0:=by
 obtain⟨r,e,h⟩:=ZcZ hr j xs.size 0 xs.size (by omega) (by omega) (Yah _) (fun i h=>absurd h (Ybt _)) (fun i h h2=>by omega);unfold below;rw[e];exact h
theorem Zbf {xs:Array Nat} (hr:Rise xs) {i j:Nat} (h:xs[i]?=some j):below xs j=i:=by
 obtain⟨b1,b2,b3⟩:=Zbe hr j;have hi:i<xs.size:=(YaH.mp h).1
 have e:xs.getD i 0=j:=by simp[Ybh,hi];exact (YaH.mp h).2
 rcases Nat.lt_trichotomy (below xs j) i with z | z | z
 ·have:=b3 (below xs j) (Yah _) (by omega);have:=hr.lt z hi;omega
 ·exact z
 ·have:=b2 i z;omega
theorem Zec {xs:Array Nat} (hr:Rise xs) {j:Nat} (h:j∈xs.toList):xs[below xs j]?=some j:=by
 obtain⟨i,hi,e⟩:=Ya3 h;have hx:xs[i]?=some j:=by
  rw[<- YaD,Yac hi,e]
 rw[Zbf hr hx];exact hx
theorem Zc4 {t:SetTable} (hr:Rise t.place) {j i:Nat} (h:t.place[i]?=some j):t.slot j=.live i:=by
 unfold YdX;dsimp only;rw[Zbf hr h,h];simp
theorem Zeg {t:SetTable} (hr:Rise t.place) (hd:t.dummies=#[]) {j:Nat} (h:j ∉ t.place.toList):t.slot j=.empty:=by
 unfold YdX;dsimp only;have:(t.place[below t.place j]? == some j)=false:=by
  refine Bool.eq_false_iff.mpr fun z=>h ?_;have z:=eq_of_beq z;rw[<- YaD] at z;exact Yav z
 rw[this,hd];rfl
theorem Zeh {t:SetTable} (hr:Rise t.place) (hd:t.dummies=#[]) (j:Nat):(j ∉ t.place.toList/\t.slot j=.empty)∨∃ i,t.place[i]?=some j/\t.slot j=.live i:=by
 by_cases h:j∈t.place.toList
 ·exact .inr ⟨_,Zec hr h,Zc4 hr (Zec hr h)⟩
 ·exact .inl ⟨h,Zeg hr hd h⟩
structure Tab (t:SetTable) (es:Array (Int × Value)):Prop where
 msk:Msk t.mask
 rise:Rise t.place
 dm:t.dummies=#[]
 sz:t.place.size=es.size
 few:es.size*5<t.mask*3
 le:∀ j∈t.place.toList,j<=t.mask
 chain:∀ (i:Nat) j e,t.place[i]?=some j->es[i]?=some e->∃ n,(pth t.mask e.1 n).j=j/\∀ m,m<n->(pth t.mask e.1 m).j∈t.place.toList
theorem Tab.msk1 {t:SetTable}{es:Array (Int × Value)} (T:Tab t es):7<=t.mask/\t.mask<=2047:=by
 rcases T.msk with h | h | h | h | h <;> omega
theorem Tab.fits {t:SetTable}{es:Array (Int × Value)} (T:Tab t es):t.fits es.size=true:=by
 have:=T.few;have:=T.msk1;unfold YdY YcW;rw[T.dm,T.sz];simp;omega
theorem Tab.odd {t:SetTable}{es:Array (Int × Value)} (T:Tab t es):t.gaveWay=false:=by
 unfold SetTable.gaveWay;rcases T.msk with h | h | h | h | h <;> rw[h] <;> rfl
theorem Tab.room {t:SetTable}{es:Array (Int × Value)} (T:Tab t es):∃ j,j<t.mask+1/\j ∉ t.place.toList:=by
 refine YbX fun z=>?_;have hall:∀ j,j<t.mask+1->j∈t.place.toList:=fun j hj=>YbX fun y=>z ⟨j,hj,y⟩;have hsub:(YaL (t.mask+1)).length<=t.place.toList.length:=by
  refine List.Nodup.length_le_of_subset Ycd fun j hj=>hall j (YaO.mp hj)
 have:=T.few;have:=T.msk1;rw[Ybs,Yas,T.sz] at hsub;omega
theorem Tab.free {t:SetTable}{es:Array (Int × Value)} (T:Tab t es) (h:Int):∃ n,n<10*turns t.mask/\(pth t.mask h n).j ∉ t.place.toList/\∀ m,m<n->(pth t.mask h m).j∈t.place.toList:=by
 obtain⟨j,hj,hn⟩:=T.room;obtain⟨n0,h0,e0⟩:=ZhI T.msk h j hj;have key:∀ k,(∀ m,m<k->(pth t.mask h m).j∈t.place.toList)∨∃ n,n<k/\(pth t.mask h n).j ∉ t.place.toList/\∀ m,m<n->(pth t.mask h m).j∈t.place.toList:=by
  intro k
  induction k with
  | zero=>exact .inl fun m hm=>absurd hm (Ybt _)
  | succ k ih=>
   rcases ih with h1 | ⟨n,a,b,c⟩
   ·by_cases hk:(pth t.mask h k).j∈t.place.toList
    ·exact .inl fun m hm=>by
      rcases Ybv m k with z | z
      ·exact h1 m z
      ·rw[show m=k by omega];exact hk
    ·exact .inr ⟨k,Ya8 _,hk,h1⟩
   ·exact .inr ⟨n,by omega,b,c⟩
 rcases key (n0+1) with h1 | ⟨n,a,b,c⟩
 ·exact absurd (h1 n0 (Ya8 _)) (by rw[e0];exact hn)
 ·exact⟨n,by omega,b,c⟩
theorem ZdU {t:SetTable} (hr:Rise t.place) (hd:t.dummies=#[]) (ha:Nat->Int) (h:Int) {N:Nat} (hN:(pth t.mask h N).j ∉ t.place.toList) :
  ∀ (fuel n:Nat),n<=N->N<n+fuel->∃ m,n<=m/\m<=N/\(∀ l,n<=l->l<m->∀ i,t.place[i]?=some (pth t.mask h l).j->ha i≠h) /\
   (((pth t.mask h m).j ∉ t.place.toList/\Ybo t ha h fuel (pth t.mask h n)=some (.empty (pth t.mask h m).j none)) ∨
    ∃ i,t.place[i]?=some (pth t.mask h m).j/\ha i=h/\m<N/\Ybo t ha h fuel (pth t.mask h n)=some (.candidate (pth t.mask h m).j i (pth t.mask h (m+1))))
 | 0,n,h1,h2=>by omega
 | fuel+1,n,h1,h2=>by
  rcases Zeh hr hd (pth t.mask h n).j with ⟨hn,e⟩ | ⟨i,hi,e⟩
  ·refine⟨n,Yah _,h1,fun l a b=>by omega,.inl ⟨hn,?_⟩⟩;unfold Ybo;rw[e];dsimp only;rw[Zb3]
  ·have hin:(pth t.mask h n).j∈t.place.toList:=by
    rw[<- YaD] at hi;exact Yav hi
   have hne:n≠N:=fun z=>hN (z ▸ hin);by_cases hh:ha i=h
   ·refine⟨n,Yah _,h1,fun l a b=>by omega,.inr ⟨i,hi,hh,by omega,?_⟩⟩;unfold Ybo;rw[e];dsimp only;rw[if_pos (by simpa using hh)];rfl
   ·obtain⟨m,m1,m2,m3,m4⟩:=ZdU hr hd ha h hN fuel (n+1) (by omega) (by omega);have e2:Ybo t ha h (fuel+1) (pth t.mask h n)=Ybo t ha h fuel (pth t.mask h (n+1)):=by
     conv=>lhs;unfold Ybo
     rw[e];dsimp only;rw[if_neg (by simpa using hh)];rfl
    refine⟨m,by omega,m2,fun l a b i' hi'=>?_,?_⟩
    ·by_cases z:l=n
     ·subst z;have b1:=Zbf hr hi;have b2:=Zbf hr hi';have:i=i':=by omega
      rw[<- this];exact hh
     ·exact m3 l (by omega) b i' hi'
    ·rw[e2];exact m4
end StT
namespace StT
open PySem PySem.SetTable
theorem Zap {α:Type} (xs:Array α) (p:Nat) (x:α):(insertAt xs p x).toList=xs.toList.take p++x::xs.toList.drop p:=by
 unfold insertAt;simp[List.extract_eq_take_drop,Ybb]
theorem Zhd {α β:Type}{a:List α}{b:List β} (h:a.length=b.length) (p:Nat) (x:α) (y:β):∀ q∈(a.take p++x::a.drop p).zip (b.take p++y::b.drop p),q=(x,y)∨q∈a.zip b:=by
 intro q hq;have h1:(a.take p).length=(b.take p).length:=by rw[Yay,Yay,h]
 rw[List.zip_append h1,List.zip_cons_cons,YaA,Yar] at hq;have e:a.zip b=(a.take p).zip (b.take p)++(a.drop p).zip (b.drop p):=by
  rw[<- List.zip_append h1,Ybg,Ybg]
 rw[e,YaA];rcases hq with hq | hq | hq
 ·exact .inr (.inl hq)
 ·exact .inl hq
 ·exact .inr (.inr hq)
theorem Zhf {α β:Type}{a:Array α}{b:Array β}{i:Nat}{x:α}{y:β} (h1:a[i]?=some x) (h2:b[i]?=some y):(x,y)∈a.toList.zip b.toList:=by
 rw[<- YaD] at h1 h2;exact Yav (Yde.mpr ⟨h1,h2⟩)
theorem Zhe {α β:Type}{a:Array α}{b:Array β}{x:α}{y:β} (h:(x,y)∈a.toList.zip b.toList):∃ i:Nat,a[i]?=some x/\b[i]?=some y:=by
 obtain⟨i,hi⟩:=Ydx.mp h;obtain⟨h1,h2⟩:=Yde.mp hi;exact⟨i,by rw[<- YaD];exact h1,by rw[<- YaD];exact h2⟩
theorem ZeV {t:SetTable} (hd:t.dummies=#[]) (j:Nat):t.put j=({ t with place:=insertAt t.place (below t.place j) j },below t.place j):=by
 unfold SetTable.put;dsimp only;rw[hd];have:has #[] j=false:=rfl;rw[this];simp[hd]
theorem Tab.put {t:SetTable}{es:Array (Int × Value)} (T:Tab t es) {h:Int}{x:Value}{n:Nat} (hn:(pth t.mask h n).j ∉ t.place.toList) (hb:∀ m,m<n->(pth t.mask h m).j∈t.place.toList) (hf:¬ (es.size+1)*5 ≥ t.mask*3) :
  Tab (t.put (pth t.mask h n).j).1 (insertAt es (t.put (pth t.mask h n).j).2 (h,x)):=by
 rw[ZeV T.dm];dsimp only;obtain⟨b1,b2,b3⟩:=Zbe T.rise (pth t.mask h n).j;generalize hp:below t.place (pth t.mask h n).j=p at b1 b2 b3 ⊢;have hj:=(ZdS (m:=t.mask) h n).1
 generalize hJ:(pth t.mask h n).j=j at hn b2 b3 hj ⊢;have mem':∀ y,y∈(insertAt t.place p j).toList↔y=j∨y∈t.place.toList:=fun y=>by
  rw[Zap,YaA,Yar]
  conv=>rhs;rw[<- Ybg p t.place.toList,YaA]
  constructor
  ·rintro (h | h | h)
   ·exact .inr (.inl h)
   ·exact .inl h
   ·exact .inr (.inr h)
  ·rintro (h | h | h)
   ·exact .inr (.inl h)
   ·exact .inl h
   ·exact .inr (.inr h)
 have ge:∀ i,i<t.place.size->t.place.getD i 0∈t.place.toList:=fun i hi=>by simp[Ybh,hi]
 refine⟨T.msk,?_,T.dm,?_,?_,?_,?_⟩
 ·show (insertAt t.place p j).toList.Pairwise (·<·);rw[Zap,YdG,YcE];have hr:t.place.toList.Pairwise (·<·):=T.rise;refine⟨hr.take,⟨fun y hy=>?_,hr.drop⟩,fun a ha b hb2=>?_⟩
  ·obtain⟨i,hi,rfl⟩:=Ya3 hy;rw[Ya2,Yas] at hi;have h3:=b3 (p+i) (by omega) (by omega);have h4:=ge (p+i) (by omega);rw[Yd3];have e:t.place.getD (p+i) 0=t.place.toList[p+i]'(by simpa using (show p+i<t.place.size by omega)):=by simp[Ybh,show p+i<t.place.size by omega]
   rw[<- e];refine Nat.lt_of_le_of_ne h3 fun z=>hn ?_;rw[z];exact h4
  ·obtain⟨i,hi,rfl⟩:=Ya3 ha;rw[Yay,Yas] at hi;have h3:=b2 i (by omega);rw[List.getElem_take];have e:t.place.getD i 0=t.place.toList[i]'(by simpa using (show i<t.place.size by omega)):=by simp[Ybh,show i<t.place.size by omega]
   rw[<- e];rcases Yar.mp hb2 with rfl | hb2
   ·exact h3
   ·obtain⟨i2,hi2,rfl⟩:=Ya3 hb2;rw[Ya2,Yas] at hi2;have h5:=b3 (p+i2) (by omega) (by omega);rw[Yd3];have e2:t.place.getD (p+i2) 0=t.place.toList[p+i2]'(by simpa using (show p+i2<t.place.size by omega)):=by simp[Ybh,show p+i2<t.place.size by omega]
    rw[<- e2];omega
 ·have hs:=T.sz;rw[<- Yas,<- Yas,Zap,Zap];simp only[Yap,Ya7,Yay,Ya2,Yas];omega
 ·rw[<- Yas,Zap];have hs:=T.sz;simp only[Yap,Ya7,Yay,Ya2,Yas];show _<t.mask*3;omega
 ·intro y hy;rcases (mem' y).mp hy with rfl | hy
  ·show _<=t.mask;omega
  ·exact T.le y hy
 ·intro i j' e h1 h2;have hz:=Zhf h1 h2;rw[Zap,Zap] at hz;rcases Zhd (show t.place.toList.length=es.toList.length by simpa using T.sz) p j (h,x) _ hz with hz | hz
  ·cases hz;exact⟨n,hJ,fun m hm=>(mem' _).mpr (.inr (hb m hm))⟩
  ·obtain⟨i2,e1,e2⟩:=Zhe hz;obtain⟨n2,a,b⟩:=T.chain i2 j' e e1 e2;exact⟨n2,a,fun m hm=>(mem' _).mpr (.inr (b m hm))⟩
def Occ (ow:Array (Option Nat)) (j:Nat):Prop:=∃ l,ow[j]?=some (some l)
theorem ZfC {ow:Array (Option Nat)}{j:Nat} (hj:j<ow.size):(ow.getD j (some 0)).isNone=true↔ow[j]?=some none:=by
 simp[Ybh,hj]
theorem Zg5 {ow:Array (Option Nat)}{j:Nat} (hj:j<ow.size) (h:¬ (ow.getD j (some 0)).isNone=true):Occ ow j:=by
 rw[ZfC hj] at h
 cases e:ow[j] with
 | none=>exact absurd (by rw[YaB hj,e]) h
 | some l=>exact⟨l,by rw[YaB hj,e]⟩
theorem Zdh {m:Nat}{h:Int}{ow:Array (Option Nat)} (hs:ow.size=m+1) {k':Nat} (hk':ow[(lpI m h k').1]?=some none):∀ (fuel k n:Nat),ZeD m h n k->(∀ l,l<n->Occ ow (pth m h l).j)->k<=k'->k'<k+fuel ->
  ∃ j N,layClean.free m ow fuel (lpI m h k).1 (lpI m h k).2=some j/\(pth m h N).j=j/\ow[j]?=some none/\∀ l,l<N->Occ ow (pth m h l).j
 | 0,k,n,a,b,h1,h2=>by omega
 | fuel+1,k,n,a,b,h1,h2=>by
  unfold layClean.free
  cases e:(YaL (runEnd m (lpI m h k).1+1 - (lpI m h k).1)).find? fun q=>(ow.getD ((lpI m h k).1+q) (some 0)).isNone with
  | some q=>
   obtain⟨q1,q2,q3⟩:=List.find?_range_eq_some.mp e;have q2:=YaO.mp q2;have hle:(lpI m h k).1<=runEnd m (lpI m h k).1:=by unfold runEnd;split <;> omega
   have at_:∀ r,r<=q->(pth m h (n+r)).j=(lpI m h k).1+r:=fun r hr=>(Zd6 a r (by omega)).1
   have bd:∀ r,r<=q->(lpI m h k).1+r<ow.size:=fun r hr=>by
    rw[hs,<- at_ r hr];exact (ZdS (m:=m) h _).1
   refine⟨_,n+q,rfl,at_ q (Yah _),(ZfC (bd q (Yah _))).mp q1,fun l hl=>?_⟩;rcases Ybv l n with z | z
   ·exact b l z
   ·have:=q3 (l - n) (by omega);rw[show l=n+(l - n) by omega,at_ (l - n) (by omega)];exact Zg5 (bd _ (by omega)) fun y=>by rw[y] at this;exact absurd this (by decide)
  | none=>
   have e:=List.find?_range_eq_none.mp e;have hle:(lpI m h k).1<=runEnd m (lpI m h k).1:=by unfold runEnd;split <;> omega
   have occr:∀ r,r<=runEnd m (lpI m h k).1 - (lpI m h k).1->Occ ow (pth m h (n+r)).j:=fun r hr=>by
    have h3:=(Zd6 a r hr).1
    have h4:=(ZdS (m:=m) h (n+r)).1
    have h5:=e r (by omega);rw[h3] at h4 ⊢;exact Zg5 (by omega) fun y=>by rw[y] at h5;exact absurd h5 (by decide)
   have hkk:k≠k':=fun z=>by
    subst z;obtain⟨l,hl⟩:=occr 0 (YaX _);rw[YcQ,a.1,hk'] at hl;cases hl
   exact Zdh hs hk' fuel (k+1) _ (Zd0 a) (fun l hl=>by
    rcases Ybv l n with z | z
    ·exact b l z
    ·rw[show l=n+(l - n) by omega];exact occr (l - n) (by omega)) (by omega) (by omega)
structure Own (m:Nat) (hs:List Int) (ow:Array (Option Nat)):Prop where
 sz:ow.size=m+1
 hit:∀ l:Nat,l<hs.length->∃ j:Nat,ow[j]?=some (some l)
 own:∀ (j l:Nat),ow[j]?=some (some l)->∃ h,hs[l]?=some h/\∃ n,(pth m h n).j=j/\∀ q,q<n->Occ ow (pth m h q).j
 inj:∀ (j j' l:Nat),ow[j]?=some (some l)->ow[j']?=some (some l)->j=j'
theorem Own.start (m:Nat):Own m [] (Array.replicate (m+1) none):=by
 refine⟨by simp,fun l h=>absurd h (Ybt _),fun j l h=>?_,fun j j' l h=>?_⟩
 ·rw[Ydi] at h;split at h <;> simp at h
 ·rw[Ydi] at h;split at h <;> simp at h
theorem Own.room {m:Nat}{hs:List Int}{ow:Array (Option Nat)} (O:Own m hs ow) (hl:hs.length<m+1):∃ j:Nat,j<m+1/\ow[j]?=some none:=by
 refine YbX fun z=>?_;have hall:∀ j:Nat,j<m+1->∃ l:Nat,l<hs.length/\ow[j]?=some (some l):=fun j hj=>by
  have hj':j<ow.size:=by rw[O.sz];exact hj
  cases e:ow[j] with
  | none=>exact absurd ⟨j,hj,by rw[YaB hj',e]⟩ z
  | some l=>
   have e2:ow[j]?=some (some l):=by rw[YaB hj',e]
   obtain⟨h,hh,_⟩:=O.own j l e2;exact⟨l,(Yaf.mp hh).1,e2⟩
 let f:Nat->Nat:=fun j=>((ow.getD j none).getD 0)
 have fv:∀ j:Nat,j<m+1->ow[j]?=some (some (f j))/\f j<hs.length:=fun j hj=>by
  obtain⟨l,hl,e⟩:=hall j hj;have hj':j<ow.size:=by rw[O.sz];exact hj
  have:f j=l:=by
   show (ow.getD j none).getD 0=l;rw[YaB hj'] at e;have e:=Yaz e;simp[Ybh,hj',e]
  rw[this];exact⟨e,hl⟩
 have nd:((YaL (m+1)).map f).Nodup:=by
  rw[Yb3,YbR];refine YcG (fun {a b} ha hb hab z=>hab ?_) Ycd;have h1:=(fv a (YaO.mp ha)).1
  have h2:=(fv b (YaO.mp hb)).1
  rw[<- z] at h2;exact O.inj a b _ h1 h2
 have:=nd.length_le_of_subset (l₂:=YaL hs.length) fun y hy=>by
  obtain⟨j,hj,rfl⟩:=YaN.mp hy;exact YaO.mpr (fv j (YaO.mp hj)).2
 rw[Yad,Ybs,Ybs] at this;omega
theorem Own.step {m:Nat} (hm:Msk m) {hs:List Int}{ow:Array (Option Nat)} (O:Own m hs ow) (hl:hs.length<m+1) (h:Int):∃ j,layClean.free m ow (turns m) (bits h % (m+1)) (bits h)=some j/\Own m (hs++[h]) (ow.setIfInBounds j (some hs.length)):=by
 obtain⟨j0,hj0,e0⟩:=O.room hl;obtain⟨k',hk',ek'⟩:=Zd1 hm h j0 hj0;obtain⟨j,N,f1,f2,f3,f4⟩:=Zdh O.sz (h:=h) (by rw[ek'];exact e0) (turns m) 0 0 ⟨rfl,rfl,rfl,rfl⟩ (fun l hl=>absurd hl (Ybt _)) (YaX _) (by omega);have hjs:j<ow.size:=(YaH.mp f3).1
 refine⟨j,f1,?_⟩;have get:∀ i:Nat,(ow.setIfInBounds j (some hs.length))[i]?=if j=i then some (some hs.length) else ow[i]?:=fun i=>by
  rw[Array.getElem?_setIfInBounds];by_cases z:j=i
  ·subst z;rw[if_pos rfl,if_pos hjs,if_pos rfl]
  ·rw[if_neg z,if_neg z]
 have occ':∀ i,Occ ow i->Occ (ow.setIfInBounds j (some hs.length)) i:=fun i ⟨l,e⟩=>by
  by_cases z:j=i
  ·exact⟨hs.length,by rw[get,if_pos z]⟩
  ·exact⟨l,by rw[get,if_neg z];exact e⟩
 refine⟨by rw[Array.size_setIfInBounds];exact O.sz,fun l hl2=>?_,fun i l hi=>?_,fun i i' l h1 h2=>?_⟩
 ·rw[Yap] at hl2;by_cases z:l=hs.length
  ·exact⟨j,by rw[get,if_pos rfl,z]⟩
  ·obtain⟨i,hi⟩:=O.hit l (by simp at hl2;omega);refine⟨i,?_⟩;rw[get,if_neg fun y=>?_]
   ·exact hi
   ·subst y;rw[f3] at hi;cases hi
 ·rw[get] at hi;by_cases z:j=i
  ·rw[if_pos z] at hi;cases hi;exact⟨h,by simp,N,by rw[f2,z],fun q hq=>occ' _ (f4 q hq)⟩
  ·rw[if_neg z] at hi;obtain⟨h',hh,n,a,b⟩:=O.own i l hi;refine⟨h',?_,n,a,fun q hq=>occ' _ (b q hq)⟩;rw[YaP (Yaf.mp hh).1];exact hh
 ·have lt:∀ i:Nat,ow[i]?=some (some l)->l<hs.length:=fun i hi=>by
   obtain⟨h',hh,_⟩:=O.own i l hi;exact (Yaf.mp hh).1
  rw[get] at h1 h2;by_cases z:j=i
  ·rw[if_pos z] at h1;cases h1;by_cases z2:j=i'
   ·exact z.symm.trans z2
   ·rw[if_neg z2] at h2;exact absurd (lt _ h2) (Ya6 _)
  ·rw[if_neg z] at h1;by_cases z2:j=i'
   ·rw[if_pos z2] at h2;cases h2;exact absurd (lt _ h1) (Ya6 _)
   ·rw[if_neg z2] at h2;exact O.inj i i' l h1 h2
theorem Zb8 {m:Nat} (hm:Msk m):∀ (rest hs:List Int) (ow:Array (Option Nat)),Own m hs ow->hs.length+rest.length<m+1 ->
  ∃ ow',(rest.foldl (fun acc h=>do
    let __x <- acc
    match __x with
     | (owner,k)=>do
      let j <- layClean.free m owner (turns m) (bits h % (m+1)) (bits h)
      pure (owner.setIfInBounds j (some k),k+1)) (some (ow,hs.length)))=some (ow',hs.length+rest.length)/\Own m (hs++rest) ow'
 | [],hs,ow,O,h=>⟨ow,rfl,by rw[Yc2];exact O⟩
 | x::rest,hs,ow,O,h=>by
  rw[Ya7] at h;obtain⟨j,f,O'⟩:=O.step hm (by omega) x;obtain⟨ow',e,O2⟩:=Zb8 hm rest (hs++[x]) _ O' (by rw[Yap];simp;omega);refine⟨ow',?_,by simpa using O2⟩;rw[List.foldl_cons];have:(do
    let __x <- (some (ow,hs.length):Option (Array (Option Nat) × Nat))
    match __x with
     | (owner,k)=>do
      let j <- layClean.free m owner (turns m) (bits x % (m+1)) (bits x)
      pure (owner.setIfInBounds j (some k),k+1))=some (ow.setIfInBounds j (some hs.length),(hs++[x]).length):=by
   show (layClean.free m ow (turns m) (bits x % (m+1)) (bits x) >>= fun j=>pure (ow.setIfInBounds j (some hs.length),hs.length+1))=_;rw[f];simp
  rw[this,e];simp;omega
theorem ZgN {m:Nat} (hm:Msk m) {hashes:Array Int} (hl:hashes.size<m+1):∃ ow,layClean m hashes=some ow/\Own m hashes.toList ow:=by
 obtain⟨ow,e,O⟩:=Zb8 hm hashes.toList [] _ (Own.start m) (by simpa using hl);refine⟨ow,?_,by simpa using O⟩;unfold layClean;rw[<- Array.foldl_toList];have e':=e;rw[List.length_nil] at e';rw[e'];rfl
end StT
namespace StT
open PySem PySem.SetTable
theorem Zbj {α β:Type}{f:α->Option β}{g:α->β}:∀ {l:List α},(∀ x∈l,f x=some (g x))->l.filterMap f=l.map g
 | [],_=>rfl
 | x::l,h=>by rw[Ybn,h x YaV,YaK,Zbj fun y hy=>h y (YaM _ hy)]
def ZaK (m:Nat) (ow:Array (Option Nat)):List (Nat × Nat):=(YaL (m+1)).filterMap fun j=>(ow.getD j none).map fun x=>(j,x)
theorem Za5 {m:Nat}{hs:List Int}{ow:Array (Option Nat)} (O:Own m hs ow) (j l:Nat):(j,l)∈ZaK m ow↔ow[j]?=some (some l):=by
 unfold ZaK;rw[YcF];constructor
 ·rintro⟨i,hi,e⟩;have hi:=YaO.mp hi;have hi':i<ow.size:=by rw[O.sz];exact hi
  cases q:ow[i] with
  | none=>simp[Ybh,hi',q] at e
  | some x=>
   simp[Ybh,hi',q] at e;obtain⟨rfl,rfl⟩:=e;rw[YaB hi',q]
 ·intro h;have hi:j<ow.size:=(YaH.mp h).1
  refine⟨j,YaO.mpr (by rw[<- O.sz];exact hi),?_⟩;have:ow[j]=some l:=(YaH.mp h).2
  simp[Ybh,hi,this]
theorem Zdc {m:Nat}{ow:Array (Option Nat)}:(ZaK m ow).Pairwise fun a b=>a.1<b.1:=by
 refine List.Pairwise.filterMap _ (fun a b hab x hx y hy=>?_) (List.pairwise_lt_range (n:=m+1))
 cases ha:ow.getD a none with
 | none=>rw[ha] at hx;simp at hx
 | some u=>
  cases hb:ow.getD b none with
  | none=>rw[hb] at hy;simp at hy
  | some v=>
   rw[ha] at hx;rw[hb] at hy;simp at hx hy;rw[<- hx,<- hy];exact hab
theorem Zfr {m:Nat}{hs:List Int}{ow:Array (Option Nat)} (O:Own m hs ow):((ZaK m ow).map (·.2)).Perm (YaL hs.length):=by
 refine (Yc9 ?_ Ycd).mpr fun l=>?_
 ·rw[Yb3,YbR];refine YcG (fun {a b} ha hb hab z=>?_) (Zdc (m:=m) (ow:=ow));have h1:=(Za5 O a.1 a.2).mp ha;have h2:=(Za5 O b.1 b.2).mp hb;rw[<- z] at h2;have:=O.inj a.1 b.1 _ h1 h2;omega
 ·rw[YaO];constructor
  ·intro h;obtain⟨q,hq,rfl⟩:=YaN.mp h;obtain⟨h',hh,_⟩:=O.own q.1 q.2 ((Za5 O q.1 q.2).mp hq);exact (Yaf.mp hh).1
  ·intro h;obtain⟨j,hj⟩:=O.hit l h;exact YaN.mpr ⟨(j,l),(Za5 O j l).mpr hj,rfl⟩
theorem ZhK {m fi mv:Nat}{led pl:Bool} (hm:Msk m) {es:Array (Int × Value)} (hf:es.size*5<m*3) :
  ∃ t' order,laid m fi mv led pl (es.map (·.1))=some (t',order)/\t'.led=led/\t'.plain=pl/\(order.filterMap (es[·]?)).size=es.size/\Tab t' (order.filterMap (es[·]?))/\(order.filterMap (es[·]?)).toList.Perm es.toList:=by
 have hml:7<=m:=by rcases hm with h | h | h | h | h <;> omega
 obtain⟨ow,e,O⟩:=ZgN hm (hashes:=es.map (·.1)) (by rw[Array.size_map];omega);have hlen:((es.map (·.1)).toList).length=es.size:=by simp
 have hperm:=Zfr O;rw[hlen] at hperm;have hlt:∀ q∈ZaK m ow,q.2<es.size:=fun q hq=>by
  have:=hperm.mem_iff.mp (YaN.mpr ⟨q,hq,rfl⟩);exact YaO.mp this
 have eo:((((ZaK m ow).map (·.2)).toArray).filterMap (es[·]?)).toList=(ZaK m ow).map fun q=>es.getD q.2 default:=by
  rw[Array.toList_filterMap];show ((ZaK m ow).map (·.2)).filterMap (es[·]?)=_;rw[Yb5];refine Zbj fun q hq=>?_;have:=hlt q hq;show es[q.2]?=some (es.getD q.2 default);simp[Ybh,this]
 have esz:((((ZaK m ow).map (·.2)).toArray).filterMap (es[·]?)).size=es.size:=by
  rw[<- Yas,eo,Yad];have:=hperm.length_eq
  rwa [Yad,Ybs] at this
 refine⟨{ mask:=m,place:=((ZaK m ow).map (·.1)).toArray,dummies:=#[],finger:=fi,led:=led,moves:=mv,plain:=pl },((ZaK m ow).map (·.2)).toArray,?_,rfl,rfl,esz,?_,?_⟩
 ·unfold laid;rw[e];rfl
 ·have pl':((ZaK m ow).map (·.1)).toArray.toList=(ZaK m ow).map (·.1):=rfl;have occ_in:∀ j,Occ ow j->j∈(ZaK m ow).map (·.1):=fun j ⟨l,hl⟩=>YaN.mpr ⟨(j,l),(Za5 O j l).mpr hl,rfl⟩;refine⟨hm,?_,rfl,?_,?_,?_,?_⟩
  ·show ((ZaK m ow).map (·.1)).Pairwise (·<·);rw[YbR];exact Zdc
  ·show ((ZaK m ow).map (·.1)).toArray.size=_;rw[esz];have:=hperm.length_eq;rw[Yad,Ybs] at this;simp[this]
  ·rw[esz];exact hf
  ·intro j hj;obtain⟨q,hq,rfl⟩:=YaN.mp (show j∈(ZaK m ow).map (·.1) from hj);have:=(YaH.mp ((Za5 O q.1 q.2).mp hq)).1
   rw[O.sz] at this;show q.1<=m;omega
  ·intro i j x h1 h2;have h1':((ZaK m ow).map (·.1))[i]?=some j:=by
    rw[<- YaD] at h1;exact h1
   rw[<- YaD,eo,Yai] at h2;rw[Yai] at h1'
   cases hq:(ZaK m ow)[i]? with
   | none=>rw[hq] at h1';cases h1'
   | some q=>
    rw[hq] at h1' h2;cases h1';cases h2;have hqm:=Yav hq;obtain⟨h',hh,n,a,b⟩:=O.own q.1 q.2 ((Za5 O q.1 q.2).mp hqm);have hq2:=hlt q hqm;have eh:(es.getD q.2 default).1=h':=by
     have:(es.map (·.1)).toList[q.2]?=some (es.getD q.2 default).1:=by simp[Ybh,hq2]
     rw[hh] at this;exact (Yaz this).symm
    rw[eh];exact⟨n,a,fun r hr=>occ_in _ (b r hr)⟩
 ·rw[eo];have h1:((YaL es.size).map fun l=>es.getD l default)=es.toList:=by
   refine Yd9 (by simp) fun i h1 h2=>?_;have:i<es.size:=by simpa using h1
   simp[Ybh,this]
  have h2:=hperm.map fun l=>es.getD l default;rw[List.map_map,h1] at h2;exact h2
theorem ZhO {m n:Nat} (hm:Msk m) (h:n*5<m*3) (h4:n<=500) (hf:(n+1)*5 ≥ m*3):Msk (sizeAbove (grown (n+1)) - 1)/\(n+1)*5<(sizeAbove (grown (n+1)) - 1)*3/\sizeAbove (grown (n+1))<=4096:=by
 rcases hm with rfl | rfl | rfl | rfl | rfl
 ·obtain rfl:n=4:=by omega
  exact⟨.inr (.inl rfl),by decide,by decide⟩
 ·obtain rfl:n=18:=by omega
  exact⟨.inr (.inr (.inl rfl)),by decide,by decide⟩
 ·obtain rfl:n=76:=by omega
  exact⟨.inr (.inr (.inr (.inl rfl))),by decide,by decide⟩
 ·obtain rfl:n=306:=by omega
  exact⟨.inr (.inr (.inr (.inr rfl))),by decide +kernel,by decide +kernel⟩
 ·omega
end StT
namespace StT
open PySem PySem.SetTable PySem.Spec
section
variable {prog:Program}{w:World}{A:Around}{E:Value->Shared->Prop}{s:Shared}
abbrev TKey (prog:Program) (w:World) (h:Heap) (k:List Int) (b:Addr):Prop:=IsTupleKey (intKind prog w) h k b
abbrev Zan (prog:Program) (w:World) (k:List Int):Int:=tupleKeyHash (intKind prog w) k
theorem ZfS (n:Nat) (i:Int) (t:Tok):ofAClassStatement n (.int i t)=pure false:=by cases n <;> rfl
theorem Zc1 {ks:List Int}{vs:List Value} (h:ItemsAre (intKind prog w) ks vs):∀ v∈vs,∃ i t,v=.int i t:=by
 induction h with
 | nil=>intro v hv;simp at hv
 | @cons k v' ks vs h1 _ ih=>
  intro v hv;rcases Yar.mp hv with rfl | hv
  ·cases v with
   | int i t=>exact⟨i,t,rfl⟩
   | _=>exact absurd h1 (by intro z;cases z)
  ·exact ih v hv
theorem Zce {k:List Int}{b:Addr}{Q:Bool->Shared->Prop} (hk:TKey prog w s.heap k b) (h:Q false s):wpAny (model prog w) A (ofAClassStatement 8 (.ref b)) Q E s:=by
 have hT:=hk.typeIs;obtain⟨o,items,n,ho,_,hd,hi⟩:=hk;have hii:=Zc1 hi;unfold ofAClassStatement;refine wpAny_bind (wpAny_typeOf hT ?_);show wpAny _ _ ((if ("tuple" == "tuple")=true then pure true else isSubtype (.type "tuple") (.type "tuple")) >>= _) _ _ s;rw[if_pos (by decide)];refine wpAny_bind (wpAny_pure ?_);simp only[Ycb,YaG,if_false];refine wpAny_bind (wpAny_seqItems ho hd ?_);show wpAny _ _ (forIn items _ _ >>= _) _ _ s;rw[<- YdP];refine wpAny_bind (wpAny_forIn_list _ (fun rest r s'=>r.1=none/\s'=s/\∀ v∈rest,∃ i t,v=.int i t) _ ?_ ?_ _ _ ⟨rfl,rfl,hii⟩)
 ·rintro v rest r s' ⟨hr,rfl,hall⟩;obtain⟨i,t,rfl⟩:=hall v YaV;rw[ZfS];refine wpAny_bind (wpAny_pure ?_);simp only[YaG,if_false];exact wpAny_pure ⟨rfl,rfl,fun u hu=>hall u (YaM _ hu)⟩
 ·rintro⟨r1,r2⟩ s' ⟨hr,rfl,_⟩;simp only at hr;subst hr;exact wpAny_pure h
theorem ZgG {k0:List Int}{b0:Addr}{ys:List Value}{Q:Bool->Shared->Prop} (h0:TKey prog w s.heap k0 b0) (hy:∀ y∈ys,∃ k b,y=.ref b/\TKey prog w s.heap k b) (h:Q false s) :
  wpAny (model prog w) A (searchCouldBeSeen (.ref b0) ys) Q E s:=by
 unfold searchCouldBeSeen;refine wpAny_bind (wpAny_forIn_list _ (fun rest r s'=>r.1=none/\s'=s/\∀ y∈rest,∃ k b,y=.ref b/\TKey prog w s.heap k b) _ ?_ ?_ _ _ ⟨rfl,rfl,hy⟩)
 ·rintro y rest r s' ⟨hr,rfl,hall⟩;obtain⟨k,b,rfl,hk⟩:=hall y YaV;have hn:r.1=none/\s'=s'/\∀ y∈rest,∃ k b,y=.ref b/\TKey prog w s'.heap k b:=⟨hr,rfl,fun u hu=>hall u (YaM _ hu)⟩
  dsimp only;split
  ·exact wpAny_pure ⟨rfl,hn.2⟩
  ·refine wpAny_bind (wpAny_eqIsQuiet_tuple h0 ?_);simp only[Ycb,YaG,if_false];refine wpAny_bind (wpAny_eqIsQuiet_tuple hk ?_);simp only[Ycb,YaG,if_false];refine wpAny_bind (Zce h0 ?_);simp only[YaG,if_false];refine wpAny_bind (Zce hk ?_);simp only[YaG,if_false];exact wpAny_pure ⟨rfl,hn.2⟩
 ·rintro⟨r1,r2⟩ s' ⟨hr,rfl,_⟩;simp only at hr;subst hr;exact wpAny_pure h
theorem ZhN (n:Nat) (i:Int) (t:Tok):hashByValue n (.int i t)=pure true:=by cases n <;> rfl
theorem ZgP {k:List Int}{b:Addr}{Q:Bool->Shared->Prop} (hk:TKey prog w s.heap k b) (h:Q true s):wpAny (model prog w) A (hashByValue 8 (.ref b)) Q E s:=by
 have hT:=hk.typeIs;obtain⟨o,items,n,ho,_,hd,hi⟩:=hk;have hii:=Zc1 hi;unfold hashByValue;refine wpAny_bind (wpAny_specialOf hT F.slot_tuple_hash.lookup ?_);show wpAny _ _ (seqItems? (.ref b) >>= _) _ _ s;refine wpAny_bind (wpAny_seqItems ho hd ?_);show wpAny _ _ (forIn items _ _ >>= _) _ _ s;rw[<- YdP];refine wpAny_bind (wpAny_forIn_list _ (fun rest r s'=>r.1=none/\s'=s/\∀ v∈rest,∃ i t,v=.int i t) _ ?_ ?_ _ _ ⟨rfl,rfl,hii⟩)
 ·rintro v rest r s' ⟨hr,rfl,hall⟩;obtain⟨i,t,rfl⟩:=hall v YaV;rw[ZhN];refine wpAny_bind (wpAny_pure ?_);simp only[Ycb,YaG,if_false];exact wpAny_pure ⟨rfl,rfl,fun u hu=>hall u (YaM _ hu)⟩
 ·rintro⟨r1,r2⟩ s' ⟨hr,rfl,_⟩;simp only at hr;subst hr;exact wpAny_pure h
end
end StT
namespace StT
open PySem PySem.SetTable PySem.Spec
def hAt (es:Array (Int × Value)) (i:Nat):Int:=(es[i]?.map (·.1)).getD 0
theorem Zga (a:Addr) (x:Value) (h:Int) (adding:Bool) (fuel:Nat) (stand:Option Probe):setSearchFrom a x h adding (fuel+1) stand=(do
  let (es,_,t) <- setState a
  if t.gaveWay then unsupported "set:on-a-table-that-gave-way"
  let some met:=t.probe (hAt es) h (stand.getD (t.probeStart h)) | unsupported "internal:set-table-without-an-empty-slot"
  match met with
  | .empty j dummy=>
   match dummy with
   | none=>return .free j false
   | some d=>
    if adding && t.slot d != .dummy then rule "set.search.the-dummy-was-taken";return <- setSearchFrom a x h adding fuel none
    return .free d true
  | .candidate j i next=>
   if !t.led then
    if <- searchCouldBeSeen x ((es.filter (·.1 == h)).toList.map (·.2)) then unsupported "set:the-search-would-show-the-table"
   let some (_,y):=es[i]? | unsupported "internal:set-entry"
   let equal <- holding [y] (eqBool y x)
   let (es',_,t') <- setState a
   if adding && equal then return .there none
   let some same:=t'.sameMemory t.moves t.mask | unsupported "set.changed-during-lookup:is-the-new-block-at-the-old-address"
   let still <- match (if same then t'.slot j else .empty) with
    | .live i'=>match es'[i']? with
     | some (_,y')=>do pure (if <- isSame y' y then some i' else none)
     | none=>pure none
    | _=>pure none
   match still with
   | none=>rule "set.search.anew";setSearchFrom a x h adding fuel none
   | some i'=>if equal then return .there (some i') else setSearchFrom a x h adding fuel (some next)):=rfl
structure Held (prog:Program) (w:World) (h:Heap) (es:Array (Int × Value)) (L:List (List Int × Addr)):Prop where
 es:es.toList=L.map fun q=>(Zan prog w q.1,YaC q.2)
 key:∀ q∈L,TKey prog w h q.1 q.2
theorem Held.get {prog:Program}{w:World}{h:Heap}{es:Array (Int × Value)}{L:List (List Int × Addr)} (X:Held prog w h es L) {i:Nat}{e:Int × Value} (he:es[i]?=some e):∃ q,L[i]?=some q/\e=(Zan prog w q.1,YaC q.2)/\TKey prog w h q.1 q.2:=by
 rw[<- YaD,X.es,Yai] at he
 cases hq:L[i]? with
 | none=>rw[hq] at he;cases he
 | some q=>rw[hq] at he;exact⟨q,rfl,(Yaz he).symm,X.key q (Yav hq)⟩
theorem Held.at {prog:Program}{w:World}{h:Heap}{es:Array (Int × Value)}{L:List (List Int × Addr)} (X:Held prog w h es L) {i:Nat}{q:List Int × Addr} (hq:L[i]?=some q):es[i]?=some (Zan prog w q.1,YaC q.2):=by
 rw[<- YaD,X.es,Yai,hq];rfl
section
variable {prog:Program}{w:World}{A:Around}{E:Value->Shared->Prop}{s:Shared}
theorem Zg1 {a:Addr}{o:Obj}{es:Array (Int × Value)}{ep:Nat}{t:SetTable}{L:List (List Int × Addr)}{k0:List Int}{b0:Addr} (hu:A.units<cLine)
  (ho:s.heap.get? a=some o) (hd:o.data=.set es ep t) (T:Tab t es) (X:Held prog w s.heap es L) (h0:TKey prog w s.heap k0 b0) {N:Nat} (hN:(pth t.mask (Zan prog w k0) N).j ∉ t.place.toList) (hb:∀ m,m<N->(pth t.mask (Zan prog w k0) m).j∈t.place.toList) (hlt:N<10*turns t.mask) {Q:SetFound->Shared->Prop}
  (qA:(∀ q∈L,q.1≠k0)->Q (.free (pth t.mask (Zan prog w k0) N).j false) s) (qB:(∃ q∈L,q.1=k0)->Q (.there none) s) :
  ∀ (fuel n:Nat) (stand:Option Probe),stand.getD (t.probeStart (Zan prog w k0))=pth t.mask (Zan prog w k0) n->n<=N->N - n<fuel->(∀ l,l<n->∀ (i:Nat) q,t.place[i]?=some (pth t.mask (Zan prog w k0) l).j->L[i]?=some q->q.1≠k0) ->
   wpAny (model prog w) A (setSearchFrom a (.ref b0) (Zan prog w k0) true fuel stand) Q E s
 | 0,n,stand,_,_,hf,_=>by omega
 | fuel+1,n,stand,hst,hnN,hf,hinv=>by
  rw[Zga];refine wpAny_bind (wpAny_setState_of ho hd T.fits ?_);dsimp only;rw[T.odd];simp only[YaG,if_false];rw[hst];obtain⟨m,m1,m2,m3,m4⟩:=ZdU T.rise T.dm (hAt es) (Zan prog w k0) hN (10*turns t.mask) n hnN (by omega);have at_:∀ (i:Nat) j,t.place[i]?=some j->∃ q,L[i]?=some q/\hAt es i=Zan prog w q.1/\es[i]?=some (Zan prog w q.1,YaC q.2)/\TKey prog w s.heap q.1 q.2:=fun i j hi=>by
   have hil:i<es.size:=by rw[<- T.sz];exact (YaH.mp hi).1
   obtain⟨q,hq,e,hk⟩:=X.get (YaB hil);refine⟨q,hq,?_,?_,hk⟩
   ·unfold hAt;rw[YaB hil,e];rfl
   ·rw[YaB hil,e]
  have hinv2:∀ l,l<m->∀ (i:Nat) q,t.place[i]?=some (pth t.mask (Zan prog w k0) l).j->L[i]?=some q->q.1≠k0:=fun l hl i q hi hq=>by
   rcases Ybv l n with z | z
   ·exact hinv l z i q hi hq
   ·intro e;obtain⟨q',hq',hh,_⟩:=at_ i _ hi;rw[hq] at hq';cases hq';exact m3 l z hl i hi (by rw[hh,e])
  unfold SetTable.probe;rcases m4 with ⟨hn,e⟩ | ⟨i,hi,hh,hmN,e⟩
  ·rw[e];dsimp only;have hmN:m=N:=by
    rcases Ybv m N with z | z
    ·exact absurd (hb m z) hn
    ·omega
   subst hmN;refine wpAny_pure (qA fun q hq e=>?_);obtain⟨i,hi⟩:=Ydx.mp hq;have hes:=X.at hi;have hil:i<t.place.size:=by rw[T.sz];exact (YaH.mp hes).1
   have hpl:=YaB hil;obtain⟨n2,c1,c2⟩:=T.chain i _ _ hpl hes;dsimp only at c1 c2;rw[e] at c1 c2;have hn2:n2<m:=by
    rcases Ybv n2 m with z | z
    ·exact z
    ·rcases Ybv m n2 with y | y
     ·exact absurd (c2 m y) hn
     ·have:n2=m:=by omega
      subst this;exact absurd (show (pth t.mask (Zan prog w k0) n2).j∈t.place.toList by rw[c1];simp) hn
   exact hinv2 n2 hn2 i q (by rw[hpl,c1]) hi e
  ·rw[e];dsimp only;obtain⟨q,hq,_,hes,hk⟩:=at_ i _ hi;have main:wpAny (model prog w) A (do
     let some (_,y):=es[i]? | unsupported "internal:set-entry"
     let equal <- holding [y] (eqBool y (.ref b0))
     let (es',_,t') <- setState a
     if true && equal then return YdR none
     let some same:=t'.sameMemory t.moves t.mask | unsupported "set.changed-during-lookup:is-the-new-block-at-the-old-address"
     let still <- match (if same then t'.slot (pth t.mask (Zan prog w k0) m).j else .empty) with
      | .live i'=>match es'[i']? with
       | some (_,y')=>do pure (if <- isSame y' y then some i' else none)
       | none=>pure none
      | _=>pure none
     match still with
     | none=>rule "set.search.anew";setSearchFrom a (.ref b0) (Zan prog w k0) true fuel none
     | some i'=>if equal then return YdR (some i') else setSearchFrom a (.ref b0) (Zan prog w k0) true fuel (some (pth t.mask (Zan prog w k0) (m+1)))) Q E s:=by
    rw[hes];dsimp only;refine wpAny_bind (wpAny_holding (wpAny_eqBool_tuple hu hk h0 ?_));refine wpAny_bind (wpAny_setState_of ho hd T.fits ?_);dsimp only;by_cases hkk:q.1=k0
    ·rw[decide_eq_true hkk];simp only[Bool.and_self,if_true];exact wpAny_pure (qB ⟨q,Yav hq,hkk⟩)
    ·rw[decide_eq_false hkk];simp only[Bool.and_false,YaG,if_false];have hsm:t.sameMemory t.moves t.mask=some true:=by unfold SetTable.sameMemory;simp
     rw[hsm];dsimp only;rw[if_pos rfl,Zc4 T.rise hi];dsimp only;rw[hes];dsimp only;have hsame:isSame (.ref q.2) (.ref q.2)=pure true:=by unfold isSame;simp
     rw[hsame];refine wpAny_bind (wpAny_bind (wpAny_pure (wpAny_pure ?_)));simp only[if_true];refine Zg1 hu ho hd T X h0 hN hb hlt qA qB fuel (m+1) _ rfl (by omega) (by omega) fun l hl i' q' hi' hq'=>?_;rcases Ybv l m with z | z
     ·exact hinv2 l z i' q' hi' hq'
     ·have:l=m:=by omega
      subst this;have b1:=Zbf T.rise hi;have b2:=Zbf T.rise hi';have:i=i':=by omega
      subst this;rw[hq] at hq';cases hq';exact hkk
   by_cases hl:t.led=true
   ·rw[hl];simp only[Ycb,YaG,if_false];exact main
   ·have hl:t.led=false:=by simpa using hl
    rw[hl];simp only[Bool.not_false,if_true];refine wpAny_bind (ZgG h0 (fun y hy=>?_) ?_)
    ·obtain⟨e',he',rfl⟩:=YaN.mp hy;have he':e'∈es.toList:=by
      have:=Ycq.mp he';exact Ycq.mpr (Array.mem_filter.mp this).1
     rw[X.es] at he';obtain⟨q',hq',rfl⟩:=YaN.mp he';exact⟨q'.1,q'.2,rfl,X.key q' hq'⟩
    ·simp only[YaG,if_false];exact main
end
end StT
namespace StT
open PySem PySem.SetTable PySem.Spec
def Zib (es:Array (Int × Value)) (laid:Option (SetTable × Array Nat)):Sem (Array (Int × Value) × SetTable):=do
 let some (t,order):=laid | unsupported "internal:set-table-without-room"
 let es':=order.filterMap (es[·]?)
 if es'.size != es.size then unsupported "internal:set-table-lost-an-element"
 pure (es',t)
theorem Zgh (a:Addr) (wanted:Nat):setRelay a wanted=(do
  let (es,_,t) <- setState a
  if SetTable.sizeAbove wanted > sizeLine then unsupported "set:memory"
  let (es,t) <- Zib es (t.relaid (es.map (·.1)) wanted)
  storeSet a es t):=rfl
def SetT (prog:Program) (w:World) (h:Heap) (a:Addr) (L:List (List Int × Addr)):Prop :=
 ∃ o es ep t,h.get? a=some o/\o.ExactSet/\o.data=.set es ep t/\Tab t es/\Held prog w h es L/\(L.map (·.1)).Nodup
section
variable {prog:Program}{w:World}{A:Around}{E:Value->Shared->Prop}{s:Shared}
theorem ZeJ {h h':Heap}{k:List Int}{b a:Addr}{o:Obj}{es:Array (Int × Value)}{ep:Nat}{t:SetTable} (x:TKey prog w h k b) (ho:h.get? a=some o) (hd:o.data=.set es ep t) (hs:YbM a h h'):TKey prog w h' k b:=by
 obtain⟨o',items,n,ho',hc,hd',hi⟩:=x;have hne:b≠a:=by
  rintro rfl;obtain rfl:o'=o:=Yaz (ho'.symm.trans ho);rw[hd] at hd';exact nomatch hd'
 exact⟨o',items,n,(hs.2 b hne).trans ho',hc,hd',hi⟩
theorem ZgZ {h:Heap}{a:Addr}{o:Obj}{es:Array (Int × Value)}{ep:Nat}{t:SetTable} (ho:h.get? a=some o) (hd:o.data=.set es ep t) (es':Array (Int × Value)) (t':SetTable) :
  (h.update a (Ydk es' t')).get? a=some { o with data:=.set es' (ep+1) t' }:=by
 have:=Ycn (Ydk es' t') ho (by rw[putSet_of es' t' hd];rfl);rw[putSet_of es' t' hd] at this;exact this
theorem ZfB {h:Heap}{es es':Array (Int × Value)}{L:List (List Int × Addr)} (X:Held prog w h es L) (p:es'.toList.Perm es.toList):∃ L',Held prog w h es' L'/\L'.Perm L:=by
  rw[X.es] at p;obtain⟨L',e,hp⟩:∃ L':List (List Int × Addr),es'.toList=L'.map (fun q=>(Zan prog w q.1,YaC q.2))/\L'.Perm L:=by
    generalize es'.toList=l at p;clear X;have aux:∀ {l m:List (Int × Value)},l.Perm m->∀ L:List (List Int × Addr),m=L.map (fun q=>(Zan prog w q.1,YaC q.2))->∃ L':List (List Int × Addr),l=L'.map (fun q=>(Zan prog w q.1,YaC q.2))/\L'.Perm L:=by
      intro l m h
      induction h with
      | nil=>intro L e;cases L with
        | nil=>exact⟨[],rfl,List.Perm.refl _⟩
        | cons _ _=>cases e
      | cons x _ ih=>intro L e;cases L with
        | nil=>cases e
        | cons q L=>
          rw[YaK] at e;obtain⟨e1,e2⟩:=Ycp e;obtain⟨L',a,b⟩:=ih L e2;exact⟨q::L',by rw[YaK,e1,a],b.cons q⟩
      | swap x y l=>intro L e;cases L with
        | nil=>cases e
        | cons q L=>cases L with
          | nil=>cases e
          | cons r L=>
            rw[YaK,YaK] at e;obtain⟨e1,e2⟩:=Ycp e;obtain⟨e3,e4⟩:=Ycp e2;exact⟨r::q::L,by rw[YaK,YaK,e1,e3,e4],YdO _ _ _⟩
      | trans _ _ ih1 ih2 => intro L e
                             obtain⟨L2,a,b⟩:=ih2 L e;obtain⟨L1,c,d⟩:=ih1 L2 a;exact⟨L1,c,d.trans b⟩
    exact aux p L rfl
  exact⟨L',⟨e,fun q hq=>X.key q (hp.mem_iff.mp hq)⟩,hp⟩
theorem ZgJ {h:Heap}{es:Array (Int × Value)}{L:List (List Int × Addr)}{k0:List Int}{b0:Addr} (X:Held prog w h es L) (h0:TKey prog w h k0 b0) (p:Nat):Held prog w h (insertAt es p (Zan prog w k0,.ref b0)) (L.take p++(k0,b0)::L.drop p):=by
 refine⟨?_,fun q hq=>?_⟩
 ·rw[Zap,X.es,Yax,YaK,Ydm,Ydn]
 ·rcases YaA.mp hq with hq | hq
  ·exact X.key q (Ycs hq)
  ·rcases Yar.mp hq with rfl | hq
   ·exact h0
   ·exact X.key q (YdH hq)
theorem Zdf {h h':Heap}{a:Addr}{o:Obj}{es es2:Array (Int × Value)}{ep:Nat}{t:SetTable}{L:List (List Int × Addr)} (X:Held prog w h es2 L) (ho:h.get? a=some o) (hd:o.data=.set es ep t) (hs:YbM a h h'):Held prog w h' es2 L :=
 ⟨X.es,fun q hq=>ZeJ (X.key q hq) ho hd hs⟩
theorem ZeC {a:Addr}{L:List (List Int × Addr)}{k0:List Int}{b0:Addr} (hu:A.units<cLine) (S:SetT prog w s.heap a L) (h0:TKey prog w s.heap k0 b0) (h5:L.length<=500) {Q:Bool->Shared->Prop}
  (h:∀ c h' L',YbM a s.heap h'->SetT prog w h' a L'->(∀ k,k∈L'.map (·.1)↔k∈L.map (·.1)∨k=k0)->L'.length<=L.length+1->(∀ q∈L',q∈L∨q=(k0,b0))->Q c { s with heap:=h' }) :
  wpAny (model prog w) A (setAddHashed a (.ref b0) (Zan prog w k0)) Q E s:=by
 obtain⟨o,es,ep,t,ho,hex,hd,T,X,nd⟩:=S;have hsz:es.size=L.length:=by rw[<- Yas,X.es,Yad]
 unfold setAddHashed;refine wpAny_holding ?_;show wpAny _ _ (setAddHashedIn a (.ref b0) (Zan prog w k0) (99999+1)) _ _ _;unfold setAddHashedIn;refine wpAny_bind (wpAny_setState_of ho hd T.fits ?_);dsimp only;have hscan:byScan (.ref b0) es=false:=by unfold byScan Value.scannable;simp
 rw[hscan];simp only[YaG,if_false];obtain⟨N,n1,n2,n3⟩:=T.free (Zan prog w k0);refine wpAny_bind ?_;show wpAny _ _ (setSearchFrom a (.ref b0) (Zan prog w k0) true 100000 none) _ _ _;refine Zg1 hu ho hd T X h0 n2 n3 n1 (fun hnew=>?_) (fun hold=>?_) 100000 0 none rfl (YaX _) (by have:=T.msk1;unfold turns at n1;omega) (fun l hl=>absurd hl (Ybt _))
 ·dsimp only;refine wpAny_bind (wpAny_setState_of ho hd T.fits ?_);dsimp only;have ndk:k0 ∉ L.map (·.1):=fun z=>by
   obtain⟨q,hq,e⟩:=YaN.mp z;exact hnew q hq e
  have X1:=ZgJ X h0 (t.put (pth t.mask (Zan prog w k0) N).j).2;generalize hp:(t.put (pth t.mask (Zan prog w k0) N).j).2=p at X1;have nd1:((L.take p++(k0,b0)::L.drop p).map (·.1)).Nodup:=by
   rw[Yax,YaK];have e:L.map (·.1)=(L.take p).map (·.1)++(L.drop p).map (·.1):=by rw[<- Yax,Ybg]
   rw[e] at nd ndk;obtain⟨d1,d2,d3⟩:=YcN.mp nd;rw[YaA,not_or] at ndk;refine YcN.mpr ⟨d1,YbY.mpr ⟨ndk.2,d2⟩,fun x hx y hy=>?_⟩;rcases Yar.mp hy with rfl | hy
   ·exact fun z=>ndk.1 (z ▸ hx)
   ·exact d3 x hx y hy
  have mem1:∀ k,k∈(L.take p++(k0,b0)::L.drop p).map (·.1)↔k∈L.map (·.1)∨k=k0:=fun k=>by
   have e:L.map (·.1)=(L.take p).map (·.1)++(L.drop p).map (·.1):=by rw[<- Yax,Ybg]
   rw[e,Yax,YaK,YaA,Yar,YaA];constructor
   ·rintro (h | h | h)
    ·exact .inl (.inl h)
    ·exact .inr h
    ·exact .inl (.inr h)
   ·rintro ((h | h) | h)
    ·exact .inl h
    ·exact .inr (.inr h)
    ·exact .inr (.inl h)
  have in1:∀ q∈L.take p++(k0,b0)::L.drop p,q∈L∨q=(k0,b0):=fun q hq=>by
   rcases YaA.mp hq with hq | hq
   ·exact .inl (Ycs hq)
   ·rcases Yar.mp hq with hq | hq
    ·exact .inr hq
    ·exact .inl (YdH hq)
  have len1:(L.take p++(k0,b0)::L.drop p).length=L.length+1:=by
   rw[Yap,Ya7,Yay,Ya2];omega
  have hm:=T.msk1;have esz:(insertAt es p (Zan prog w k0,YaC b0)).size=es.size+1:=by
   rw[<- Yas,X1.es,Yad,len1,hsz]
  have fin:∀ pl:Bool,wpAny (model prog w) A (do
    storeSet a (insertAt es p (Zan prog w k0,YaC b0)) { (t.put (pth t.mask (Zan prog w k0) N).j).1 with plain:=pl }
    if (!false && ({ (t.put (pth t.mask (Zan prog w k0) N).j).1 with plain:=pl }:SetTable).tooFull)=true then do
     setRelay a (grown (es.size+1))
     pure true
    else pure true) Q E s:=fun pl=>by
   rw[ZeV T.dm];dsimp only;refine wpAny_bind (wpAny_storeSet_of ho hd ?_ (by rw[esz];have:=T.few;rw[sizeLine_eq];omega));have hsb1:=YbT s.heap a (Ydk (insertAt es p (Zan prog w k0,YaC b0)) { t with place:=insertAt t.place (below t.place (pth t.mask (Zan prog w k0) N).j) (pth t.mask (Zan prog w k0) N).j,plain:=pl });have hg1:=ZgZ ho hd (insertAt es p (Zan prog w k0,YaC b0)) { t with place:=insertAt t.place (below t.place (pth t.mask (Zan prog w k0) N).j) (pth t.mask (Zan prog w k0) N).j,plain:=pl };have hfl:({ t with place:=insertAt t.place (below t.place (pth t.mask (Zan prog w k0) N).j) (pth t.mask (Zan prog w k0) N).j,plain:=pl }:SetTable).tooFull=decide ((es.size+1)*5 ≥ t.mask*3):=by
    unfold SetTable.tooFull YcW;dsimp only;have hpz:(insertAt t.place (below t.place (pth t.mask (Zan prog w k0) N).j) (pth t.mask (Zan prog w k0) N).j).size=es.size+1:=by
     rw[<- Yas,Zap,Yap,Ya7,Yay,Ya2,Yas,T.sz];have:=(Zbe T.rise (pth t.mask (Zan prog w k0) N).j).1
     rw[T.sz] at this;omega
    rw[hpz,T.dm];rfl
   rw[hfl];simp only[Bool.not_false,Bool.true_and];by_cases hfull:(es.size+1)*5 ≥ t.mask*3
   ·rw[if_pos (decide_eq_true hfull)];obtain⟨g1,g2,g3⟩:=ZhO T.msk T.few (by omega) hfull;have sz1:=esz;refine wpAny_bind ?_;rw[Zgh];refine wpAny_bind (wpAny_setState_of hg1 rfl ?_ ?_)
    ·unfold YdY YcW;dsimp only;have hpz:(insertAt t.place (below t.place (pth t.mask (Zan prog w k0) N).j) (pth t.mask (Zan prog w k0) N).j).size=es.size+1:=by
      rw[<- Yas,Zap,Yap,Ya7,Yay,Ya2,Yas,T.sz];have:=(Zbe T.rise (pth t.mask (Zan prog w k0) N).j).1
      rw[T.sz] at this;omega
     rw[hpz,T.dm,esz];have:=T.few;simp;omega
    dsimp only;rw[if_neg (by rw[sizeLine_eq];omega)];obtain⟨t',order,e1,_,_,e2,T',e3⟩:=ZhK (fi:=t.finger) (mv:=({ t with place:=insertAt t.place (below t.place (pth t.mask (Zan prog w k0) N).j) (pth t.mask (Zan prog w k0) N).j,plain:=pl }:SetTable).movedTo (sizeAbove (grown (es.size+1)) - 1)) (led:=t.led) (pl:=pl) g1 (es:=insertAt es p (Zan prog w k0,YaC b0)) (by rw[esz];exact g2);unfold SetTable.relaid;dsimp only;rw[e1];unfold Zib;dsimp only;have:((order.filterMap ((insertAt es p (Zan prog w k0,YaC b0))[·]?)).size != (insertAt es p (Zan prog w k0,YaC b0)).size)=false:=by simp[e2]
    rw[this];simp only[YaG,if_false];refine wpAny_bind (wpAny_pure ?_);dsimp only;refine wpAny_storeSet_of hg1 rfl ?_ (by rw[e2,esz];have:=T.few;rw[sizeLine_eq];omega);have hg2:=ZgZ hg1 rfl (order.filterMap ((insertAt es p (Zan prog w k0,YaC b0))[·]?)) t';have hsb2:=hsb1.trans (YbT _ a (Ydk (order.filterMap ((insertAt es p (Zan prog w k0,YaC b0))[·]?)) t'));obtain⟨L2,X2,p2⟩:=ZfB X1 e3;refine wpAny_pure (h true _ L2 hsb2 ⟨_,_,_,_,hg2,hex,rfl,T',Zdf X2 ho hd hsb2,?_⟩ (fun k=>?_) (by rw[p2.length_eq,len1];exact Yah _) fun q hq=>in1 q (p2.mem_iff.mp hq))
    ·exact (p2.map (·.1)).nodup_iff.mpr nd1
    ·rw[(p2.map (·.1)).mem_iff];exact mem1 k
   ·rw[if_neg (by simpa using hfull)];have Tp:=T.put n2 n3 (x:=YaC b0) hfull;rw[hp,ZeV T.dm] at Tp;dsimp only at Tp;refine wpAny_pure (h true _ _ hsb1 ⟨_,_,_,_,hg1,hex,rfl,⟨Tp.msk,Tp.rise,Tp.dm,Tp.sz,Tp.few,Tp.le,Tp.chain⟩,Zdf X1 ho hd hsb1,nd1⟩ mem1 (by rw[len1];exact Yah _) in1)
  have plain_eta:∀ x:SetTable,({ x with plain:=x.plain }:SetTable)=x:=fun x=>rfl;by_cases hpl:(t.put (pth t.mask (Zan prog w k0) N).j).1.plain=true
  ·rw[if_pos hpl];refine wpAny_bind (ZgP h0 ?_);simp only[if_true];exact fin (t.put (pth t.mask (Zan prog w k0) N).j).1.plain
  ·rw[if_neg hpl];refine wpAny_bind (wpAny_pure ?_);simp only[if_true];exact fin (t.put (pth t.mask (Zan prog w k0) N).j).1.plain
 ·dsimp only;refine wpAny_pure ?_;have e:s={ s with heap:=s.heap }:=by cases s;rfl
  rw[e];refine h false s.heap L (Heap.SameBut.refl a s.heap) ⟨o,es,ep,t,ho,hex,hd,T,X,nd⟩ (fun k=>⟨.inl,fun z=>z.elim id fun e=>?_⟩) (YdT _) fun q hq=>.inl hq;obtain⟨q,hq,e2⟩:=hold;rw[e,<- e2];exact YaN.mpr ⟨q,hq,rfl⟩
end
end StT
namespace StT
open PySem PySem.SetTable PySem.Spec PyProof.Rows
section
variable {prog:Program}{w:World}{A:Around}{E:Value->Shared->Prop}{s:Shared}
theorem Za7 {h h':Heap}{k:List Int}{b:Addr} (x:TKey prog w h k b) (e:∀ o,h.get? b=some o->h'.get? b=some o):TKey prog w h' k b:=by
 obtain⟨o,items,n,ho,r⟩:=x;exact⟨o,items,n,e _ ho,r⟩
theorem Zc6 {h h':Heap}{a:Addr}{L:List (List Int × Addr)} (S:SetT prog w h a L) (e:∀ o,h.get? a=some o->h'.get? a=some o) (k:∀ q∈L,∀ o,h.get? q.2=some o->h'.get? q.2=some o):SetT prog w h' a L:=by
 obtain⟨o,es,ep,t,ho,hex,hd,T,X,nd⟩:=S;exact⟨o,es,ep,t,e _ ho,hex,hd,T,⟨X.es,fun q hq=>Za7 (X.key q hq) (k q hq)⟩,nd⟩
def Keys (key:Nat->List Int) (adr:Nat->Addr) (i:Nat) (L:List (List Int × Addr)):Prop:=(∀ k,k∈L.map (·.1)↔∃ j,j<i/\key j=k)/\L.length<=i/\∀ q∈L,∃ j,q.2=adr j/\j<i
theorem Zir {R:Result->Shared->Prop}{I:Addr}{fp wr:List Addr}{G:Array GenState->Array GenState->Prop}{n:Nat}{P:Nat->Value->Prop}{St:Nat->Shared->Prop}
  (hu:A.in1.units<cLine) (W:WalksS prog w A.in1 I fp wr G n P St) (S:Addr) (hSf:S ∉ fp) (key:Nat->List Int) (adr:Nat->Addr) (hval:∀ i v,P i v->v=.ref (adr i)) (hadr:∀ i,i<n->adr i ∉ fp/\adr i≠S) (hb:n<=500) :
  ∀ (k i:Nat) (s:Shared) (L:List (List Int × Addr)),n - i=k->i<=n->St i s->SetT prog w s.heap S L->Keys key adr i L->(∀ j,j<n->TKey prog w s.heap (key j) (adr j)) ->
   (∀ s' L',Moved (S::wr) G s s'->SetT prog w s'.heap S L'->Keys key adr n L'->R (.ok (.ret .none)) s') ->
   codeAny (model prog w) A (.builtin "set.update.loop" ⟨[.ref S,.ref I],[]⟩) R s:=by
 have hSw:S ∉ wr:=fun h=>hSf (W.sub _ h);have hsub:∀ b∈wr,b∈S::wr:=fun b hb=>YaM _ hb;have haw:∀ i,i<n->adr i ∉ wr:=fun i hi h=>(hadr i hi).1 (W.sub _ h)
 intro k
 induction k with
 | zero=>
  intro i s L hk hi hst hS hK hT hR;have hin:i=n:=by omega
  subst hin;refine codeAny_builtin F.entry_set_update_loop ?_;rw[Yds F.plain_set_update_loop _];show wpAny _ A.in1 (pyNext (.ref I) >>= _) _ _ s;refine wpAny_bind (W.done s _ _ hst fun s' hm=>?_);show wpAny _ A.in1 (ret Ybq) _ _ s';exact wpAny_pure (hR s' L (hm.mono hsub) (Zc6 hS (fun o e=>hm.heap S _ hSw e) fun q hq o e=>by
   obtain⟨j,e1,hj⟩:=hK.2.2 q hq;rw[e1] at e ⊢;exact hm.heap _ _ (haw j hj) e) hK)
 | succ k ih=>
  intro i s L hk hi hst hS hK hT hR;have hlt:i<n:=by omega
  refine codeAny_builtin F.entry_set_update_loop ?_;rw[Yds F.plain_set_update_loop _];show wpAny _ A.in1 (pyNext (.ref I) >>= _) _ _ s;refine wpAny_bind (W.item i s _ _ hlt hst fun v s' hP hst' hm=>?_);obtain rfl:=hval i v hP;have hS':SetT prog w s'.heap S L:=Zc6 hS (fun o e=>hm.heap S _ hSw e) fun q hq o e=>by
   obtain⟨j,e1,hj⟩:=hK.2.2 q hq;rw[e1] at e ⊢;exact hm.heap _ _ (haw j (by omega)) e
  have hT':∀ j,j<n->TKey prog w s'.heap (key j) (adr j):=fun j hj=>Za7 (hT j hj) fun o e=>hm.heap _ _ (haw j hj) e;show wpAny _ A.in1 (holding [YaC (adr i)] (setAdd S (.ref (adr i))) >>= _) _ _ s';refine wpAny_bind (wpAny_holding ?_);unfold setAdd;refine wpAny_holding ?_;refine wpAny_bind (wpAny_pyHash_tuple hu (hT' i hlt) ?_);refine ZeC (s:={ s' with toks:=s'.toks+((key i).length+1) }) hu hS' (hT' i hlt) (by have:=hK.2.1;omega) fun c h' L' hsb hS2 hmem hlen hin=>?_;have hT2:∀ j,j<n->TKey prog w h' (key j) (adr j):=fun j hj=>Za7 (hT' j hj) fun o e=>by rw[hsb.2 _ (hadr j hj).2];exact e
  have hK2:Keys key adr (i+1) L':=by
   refine⟨fun k=>?_,by have:=hK.2.1;omega,fun q hq=>?_⟩
   ·rw[hmem,hK.1];constructor
    ·rintro (⟨j,hj,e⟩ | e)
     ·exact⟨j,by omega,e⟩
     ·exact⟨i,by omega,e.symm⟩
    ·rintro⟨j,hj,e⟩;by_cases z:j=i
     ·subst z;exact .inr e.symm
     ·exact .inl ⟨j,by omega,e⟩
   ·rcases hin q hq with hq | rfl
    ·obtain⟨j,e1,hj⟩:=hK.2.2 q hq;exact⟨j,e1,by omega⟩
    ·exact⟨i,rfl,Ya8 _⟩
  refine wpAny_pure ⟨plainId_quiet F.plain_set_update_loop _,ih (i+1) _ L' (by omega) hlt (W.frame _ s' _ _ hst' (YbW _ _) fun b hb o e=>?_) hS2 hK2 hT2 fun s'' L'' hm'' hS'' hK''=>?_⟩
  ·rw[hsb.2 b (fun h:b=S=>hSf (by rw[<- h];exact hb))];exact e
  ·refine hR s'' L'' (Moved.trans W.gtrans ((hm.mono hsub).then_heap (YbW _ _) fun b o hb e=>?_) hm'') hS'' hK'';rw[hsb.2 b (fun h:b=S=>hb (by rw[h];exact YaV))];exact e
end
end StT
namespace StT
open PySem PySem.SetTable PySem.Spec PyProof.Rows
theorem Zcg:isSubtype (.type "tuple") (.type "set")=pure false:=by rw[isSubtype_type];kernel_rfl
theorem Zbg:isSubtype (.type "tuple") (.type "frozenset")=pure false:=by rw[isSubtype_type];kernel_rfl
section
variable {prog:Program}{w:World}{A:Around}{E:Value->Shared->Prop}{s:Shared}
theorem Zck {l:Addr}{items:Array Value}{ks:List (List Int)}{bs:List Addr}{Q:Value->Shared->Prop}
  (hu:A.units+8<cLine) (hh:A.handled=none) (hl:s.heap.IsList l items) (hi:items.toList=bs.map YaC) (hlen:bs.length=ks.length) (h5:ks.length<=500)
  (hk:∀ (i:Nat) b k,bs[i]?=some b->ks[i]?=some k->TKey prog w s.heap k b)
  (h:∀ (h':Heap) (tk:Nat) (L:List (List Int × Addr)),SetT prog w h' s.heap.objs.size L->(∀ k,k∈L.map (·.1)↔k∈ks) ->
   (∀ b o,b<s.heap.objs.size->s.heap.get? b=some o->h'.get? b=some o)->Q (.ref s.heap.objs.size) { s with heap:=h',toks:=tk }) :
  wpAny (model prog w) A (call (.type "set") [.ref l]) Q E s:=by
 obtain⟨c,tl,hmro⟩:=F.called_set.mro;have hmade:=F.called_set.made;have hsub:=F.called_set.sub;refine wpAny_call (codeAny_of_tree ?_);show wpAny _ _ (callAny (.type "set") _) _ _ _;refine wpAny_pure ⟨YdW _ (by decide +kernel),codeAny_builtin F.entry_type_call ?_⟩;rw[YdJ (weight_type_call_type "set" [.ref l] []) rfl];have h1:=F.called_set.notType;have h2:=F.called_set.canCreate;have hct:=F.typeCall_set_1 (.ref l)
 repeat (any_goals (first | assumption | wp_step))
 refine codeAny_mono (code_set_new_1 (.ref l) (E:=E) (Q₁:=fun obj s₁=>∃ led:Bool,obj=.ref s.heap.objs.size/\s₁={ s with heap:=s.heap.push { cls:=.type "set",dict:=none,data:=.set #[] 0 (.fresh 0 0 led) } }) fun led=>⟨led,rfl,rfl⟩) fun r s₁ hr=>?_
 cases r with
 | error e=>exact hr
 | ok fl=>
  cases fl with
  | ret obj=>
   obtain⟨led,rfl,rfl⟩:=hr;have hS:(s.heap.push { cls:=.type "set",dict:=none,data:=.set #[] 0 (.fresh 0 0 led) }).get? s.heap.objs.size=some { cls:=.type "set",dict:=none,data:=.set #[] 0 (.fresh 0 0 led) }:=Yam _ rfl;have hT:Shared.TypeIs { s with heap:=s.heap.push { cls:=.type "set",dict:=none,data:=.set #[] 0 (.fresh 0 0 led) } } (.ref s.heap.objs.size) "set":=⟨_,hS,rfl⟩
   have hli:=F.called_set.init.lookup;have hbi:=F.called_set.init.bind (.ref s.heap.objs.size)
   repeat (any_goals (first | assumption | wp_step))
   refine codeAny_mono (codeAny_call_builtin (R:=wants (fun r s₂=>r=.none/\∃ h' tk,s₂={ s with heap:=h',toks:=tk } /\
     (∃ L,SetT prog w h' s.heap.objs.size L/\(∀ k,k∈L.map (·.1)↔k∈ks)) /\
     (∀ b o,b<s.heap.objs.size->s.heap.get? b=some o->h'.get? b=some o)) E) F.called_set.init.plain F.entry_set_init (check_set_init_1 hT ?_)) fun r₂ s₂ hr₂=>?_
   ·obtain⟨ol,hol,hcl,nl,hdl⟩:=hl;obtain⟨ocls,odict,odata,oslots⟩:=ol;simp only at hcl hdl;subst hcl;subst hdl;have hol':(s.heap.push { cls:=.type "set",dict:=none,data:=.set #[] 0 (.fresh 0 0 led) }).get? l=some { cls:=.type "list",dict:=odict,data:=.seq items nl,slots:=oslots }:=Yaa _ hol;have hsls:=F.sub_list_set;have hslf:=F.sub_list_frozenset;have hne:(YbB "list" == YbB "dict")=false:=by decide
    have hl1:(s.heap.push { cls:=.type "set",dict:=none,data:=.set #[] 0 (.fresh 0 0 led) }).IsList l items:=⟨_,hol',rfl,nl,rfl⟩
    unfold Builtin.«set.__init__» noKeywords Ycg;generalize hPI:pyIter=PI
    wp_walk
    subst hPI;refine wpAny_pyIter_list hl1 ?_;refine wpAny_bind (wpAny_runValue ?_);have hlS:l<s.heap.objs.size:=Yag hol;have hh3:A.in1.in1.in1.handled=none:=by simp[hh]
    have hneI:l≠(s.heap.push { cls:=.type "set",dict:=none,data:=.set #[] 0 (.fresh 0 0 led) }).objs.size:=by
     rw[YaI];exact Yat (Ybm hlS)
    have hSf:s.heap.objs.size ∉ [(s.heap.push { cls:=.type "set",dict:=none,data:=.set #[] 0 (.fresh 0 0 led) }).objs.size,l]:=by
     rw[YaI];simp only[Yar,YaU,YaZ,or_false,not_or];exact⟨Yat (Ya8 _),Ybp hlS⟩
    have hsz:items.size=bs.length:=by rw[<- Yas,hi,Yad]
    have hval:∀ (i:Nat) (v:Value),items[i]?=some v->v=.ref ((fun i=>bs.getD i 0) i):=fun i v hv=>by
     rw[<- YaD,hi,Yai] at hv
     cases e:bs[i]? with
     | none=>rw[e] at hv;cases hv
     | some b=>rw[e] at hv;cases hv;simp[Yb9,e]
    have hat:∀ i,i<items.size->∃ b k,bs[i]?=some b/\ks[i]?=some k/\bs.getD i 0=b/\ks.getD i []=k/\TKey prog w s.heap k b:=fun i h=>by
     have h1:i<bs.length:=by omega
     have h2:i<ks.length:=by omega
     exact⟨bs[i],ks[i],Yac h1,Yac h2,by simp[Yb9,h1],by simp[Yb9,h2],hk i _ _ (Yac h1) (Yac h2)⟩
    have hold:∀ b k,TKey prog w s.heap k b->b<s.heap.objs.size/\TKey prog w ((s.heap.push { cls:=.type "set",dict:=none,data:=.set #[] 0 (.fresh 0 0 led) }).push { cls:=.type "list_iterator",data:=.fields #[.ref l,.int 0 0] }) k b:=fun b k x=>by
     refine⟨?_,Za7 x fun o e=>Yaa _ (Yaa _ e)⟩;obtain⟨o,_,_,ho,_⟩:=x;exact Yag ho
    have hget:((s.heap.push { cls:=.type "set",dict:=none,data:=.set #[] 0 (.fresh 0 0 led) }).push { cls:=.type "list_iterator",data:=.fields #[.ref l,.int 0 0] }).get? s.heap.objs.size
      = some { cls:=.type "set",dict:=none,data:=.set #[] 0 (.fresh 0 0 led) }:=Yaa _ hS
    refine Zir (by show A.units+1+1+1<cLine;omega) ((YdQ hh3 _ l hneI items).toS) s.heap.objs.size
     hSf (fun i=>ks.getD i []) (fun i=>bs.getD i 0) hval (fun i h=>?hadr) (by omega) (items.size - 0) 0 _ [] (by omega) (YaX _)
     ⟨⟨_,Yam _ rfl,rfl,rfl⟩,(hl1.push _)⟩ ?hS0 ⟨fun k=>by simp,Yah _,fun q hq=>by simp at hq⟩ (fun j hj=>?hTK) ?hR
    case hadr=>
     obtain⟨b,k,e1,e2,e3,e4,x⟩:=hat i h;obtain⟨hlt,_⟩:=hold b k x;rw[e3];have hbl:b≠l:=fun z=>by
      obtain⟨o,its,n,ho,hc,hd,hii⟩:=x;subst z;rw[hol] at ho;cases ho;simp at hc
     refine⟨?_,Yat hlt⟩;rw[YaI];simp only[Yar,YaU,YaZ,or_false,not_or];exact⟨Yat (Ybm hlt),hbl⟩
    case hTK=>
     obtain⟨b,k,e1,e2,e3,e4,x⟩:=hat j hj;dsimp only;rw[e3,e4];exact (hold b k x).2
    case hS0=>
     refine⟨_,#[],0,_,hget,⟨rfl,rfl,rfl⟩,rfl,⟨.inl rfl,Yck,rfl,rfl,by show 0*5<7*3;decide,fun j hj=>by simp[Ych] at hj,fun i j e h1=>by simp[Ych] at h1⟩,⟨rfl,fun q hq=>by simp at hq⟩,Ydd⟩
    case hR=>
     intro s' L' hm hS' hK';obtain⟨h',g',d',tk',os'⟩:=s';have eg:g'=s.gens:=hm.gens;have ed:d'=s.drawn:=hm.drawn;have eo:os'=s.os:=hm.os;subst eg;subst ed;subst eo;show wpAny _ _ _ _ _ _;refine wpAny_pure ?_;show wpAny _ _ (ret Ybq) _ _ _;refine wpAny_pure ⟨rfl,h',tk',rfl,⟨L',hS',fun k=>?_⟩,fun b o hb e=>?_⟩
     ·rw[hK'.1];constructor
      ·rintro⟨j,hj,rfl⟩;obtain⟨b,k,e1,e2,e3,e4,x⟩:=hat j hj;dsimp only;rw[e4];exact Yav e2
      ·intro hk2;obtain⟨j,hj,e⟩:=Ya3 hk2;exact⟨j,by omega,by simp[Yb9,hj,e]⟩
     ·have hb1:b≠s.heap.objs.size:=Yat hb;have hb2:b≠(s.heap.push { cls:=.type "set",dict:=none,data:=.set #[] 0 (.fresh 0 0 led) }).objs.size:=by
       rw[YaI];exact Yat (Ybm hb)
      exact hm.heap b o (by simp only[Yar,YaU,YaZ,or_false,not_or];exact⟨hb1,hb2⟩) (Yaa _ (Yaa _ e))
   ·cases r₂ with
    | error e=>exact hr₂
    | ok fl₂=>
     cases fl₂ with
     | ret r=>
      obtain⟨rfl,h',tk,rfl,⟨L,hS',hL⟩,hk'⟩:=hr₂
      repeat (any_goals (first | assumption | wp_step))
      exact h _ _ L hS' hL hk'
     | _=>exact hr₂.elim
  | _=>exact hr.elim
theorem ZcX {l:Addr}{items:Array Value}{ks:List (List Int)}{bs:List Addr}{Q:Value->Shared->Prop}
  (hu:A.units+8<cLine) (hh:A.handled=none) (hl:s.heap.IsTuple l items) (hi:items.toList=bs.map YaC) (hlen:bs.length=ks.length) (h5:ks.length<=500)
  (hk:∀ (i:Nat) b k,bs[i]?=some b->ks[i]?=some k->TKey prog w s.heap k b)
  (h:∀ (h':Heap) (tk:Nat) (L:List (List Int × Addr)),SetT prog w h' s.heap.objs.size L->(∀ k,k∈L.map (·.1)↔k∈ks) ->
   (∀ b o,b<s.heap.objs.size->s.heap.get? b=some o->h'.get? b=some o)->Q (.ref s.heap.objs.size) { s with heap:=h',toks:=tk }) :
  wpAny (model prog w) A (call (.type "set") [.ref l]) Q E s:=by
 obtain⟨c,tl,hmro⟩:=F.called_set.mro;have hmade:=F.called_set.made;have hsub:=F.called_set.sub;refine wpAny_call (codeAny_of_tree ?_);show wpAny _ _ (callAny (.type "set") _) _ _ _;refine wpAny_pure ⟨YdW _ (by decide +kernel),codeAny_builtin F.entry_type_call ?_⟩;rw[YdJ (weight_type_call_type "set" [.ref l] []) rfl];have h1:=F.called_set.notType;have h2:=F.called_set.canCreate;have hct:=F.typeCall_set_1 (.ref l)
 repeat (any_goals (first | assumption | wp_step))
 refine codeAny_mono (code_set_new_1 (.ref l) (E:=E) (Q₁:=fun obj s₁=>∃ led:Bool,obj=.ref s.heap.objs.size/\s₁={ s with heap:=s.heap.push { cls:=.type "set",dict:=none,data:=.set #[] 0 (.fresh 0 0 led) } }) fun led=>⟨led,rfl,rfl⟩) fun r s₁ hr=>?_
 cases r with
 | error e=>exact hr
 | ok fl=>
  cases fl with
  | ret obj=>
   obtain⟨led,rfl,rfl⟩:=hr;have hS:(s.heap.push { cls:=.type "set",dict:=none,data:=.set #[] 0 (.fresh 0 0 led) }).get? s.heap.objs.size=some { cls:=.type "set",dict:=none,data:=.set #[] 0 (.fresh 0 0 led) }:=Yam _ rfl;have hT:Shared.TypeIs { s with heap:=s.heap.push { cls:=.type "set",dict:=none,data:=.set #[] 0 (.fresh 0 0 led) } } (.ref s.heap.objs.size) "set":=⟨_,hS,rfl⟩
   have hli:=F.called_set.init.lookup;have hbi:=F.called_set.init.bind (.ref s.heap.objs.size)
   repeat (any_goals (first | assumption | wp_step))
   refine codeAny_mono (codeAny_call_builtin (R:=wants (fun r s₂=>r=.none/\∃ h' tk,s₂={ s with heap:=h',toks:=tk } /\
     (∃ L,SetT prog w h' s.heap.objs.size L/\(∀ k,k∈L.map (·.1)↔k∈ks)) /\
     (∀ b o,b<s.heap.objs.size->s.heap.get? b=some o->h'.get? b=some o)) E) F.called_set.init.plain F.entry_set_init (check_set_init_1 hT ?_)) fun r₂ s₂ hr₂=>?_
   ·obtain⟨ol,hol,hcl,nl,hdl⟩:=hl;obtain⟨ocls,odict,odata,oslots⟩:=ol;simp only at hcl hdl;subst hcl;subst hdl;have hol':(s.heap.push { cls:=.type "set",dict:=none,data:=.set #[] 0 (.fresh 0 0 led) }).get? l=some { cls:=.type "tuple",dict:=odict,data:=.seq items nl,slots:=oslots }:=Yaa _ hol;have hsls:=Zcg;have hslf:=Zbg;have hne:(YbB "tuple" == YbB "dict")=false:=by decide
    have hl1:(s.heap.push { cls:=.type "set",dict:=none,data:=.set #[] 0 (.fresh 0 0 led) }).IsTuple l items:=⟨_,hol',rfl,nl,rfl⟩
    unfold Builtin.«set.__init__» noKeywords Ycg;generalize hPI:pyIter=PI
    wp_walk
    subst hPI;refine wpAny_pyIter_tuple hl1 ?_;refine wpAny_bind (wpAny_runValue ?_);have hlS:l<s.heap.objs.size:=Yag hol;have hh3:A.in1.in1.in1.handled=none:=by simp[hh]
    have hneI:l≠(s.heap.push { cls:=.type "set",dict:=none,data:=.set #[] 0 (.fresh 0 0 led) }).objs.size:=by
     rw[YaI];exact Yat (Ybm hlS)
    have hSf:s.heap.objs.size ∉ [(s.heap.push { cls:=.type "set",dict:=none,data:=.set #[] 0 (.fresh 0 0 led) }).objs.size,l]:=by
     rw[YaI];simp only[Yar,YaU,YaZ,or_false,not_or];exact⟨Yat (Ya8 _),Ybp hlS⟩
    have hsz:items.size=bs.length:=by rw[<- Yas,hi,Yad]
    have hval:∀ (i:Nat) (v:Value),items[i]?=some v->v=.ref ((fun i=>bs.getD i 0) i):=fun i v hv=>by
     rw[<- YaD,hi,Yai] at hv
     cases e:bs[i]? with
     | none=>rw[e] at hv;cases hv
     | some b=>rw[e] at hv;cases hv;simp[Yb9,e]
    have hat:∀ i,i<items.size->∃ b k,bs[i]?=some b/\ks[i]?=some k/\bs.getD i 0=b/\ks.getD i []=k/\TKey prog w s.heap k b:=fun i h=>by
     have h1:i<bs.length:=by omega
     have h2:i<ks.length:=by omega
     exact⟨bs[i],ks[i],Yac h1,Yac h2,by simp[Yb9,h1],by simp[Yb9,h2],hk i _ _ (Yac h1) (Yac h2)⟩
    have hold:∀ b k,TKey prog w s.heap k b->b<s.heap.objs.size/\TKey prog w ((s.heap.push { cls:=.type "set",dict:=none,data:=.set #[] 0 (.fresh 0 0 led) }).push { cls:=.type "tuple_iterator",data:=.fields #[.ref l,.int 0 0] }) k b:=fun b k x=>by
     refine⟨?_,Za7 x fun o e=>Yaa _ (Yaa _ e)⟩;obtain⟨o,_,_,ho,_⟩:=x;exact Yag ho
    have hget:((s.heap.push { cls:=.type "set",dict:=none,data:=.set #[] 0 (.fresh 0 0 led) }).push { cls:=.type "tuple_iterator",data:=.fields #[.ref l,.int 0 0] }).get? s.heap.objs.size
      = some { cls:=.type "set",dict:=none,data:=.set #[] 0 (.fresh 0 0 led) }:=Yaa _ hS
    refine Zir (by show A.units+1+1+1<cLine;omega) ((Walks.tuple hh3 _ l hneI items).toS) s.heap.objs.size
     hSf (fun i=>ks.getD i []) (fun i=>bs.getD i 0) hval (fun i h=>?hadr) (by omega) (items.size - 0) 0 _ [] (by omega) (YaX _)
     ⟨⟨_,Yam _ rfl,rfl,rfl⟩,(hl1.push _)⟩ ?hS0 ⟨fun k=>by simp,Yah _,fun q hq=>by simp at hq⟩ (fun j hj=>?hTK) ?hR
    case hadr=>
     obtain⟨b,k,e1,e2,e3,e4,x⟩:=hat i h;obtain⟨hlt,_⟩:=hold b k x;rw[e3];have hbl:b≠l:=fun z=>by
      obtain⟨o,its,n,ho,hc,hd,hii⟩:=x;subst z;rw[hol] at ho;cases ho;cases hd;have hb0:=Yav e1;have hv:YaC b∈items.toList:=by rw[hi];exact YaN.mpr ⟨b,hb0,rfl⟩
      obtain⟨i0,t0,e0⟩:=Zc1 hii _ hv;cases e0
     refine⟨?_,Yat hlt⟩;rw[YaI];simp only[Yar,YaU,YaZ,or_false,not_or];exact⟨Yat (Ybm hlt),hbl⟩
    case hTK=>
     obtain⟨b,k,e1,e2,e3,e4,x⟩:=hat j hj;dsimp only;rw[e3,e4];exact (hold b k x).2
    case hS0=>
     refine⟨_,#[],0,_,hget,⟨rfl,rfl,rfl⟩,rfl,⟨.inl rfl,Yck,rfl,rfl,by show 0*5<7*3;decide,fun j hj=>by simp[Ych] at hj,fun i j e h1=>by simp[Ych] at h1⟩,⟨rfl,fun q hq=>by simp at hq⟩,Ydd⟩
    case hR=>
     intro s' L' hm hS' hK';obtain⟨h',g',d',tk',os'⟩:=s';have eg:g'=s.gens:=hm.gens;have ed:d'=s.drawn:=hm.drawn;have eo:os'=s.os:=hm.os;subst eg;subst ed;subst eo;show wpAny _ _ _ _ _ _;refine wpAny_pure ?_;show wpAny _ _ (ret Ybq) _ _ _;refine wpAny_pure ⟨rfl,h',tk',rfl,⟨L',hS',fun k=>?_⟩,fun b o hb e=>?_⟩
     ·rw[hK'.1];constructor
      ·rintro⟨j,hj,rfl⟩;obtain⟨b,k,e1,e2,e3,e4,x⟩:=hat j hj;dsimp only;rw[e4];exact Yav e2
      ·intro hk2;obtain⟨j,hj,e⟩:=Ya3 hk2;exact⟨j,by omega,by simp[Yb9,hj,e]⟩
     ·have hb1:b≠s.heap.objs.size:=Yat hb;have hb2:b≠(s.heap.push { cls:=.type "set",dict:=none,data:=.set #[] 0 (.fresh 0 0 led) }).objs.size:=by
       rw[YaI];exact Yat (Ybm hb)
      exact hm.heap b o (by simp only[Yar,YaU,YaZ,or_false,not_or];exact⟨hb1,hb2⟩) (Yaa _ (Yaa _ e))
   ·cases r₂ with
    | error e=>exact hr₂
    | ok fl₂=>
     cases fl₂ with
     | ret r=>
      obtain⟨rfl,h',tk,rfl,⟨L,hS',hL⟩,hk'⟩:=hr₂
      repeat (any_goals (first | assumption | wp_step))
      exact h _ _ L hS' hL hk'
     | _=>exact hr₂.elim
  | _=>exact hr.elim
end
end StT
namespace L2
open PySem PySem.Spec PyProof.Rows StT
def SetN (a:Addr) (n:Nat):HO:=.ext fun h=>∃ o es ep t,h.get? a=some o/\o.ExactSet/\o.data=.set es ep t/\t.fits es.size=true/\es.size=n/\n<=500
theorem Zhk {P:Program}{w:World}{H:Hp}{h:Heap}{a:Addr}{L:List (List Int × Addr)} (S:SetT P w h a L) (h5:L.length<=500):ObjOk P w H h a (SetN a L.length):=by
 obtain⟨o,es,ep,t,ho,hex,hd,T,X,nd⟩:=S;exact⟨⟨o,es,ep,t,ho,hex,hd,T.fits,by rw[<- Yas,X.es,Yad],h5⟩,⟨o,ho⟩,fun _ _ ⟨o,es,ep,t,e,r⟩ k=>⟨o,es,ep,t,k o e,r⟩⟩
theorem Zg8 {P:Program}{w:World}:∀ {ks:List Int}{us:List Value},Vals (ks.map V.int) us->ItemsAre (intKind P w) ks us
 | [],_,r=>by rw[Ydy] at r;cases r;exact .nil
 | k::ks,_,r=>by
  rw[YaK] at r
  cases r with
  | cons h t=>
   obtain⟨tk,rfl⟩:=h;exact .cons (by show YdB k (.int k tk)=true;simp[YdB]) (Zg8 t)
theorem Zht:∀ {qs:List Addr}{us:List Value},Vals (qs.map V.ref) us->us=qs.map YaC
 | [],_,r=>by rw[Ydy] at r;cases r;rfl
 | q::qs,_,r=>by
  rw[YaK] at r
  cases r with
  | cons h t=>
   cases h;rw[YaK,Zht t]
theorem ZiJ {P:Program}{w:World}{H:Hp}{h:Heap}{a:Addr}{k:List Int} (ok:HOk P w H h) (e:H a=some (.tup (k.map V.int))):TKey P w h k a:=by
 obtain⟨_,its,r,o,h1,h2,_,n,h3⟩:=(show ObjOk P w H h a (.tup (k.map V.int)) from ok a _ e)
 exact⟨o,its.toArray,n,h1,h2,h3,by simpa using Zg8 r⟩
section
variable {X:Cx}
theorem ZfX (hc:X.calm=true) (hu:X.A.units+8<cLine):ZbA X (.type "set") (fun xs H Q=>∃ (a:Addr) (b:Bool) (qs:List Addr) (ks:List (List Int)),xs=[.ref a]/\SqB b X.K H a (qs.map V.ref)/\TTs H qs ks/\ks.length<=500 /\
  ∀ (l:Addr) (L:List (List Int)),H l=none->L.Nodup->(∀ k,k∈L↔k∈ks)->Q (.ref l) (upd H l (SetN l L.length))):=by
 intro pins s σ H xs us Q I r h;obtain⟨a,b,qs,ks,rfl,hq,hT,h5,q⟩:=h;obtain⟨u,rfl,rx⟩:=ZbU r;cases rx;have hk:∀ (i:Nat) b k,qs[i]?=some b->ks[i]?=some k->TKey X.prog X.w s.heap k b:=fun i b k h1 h2=>ZiJ I.hok (hT.2 i b k h1 h2);have fin:∀ (h':Heap) (tk:Nat) (L:List (List Int × Addr)),SetT X.prog X.w h' s.heap.objs.size L->(∀ k,k∈L.map (·.1)↔k∈ks) ->
   (∀ b o,b<s.heap.objs.size->s.heap.get? b=some o->h'.get? b=some o)->EP X pins σ Q (.ref s.heap.objs.size) { s with heap:=h',toks:=tk }:=fun h' tk L hS hm kp=>by
  have nd:(L.map (·.1)).Nodup:=by obtain⟨_,_,_,_,_,_,_,_,_,nd⟩:=hS;exact nd
  have hl:(L.map (·.1)).length<=ks.length:=nd.length_le_of_subset fun k hk=>(hm k).mp hk;rw[Yad] at hl;have I1:=I.laid (a:=s.heap.objs.size) (o:=SetN s.heap.objs.size L.length) (h':=h') (t':=tk) (fun b o e=>kp b o (Yag e) e) (Yah _) (Zhk hS (by omega));have hq2:=q s.heap.objs.size (L.map (·.1)) (I.hok.fresh (Yah _)) nd hm;rw[Yad] at hq2;exact⟨.ref s.heap.objs.size,_,I1,rfl,hq2⟩
 cases b
 ·obtain⟨its,r',pl,hz⟩:=I.tuple hq;exact ZcX hu (I.ok.hd hc) (show s.heap.IsTuple a its.toArray from pl) (Zht r') hT.1 h5 hk fin
 ·obtain⟨its,r',pl,hz⟩:=I.list hq;exact Zck hu (I.ok.hd hc) pl.isList (Zht r') hT.1 h5 hk fin
theorem ZfY:ZbA X (.builtin "len") (fun xs H Q=>∃ (a:Addr) (n:Nat),xs=[.ref a]/\H a=some (SetN a n)/\Q (.int (n:Int)) H):=by
 intro pins s σ H xs us Q I r h;obtain⟨a,n,rfl,ha,q⟩:=h;obtain⟨u,rfl,rx⟩:=ZbU r;cases rx;obtain⟨⟨o,es,ep,t,ho,hex,hd,hf,hn,h5⟩,_⟩:=(show ObjOk X.prog X.w H s.heap a (SetN a n) from I.hok a _ ha)
 have hm:=Zdd;exact PySem.call_len_set ho hex hd hf (by omega) ⟨.int (n:Int),H,I.tok _,⟨s.toks+1,by rw[hn]⟩,q⟩
theorem Zi6:bootBuiltins "set"=some (.type "set"):=by decide +kernel
end
end L2
namespace L2
open PySem PySem.Spec PyProof.Rows PySem.SeqAt
section
variable {prog:Program}{w:World}{A:Around}{E:Value->Shared->Prop}{s:Shared}
set_option maxRecDepth 100000 in
theorem Zci {lo hi:Option Int}{l b sl:Addr}{items new:Array Value}{n n2:Nat}{vl vu:Value}{a c:Nat}{Q:Unit->Shared->Prop}
    (e:s.heap.get? l=some { cls:=.type "list",data:=.seq items n }) (e2:s.heap.get? b=some { cls:=.type "list",data:=.seq new n2 }) (hne:l≠b)
    (hs:s.heap.IsSliceOf sl vl vu .none) (pl:IsPart vl lo) (pu:IsPart vu hi) (hbd:sliceBounds lo hi none items.size=((a:Int),(c:Int),1)) (hac:a<=c) (hc:c<=items.size)
    (hsz:items.size+new.size<=sizeLine) (h:Q () { s with heap:=s.heap.update l (Ycr fun xs=>xs.extract 0 a++new++xs.extract c xs.size) }) :
    wpAny (model prog w) A (setItem (.ref l) (.ref sl) (.ref b)) Q E s:=by
  have hl:s.heap.IsList l items:=Ydv e;have hb:s.heap.IsList b new:=Ydv e2;obtain⟨os,hos,hcs,hds⟩:=id hs;have hTs:s.TypeIs (.ref sl) "slice":=⟨os,hos,hcs⟩
  have hstep:¬ ((rawPart none == rawInt 0)=true):=Yau;have hsame:YcK (.ref l) (.ref b)=false:=by
    unfold YcK;exact beq_eq_false_iff_ne.mpr hne
  have hmax:(max (a:Int) (c:Int)).toNat=c:=by omega
  have hz':((fun xs:Array Value=>xs.extract 0 a++new++xs.extract c xs.size) items).size<=sizeLine+1:=by
    simp only[Array.size_append,Array.size_extract];omega
  unfold setItem
  try with_reducible refine wpAny_holding ?_
  first | refine wpAny_bind (wpAny_pure ?_) | skip
  refine wpAny_bind (wpAny_sequenceKey hl.typeIs (by decide) ?_);refine wpAny_bind (wpAny_callSpecial?_slot (name:=YbU "__setitem__") hl.typeIs slot_list_setitem
    (wpAny_call_entry slot_list_setitem hl.typeIs entry_list_setitem ?_ (args_list_setitem _ _ _)))
  show wpAny _ _ (YcA (.ref sl) >>= _) _ _ s;refine wpAny_bind ?_;unfold YcA;refine wpAny_bind (wpAny_specialOf hTs slice_no_index ?_);simp only[Option.isNone_none,if_true];refine wpAny_pure ?_;show wpAny _ _ (typeOf (.ref sl) >>= _) _ _ s;refine wpAny_bind (wpAny_typeOf hTs ?_)
  first
    | rw[if_neg (by decide)]
    | refine Yci (by decide) ?_
  rw[listSliceParts_eq];refine wpAny_bind (wpAny_bind (wpAny_field hos hds (x:=.none) rfl (wpAny_bind (wpAny_listPart .none ?_))));rw[if_neg hstep];refine wpAny_bind (wpAny_field hos hds (x:=vl) rfl (wpAny_bind (wpAny_listPart pl ?_)));refine wpAny_bind (wpAny_field hos hds (x:=vu) rfl (wpAny_bind (wpAny_listPart pu (wpAny_pure ?_))))
  first
    | simp only[hsame,YaG,if_false]
    | refine Yci hsame ?_
    | (dsimp only
       rw[if_neg (by rw[hsame];exact Yau)])
  refine wpAny_bind (m:=YcH (.ref b) "must assign iterable to extended slice") ?_;unfold YcH;refine wpAny_bind (wpAny_typeOf hb.typeIs ?_)
  first
    | refine PySem.W.KFB.if_so (by decide) ?_
    | rw[if_pos (by decide)]
    | simp only[beq_self_eq_true,Bool.true_or,if_true]
  unfold Builtin.List.listItems;refine wpAny_bind (wpAny_seqItems e2 rfl (wpAny_pure ?_));refine wpAny_bind (wpAny_bind (wpAny_seqItems e rfl (wpAny_pure ?_)));refine wpAny_bind (wpAny_of_eq ((sliceIndices_raw lo hi none items.size (by simp)).trans (congrArg (pure:Int × Int × Int->Sem (Int × Int × Int)) hbd)) ?_);show wpAny _ _ (if ((1:Int) == 1)=true then _ else _) _ _ s;rw[if_pos (by decide)];refine wpAny_bind (wpAny_rule ?_)
  first
    | simp only[ZbS hsz,YaG,if_false]
    | refine Yci (ZbS hsz) ?_
  first | refine wpAny_bind (wpAny_pure ?_) | skip
  show wpAny _ _ (updateSeq l (fun xs=>xs.extract 0 ((a:Int)).toNat++new++xs.extract (max (a:Int) (c:Int)).toNat xs.size) >>= _) _ _ s;rw[hmax,YaS];refine wpAny_bind (wpAny_updateSeq (hz:=Ya4 (YbW _ _) hsz) (_hz':=hz') e rfl ?_);refine wpAny_bind (wpAny_letGo ?_)
  first
    | exact wpAny_bind (wpAny_pure (wpAny_pure ⟨.none,rfl,wpAny_pure h⟩))
    | exact wpAny_pure ⟨.none,rfl,wpAny_pure h⟩
end
def gPre (to:TE) (th:TO):TG:=fun v σ H Q=>to σ H fun o H1=>th σ H1 fun c H2=>∃ (p q:Addr) (xs ys:List V) (k:Nat),o=.ref p/\v=.ref q/\c=some (k:Int)/\p≠q/\H2 p=some (.lst xs)/\H2 q=some (.lst ys)/\xs.length+ys.length<=sizeLine/\Q σ (upd H2 p (.lst (ys++xs.drop k)))
section
variable {X:Cx}
theorem Zie {o:Expr}{hi:Option Expr}{to:TE}{th:TO}{p2 pos:Pos} (ho:PE X o to) (hh:PO X hi th)
  (ha:∀ v,assign (.Subscript o (.Slice none hi none p2) pos) X.env v=(do
   let ov <- holding [v] (eval o X.env)
   let iv <- holding [v,ov] (eval (.Slice none hi none p2) X.env)
   standAt pos
   holding [v,ov,iv] (setItem ov iv v)
   release [iv,v,ov] []):=by intro _;rfl):PG X (.Subscript o (.Slice none hi none p2) pos) (gPre to th):=by
 intro pins s σ H v u Q I r h;rw[ha];refine wpAny_bind (wpAny_holding (thn (ho pins s σ H _ I h) fun ov s1 ⟨x,H1,I1,r1,q1⟩=>?_));refine wpAny_bind (wpAny_holding ?_);refine wpAny_Slice ?_;rw[evalPart_none];refine wpAny_pure (thn (hh pins s1 σ H1 _ I1 q1) fun vu s3 ⟨c,H3,I3,pu,q3⟩=>?_);refine wpAny_pure ?_;have I4:Inv X pins σ H3 { s3 with heap:=s3.heap.push { cls:=.type "slice",data:=.fields #[.none,vu,.none] } }:=I3.kept (t':=s3.toks) fun b ob q=>Yaa _ q;obtain⟨p,q,xs,ys,k,rfl,rfl,rfl,hne,hp,hq,hz,q4⟩:=q3;cases r1;cases r;refine wpAny_bind (wpAny_standAt (wpAny_bind (wpAny_holding ?_)));obtain⟨z,its,n,r,hl,e⟩:=I4.lstM hp;obtain⟨z2,its2,n2,r2,hl2,e2⟩:=I4.lstM hq;refine Zci (a:=0) (c:=min k its.length) e e2 hne (Yca ..) .none pu ?_ (YaX _) (by rw[Yae];omega) (by rw[Yae,Yae];omega) ?_
 ·rw[Yae];simp only[sliceBounds,YcL,show (1:Int) > 0 by decide,if_true];rw[if_neg (by omega)];congr 2;omega
 refine wpAny_release ⟨σ,_,I4.lset (its':=its2++its.drop k) (t':=s3.toks) hp e ?_ (Vals.append r2 (r.drop _)) ?_,q4⟩
 ·have e5:=ZeN its its2 0 (min k its.length);refine e5.trans ?_;rw[List.take_zero,Yc0];congr 2;by_cases hk:k<=its.length
  ·rw[Yc8 hk]
  ·rw[YcU (by omega),Yea,List.drop_eq_nil_of_le (by omega)]
 ·rw[Yap,Ya2];omega
end
end L2
namespace L2
open PySem PySem.Spec PyProof.Rows
end L2
namespace PySem.AutoSeq1
open PySem PySem.Spec PyProof.Rows
end PySem.AutoSeq1
namespace L2
open PySem PySem.Spec PyProof.Rows
section
variable {X:Cx}
end
end L2
namespace L2
open PySem PySem.Spec PyProof.Rows
section
variable {own:List Str}{js:List Nat}{g:TG}{te:TE}{σ:St}{H1:Hp}{Q:VK}
theorem LLs.snocC {H:Hp}{rs:List Addr}{N:List (List Int)}{q:Addr}{xs:List Int} (h:LLs H rs N) (e:H q=some (.lst (xs.map V.int))):LLs H (rs++[q]) (N++[xs]):=⟨by rw[Yap,Yap,h.1];rfl,fun j r ys a b=>by
 have hl:=h.1;by_cases hj:j<rs.length
 ·rw[YaP hj] at a;rw[YaP (by omega)] at b;exact h.2 j r ys a b
 ·rw[Yba (by omega)] at a b;have e0:j - rs.length=0:=by
   have:=(Yaf.mp a).1
   simp at this;omega
  rw[e0] at a;rw[<- hl,e0] at b;cases a;cases b;exact e⟩
theorem Zdl {lo:Int}{n:Nat} (N:List (List Int)) (hN:N.length=n) (hlen:n<=20000)
  (hs:∀ i xs,i<n->N[i]?=some xs->∀ H,Same H1 H->∀ R:VK,(∀ q H',H q=none->Same H H'->H' q=some (.lst (xs.map V.int))->R (.ref q) H')->g (.int (lo+(i:Nat))) (blkσ own js σ) H fun τ H4=>te τ H4 R)
  (hd:∀ acc (qs:List Addr) H,H1 acc=none->Same H1 H->H acc=some (.lst (qs.map V.ref))->LLs H qs N->(∀ q∈qs,q≠acc/\H1 q=none)->Q (.ref acc) H):Za6 own js g ZbV te σ (Itr lo n) H1 Q:=by
 refine ZbJ (fun acc i H=>Same H1 H/\∃ qs:List Addr,H acc=some (.lst (qs.map V.ref))/\LLs H qs (N.take i)/\∀ q∈qs,q≠acc/\H1 q=none) (fun acc h0=>⟨Same.new h0,[],Zab,⟨rfl,fun j r xs a=>(nomatch a)⟩,fun q h=>nomatch h⟩) ?_ fun acc H h0 ⟨s1,qs,hacc,hL,hq⟩=>hd acc qs H h0 s1 hacc (by rwa [<- hN,YaR] at hL) hq;rintro acc i H h0 hi ⟨s1,qs,hacc,hL,hq⟩;have hy':=Yac (l:=N) (i:=i) (by omega);have hql:qs.length=i:=by rw[hL.1,Yay];omega
 refine (cast ?_ (hs i _ hi hy' H s1 (fun y H6=>∃ zs',H6 acc=some (.lst zs')/\zs'.length<sizeLine/\(i+1<=n/\(Same H1 (upd H6 acc (.lst (zs'++[y])))/\∃ qs:List Addr,upd H6 acc (.lst (zs'++[y])) acc=some (.lst (qs.map V.ref))/\LLs (upd H6 acc (.lst (zs'++[y]))) qs (N.take (i+1))/\∀ q∈qs,q≠acc/\H1 q=none))) fun q H' nq s' hq'=>?_))
 ·unfold ZbV;simp only[if_true]
 ·have hqa:q≠acc:=fun e=>by rw[e,hacc] at nq;cases nq
  refine⟨_,s' _ _ hacc,?_,hi,(s1.trans s').put h0,qs++[q],by rw[Zab,Yax];rfl,?_,fun x hx=>?_⟩
  ·rw[sizeLine_eq,Yad];omega
  ·rw[Ybd,hy'];have h5:=(hL.same s').snocC hq';refine⟨h5.1,fun j r xs a b=>?_⟩;have hne:r≠acc:=by
    rcases YaA.mp (Yav a) with z | z
    ·exact (hq r z).1
    ·rw[YaU.mp z];exact hqa
   rw[Zah hne];exact h5.2 j r xs a b
  ·rcases YaA.mp hx with z | z
   ·exact hq x z
   ·rw[YaU.mp z];exact⟨hqa,s1.free nq⟩
theorem TTs.snocC {H:Hp}{rs:List Addr}{N:List (List Int)}{q:Addr}{xs:List Int} (h:TTs H rs N) (e:H q=some (.tup (xs.map V.int))):TTs H (rs++[q]) (N++[xs]):=⟨by rw[Yap,Yap,h.1];rfl,fun j r ys a b=>by
 have hl:=h.1;by_cases hj:j<rs.length
 ·rw[YaP hj] at a;rw[YaP (by omega)] at b;exact h.2 j r ys a b
 ·rw[Yba (by omega)] at a b;have e0:j - rs.length=0:=by
   have:=(Yaf.mp a).1
   simp at this;omega
  rw[e0] at a;rw[<- hl,e0] at b;cases a;cases b;exact e⟩
theorem ZfO {lo:Int}{n:Nat} (N:List (List Int)) (hN:N.length=n) (hlen:n<=20000)
  (hs:∀ i xs,i<n->N[i]?=some xs->∀ H,Same H1 H->∀ R:VK,(∀ q H',H q=none->Same H H'->H' q=some (.tup (xs.map V.int))->R (.ref q) H')->g (.int (lo+(i:Nat))) (blkσ own js σ) H fun τ H4=>te τ H4 R)
  (hd:∀ acc (qs:List Addr) H,H1 acc=none->Same H1 H->H acc=some (.lst (qs.map V.ref))->TTs H qs N->(∀ q∈qs,q≠acc/\H1 q=none)->Q (.ref acc) H):Za6 own js g ZbV te σ (Itr lo n) H1 Q:=by
 refine ZbJ (fun acc i H=>Same H1 H/\∃ qs:List Addr,H acc=some (.lst (qs.map V.ref))/\TTs H qs (N.take i)/\∀ q∈qs,q≠acc/\H1 q=none) (fun acc h0=>⟨Same.new h0,[],Zab,⟨rfl,fun j r xs a=>(nomatch a)⟩,fun q h=>nomatch h⟩) ?_ fun acc H h0 ⟨s1,qs,hacc,hL,hq⟩=>hd acc qs H h0 s1 hacc (by rwa [<- hN,YaR] at hL) hq;rintro acc i H h0 hi ⟨s1,qs,hacc,hL,hq⟩;have hy':=Yac (l:=N) (i:=i) (by omega);have hql:qs.length=i:=by rw[hL.1,Yay];omega
 refine (cast ?_ (hs i _ hi hy' H s1 (fun y H6=>∃ zs',H6 acc=some (.lst zs')/\zs'.length<sizeLine/\(i+1<=n/\(Same H1 (upd H6 acc (.lst (zs'++[y])))/\∃ qs:List Addr,upd H6 acc (.lst (zs'++[y])) acc=some (.lst (qs.map V.ref))/\TTs (upd H6 acc (.lst (zs'++[y]))) qs (N.take (i+1))/\∀ q∈qs,q≠acc/\H1 q=none))) fun q H' nq s' hq'=>?_))
 ·unfold ZbV;simp only[if_true]
 ·have hqa:q≠acc:=fun e=>by rw[e,hacc] at nq;cases nq
  refine⟨_,s' _ _ hacc,?_,hi,(s1.trans s').put h0,qs++[q],by rw[Zab,Yax];rfl,?_,fun x hx=>?_⟩
  ·rw[sizeLine_eq,Yad];omega
  ·rw[Ybd,hy'];have h5:=(hL.same s').snocC hq';refine⟨h5.1,fun j r xs a b=>?_⟩;have hne:r≠acc:=by
    rcases YaA.mp (Yav a) with z | z
    ·exact (hq r z).1
    ·rw[YaU.mp z];exact hqa
   rw[Zah hne];exact h5.2 j r xs a b
  ·rcases YaA.mp hx with z | z
   ·exact hq x z
   ·rw[YaU.mp z];exact⟨hqa,s1.free nq⟩
end
end L2
namespace Lv
open PySem L2
theorem ZdR {α:Type}:∀ (ys:List α) (i:Nat) (h:i<ys.length) (z:α),(ys++[z]).Perm (ys[i]::ys.set i z)
 | [],i,h,z=>absurd h (Ybt _)
 | y::ys,0,_,z=>by
  show (y::(ys++[z])).Perm (y::z::ys);exact (Yda z ys).cons y
 | y::ys,i+1,h,z=>by
  have hi:i<ys.length:=by simpa using h
  show (y::(ys++[z])).Perm (ys[i]::y::ys.set i z);exact ((ZdR ys i hi z).cons y).trans (YdO _ _ _)
def Zep {α:Type} (xs:List α) (i:Nat) (z:α):List α:=(xs.set i z).dropLast
theorem Zeo {α:Type}{xs:List α}{i:Nat}{x z:α} (hx:xs[i]?=some x) (hz:xs[xs.length - 1]?=some z):xs.Perm (x::Zep xs i z):=by
 obtain⟨hi,rfl⟩:=Yaf.mp hx;have hne:xs≠[]:=fun e=>by rw[e] at hi;exact Ybt _ hi
 obtain⟨ys,y,rfl⟩:∃ ys y,xs=ys++[y]:=⟨xs.dropLast,xs.getLast hne,(YcV hne).symm⟩
 have:y=z:=by simpa using hz
 subst this;unfold Zep;by_cases h:i<ys.length
 ·rw[List.set_append_left _ _ h,YdI];have:=ZdR ys i h y
  rwa [show (ys++[y])[i]=ys[i] from List.getElem_append_left h]
 ·have hi':i=ys.length:=by simp at hi;omega
  subst hi';rw[List.set_append_right _ _ (Yah _)];simp only[Nat.sub_self,List.set_cons_zero,YdI,List.getElem_concat_length];exact Yda y ys
theorem ZeY {α:Type}{xs:List α}{i:Nat}{z:α}:(Zep xs i z).length=xs.length - 1:=by unfold Zep;simp
theorem TuM.perm {H:Hp}{a b:List Addr}{ks:List (List Int)} (h:TuM H a ks) (e:a.Perm b):∃ ks',TuM H b ks'/\ks.Perm ks':=⟨b.map (kf H),⟨fun p hp=>h.1 p (e.mem_iff.mpr hp),rfl⟩,by rw[<- h.2];exact e.map _⟩
theorem TuM.app {H:Hp}{a b:List Addr}{ks js:List (List Int)} (h:TuM H a ks) (g:TuM H b js):TuM H (a++b) (ks++js):=⟨fun p hp=>(YaA.mp hp).elim (h.1 p) (g.1 p),by rw[Yax,h.2,g.2]⟩
theorem TuM.ofTT {H:Hp}{qs:List Addr}{N:List (List Int)} (h:TTs H qs N) (hne:∀ k∈N,k≠[]):TuM H qs N:=by
 refine⟨fun p hp=>?_,?_⟩
 ·obtain⟨j,hj,rfl⟩:=Ya3 hp;have hN:j<N.length:=by rw[<- h.1];exact hj
  exact⟨N[j],hne _ (Ybj hN),h.2 j _ _ (Yac hj) (Yac hN)⟩
 ·refine Yd9 (by rw[Yad,h.1]) fun j h1 h2=>?_;rw[List.getElem_map];have hj:j<qs.length:=by simpa using h1
  exact Ziu (h.2 j _ _ (Yac hj) (Yac h2))
def plcs (N:List (List Int)) (i:Nat):List (List Int):=((YaL i).map fun r=>(YaL (N.getD r []).length).map fun (j:Nat)=>[(r:Int),(j:Int)]).flatten
theorem Zbr (N:List (List Int)) (i:Nat):plcs N (i+1)=plcs N i++(YaL (N.getD i []).length).map fun (j:Nat)=>[(i:Int),(j:Int)]:=by
 unfold plcs;rw[List.range_succ,Yax,List.flatten_append];simp
theorem ZdV {N:List (List Int)}{i:Nat}{k:List Int} (h:k∈plcs N i):∃ r j:Nat,k=[(r:Int),(j:Int)]/\r<i/\j<(N.getD r []).length:=by
 unfold plcs at h;obtain⟨l,hl,hk⟩:=List.mem_flatten.mp h;obtain⟨r,hr,rfl⟩:=YaN.mp hl;obtain⟨j,hj,rfl⟩:=YaN.mp hk;exact⟨r,j,rfl,YaO.mp hr,YaO.mp hj⟩
theorem Zhw {N:List (List Int)}{k:List Int} (h:k∈plcs N N.length):InN N k:=by
 obtain⟨r,j,e,hr,hj⟩:=ZdV h;rw[Yaw,Yac hr] at hj;exact⟨r,j,N[r],e,Yac hr,hj⟩
theorem ZcA (N:List (List Int)):∀ i,(plcs N i).Nodup
 | 0=>Ydd
 | i+1=>by
  rw[Zbr];refine YcN.mpr ⟨ZcA N i,?_,fun a ha b hb e=>?_⟩
  ·rw[Yb3,YbR];refine Ycd.imp fun {a b} h z=>h ?_;have z2:(a:Int)=b:=by simpa using z
   omega
  ·obtain⟨r,j,e1,hr,_⟩:=ZdV ha;obtain⟨j',_,rfl⟩:=YaN.mp hb;rw[e1] at e;have:(r:Int)=(i:Int):=by simpa using (Ycp e).1
   omega
theorem ZcT (N:List (List Int)):∀ i,i<=N.length->(plcs N i).length=((N.take i).map YbK).sum
 | 0,_=>rfl
 | i+1,h=>by
  rw[Zbr,Yap,ZcT N i (by omega),YbP (by omega),Yax,YcY,Yad,Ybs];rw[Yaw,Yac (by omega)];simp
end Lv
namespace L2
open PySem PySem.Spec PyProof.Rows PySem.SeqAt
end L2
namespace L2
open PySem PySem.Spec PyProof.Rows PySem.SeqAt Lv
end L2
namespace Fk36
open PySem L2 Lv
def top (i:Nat):Stmt:=PySem.Challenge.pw_fewreels_k36_placings_read.main.body.getD i (.Pass ⟨0,0,0,0⟩)
abbrev Zco:Stmt:=top 6
abbrev Zcr:Stmt:=top 7
abbrev ZbD:Stmt:=top 8
abbrev Zcp:Stmt:=top 9
abbrev Zei:Stmt:=top 14
abbrev Zcu:Stmt:=top 15
abbrev Zcw:Stmt:=top 16
abbrev ZdG:Stmt:=top 17
abbrev ZbG:Stmt:=top 18
abbrev Zcq:Stmt:=top 19
abbrev sTot:Stmt:=top 22
abbrev ZbC:Stmt:=top 23
abbrev ZbF:Stmt:=top 24
abbrev ZbL:Stmt:=top 25
abbrev Zcy:Stmt:=top 26
abbrev Zcs:Stmt:=top 27
abbrev sLN:Stmt:=top 28
abbrev ZbE:Stmt:=top 30
abbrev ZaL:Stmt:=top 31
abbrev Zbl:Stmt:=top 32
abbrev Zej:Stmt:=top 33
abbrev ZaC:Stmt:=top 34
abbrev Zct:Stmt:=top 36
abbrev Zcx:Stmt:=top 37
abbrev ZaQ:Stmt:=top 38
abbrev Za2:Stmt:=top 39
abbrev Zcv:Stmt:=top 40
abbrev Zb2:Stmt:=top 41
abbrev ZaR:Stmt:=top 42
abbrev sLaw:Stmt:=top 43
end Fk36
namespace Fk36
open PySem L2 Lv
section
variable {P:Program}{w:World}{K:Yab}{mg:Str->Option Value}{base:Heap}
theorem scDraws:FnScope ["cell","many","base","found","left","k"] ["cell","many","base"] (Zac Zcx):=⟨rfl,rfl,rfl,by decide +kernel,rfl,by decide +kernel,by decide +kernel⟩
def ZcO:Sp:=fun vs H Q _=>∃ (c:Int) (m:Nat) (b:Int),vs=[.int c,.int m,.int b]/\m<=900/\0<b/\Ya1 b<=8000/\∀ (l:Addr) (ds:List Int) (H':Hp),H l=none->H' l=some (.lst (ds.map V.int))->ds.length=m->(∀ d∈ds,0<=d)->Same H H'->Q (.ref l) H'
theorem ZgC {f fA:Addr}{fd dA:FuncData} (F:Fun K "_law_draws" "_law_draws" Zcx f fd) (T:Txt mg) (CA:Cal P w K mg base 1 "_law_mixed" ["cell","k"] ZdA fA dA):FnOk P w K mg base CX0 2 f fd ["cell","many","base"] ZcO:=by
 refine F.ok scDraws (fun vs H Q E h=>?_) (fun cdv A outer s H vs Q E hr h=>?_)
 ·obtain⟨c,m,b,rfl,_⟩:=h;rfl
 ·obtain⟨c,m,b,rfl,hm,hb0,hbb,k⟩:=h;refine⟨_,Zaw (Zal (i:=3) scDraws.nd rfl (YaJ rfl) (ZaF Zad))
   (Zaw (Zal (i:=4) scDraws.nd rfl (YaJ rfl) Zae)
   (Zaw (Zen (ZaT Zim (pv 0) (Zak ZcC Zae Zae) (ZaP _)) (Zao (Zal (i:=4) scDraws.nd rfl (YaJ rfl) (Zak Zbt (pv 0) (Zak ZcC Zae Zae)))) Zb4)
   (Zaw (ZbN Ybl rfl (ZaG rfl T.range (Zaa (pv 1) Zad)) (Zaq (i:=5) scDraws.nd rfl (YaJ rfl))
    (Zao (Zen (ZaT Zgo (pv 4) Zae (ZaP _))
     (Zaw (ZaY (Ze4 Ybk YbG YbF Zba (pv 3) (Zaa (Zak ZaJ (pv 4) (pv 2)) Zad)))
     (Zao (Zal (i:=4) scDraws.nd rfl (YaJ rfl) (Zak Zgp (pv 4) (pv 2)))))
     (Zao (ZaY (Ze4 Ybk YbG YbF Zba (pv 3) (Zaa (Zak ZaJ (Zar CA hr rfl (Zaa (pv 0) (Zaa (pv 5) Zad))) (pv 2)) Zad)))))))
   (Zao (Zau (pv 3)))))),?_⟩
  refine cut3 (fun σ' H'=>∃ (l:Addr) (lf:Int),H l=none/\σ'=[some (.int c),some (.int m),some (.int b),some (.ref l),some (.int lf),none]/\H'=upd H l (.lst [])) (fun R hR=>?_) ?_
  ·refine⟨YaX _,fun l hl=>?_⟩;refine⟨_,rfl,10,18,rfl,rfl,⟨by decide,by decide,by decide⟩,_,_,rfl,rfl,_,rfl,?_⟩;refine ite2 (fun _=>?_) (fun _=>hR _ _ ⟨l,_,hl,rfl,rfl⟩);exact⟨_,rfl,10,18,rfl,rfl,⟨by decide,by decide,by decide⟩,_,_,rfl,rfl,hR _ _ ⟨l,_,hl,rfl,rfl⟩⟩
  ·rintro σ' H' ⟨l,lf,hl,rfl,rfl⟩;refine⟨_,rfl,m,rfl,by omega,by omega,Za1 (fun i σ H2=>∃ (lf:Int) (o:Option V) (ds:List Int),σ=[some (.int c),some (.int m),some (.int b),some (.ref l),some (.int lf),o]/\H2 l=some (.lst (ds.map V.int))/\ds.length=i/\(∀ d∈ds,0<=d)/\Same H H2)
    ⟨lf,none,[],rfl,Zab,rfl,fun d hd=>by simp at hd,Same.new hl⟩ ?_ ?_⟩
   ·rintro i σ H2 hi ⟨lf,o,ds,rfl,hl2,hd,h0,s2⟩;have push:∀ (y:Int),0<=y->((upd H2 l (.lst (ds.map V.int++[.int y]))) l=some (.lst ((ds++[y]).map V.int)))/\(ds++[y]).length=i+1/\(∀ d∈ds++[y],0<=d):=by
     intro y hy;refine⟨by rw[Zab];simp,by simp[hd],fun d hd'=>?_⟩;rcases YaA.mp hd' with z | z
     ·exact h0 d z
     ·have:d=y:=by simpa using z
      omega
    refine⟨_,rfl,_,_,rfl,rfl,_,rfl,?_⟩;refine ite2 (fun hc=>?_) (fun hc=>?_)
    ·refine⟨_,rfl,.inl ⟨rfl,_,SqL.of hl2⟩,_,rfl,_,rfl,lf,b,rfl,rfl,hb0,l,_,_,rfl,rfl,hl2,ZaA (by rw[Yad];omega),?_⟩;obtain⟨p1,p2,p3⟩:=push (lf % b) (YaT _ (by omega));refine⟨_,rfl,_,rfl,lf,b,rfl,rfl,⟨hb0,hbb⟩,?_⟩;exact⟨_,_,ds++[lf % b],rfl,p1,p2,p3,s2.put hl⟩
    ·refine⟨_,rfl,.inl ⟨rfl,_,SqL.of hl2⟩,_,rfl,_,rfl,c,i,?_,by omega,fun d H3 d0 s3=>?_⟩
     ·rw[show ((0:Int)+(i:Int))=(i:Int) by omega];rfl
     have hl3:=s3 l _ hl2;refine⟨_,rfl,d,b,rfl,rfl,hb0,l,_,_,rfl,rfl,hl3,ZaA (by rw[Yad];omega),?_⟩;obtain⟨p1,p2,p3⟩:=push (d % b) (YaT _ (by omega));refine⟨_,_,ds++[d % b],rfl,by rw[Zab];simp,p2,p3,(s2.trans s3).put hl⟩
   ·rintro σ H2 ⟨lf,o,ds,rfl,hl2,hd,h0,s2⟩;exact⟨_,rfl,k l ds H2 hl hl2 (by rw[hd];omega) h0 s2⟩
theorem scLevel72:FnScope ["p","rows","further","most","counts","level","higher"] ["p","rows","further","most"] (Zac Za2):=⟨rfl,rfl,rfl,by decide +kernel,rfl,by decide +kernel,by decide +kernel⟩
theorem Zhh {a b:TT}{σ:L2.St}{H:Hp}{Q:Bool->Hp->Prop} (c1 c2:Bool) (ha:∀ R:Bool->Hp->Prop,R c1 H->a σ H R) (hb:∀ R:Bool->Hp->Prop,R c2 H->b σ H R) (q:Q (c1 || c2) H):tOr a b σ H Q:=ha _ (by
 cases c1
 ·exact hb _ q
 ·exact q)
theorem Zi5 {p:Nat} (n:Nat):hd p n<=tot p n:=Zh7 (ZbT p n).2
theorem ZeI {p:Nat} (hp:2<=p) (h7:p<=7) (n:Nat):tot p (n+1)<=7*tot p n:=by
 have h1:=ZdP hp n;have h2:=Zi5 (p:=p) n;have h3:=Zd7 hp n;have:((p - 1:Nat):Int)*hd p n<=6*hd p n:=Int.mul_le_mul_of_nonneg_right (by omega) (by omega);omega
def ZcL (K:Yab):Sp:=fun vs H Q _=>∃ (p:Nat) (rows fu mo B:Int),vs=[.int p,.int rows,.int fu,.int mo]/\2<=p/\p<=7/\1<=rows/\7*rows<=B/\0<=fu/\mo<=B/\∀ (n:Nat) H',rows<=tot p n->tot p n<=B->Same H H'->Q (.int n) H'
theorem Zfe {f:Addr}{fd:FuncData} (F:Fun K "_law_level" "_law_level" Za2 f fd) (T:Txt mg):FnOk P w K mg base CX0 1 f fd ["p","rows","further","most"] (ZcL K):=by
 refine okW F scLevel72 (fun vs H Q E h=>?_) (fun cdv A outer s H vs Q E hr h=>?_)
 ·obtain⟨p,rows,fu,mo,B,rfl,_⟩:=h;rfl
 ·obtain⟨p,rows,fu,mo,B,rfl,p2,p7,r1,rB,f0,mB,k⟩:=h;refine⟨_,(Zaf (ws (Zal (i:=4) scLevel72.nd rfl (Ycj rfl) (Zak Zbi (ZaF (Zaa Zae Zad)) (Zak Ze6 (ZaF (Zaa Zae Zad)) (Zak Zbt (pv 0) Zae)))))
   (Zaf (ws (Zal (i:=5) scLevel72.nd rfl (YaJ rfl) Zae))
   (Zaf (ws (Zgj Ybl (PW.pt (Zem (ZaT Zil (Zam (Zbc rfl) rfl T.sum Zez (Zaa (pv 4) Zad)) (pv 1) (ZaP _)) (Zc8 (ZaT Zgo (pv 2) Zae (ZaP _)))))
   (WSs.out (Zaf (ws (Zal (i:=6) scLevel72.nd rfl (YaJ rfl) (Zak Zbi (ZaU (own:=["k"]) (js:=[4]) (CompOk.by (sc:=Zac Za2) (N:=["p","rows","further","most","counts","level","higher"]) rfl rfl (by decide +kernel)) rfl (ZaG rfl T.range (Zaa (Zak Zbt (pv 0) Zae) Zad)) ZaD (fun _ _ _ _ _=>(Zaq (i:=0) (by show (["k","counts"]:List Str).Nodup;decide +kernel) rfl (YaJ rfl) (.inr rfl))) (fun _ _ _ _ _=>ZaS) (fun _ _ _ _ _=>(Zak ZaV (ZaM (Zbv K) (pv 1) Zae (fun _ _=>rfl)) (ZaM (Zbv K) (pv 1) (Zak ZaV (pv 0) Zae) (fun _ _=>rfl))))) (ZaF (Zaa (ZaM ZaB (pv 4) Zae (fun _ _=>rfl)) Zad)))))
    (Zaf (Zcf (ZaT Zim (Zam (Zbc rfl) rfl T.sum Zez (Zaa (pv 4) Zad)) (pv 1) (ZaP _))
    (Zaf (ws (Zal (i:=2) scLevel72.nd rfl (YaJ rfl) (Zak Zbt (pv 2) Zae)))
     (Zat (Zcf (ZaT Zgo (Zam (Zbc rfl) rfl T.sum Zez (Zaa (pv 6) Zad)) (pv 3) (ZaP _))
     (Zaf (ws (Zal (i:=2) scLevel72.nd rfl (YaJ rfl) Zae))
      (Zaf (ws (Zal (i:=6) scLevel72.nd rfl (YaJ rfl) (pv 4)))
      (Zat (ws (Zal (i:=5) scLevel72.nd rfl (YaJ rfl) (Zak Zbt (pv 5) Zae))))))
     ZaX)))
    ZaX)
    (Zaf (ws (Zal (i:=4) scLevel72.nd rfl (Ycj rfl) (pv 6)))
    (Zat (ws (Zal (i:=5) scLevel72.nd rfl (YaJ rfl) (Zak ZaV (pv 5) Zae))))))))))
   (Zat (ws (Zau (pv 5))))))),?_⟩
  have hz:20000<sizeLine:=by decide
  refine⟨(by show 1<=sizeLine;decide),fun q1 n1=>⟨(by show 1<=sizeLine;decide),fun q2 n2=>?_⟩⟩;have s2:=(Same.new (o:=.lst [V.int 1]) n1).trans (Same.new (o:=.lst [V.int 0]) n2);have e1:upd (upd H q1 (.lst [V.int 1])) q2 (.lst [V.int 0]) q1=some (.lst [V.int 1]):=(Same.new n2) _ _ Zab;have e2:upd (upd H q1 (.lst [V.int 1])) q2 (.lst [V.int 0]) q2=some (.lst [V.int 0]):=Zab;generalize upd (upd H q1 (.lst [V.int 1])) q2 (.lst [V.int 0])=H2 at s2 e1 e2 ⊢;refine⟨_,rfl,_,_,rfl,rfl,q2,_,_,rfl,rfl,e2,by show -(2 ^ 63)<=(p:Int) - 1;omega,by show (p:Int) - 1<2 ^ 63;omega,?_,fun q3 n3=>?_⟩
  ·exact Ya9 (ZaA (by show 1*((p:Int) - 1).toNat<=1000;omega))
  have s3:=Same.new (o:=.lst (Yal ((p:Int) - 1).toNat [V.int 0]).flatten) n3;refine⟨q1,q3,_,_,rfl,rfl,s3 _ _ e1,Zab,?_,fun l0 n0=>?_⟩
  ·exact Ya9 (ZaA (by rw[Zft];simp;omega))
  have e0:[V.int 1]++(Yal ((p:Int) - 1).toNat [V.int 0]).flatten=(cnt p 0).map V.int:=by
   show _=(Zbw p).map V.int;unfold Zbw;rw[YbQ,show ((p:Int) - 1).toNat=p - 1 by omega,YaK,List.map_replicate];rfl
  rw[e0];generalize upd H2 q3 (.lst (Yal ((p:Int) - 1).toNat [V.int 0]).flatten)=H3 at s3 n0 ⊢;have s4:=Same.new (o:=.lst ((cnt p 0).map V.int)) n0;have e4:upd H3 l0 (.lst ((cnt p 0).map V.int)) l0=some (.lst ((cnt p 0).map V.int)):=Zab;generalize upd H3 l0 (.lst ((cnt p 0).map V.int))=H4 at s4 e4 ⊢;have s04:=(s2.trans s3).trans s4;have t0:tot p 0=1:=by unfold tot cnt Zbw;simp
  refine⟨fun m σ Hx=>∃ (n:Nat) (cl:Addr) (fu:Int) (o6:Option V),m=(rows - tot p n).toNat+fu.toNat/\σ=[some (.int p),some (.int rows),some (.int fu),some (.int mo),some (.ref cl),some (.int n),o6]/\Hx cl=some (.lst ((cnt p n).map V.int))/\tot p n<=B/\0<=fu/\Same H Hx,⟨_,0,l0,fu,none,rfl,rfl,e4,by omega,f0,s04⟩,?_⟩;rintro m σ Hx ⟨n,cl,fu,o6,rfl,rfl,hcl,hb,hf,sx⟩;have hcl7:=Zcd (p:=p) (by omega) n;refine Zhh (decide (tot p n<rows)) (decide (fu > 0)) (fun R h=>⟨_,rfl,cl,_,rfl,SqL.of hcl,_,rfl,_,_,rfl,rfl,_,rfl,h⟩) (fun R h=>⟨_,rfl,_,_,rfl,rfl,_,rfl,h⟩) ?_;refine ite2 (fun hgo=>?_) (fun hst=>?_)
  ·refine⟨fun σ' H'=>∃ (m:Nat) (n':Nat) (cl:Addr) (fu':Int) (o6:Option V),m=(rows - tot p n').toNat+fu'.toNat/\m<(rows - tot p n).toNat+fu.toNat/\σ'=[some (.int p),some (.int rows),some (.int fu'),some (.int mo),some (.ref cl),some (.int n'),o6]/\H' cl=some (.lst ((cnt p n').map V.int))/\tot p n'<=B/\0<=fu'/\Same H H',fun σ' H' ⟨m,n,cl,fu,o6,e1,e2,r⟩=>⟨m,e2,n,cl,fu,o6,e1,r⟩,?_⟩;refine⟨_,rfl,_,_,rfl,rfl,_,rfl,by show -(2 ^ 62)<=(p:Int) - 1;omega,by show (p:Int) - 1<2 ^ 62;omega,?_⟩;rw[show ((p:Int) - 1).toNat=p - 1 by omega];have gc:∀ j:Nat,j<p->atI ((cnt p n).map V.int) (j:Int)=some (.int ((cnt p n).getD j 0)):=fun j hj=>by
    rw[Zc0 (by omega) (by omega),YaS]
   refine ZfP (lo:=0) (n:=p - 1) (((YaL (p - 1)).map fun k=>(cnt p n).getD 0 0+(cnt p n).getD (k+1) 0).map V.int) (by simp) (by omega) (fun i z hi hz' Hc sc Rr hRr=>?_) fun a5 H5 na5 s5 ha5=>?_
   ·rw[Yai,Yai,Ycx hi] at hz';cases hz';refine⟨_,rfl,cl,_,0,_,rfl,rfl,SqL.of (sc _ _ hcl),gc 0 (by omega),_,rfl,_,rfl,_,_,rfl,rfl,cl,_,_,_,rfl,rfl,SqL.of (sc _ _ hcl),(by rw[show (0:Int)+(i:Int)+1=((i+1:Nat):Int) by omega];exact gc (i+1) (by omega)),_,_,rfl,rfl,hRr Hc (Same.refl _)⟩
   refine⟨_,rfl,cl,_,0,_,rfl,rfl,SqL.of (s5 _ _ hcl),gc 0 (by omega),(by show 1<=sizeLine;decide),fun q6 n6=>?_⟩;have s6:=Same.new (o:=.lst [V.int ((cnt p n).getD 0 0)]) n6;refine⟨a5,q6,_,_,rfl,rfl,s6 _ _ ha5,Zab,by rw[sizeLine_eq];simp;omega,fun hl nhl=>?_⟩;have ec:((YaL (p - 1)).map fun k=>(cnt p n).getD 0 0+(cnt p n).getD (k+1) 0).map V.int++[V.int ((cnt p n).getD 0 0)]=(cnt p (n+1)).map V.int:=by
    show _=(Za3 (cnt p n)).map V.int;unfold Za3;rw[Yax];congr 2;apply List.ext_getElem?;intro j;rw[Yai,Yai];by_cases hj:j<p - 1
    ·rw[Ycx hj,List.getElem?_tail,Yac (by omega)];simp only[YdZ];rw[show (cnt p n).getD (j+1) 0=(cnt p n)[j+1]'(by omega) by rw[Yaw,Yac (by omega)];rfl]
    ·rw[Ydz (by simp;omega),Ydz (by simp;omega)];rfl
   rw[ec];generalize upd H5 q6 (.lst [V.int ((cnt p n).getD 0 0)])=H6 at s6 nhl ⊢;have s7:=Same.new (o:=.lst ((cnt p (n+1)).map V.int)) nhl;have e7:upd H6 hl (.lst ((cnt p (n+1)).map V.int)) hl=some (.lst ((cnt p (n+1)).map V.int)):=Zab;generalize upd H6 hl (.lst ((cnt p (n+1)).map V.int))=H7 at s7 e7 ⊢;have s57:=(s5.trans s6).trans s7;have hcl7:=s57 _ _ hcl;have sx7:=sx.trans s57;have hlt:=ZgX p2 n;dsimp only;refine cutG (a:=tIfS _ _ _) (fun σ' H'=>∃ (fu':Int) (n':Nat) (lv:Int) (hl':Addr),σ'=[some (.int p),some (.int rows),some (.int fu'),some (.int mo),some (.ref cl),some (.int lv),some (.ref hl')]/\lv+1=n'/\H' hl'=some (.lst ((cnt p n').map V.int))/\tot p n'<=B/\0<=fu'/\(rows - tot p n').toNat+fu'.toNat<(rows - tot p n).toNat+fu.toNat/\Same H H') (fun R' hR=>?_) ?_
   ·refine⟨_,rfl,cl,_,rfl,SqL.of hcl7,_,rfl,_,_,rfl,rfl,_,rfl,ite2 (fun hge=>?_) fun hlt2=>?_⟩
    ·have hge:(tot p n:Int) ≥ rows:=of_decide_eq_true hge;have hfp:0<fu:=by
      rw[decide_eq_false (show ¬ tot p n<rows by omega),Bool.false_or] at hgo;exact of_decide_eq_true hgo
     refine⟨_,rfl,_,_,rfl,rfl,_,rfl,hl,_,rfl,SqL.of e7,_,rfl,_,_,rfl,rfl,_,rfl,ite2 (fun _=>?_) fun hle=>?_⟩
     ·exact⟨_,rfl,_,rfl,_,_,rfl,rfl,hR _ _ ⟨0,n,_,cl,rfl,by omega,hcl7,hb,by omega,by omega,sx7⟩⟩
     ·have hle:¬ tot p (n+1) > mo:=fun z=>hle (decide_eq_true z);exact hR _ _ ⟨_,n+1,_,hl,rfl,by omega,e7,by omega,by omega,by omega,sx7⟩
    ·have hlt2:¬ tot p n ≥ rows:=fun z=>hlt2 (decide_eq_true z);have h7:=ZeI p2 p7 n;exact hR _ _ ⟨fu,n+1,_,hl,rfl,by omega,e7,by omega,hf,by omega,sx7⟩
   rintro σ H8 ⟨fu',n',lv,hl',rfl,hlv,hhl,hb',hf',hm',sx8⟩;refine⟨_,rfl,_,rfl,_,_,rfl,rfl,?_⟩;exact⟨_,n',hl',fu',_,rfl,hm',by rw[<- hlv];rfl,hhl,hb',hf',sx8⟩
  ·have hst:¬ (tot p n<rows)/\¬ fu > 0:=by
    constructor
    ·intro z;exact hst (by rw[decide_eq_true z];rfl)
    ·intro z;exact hst (by rw[decide_eq_true z,Bool.or_true])
   exact⟨_,rfl,k n _ (by omega) hb sx⟩
theorem scReels72:FnScope ["p","n","reels","level","more"] ["p","n"] (Zac ZaQ):=⟨rfl,rfl,rfl,by decide +kernel,rfl,by decide +kernel,by decide +kernel⟩
def ZbY (K:Yab):Sp:=fun vs H Q _=>∃ (p n:Nat),vs=[.int p,.int n]/\2<=p/\p<=7/\n<=400/\tot p n<=4000/\∀ l (rs:List Addr) H',H l=none->H' l=some (.lst (rs.map V.ref))->LLs H' rs (num p n)->Same H H'->Q (.ref l) H'
theorem Zes {f:Addr}{fd:FuncData} (F:Fun K "_law_reels" "_law_reels" ZaQ f fd) (T:Txt mg):FnOk P w K mg base CX0 1 f fd ["p","n"] (ZbY K):=by
 refine okW F scReels72 (fun vs H Q E h=>?_) (fun cdv A outer s H vs Q E hr h=>?_)
 ·obtain⟨p,n,rfl,_⟩:=h;rfl
 ·obtain⟨p,n,rfl,p2,p7,hn,ht,k⟩:=h;refine⟨_,(Zaf (ws (Zal (i:=2) scReels72.nd rfl (Ycj rfl) (Zak Zbi (ZaF (Zaa (ZaF (Zaa Zae Zad)) Zad)) (ZaU (own:=["reel"]) (js:=[]) (CompOk.by (sc:=Zac ZaQ) (N:=["p","n","reels","level","more"]) rfl rfl (by decide +kernel)) rfl (ZaG rfl T.range (Zaa (Zak Zbt (pv 0) Zae) Zad)) ZaD (fun _ _ _ _ _=>(Zaq (i:=0) (by show (["reel"]:List Str).Nodup;decide +kernel) rfl (YaJ rfl) (.inr rfl))) (fun _ _ _ _ _=>ZaS) (fun _ _ _ _ _=>(ZaF Zad))))))
   (Zaf (ws (ZbN Ybl rfl (ZaG rfl T.range (Zaa (pv 1) Zad)) (Zaq (i:=3) scReels72.nd rfl (YaJ rfl))
   (WSs.out (Zaf (ws (Zal (i:=4) scReels72.nd rfl (Ycj rfl) (ZaU (own:=["number"]) (js:=[]) (CompOk.by (sc:=Zac ZaQ) (N:=["p","n","reels","level","more"]) rfl rfl (by decide +kernel)) rfl (ZdI (ZaM ZaB (pv 2) Zae (fun _ _=>rfl))) ZaD (fun _ _ _ _ _=>(Zaq (i:=0) (by show (["number"]:List Str).Nodup;decide +kernel) rfl (YaJ rfl) (.inr rfl))) (fun _ _ _ _ _=>ZaS) (fun _ _ _ _ _=>(Zak ZaV (pv 0) Zae)))))
    (Zat (ws (Zal (i:=2) scReels72.nd rfl (Ycj rfl) (Zak Zbi (ZaU (own:=["k"]) (js:=[2,4]) (CompOk.by (sc:=Zac ZaQ) (N:=["p","n","reels","level","more"]) rfl rfl (by decide +kernel)) rfl (ZaG rfl T.range (Zaa (Zak Zbt (pv 0) Zae) Zad)) ZaD (fun _ _ _ _ _=>(Zaq (i:=0) (by show (["k","reels","more"]:List Str).Nodup;decide +kernel) rfl (YaJ rfl) (.inr rfl))) (fun _ _ _ _ _=>ZaS) (fun _ _ _ _ _=>(Zak Zbi (pv 2) (ZaM (Zbv K) (pv 1) (Zak ZaV (pv 0) Zae) (fun _ _=>rfl))))) (ZaF (Zaa (pv 4) Zad))))))))))
   (Zat (ws (Zau (pv 2)))))),?_⟩
  have hz:20000<sizeLine:=by decide
  refine⟨(by show 1<=sizeLine;decide),fun q1 n1=>⟨(by show 1<=sizeLine;decide),fun q2 n2=>?_⟩⟩;have s2:=(Same.new (o:=.lst [V.int 0]) n1).trans (Same.new (o:=.lst [V.ref q1]) n2);have e1:upd (upd H q1 (.lst [V.int 0])) q2 (.lst [V.ref q1]) q1=some (.lst [V.int 0]):=(Same.new n2) _ _ Zab;have e2:upd (upd H q1 (.lst [V.int 0])) q2 (.lst [V.ref q1]) q2=some (.lst [V.ref q1]):=Zab;generalize upd (upd H q1 (.lst [V.int 0])) q2 (.lst [V.ref q1])=H2 at s2 e1 e2 ⊢;refine⟨_,rfl,_,_,rfl,rfl,_,rfl,by show -(2 ^ 62)<=(p:Int) - 1;omega,by show (p:Int) - 1<2 ^ 62;omega,?_⟩;rw[show ((p:Int) - 1).toNat=p - 1 by omega];refine Zdl (lo:=0) (n:=p - 1) (Yal (p - 1) []) (by simp) (by omega) (fun i xs hi hx Hc sc Rr hRr=>?_) fun a3 qs H3 na3 s3 ha3 hL3 _=>?_
  ·rw[YbN,if_pos hi] at hx;cases hx;exact⟨YaX _,fun q nq=>hRr q _ nq (Same.new nq) Zab⟩
  refine⟨q2,a3,_,_,rfl,rfl,s3 _ _ e2,ha3,?_,fun rl0 nrl0=>?_⟩
  ·have:=hL3.1;rw[Ybz] at this;exact Ya9 (ZaA (by rw[Yad,this];simp;omega))
  have s4:=Same.new (o:=.lst ([V.ref q1]++qs.map V.ref)) nrl0;have e4:upd H3 rl0 (.lst ([V.ref q1]++qs.map V.ref)) rl0=some (.lst ((q1::qs).map V.ref)):=Zab;have hN4:LLs H3 (q1::qs) (num p 0):=by
   refine⟨by have:=hL3.1;show _=(num0 p).length;unfold num0;simp at this ⊢;exact this,fun j r xs a b=>?_⟩
   cases j with
   | zero=>
    have a:q1=r:=by simpa using a
    have b:[0]=xs:=by
     have b:(num0 p)[0]?=some xs:=b;simpa[num0] using b
    rw[<- a,<- b];exact s3 _ _ e1
   | succ j=>exact hL3.2 j r xs (by simpa using a) (by
     have b:(num0 p)[j+1]?=some xs:=b;simpa[num0] using b)
  have hN4:=hN4.same s4;generalize upd H3 rl0 (.lst ([V.ref q1]++qs.map V.ref))=H4 at s4 e4 hN4 ⊢;have s04:=(s2.trans s3).trans s4;refine⟨_,rfl,n,rfl,by omega,by omega,?_⟩;rw[YaS];refine Za1 (fun i σ Hx=>∃ (rl:Addr) (rs:List Addr) (o3 o4:Option V),σ=[some (.int p),some (.int n),some (.ref rl),o3,o4]/\Hx rl=some (.lst (rs.map V.ref))/\LLs Hx rs (num p i)/\H rl=none/\Same H Hx) ⟨rl0,q1::qs,none,none,rfl,e4,hN4,(s2.trans s3).free nrl0,s04⟩ ?_ ?_
  ·rintro i σ Hx hi ⟨rl,rs,o3,o4,rfl,hrl,hLL,nrl,sx⟩;obtain⟨x,r,ex,hr,exn⟩:=Zfk p2 i;have hlen:rs.length=p:=by rw[hLL.1];exact Zb7 (by omega) i
   have hxl:x.length<=4000:=by
    have:=Zfl (p:=p) (n:=i) (xs:=x) (by rw[ex];exact YaV);have:=ZbR p2 (m:=i) (n:=n) (by omega);omega
   obtain⟨a0,rs',rfl⟩:∃ a0 rs',rs=a0::rs':=by
    match rs,hlen with
    | [],h=>simp at h;omega
    | a0::rs',_=>exact⟨a0,rs',rfl⟩
   have ha0:=hLL.2 0 a0 x rfl (by rw[ex];rfl);refine⟨_,rfl,rl,_,0,.ref a0,rfl,rfl,SqL.of hrl,(Za0 (j:=0) rfl),a0,true,rfl,⟨_,SqL.of ha0⟩,?_⟩;refine Zdm ((x.map (·+1)).map V.int) (show SqB true K Hx a0 (x.map V.int) from SqL.of ha0) (by simp) (by rw[Yad];omega) (fun j y z hy hz' Hc sc Rr hRr=>?_) fun ml H5 nml s5 hml=>?_
   ·obtain⟨y',hy',rfl⟩:=Zbo hy;rw[Yai,Yai,hy'] at hz';cases hz';exact⟨_,rfl,_,_,rfl,rfl,hRr Hc (Same.refl _)⟩
   have hrl5:=s5 _ _ hrl;have hLL5:=hLL.same s5;have sx5:=sx.trans s5;refine⟨_,rfl,_,_,rfl,rfl,_,rfl,by show -(2 ^ 62)<=(p:Int) - 1;omega,by show (p:Int) - 1<2 ^ 62;omega,?_⟩;rw[show ((p:Int) - 1).toNat=p - 1 by omega];have hrl4:∀ y∈r,y.length<=4000:=fun y hy=>by
    have:=Zfl (p:=p) (n:=i) (xs:=y) (by rw[ex];exact YaM _ hy);have:=ZbR p2 (m:=i) (n:=n) (by omega);omega
   refine Zdl (lo:=0) (n:=p - 1) (r.map (x.map (·+1)++·)) (by rw[Yad];omega) (by omega) (fun j xs hj hx Hc sc Rr hRr=>?_) fun a6 qs6 H6 na6 s6 ha6 hL6 _=>?_
   ·rw[Yai] at hx;have hjr:j<r.length:=by omega
    rw[Yac hjr] at hx;cases hx;have hjs:j+1<(a0::rs').length:=by omega
    have hy:=hLL5.2 (j+1) _ r[j] (Yac hjs) (by rw[ex];exact Yac hjr);have hjy:=hrl4 _ (Ybj hjr);have hat:atI ((a0::rs').map V.ref) ((0:Int)+(j:Int)+1)=some (.ref (a0::rs')[j+1]):=by
     rw[show (0:Int)+(j:Int)+1=((j+1:Nat):Int) by omega];exact Za0 (by rw[Yai,Yac hjs];rfl)
    exact⟨_,rfl,_,rfl,_,rfl,_,_,rfl,rfl,rl,_,_,.ref (a0::rs')[j+1],rfl,rfl,SqL.of (sc _ _ hrl5),hat,ml,_,_,_,rfl,rfl,sc _ _ hml,sc _ _ hy,by rw[sizeLine_eq];simp;omega,fun q nq=>hRr q _ nq (Same.new nq) (by rw[Zab,Yax])⟩
   refine⟨_,rfl,(by show 1<=sizeLine;decide),fun q7 n7=>?_⟩;have s7:=Same.new (o:=.lst [V.ref ml]) n7;refine⟨a6,q7,_,_,rfl,rfl,s7 _ _ ha6,Zab,?_,fun rl2 nrl2=>?_⟩
   ·have:=hL6.1;rw[Yad] at this;exact Ya9 (ZaA (by rw[Yad,this];simp;omega))
   have hL7:=((hL6.same s7).snocC (s7 _ _ (s6 _ _ hml)))
   generalize upd H6 q7 (.lst [V.ref ml])=H7 at s7 nrl2 hL7 ⊢;have s8:=Same.new (o:=.lst (qs6.map V.ref++[V.ref ml])) nrl2;have sx8:=((sx5.trans s6).trans s7).trans s8;refine⟨rl2,qs6++[ml],_,_,rfl,by rw[Zab,Yax];rfl,?_,((sx5.trans s6).trans s7).free nrl2,sx8⟩;rw[exn];exact hL7.same s8
  ·rintro σ Hx ⟨rl,rs,o3,o4,rfl,hrl,hLL,nrl,sx⟩;exact⟨_,rfl,k rl rs Hx nrl hrl hLL sx⟩
end
end Fk36
namespace Fk36
open PySem L2 Lv
section
variable {P:Program}{w:World}{K:Yab}{mg:Str->Option Value}{base:Heap}
theorem scPlc72:FnScope ["reels","rows","draws","places","reel","some","found","k","at"] ["reels","rows","draws"] (Zac Zb2):=⟨rfl,rfl,rfl,by decide +kernel,rfl,by decide +kernel,by decide +kernel⟩
theorem ZeA {ps:List Addr} (h:1<=ps.length):atI (ps.map V.ref) (-1)=some (.ref (ps[ps.length - 1]'(by omega))):=by
 obtain⟨ys,y,rfl⟩:∃ ys y,ps=ys++[y]:=⟨ps.dropLast,ps.getLast (fun e=>by rw[e] at h;simp at h),(YcV _).symm⟩
 rw[Yax];have:=ZgR (ys.map V.ref) (V.ref y);simpa using this
def Zdx (K:Yab):Sp:=fun vs H Q _=>∃ (rl dl:Addr) (rs:List Addr) (N:List (List Int)) (rows:Nat) (ds:List Int),vs=[.ref rl,.int rows,.ref dl]/\H rl=some (.lst (rs.map V.ref))/\LLs H rs N/\N.length<=7/\N.flatten.length<=4000/\rows<=N.flatten.length/\rows<=ds.length/\H dl=some (.lst (ds.map V.int))/\∀ l (qs:List Addr) (ks:List (List Int)) H',H l=none->H' l=some (.lst (qs.map V.ref))->TuM H' qs ks->ks.Nodup->(∀ k∈ks,InN N k)->ks.length=rows->Same H H'->Q (.ref l) H'
theorem Zgu {f:Addr}{fd:FuncData} (F:Fun K "_law_placing" "_law_placing" Zb2 f fd) (T:Txt mg) (Te:mg "enumerate"=none):FnOk P w K mg base CX0 1 f fd ["reels","rows","draws"] (Zdx K):=by
 refine okW F scPlc72 (fun vs H Q E h=>?_) (fun cdv A outer s H vs Q E hr h=>?_)
 ·obtain⟨rl,dl,rs,N,rows,ds,rfl,_⟩:=h;rfl
 ·obtain⟨rl,dl,rs,N,rows,ds,rfl,hrl,hLL,hN7,hN4,hr,hrd,hd,k⟩:=h;refine⟨_,(Zaf (ws (Zal (i:=3) scPlc72.nd rfl (YaJ rfl) (ZaF Zad)))
   (Zaf (ws (ZbN Ybl rfl (Zgl rfl Te (Zaa (pv 0) Zad)) (Ze1 rfl (ZaH (Zaq (i:=4) scPlc72.nd rfl (Ycj rfl)) (ZaH (Zaq (i:=5) scPlc72.nd rfl (YaJ rfl)) ZbH)))
   (WSs.out (Zat (ws (ZaY (Ze4 Ybk PySem.F.slot_list_extend PySem.F.type_list_extend Zfn (pv 3) (Zaa (ZaU (own:=["place"]) (js:=[4]) (CompOk.by (sc:=Zac Zb2) (N:=["reels","rows","draws","places","reel","some","found","k","at"]) rfl rfl (by decide +kernel)) rfl (ZaG rfl T.range (Zaa (Zam Zas rfl T.len Ybe (Zaa (pv 5) Zad)) Zad)) ZaD (fun _ _ _ _ _=>(Zaq (i:=0) (by show (["place","reel"]:List Str).Nodup;decide +kernel) rfl (YaJ rfl) (.inr rfl))) (fun _ _ _ _ _=>ZaS) (fun _ _ _ _ _=>(ZcB (Zaa (pv 1) (Zaa (pv 0) Zad))))) Zad))))))))
   (Zaf (ws (Zal (i:=6) scPlc72.nd rfl (YaJ rfl) (ZaF Zad)))
   (Zaf (ws (ZbN Ybl rfl (ZaG rfl T.range (Zaa (pv 1) Zad)) (Zaq (i:=7) scPlc72.nd rfl (YaJ rfl))
   (WSs.out (Zaf (ws (Zal (i:=8) scPlc72.nd rfl (YaJ rfl) (Zak ZaJ (ZaM ZaB (pv 2) (pv 7) (fun _ _=>rfl)) (Zam Zas rfl T.len Ybe (Zaa (pv 3) Zad)))))
    (Zaf (ws (ZaY (Ze4 Ybk YbG YbF Zba (pv 6) (Zaa (ZaM ZaB (pv 3) (pv 8) (fun _ _=>rfl)) Zad))))
    (Zaf (ws (ZeW (ZaM ZaB (pv 3) (Zif ZgV Zae) (fun _ _=>rfl)) (Zid (pv 3) (pv 8) Zgc)))
    (Zat (ws (ZaY (Zij Ybk PySem.F.slot_list_pop PySem.F.type_list_pop Zip (pv 3)))))))))))
   (Zat (ws (Zau (pv 6)))))))),?_⟩
  have hz:20000<sizeLine:=by decide
  refine⟨YaX _,fun pl npl=>?_⟩;have s1:Same H (upd H pl (.lst [])):=Same.new npl;have e1:upd H pl (.lst []) pl=some (.lst (([]:List Addr).map V.ref)):=Zab;generalize upd H pl (.lst [])=H1 at s1 e1 ⊢;refine⟨_,rfl,rl,true,rfl,⟨_,SqL.of (s1 _ _ hrl)⟩,?_⟩;have hlN:∀ i,i<=N.length->(plcs N i).length<=4000:=fun i hi=>by
   rw[ZcT N i hi];refine Ya4 ?_ hN4;rw[YdN];have:(N.map YbK).sum=((N.take i).map YbK).sum+((N.drop i).map YbK).sum:=by
    rw[<- List.sum_append_nat,<- Yax,Ybg]
   omega
  refine ZfE (b:=true) (K:=K) (a:=rl) (xs:=rs.map V.ref) (fun i σ Hx=>∃ (qs:List Addr) (o4 o5 o6 o7 o8:Option V),σ=[some (.ref rl),some (.int rows),some (.ref dl),some (.ref pl),o4,o5,o6,o7,o8]/\Hx pl=some (.lst (qs.map V.ref))/\TuM Hx qs (plcs N i)/\Same H Hx) ⟨[],none,none,none,none,none,rfl,e1,TuM.nil,s1⟩ (fun i σ Hx _ ⟨_,_,_,_,_,_,_,_,_,sx⟩=>SqL.of (sx _ _ hrl)) ?_ ?_
  ·rintro i x q σ Hx hx ⟨qs,o4,o5,o6,o7,o8,rfl,hpl,hTu,sx⟩ hq;obtain⟨r,hr',rfl⟩:=Za4 hx;have hi:i<N.length:=by rw[<- hLL.1];exact (Yaf.mp hr').1
   have s3:Same Hx (upd Hx q (.tup [.int i,.ref r])):=Same.new hq;have hq3:upd Hx q (.tup [.int i,.ref r]) q=some (.tup [.int i,.ref r]):=Zab;generalize upd Hx q (.tup [.int i,.ref r])=H3 at s3 hq3 ⊢;have hpl3:=s3 _ _ hpl;have hTu3:=hTu.same s3;have sx3:=sx.trans s3;have hrN:=sx3 _ _ (hLL.2 i r N[i] hr' (Yac hi));have egN:N.getD i []=N[i]:=by rw[Yaw,Yac hi];rfl
   have hNi:N[i].length<=4000:=by
    have:=hlN (i+1) (by omega);rw[Zbr,Yap,Yad,Ybs,egN] at this;omega
   refine⟨q,_,rfl,SqT.of hq3,rfl,_,_,rfl,_,_,rfl,rfl,?_⟩;refine⟨_,rfl,.inl ⟨rfl,_,SqL.of hpl3⟩,_,rfl,r,_,rfl,.inl (SqL.of hrN),_,rfl,by rw[Yad];omega,by rw[Yad];omega,?_⟩;rw[Yad,YaS];refine ZfO (lo:=0) (n:=N[i].length) ((YaL N[i].length).map fun (j:Nat)=>[(i:Int),(j:Int)]) (by simp) (by omega) (fun j xs hj hx' Hc sc Rr hRr=>?_) fun a4 qs4 H4 na4 s4 ha4 hT4 _=>?_
   ·rw[Yai,Ycx hj] at hx';cases hx';exact⟨_,rfl,_,rfl,(by show 2<=sizeLine;decide),fun t nt=>hRr t _ nt (Same.new nt) (by rw[Zab,show (0:Int)+(j:Nat)=(j:Int) by omega];rfl)⟩
   have hpl4:=s4 _ _ hpl3;have sx4:=sx3.trans s4;have hl1:=hTu3.len;have hl2:=hT4.1;have hl3:=hlN i (by omega);refine⟨pl,a4,_,_,rfl,rfl,hpl4,ha4,by rw[sizeLine_eq];simp at hl2 ⊢;omega,?_⟩;refine⟨qs++qs4,_,_,_,_,_,rfl,by rw[Zab,Yax],?_,sx4.put npl⟩;rw[Zbr,egN];refine ((hTu3.same s4).app (TuM.ofTT hT4 fun k hk=>?_)).keep fun z hz=>Zah fun e=>?_
   ·obtain⟨j,_,rfl⟩:=YaN.mp hk;exact Yeb _ _
   ·rcases YaA.mp hz with hz | hz
    ·obtain⟨k',_,hk'⟩:=(hTu3.same s4).1 z hz;rw[e,hpl4] at hk';cases hk'
    ·obtain⟨j,hj,rfl⟩:=Ya3 hz;have:=hT4.2 j _ _ (Yac hj) (Yac (by rw[<- hT4.1];exact hj));rw[e,hpl4] at this;cases this
  rintro σ Hx ⟨qs,o4,o5,o6,o7,o8,rfl,hpl,hTu,sx⟩;rw[Yad,hLL.1] at hTu;have hql:qs.length=N.flatten.length:=by
   rw[hTu.len,ZcT N N.length (Yah _),YaR,YdN]
  refine⟨YaX _,fun fl nfl=>?_⟩;have s2:Same Hx (upd Hx fl (.lst [])):=Same.new nfl;have e2:upd Hx fl (.lst []) fl=some (.lst (([]:List Addr).map V.ref)):=Zab;have npf:pl≠fl:=Zag hpl nfl;have hpl2:=s2 _ _ hpl;have nflH:H fl=none:=sx.free nfl;have hTu2:=hTu.same s2;have sx2:=sx.trans s2;generalize upd Hx fl (.lst [])=H2 at s2 e2 hpl2 hTu2 sx2 ⊢;refine⟨_,rfl,rows,rfl,by omega,by omega,?_⟩;rw[YaS];refine Za1 (fun i σ Hx=>∃ (ps fs:List Addr) (ks:List (List Int)) (o7 o8:Option V),σ=[some (.ref rl),some (.int rows),some (.ref dl),some (.ref pl),o4,o5,some (.ref fl),o7,o8]/\Hx pl=some (.lst (ps.map V.ref))/\Hx fl=some (.lst (fs.map V.ref))/\TuM Hx (fs++ps) ks/\ks.Nodup/\(∀ k∈ks,InN N k)/\fs.length=i/\ps.length+i=N.flatten.length/\Same H Hx) ⟨qs,[],plcs N N.length,o7,o8,rfl,hpl2,e2,hTu2,ZcA N _,fun k hk=>Zhw hk,rfl,by omega,sx2⟩ ?_ ?_
  ·rintro i σ Hy hi ⟨ps,fs,ks,o7,o8,rfl,hpy,hfy,hTy,hnd,hin,hfl,hpsl,sy⟩;have hdy:=sy _ _ hd;obtain⟨m,em⟩:∃ m:Nat,ds.getD i 0 % (ps.length:Int)=(m:Int)/\m<ps.length:=by
    have h1:=YaT (ds.getD i 0) (show (ps.length:Int)≠0 by omega);have h2:=YaY (ds.getD i 0) (show (0:Int)<ps.length by omega);exact⟨(ds.getD i 0 % (ps.length:Int)).toNat,by omega,by omega⟩
   obtain⟨em,hm⟩:=em;have hds:atI (ds.map V.int) (i:Int)=some (.int (ds.getD i 0)):=by rw[Zc0 (by omega) (by omega),YaS]
   refine⟨_,rfl,_,rfl,dl,_,_,_,rfl,rfl,SqL.of hdy,(by rw[show (0:Int)+(i:Int)=(i:Int) by omega];exact hds),_,rfl,pl,_,rfl,.inl (SqL.of hpy),_,_,rfl,rfl,by show (0:Int)<((ps.map V.ref).length:Int);rw[Yad];omega,?_⟩;dsimp only;rw[Yad,em];have hpm:(ps.map V.ref)[m]?=some (.ref ps[m]):=by rw[Yai,Yac hm];rfl
   refine⟨_,rfl,.inl ⟨rfl,_,SqL.of hfy⟩,_,rfl,_,rfl,pl,_,_,.ref ps[m],rfl,rfl,SqL.of hpy,Za0 hpm,fl,_,_,rfl,rfl,hfy,by rw[Yad];omega,?_⟩;have hpy1:upd Hy fl (.lst (fs.map V.ref++[.ref ps[m]])) pl=some (.lst (ps.map V.ref)):=by rw[Zah npf];exact hpy
   have hfy1:upd Hy fl (.lst (fs.map V.ref++[.ref ps[m]])) fl=some (.lst ((fs++[ps[m]]).map V.ref)):=by rw[Zab,Yax];rfl
   have sy1:Same H (upd Hy fl (.lst (fs.map V.ref++[.ref ps[m]]))):=sy.put nflH;have hTy1:TuM (upd Hy fl (.lst (fs.map V.ref++[.ref ps[m]]))) (fs++ps) ks:=hTy.keep fun z hz=>Zah fun e=>by
    obtain⟨k',_,hk'⟩:=hTy.1 z hz;rw[e,hfy] at hk';cases hk'
   generalize upd Hy fl (.lst (fs.map V.ref++[.ref ps[m]]))=H5 at hpy1 hfy1 sy1 hTy1 ⊢;have hlast:ps.length - 1<ps.length:=by omega
   have hat:atI (ps.map V.ref) (-1)=some (.ref ps[ps.length - 1]):=ZeA (by omega);refine⟨_,rfl,1,rfl,pl,_,_,.ref ps[ps.length - 1],rfl,rfl,SqL.of hpy1,hat,?_⟩;refine⟨_,rfl,_,rfl,pl,_,_,m,rfl,rfl,hpy1,by rw[Yad,Zg7 (by omega) (by omega),YaS],?_⟩;have hpy2:upd H5 pl (.lst ((ps.map V.ref).set m (.ref ps[ps.length - 1]))) pl=some (.lst ((ps.set m ps[ps.length - 1]).map V.ref)):=by rw[Zab,List.map_set]
   have hfy2:upd H5 pl (.lst ((ps.map V.ref).set m (.ref ps[ps.length - 1]))) fl=some (.lst ((fs++[ps[m]]).map V.ref)):=by rw[Zah (YbO npf)];exact hfy1
   have sy2:Same H (upd H5 pl (.lst ((ps.map V.ref).set m (.ref ps[ps.length - 1])))):=sy1.put npl;have hTy2:TuM (upd H5 pl (.lst ((ps.map V.ref).set m (.ref ps[ps.length - 1])))) (fs++ps) ks:=hTy1.keep fun z hz=>Zah fun e=>by
    obtain⟨k',_,hk'⟩:=hTy1.1 z hz;rw[e,hpy1] at hk';cases hk'
   generalize upd H5 pl (.lst ((ps.map V.ref).set m (.ref ps[ps.length - 1])))=H6 at hpy2 hfy2 sy2 hTy2 ⊢;have hsl:(ps.set m ps[ps.length - 1]).length=ps.length:=List.length_set;refine⟨_,rfl,.inl ⟨rfl,_,SqL.of hpy2⟩,pl,_,_,rfl,rfl,hpy2,Yac (by rw[Yad,hsl];omega),?_⟩;have hperm:(fs++ps).Perm ((fs++[ps[m]])++Zep ps m ps[ps.length - 1]):=by
    rw[Yd5];exact (Zeo (Yac hm) (Yac hlast)).append_left fs
   obtain⟨ks',hT',hpk⟩:=TuM.perm (hTy2.keep (H':=upd H6 pl (.lst ((ps.set m ps[ps.length - 1]).map V.ref).dropLast)) fun z hz=>Zah fun e=>by
    obtain⟨k',_,hk'⟩:=hTy2.1 z hz;rw[e,hpy2] at hk';cases hk') hperm
   refine⟨Zep ps m ps[ps.length - 1],fs++[ps[m]],ks',_,_,rfl,by rw[Zab,<- List.map_dropLast];rfl,by rw[Zah (YbO npf)];exact hfy2,hT',hpk.nodup_iff.mp hnd,fun k hk=>hin k (hpk.mem_iff.mpr hk),by rw[Yap,hfl];rfl,by rw[ZeY];omega,sy2.put npl⟩
  ·rintro σ Hy ⟨ps,fs,ks,o7,o8,rfl,hpy,hfy,hTy,hnd,hin,hfl,hpsl,sy⟩;refine⟨_,rfl,?_⟩;have hTf:TuM Hy fs (ks.take rows):=by
    refine⟨fun p hp=>hTy.1 p (Yct _ hp),?_⟩;rw[<- hTy.2,Yax,<- hfl,show fs.length=(fs.map (kf Hy)).length by rw[Yad],List.take_left]
   have hkl:ks.length=fs.length+ps.length:=by rw[<- hTy.len,Yap]
   exact k fl fs (ks.take rows) Hy nflH hfy hTf (hnd.sublist (Yd2 _ _)) (fun k hk=>hin k (Ycs hk)) (by rw[Yay];omega) sy
theorem scLen71:FnScope ["draws","most","way","found","k","number"] ["draws","most"] (Zac Zcv):=⟨rfl,rfl,rfl,by decide +kernel,rfl,by decide +kernel,by decide +kernel⟩
theorem at6 {P:Int->Prop}{w a b c d e g:Int} (h0:0<=w) (h6:w<6) (ha:P a) (hb:P b) (hc:P c) (hd:P d) (he:P e) (hg:P g):∃ x:Int,atI [V.int a,.int b,.int c,.int d,.int e,.int g] w=some (.int x)/\P x:=by
 rcases (show w=0∨w=1∨w=2∨w=3∨w=4∨w=5 by omega) with rfl | rfl | rfl | rfl | rfl | rfl
 ·exact⟨a,rfl,ha⟩
 ·exact⟨b,rfl,hb⟩
 ·exact⟨c,rfl,hc⟩
 ·exact⟨d,rfl,hd⟩
 ·exact⟨e,rfl,he⟩
 ·exact⟨g,rfl,hg⟩
def ZdB:Sp:=fun vs H Q _=>∃ (dl:Addr) (ds:List Int) (m:Nat),vs=[.ref dl,.int m]/\H dl=some (.lst (ds.map V.int))/\(∀ d∈ds,0<=d)/\1<=m/\m<=200/\m+2<=ds.length/\ds.length<=1000/\∀ l (ls:List Int) H',H l=none->H' l=some (.lst (ls.map V.int))->1<=ls.length->ls.length<=m->(∀ x∈ls,0<=x/\x<=1000000000000)->Same H H'->Q (.ref l) H'
theorem Zgz {f:Addr}{fd:FuncData} (F:Fun K "_law_lengths" "_law_lengths" Zcv f fd) (T:Txt mg):FnOk P w K mg base CX0 1 f fd ["draws","most"] ZdB:=by
 refine okW F scLen71 (fun vs H Q E h=>?_) (fun cdv A outer s H vs Q E hr h=>?_)
 ·obtain⟨dl,ds,m,rfl,_⟩:=h;rfl
 ·obtain⟨dl,ds,m,rfl,hd,hd0,hm1,hm2,hdl,hd10,k⟩:=h;refine⟨_,(Zaf (ws (Zal (i:=2) scLen71.nd rfl (YaJ rfl) (Zak ZaJ (ZaM ZaB (pv 0) Zae (fun _ _=>rfl)) Zae)))
   (Zaf (ws (Zal (i:=3) scLen71.nd rfl (YaJ rfl) (ZaF Zad)))
   (Zaf (ws (ZbN Ybl rfl (ZaG rfl T.range (Zaa (Zak ZaV Zae (Zak ZaJ (ZaM ZaB (pv 0) Zae (fun _ _=>rfl)) (pv 1))) Zad)) (Zaq (i:=4) scLen71.nd rfl (YaJ rfl))
   (WSs.out (Zaf (ws (Zal (i:=5) scLen71.nd rfl (YaJ rfl) (ZaM ZaB (pv 0) (Zak ZaV Zae (pv 4)) (fun _ _=>rfl))))
    (Zat (ws (ZaY (Ze4 Ybk YbG YbF Zba (pv 3) (Zaa (WE.out (ZiH ZaB (ZhY (ZbB rfl Zae (ZbB rfl (Zak ZaJ (pv 5) Zae) (ZbB rfl (Zak ZaV Zae (Zak ZaJ (pv 5) Zae)) (ZbB rfl (Zak ZaJ (pv 5) (Zak ZaV (Zak ZcC Zae Zae) Zae)) (ZbB rfl (Zak ZcD (Zak ZaJ (pv 5) Zae) (Zak ZcC Zae Zae)) (ZbB rfl (Zak ZcD (pv 4) (pv 4)) ZhZ))))))) (we (pv 2)) (fun _ _=>rfl))) Zad)))))))))
   (Zat (ws (Zau (pv 3))))))),?_⟩
  have hz:20000<sizeLine:=by decide
  have gd:∀ (j:Nat),j<ds.length->atI (ds.map V.int) (j:Int)=some (.int (ds.getD j 0)):=fun j hj=>by
   rw[Zc0 (by omega) (by omega),YaS]
  have w0:=YaT (ds.getD 0 0) (show (6:Int)≠0 by decide);have w6:=YaY (ds.getD 0 0) (show (0:Int)<6 by decide);refine⟨_,rfl,dl,_,0,_,rfl,rfl,SqL.of hd,gd 0 (by omega),_,_,rfl,rfl,(by show (0:Int)<6;decide),?_⟩;obtain⟨way,ew⟩:∃ w:Int,ds.getD 0 0 % 6=w:=⟨_,rfl⟩
  rw[ew] at w0 w6;refine⟨YaX _,fun l nl=>?_⟩;have s1:Same H (upd H l (.lst [])):=Same.new nl;have e1:upd H l (.lst []) l=some (.lst (([]:List Int).map V.int)):=Zab;have nld:l≠dl:=fun z=>by rw[z,hd] at nl;cases nl
  generalize upd H l (.lst [])=H1 at s1 e1 ⊢;have m0:=YaT (ds.getD 1 0) (show (m:Int)≠0 by omega);have mm:=YaY (ds.getD 1 0) (show (0:Int)<m by omega);refine⟨_,rfl,dl,_,1,_,rfl,rfl,SqL.of (s1 _ _ hd),gd 1 (by omega),_,rfl,_,_,rfl,rfl,(by show (0:Int)<m;omega),1,_,rfl,rfl,?_⟩;obtain⟨n,en⟩:∃ n:Nat,1+ds.getD 1 0 % m=(n:Int):=⟨(1+ds.getD 1 0 % m).toNat,by omega⟩
  have hn1:1<=n:=by omega
  have hnm:n<=m:=by omega
  refine⟨(n:Int),congrArg (fun z=>[V.int z]) en,by omega,by omega,?_⟩;rw[YaS];refine Za1 (fun i σ Hx=>∃ (ls:List Int) (o4 o5:Option V),σ=[some (.ref dl),some (.int m),some (.int way),some (.ref l),o4,o5]/\Hx l=some (.lst (ls.map V.int))/\ls.length=i/\(∀ x∈ls,0<=x/\x<=1000000000000)/\Same H Hx) ⟨[],_,_,by rw[<- ew];rfl,e1,rfl,by simp,s1⟩ ?_ ?_
  ·rintro i σ Hx hi ⟨ls,o4,o5,rfl,hl,hli,hb,sx⟩;have hdx:=sx _ _ hd;refine⟨_,rfl,_,rfl,2,_,rfl,rfl,dl,_,_,_,rfl,rfl,SqL.of hdx,(by rw[show (2:Int)+(0+(i:Int))=((2+i:Nat):Int) by omega];exact gd (2+i) (by omega)),?_⟩;have hx0:0<=ds.getD (2+i) 0:=by
    rw[Yaw,Yac (by omega)];exact hd0 _ (Ybj _)
   generalize ds.getD (2+i) 0=x at hx0 ⊢;have a4:=YaT x (show (4:Int)≠0 by decide);have b4:=YaY x (show (0:Int)<4 by decide);have a6:=YaT x (show (60:Int)≠0 by decide);have b6:=YaY x (show (0:Int)<60 by decide);have a2:=YaT x (show (2:Int)≠0 by decide);have b2:=YaY x (show (0:Int)<2 by decide);have e12:(10:Int) ^ YcJ 12=1000000000000:=by decide
   have a12:=YaT x (show (1000000000001:Int)≠0 by decide);have b12:=YaY x (show (0:Int)<1000000000001 by decide);refine⟨_,rfl,.inl ⟨rfl,_,SqL.of hl⟩,_,rfl,_,_,rfl,rfl,(by show (0:Int)<4;decide),_,rfl,_,_,rfl,rfl,(by show (0:Int)<60;decide),1,_,rfl,rfl,_,rfl,10,12,rfl,rfl,⟨by decide,by decide,by decide⟩,_,_,rfl,rfl,_,_,rfl,rfl,(by show (0:Int)<10 ^ YcJ 12+1;rw[e12];decide),_,rfl,_,_,rfl,rfl,(by show (0:Int)<2;decide),10,12,rfl,rfl,⟨by decide,by decide,by decide⟩,_,_,rfl,rfl,.inl ⟨by omega,by omega⟩,_,rfl,_,rfl,_,_,rfl,rfl,.inl ⟨by omega,by omega⟩,(by show 6<=sizeLine;decide),fun q nq=>?_⟩;obtain⟨y,hy,hyb⟩:=at6 (P:=fun z=>0<=z/\z<=1000000000000) w0 w6 (show (0:Int)<=7/\(7:Int)<=1000000000000 by decide) (show 0<=x % 4/\x % 4<=1000000000000 by omega) (show 0<=1+x % 60/\1+x % 60<=1000000000000 by omega) (show 0<=x % (10 ^ YcJ 12+1)/\x % (10 ^ YcJ 12+1)<=1000000000000 by rw[e12];omega) (show 0<=x % 2*10 ^ YcJ 12/\x % 2*10 ^ YcJ 12<=1000000000000 by rw[e12];omega) (show 0<=(0+(i:Int))*(0+(i:Int))/\(0+(i:Int))*(0+(i:Int))<=1000000000000 by
    have h1:(i:Int)*i<=200*200:=Int.mul_le_mul (by omega) (by omega) (by omega) (by omega);have h2:0<=(i:Int)*i:=Int.mul_nonneg (by omega) (by omega);rw[Int.zero_add];omega)
   have nql:l≠q:=Zag hl nq;refine⟨_,rfl,q,_,way,.int y,rfl,rfl,SqL.of Zab,hy,l,_,_,rfl,rfl,by rw[Zah nql];exact hl,by rw[Yad];omega,?_⟩;refine⟨ls++[y],_,_,rfl,by rw[Zab,Yax];rfl,by rw[Yap,hli];rfl,fun z hz=>?_,?_⟩
   ·rcases YaA.mp hz with h | h
    ·exact hb z h
    ·rw[YaU.mp h];exact hyb
   ·exact (sx.trans (Same.new nq)).put nl
  ·rintro σ Hx ⟨ls,o4,o5,rfl,hl,hli,hb,sx⟩;exact⟨_,rfl,k l ls Hx nl hl (by omega) (by omega) hb sx⟩
end
end Fk36
namespace Fk36
open PySem L2 Lv
section
variable {P:Program}{w:World}{K:Yab}{mg:Str->Option Value}{base:Heap}
theorem Zgd:FnScope ["numbers","lengths","placing"] ["numbers","lengths","placing"] (Zac Zbl):=⟨rfl,rfl,rfl,by decide +kernel,rfl,by decide +kernel,by decide +kernel⟩
theorem SqB.sameP {b:Bool}{H H':Hp}{a:Addr}{xs:List V} (e:Same H H') (h:SqB b K H a xs):SqB b K H' a xs:=by
 cases b
 ·exact e.tup h
 ·exact e.seq h
def ZbZ (K:Yab):Sp:=fun vs H Q _=>∃ (a ll pl:Addr) (b b2:Bool) (rs qs:List Addr) (N:List (List Int)) (ls:List Int) (ks:List (List Int)),vs=[.ref a,.ref ll,.ref pl]/\H a=some (.tup (rs.map V.ref))/\TTs H rs N/\SqB b K H ll (ls.map V.int)/\SqB b2 K H pl (qs.map V.ref)/\TuM H qs ks/\(∀ k∈ks,InN N k)/\ls.length=ks.length/\ls.length<=100000 /\
 (∀ l∈ls,Ya1 l<=8000)/\(∀ xs∈N,∀ z∈xs,Ya1 z<=8000)/\∀ H',Same H H'->Q (.int (ZbQ N ls ks).sum) H'
theorem Zfb {f:Addr}{fd:FuncData} (F:Fun K "reading_by" "reading_by" Zbl f fd) (T:Txt mg):FnOk P w K mg base CX0 1 f fd ["numbers","lengths","placing"] (ZbZ K):=by
 refine F.ok Zgd (fun vs H Q E h=>?_) (fun cdv A outer s H vs Q E hr h=>?_)
 ·obtain⟨a,ll,pl,b,b2,rs,qs,N,ls,ks,rfl,_⟩:=h;rfl
 ·obtain⟨a,ll,pl,b,b2,rs,qs,N,ls,ks,rfl,hA,hT,hL,hP,hM,hin,hlen,hl9,hb1,hb2,k⟩:=h;refine⟨_,Zao (Zau (Zam (Zbc rfl) rfl T.sum Zez (Zaa (ZaU (own:=["length","reel","place"]) (js:=[0]) (CompOk.by (sc:=Zac Zbl) (N:=["numbers","lengths","placing"]) rfl rfl (by decide +kernel)) rfl (ZeZ rfl T.zip (Zaa (pv 1) (Zaa (pv 2) Zad))) (ZcG (i:=0) (k:=1) (m:=2) (K:=K))
    (fun _ _ _ _ _=>ZcU K rfl (ZaH (Zaq (i:=0) (by show (["length","reel","place","numbers"]:List Str).Nodup;decide +kernel) rfl (YaJ rfl) (.inr rfl)) (ZaH (ZcU K rfl (ZaH (Zaq (i:=1) (by show (["length","reel","place","numbers"]:List Str).Nodup;decide +kernel) rfl (YaJ rfl) (.inr rfl)) (ZaH (Zaq (i:=2) (by show (["length","reel","place","numbers"]:List Str).Nodup;decide +kernel) rfl (YaJ rfl) (.inr rfl)) ZbH))) ZbH))) (fun _ _ _ _ _=>ZaS)
    (fun _ _ _ _ _=>Zak Ze7 (pv 0) (ZaM (Zd4 K) (ZaM (Zd4 K) (pv 3) (pv 1) (fun _ _=>rfl)) (pv 2) (fun _ _=>rfl)))) Zad))),?_⟩
  have hz:100000<sizeLine:=by decide
  refine⟨_,rfl,_,rfl,b,b2,ll,pl,rfl,⟨_,hL⟩,⟨_,hP⟩,?_⟩;refine ZgM (b1:=b) (b2:=b2) (xs:=ls.map V.int) (ys:=qs.map V.ref) (by rw[Yad,Yad,hM.len];omega) (fun acc i H2=>Same H H2/\H2 acc=some (.lst ((ZbQ N (ls.take i) (ks.take i)).map V.int))) (fun acc h0=>⟨Same.new h0,Zab⟩) (fun acc i H2 h0 _ p=>⟨SqB.sameP p.1 hL,SqB.sameP p.1 hP⟩) ?_ ?_
  ·rintro acc i x y u H2 h0 hx hy ⟨s2,hacc⟩ nu;obtain⟨l,hl,rfl⟩:=Zbo hx;obtain⟨q,hq,rfl⟩:=ZhQ hy;have hil:=(Yaf.mp hl).1
   obtain⟨kk,hk,hqk⟩:=hM.at hq;obtain⟨r,p,xs,rfl,hr',hp⟩:=hin kk (Yav hk);have su:Same H2 (upd H2 u (.tup [.int l,.ref q])):=Same.new nu;have hu3:upd H2 u (.tup [.int l,.ref q]) u=some (.tup [.int l,.ref q]):=Zab;generalize upd H2 u (.tup [.int l,.ref q])=H3 at su hu3 ⊢;have s3:=s2.trans su;have hq3:H3 q=some (.tup [.int (r:Int),.int (p:Int)]):=s3 _ _ hqk;have hrl:=(Yaf.mp hr').1
   obtain⟨ra,hra⟩:∃ ra,rs[r]?=some ra:=⟨_,Yac (by rw[hT.1];exact hrl)⟩
   have hrow:=s3 _ _ (hT.2 r ra xs hra hr');have hnum:numV N [(r:Int),(p:Int)]=xs[p]:=by
    unfold numV;simp[Yaw,hr',hp]
   refine⟨u,_,rfl,SqT.of hu3,rfl,_,_,rfl,_,_,rfl,q,_,rfl,SqT.of hq3,rfl,_,_,rfl,_,_,rfl,rfl,rfl,?_⟩;refine⟨_,rfl,_,rfl,_,rfl,a,_,(r:Int),.ref ra,rfl,rfl,SqT.of (s3 _ _ hA),Za0 (by rw[Yai,hra];rfl),_,rfl,ra,_,(p:Int),.int xs[p],rfl,rfl,SqT.of hrow,Za0 (by rw[Yai,Yac hp];rfl),?_⟩;refine⟨l,xs[p],rfl,rfl,⟨8000,8000,hb1 l (Yav hl),hb2 xs (Yav hr') _ (Ybj hp),by decide⟩,?_⟩;refine⟨_,su _ _ hacc,?_,by rw[Yad];exact hil,s3.put h0,?_⟩
   ·rw[Yad];unfold ZbQ;rw[YdM,Yay,Yay];omega
   ·rw[Zab,Zel hl hk,Yax,hnum];rfl
  rintro acc H2 h0 ⟨s2,hacc⟩;rw[Yad,YaR,hlen,YaR] at hacc;exact⟨acc,_,rfl,SqL.of hacc,k H2 s2⟩
theorem Zh9:FnScope ["p","n","lengths","placing"] ["p","n","lengths","placing"] (Zac Zej):=⟨rfl,rfl,rfl,by decide +kernel,rfl,by decide +kernel,by decide +kernel⟩
def Zdy (K:Yab):Sp:=fun vs H Q _=>∃ (p n:Nat) (ll pl:Addr) (b b2:Bool) (qs:List Addr) (ls:List Int) (ks:List (List Int)),vs=[.int p,.int n,.ref ll,.ref pl]/\2<=p/\p<=7/\n<=300/\tot p n<=4000/\SqB b K H ll (ls.map V.int)/\SqB b2 K H pl (qs.map V.ref)/\TuM H qs ks/\(∀ k∈ks,InN (num p n) k)/\(ls.length=ks.length/\ls.length<=100000)/\(∀ l∈ls,Ya1 l<=8000)/\∀ H',Same H H'->Q (.int (ZbQ (num p n) ls ks).sum) H'
theorem ZhE {f f1 f2:Addr}{fd d1 d2:FuncData} (F:Fun K "placing_reading" "placing_reading" Zej f fd) (T:Txt mg) (CR:Cal P w K mg base 1 "reading_by" ["numbers","lengths","placing"] (ZbZ K) f1 d1) (CN:Cal P w K mg base 6 "level_numbers" ["p","n"] Zdz f2 d2):FnOk P w K mg base CX0 7 f fd ["p","n","lengths","placing"] (Zdy K):=by
 refine F.ok Zh9 (fun vs H Q E h=>?_) (fun cdv A outer s H vs Q E hr h=>?_)
 ·obtain⟨p,n,ll,pl,b,b2,qs,ls,ks,rfl,_⟩:=h;rfl
 ·obtain⟨p,n,ll,pl,b,b2,qs,ls,ks,rfl,p2,p7,hn,h4,hL,hpl,hM,hin,hlen0,hb,k⟩:=h;have hr1:Room 1 _:=hr.mono (by decide);have hr6:Room 6 _:=hr.mono (by decide);refine⟨_,(Zao (Zau (Zar CR hr1 rfl (Zaa (Zar CN hr6 rfl (Zaa (pv 0) (Zaa (pv 1) Zad))) (Zaa (pv 2) (Zaa (pv 3) Zad)))))),?_⟩;refine⟨_,rfl,_,rfl,p,n,rfl,p2,p7,hn,h4,fun na ns H1 nna hna hNs s1=>?_⟩;refine⟨_,rfl,_,rfl,na,ll,pl,b,b2,ns,qs,num p n,ls,ks,rfl,hna,hNs,SqB.sameP s1 hL,SqB.sameP s1 hpl,hM.same s1,hin,hlen0.1,hlen0.2,hb,fun xs hx z hz=>?_,fun H2 s2=>k H2 (s1.trans s2)⟩
  ·have:=Zf1 p n xs hx z hz;exact ZbK (by omega) (by omega)
theorem ZdN {K:Yab}:YcT K (.type "tuple") (["list","tuple"].map YbB)=some true:=by with_unfolding_all rfl
theorem Zgf:FnScope ["thing"] ["thing"] (Zac ZbD):=⟨rfl,rfl,rfl,by decide +kernel,rfl,by decide +kernel,by decide +kernel⟩
theorem Zeu {f:Addr}{fd:FuncData} (F:Fun K "is_listed" "is_listed" ZbD f fd) (T:Txt mg):FnOk P w K mg base CX0 1 f fd ["thing"] Zb1:=by
 refine F.ok Zgf (fun vs H Q E h=>?_) (fun cdv A outer s H vs Q E hr h=>?_)
 ·obtain⟨a,xs,bb,rfl,_⟩:=h;rfl
 ·obtain⟨a,xs,bb,rfl,hA,k⟩:=h;refine⟨_,Zao (Zau (Zam Zdp rfl T.isinstance ZaI (Zaa (pv 0) (Zaa (ZcB (Zaa (ZdJ rfl T.list Zha) (Zaa (ZdJ rfl T.tuple ZaO) Zad))) Zad)))),?_⟩;refine⟨_,rfl,(by show 2<=sizeLine;decide),fun tp htp=>?_⟩
  cases bb with
  | true=>exact⟨.ref a,tp,["list","tuple"],_,true,rfl,Zab,.lst ((Same.new htp) a _ hA),Zew,k _ (Same.new htp)⟩
  | false=>exact⟨.ref a,tp,["list","tuple"],_,true,rfl,Zab,.tup ((Same.new htp) a _ hA),ZdN,k _ (Same.new htp)⟩
theorem Zho:FnScope ["thing","many"] ["thing","many"] (Zac Zcr):=⟨rfl,rfl,rfl,by decide +kernel,rfl,by decide +kernel,by decide +kernel⟩
theorem Zfd {f fW:Addr}{fd dW:FuncData} (F:Fun K "is_place" "is_place" Zcr f fd) (T:Txt mg) (CW:Cal P w K mg base 1 "is_whole" ["thing"] ZbW fW dW):FnOk P w K mg base CX0 2 f fd ["thing","many"] ZcI:=by
 refine F.ok Zho (fun vs H Q E h=>?_) (fun cdv A outer s H vs Q E hr h=>?_)
 ·obtain⟨i,n,rfl,_⟩:=h;rfl
 ·obtain⟨i,n,rfl,k⟩:=h;refine⟨_,Zao (Zau (ZdX (Zar CW hr rfl (Zaa (pv 0) Zad)) (ZdW (Zgn Ze8 Zil Zae (pv 0) (pv 1))))),?_⟩;refine⟨_,rfl,i,rfl,true,rfl,iteT ⟨_,rfl,0,i,rfl,rfl,_,rfl,?_⟩⟩;by_cases h1:(0:Int)<=i
  ·rw[decide_eq_true h1];refine iteT ⟨_,rfl,i,n,rfl,rfl,?_⟩;show Q (.bl (decide (i<n))) H;rw[show decide (0<=i/\i<n)=decide (i<n) from by simp[h1]] at k;exact k
  ·rw[decide_eq_false h1];refine iteF ?_;rw[decide_eq_false (fun z=>h1 z.1)] at k;exact k
theorem Zhm:FnScope ["thing","many"] ["thing","many"] (Zac Zcp):=⟨rfl,rfl,rfl,by decide +kernel,rfl,by decide +kernel,by decide +kernel⟩
theorem Zgs {f:Addr}{fd:FuncData} (F:Fun K "is_tuple_of" "is_tuple_of" Zcp f fd) (T:Txt mg):FnOk P w K mg base CX0 1 f fd ["thing","many"] Zdv:=by
 refine F.ok Zhm (fun vs H Q E h=>?_) (fun cdv A outer s H vs Q E hr h=>?_)
 ·obtain⟨a,xs,n,rfl,_⟩:=h;rfl
 ·obtain⟨a,xs,n,rfl,hA,hn,k⟩:=h;refine⟨_,Zao (Zau (ZdX (Zam ZaW rfl T.isinstance ZaI (Zaa (pv 0) (Zaa (ZdJ rfl T.tuple ZaO) Zad))) (ZdW (Zb6 Zfa (Zam Zas rfl T.len Ybe (Zaa (pv 0) Zad)) (pv 1) (ZaP _))))),?_⟩;refine⟨_,rfl,.ref a,"tuple",_,true,rfl,.tup hA,Zb9,true,rfl,iteT ⟨_,rfl,a,_,rfl,.inr (SqT.of hA),_,rfl,rfl,?_⟩⟩;rw[hn];simpa using k
end
end Fk36
namespace Fk36
open PySem L2 Lv
section
variable {P:Program}{w:World}{K:Yab}{mg:Str->Option Value}{base:Heap}
theorem scIsSpot:FnScope ["numbers","pair","reel","place"] ["numbers","pair"] (Zac ZbE):=⟨rfl,rfl,rfl,by decide +kernel,rfl,by decide +kernel,by decide +kernel⟩
def ZcM:Sp:=fun vs H Q _=>∃ (a q:Addr) (rs:List Addr) (N:List (List Int)) (k:List Int),vs=[.ref a,.ref q]/\H a=some (.tup (rs.map V.ref))/\TTs H rs N/\H q=some (.tup (k.map V.int))/\InN N k/\Q (.bl true) H
theorem Zff {f f1 f2:Addr}{fd d1 d2:FuncData} (F:Fun K "is_spot" "is_spot" ZbE f fd) (T:Txt mg) (CT:Cal P w K mg base 1 "is_tuple_of" ["thing","many"] Zdv f1 d1) (CP:Cal P w K mg base 2 "is_place" ["thing","many"] ZcI f2 d2):FnOk P w K mg base CX0 3 f fd ["numbers","pair"] ZcM:=by
 refine okW F scIsSpot (fun vs H Q E h=>?_) (fun cdv A outer s H vs Q E hr h=>?_)
 ·obtain⟨a,q,rs,N,k,rfl,_⟩:=h;rfl
 ·obtain⟨a,q,rs,N,k,rfl,hA,hT,hq,hin,kk⟩:=h;have hr1:Room 1 _:=hr.mono (by decide);have hr2:Room 2 _:=hr.mono (by decide);refine⟨_,(Zaf (Zcf (Zbh (Zbq (Zar CT hr1 rfl (Zaa (pv 1) (Zaa Zae Zad)))))
   (Zat (ws (Zau ZdL)))
   ZaX)
   (Zaf (ws (ZeW (pv 1) (Ze1 rfl (ZaH (Zaq (i:=2) scIsSpot.nd rfl (YaJ rfl)) (ZaH (Zaq (i:=3) scIsSpot.nd rfl (YaJ rfl)) ZbH)))))
   (Zat (ws (Zau (ZdX (Zar CP hr2 rfl (Zaa (pv 2) (Zaa (Zam Zas rfl T.len Ybe (Zaa (pv 0) Zad)) Zad))) (ZdW (Zar CP hr2 rfl (Zaa (pv 3) (Zaa (Zam Zas rfl T.len Ybe (Zaa (ZaM Zd3 (pv 0) (pv 2) (fun _ _=>rfl)) Zad)) Zad)))))))))),?_⟩
  obtain⟨r,p,xs,rfl,hr',hp⟩:=hin;have hrl:=(Yaf.mp hr').1
  obtain⟨ra,hra⟩:∃ ra,rs[r]?=some ra:=⟨_,Yac (by rw[hT.1];exact hrl)⟩
  have hrow:=hT.2 r ra xs hra hr';refine⟨_,rfl,q,_,2,rfl,hq,rfl,true,rfl,?_⟩;refine iteF ?_;refine⟨_,rfl,q,_,rfl,SqT.of hq,rfl,_,_,rfl,_,_,rfl,rfl,?_⟩;refine⟨_,rfl,_,rfl,a,_,rfl,.inr (SqT.of hA),(r:Int),(rs.length:Int),by rw[Yad];rfl,_,rfl,?_⟩;rw[decide_eq_true (show 0<=(r:Int)/\(r:Int)<rs.length from⟨by omega,by rw[hT.1];omega⟩)];refine iteT ⟨_,rfl,_,rfl,_,rfl,a,_,(r:Int),.ref ra,rfl,rfl,SqT.of hA,Za0 (by rw[Yai,hra];rfl),ra,_,rfl,.inr (SqT.of hrow),(p:Int),(xs.length:Int),by rw[Yad];rfl,?_⟩;rw[decide_eq_true (show 0<=(p:Int)/\(p:Int)<xs.length from⟨by omega,by omega⟩)];exact kk
theorem ZdF:FnScope ["numbers","rows","placing"] ["numbers","rows","placing"] (Zac ZaL):=⟨rfl,rfl,rfl,by decide +kernel,rfl,by decide +kernel,by decide +kernel⟩
theorem sqOf {K:Yab}{b:Bool}{H:Hp}{a:Addr}{xs:List V} (h:H a=some (if b then .lst xs else .tup xs)):SqB b K H a xs:=by
 cases b
 ·exact SqT.of h
 ·exact SqL.of h
theorem sqOr {K:Yab}{b:Bool}{H:Hp}{a:Addr}{xs:List V} (h:H a=some (if b then .lst xs else .tup xs)):SqL K H a xs∨SqT K H a xs:=by
 cases b
 ·exact .inr (SqT.of h)
 ·exact .inl (SqL.of h)
def Zbk (K:Yab):Sp:=fun vs H Q _=>∃ (a pl:Addr) (b:Bool) (rs qs:List Addr) (N ks:List (List Int)),vs=[.ref a,.int ks.length,.ref pl]/\H a=some (.tup (rs.map V.ref))/\TTs H rs N/\H pl=some (if b then .lst (qs.map V.ref) else .tup (qs.map V.ref))/\TTs H qs ks/\(∀ k∈ks,InN N k)/\ks.Nodup/\ks.length<=500/\∀ H',Same H H'->Q (.bl true) H'
theorem Zda {f f1 f2:Addr}{fd d1 d2:FuncData} (F:Fun K "is_placing" "is_placing" ZaL f fd) (T:Txt mg) (Tset:mg "set"=none) (CL:Cal P w K mg base 1 "is_listed" ["thing"] Zb1 f1 d1) (CS:Cal P w K mg base 3 "is_spot" ["numbers","pair"] ZcM f2 d2):FnOk P w K mg base CX0 4 f fd ["numbers","rows","placing"] (Zbk K):=by
 refine okW F ZdF (fun vs H Q E h=>?_) (fun cdv A outer s H vs Q E hr h=>?_)
 ·obtain⟨a,pl,b,rs,qs,N,ks,rfl,_⟩:=h;rfl
 ·obtain⟨a,pl,b,rs,qs,N,ks,rfl,hA,hT,hP,hQ,hin,hnd,h5,kk⟩:=h;have hr1:Room 1 _:=hr.mono (by decide);have hr3:Room 3 _:=hr.mono (by decide);have hu8:_+8<cLine:=Yb7 (YdU (by decide:8<=64) _) hr.units;refine⟨_,(Zaf (Zcf (PW.pt (Zem (Zbh (Zbq (Zar CL hr1 rfl (Zaa (pv 2) Zad)))) (Zc8 (ZaT Zik (Zam Zas rfl T.len Ybe (Zaa (pv 2) Zad)) (pv 1) (ZaP _)))))
   (Zat (ws (Zau ZdL)))
   ZaX)
   (Zaf (Zcf (Zbh (Zbq (Zam (ZgO rfl) rfl T.all Zi7 (Zaa (ZaU (own:=["pair"]) (js:=[0]) (CompOk.by (sc:=Zac ZaL) (N:=["numbers","rows","placing"]) rfl rfl (by decide +kernel)) rfl (ZdI (pv 2)) ZaD (fun _ _ _ _ _=>(Zaq (i:=0) (by show (["pair","numbers"]:List Str).Nodup;decide +kernel) rfl (YaJ rfl) (.inr rfl))) (fun _ _ _ _ _=>ZaS) (fun _ _ _ _ _=>(Zar CS hr3 rfl (Zaa (pv 1) (Zaa (pv 0) Zad))))) Zad))))
   (Zat (ws (Zau ZdL)))
   ZaX)
   (Zat (ws (Zau (Zb6 Zfa (Zam ZfY rfl T.len Ybe (Zaa (Zav (ZfX rfl hu8) rfl Tset Zi6 (Zaa (pv 2) Zad)) Zad)) (pv 1) (ZaP _))))))),?_⟩
  have hql:qs.length=ks.length:=hQ.1;refine⟨_,rfl,pl,_,b,rfl,hP,fun H1 s1=>⟨true,rfl,iteF ?_⟩⟩;have hP1:H1 pl=some (if b then .lst (qs.map V.ref) else .tup (qs.map V.ref)):=s1 _ _ hP;refine⟨_,rfl,pl,_,rfl,sqOr hP1,_,rfl,?_⟩;rw[Yad,hql];refine⟨rfl,false,by rw[decide_eq_true rfl];rfl,iteF ?_⟩;refine⟨_,rfl,pl,b,rfl,⟨_,sqOf hP1⟩,?_⟩;refine Zdm (b:=b) ((Yal ks.length true).map V.bl) (sqOf hP1) (by rw[Yad,Yad,Ybz,hql]) (by rw[Yad,hql];omega) (fun i x y hx hy Hc sc Rr hRr=>?_) fun acc G n3 s3 hacc=>?_
  ·obtain⟨q,hq,rfl⟩:=Za4 hx;have hiq:=(Yaf.mp hq).1
   rw[Yai,YbN,if_pos (by omega)] at hy;cases hy;have hk:ks[i]?=some ks[i]:=Yac (by omega);have s0:=s1.trans sc;exact⟨_,rfl,_,rfl,a,q,rs,N,ks[i],rfl,s0 _ _ hA,hT.same s0,s0 _ _ (hQ.2 i q _ hq hk),hin _ (Ybj _),hRr Hc (Same.refl _)⟩
  refine⟨acc,Yal ks.length true,rfl,SqL.of hacc,?_⟩;rw[show (Yal ks.length true).all id=true by rw[Yce];exact fun b hb=>(Yb4.mp hb).2];refine⟨true,rfl,iteF ?_⟩;have s13:=s1.trans s3;refine⟨_,rfl,pl,b,qs,ks,rfl,sqOf (s13 _ _ hP),hQ.same s13,h5,fun l L nl hL hmem=>?_⟩;refine⟨l,L.length,rfl,Zab,_,rfl,rfl,?_⟩;rw[((Yc9 hL hnd).mpr hmem).length_eq,decide_eq_true rfl];exact kk _ (s13.trans (Same.new nl))
theorem Zcj:FnScope ["p","n","lengths","placing"] ["p","n","lengths","placing"] (Zac ZaC):=⟨rfl,rfl,rfl,by decide +kernel,rfl,by decide +kernel,by decide +kernel⟩
def Zb0 (K:Yab):Sp:=fun vs H Q _=>∃ (p n:Nat) (ll pl:Addr) (bl b:Bool) (qs:List Addr) (ls:List Int) (ks:List (List Int)),vs=[.int p,.int n,.ref ll,.ref pl]/\2<=p/\p<=7/\n<=300/\tot p n<=4000/\H ll=some (if bl then .lst (ls.map V.int) else .tup (ls.map V.int))/\H pl=some (if b then .lst (qs.map V.ref) else .tup (qs.map V.ref))/\TTs H qs ks/\(∀ k∈ks,InN (num p n) k)/\ks.Nodup/\ls.length=ks.length/\ks.length<=500/\∀ H',Same H H'->Q (.bl true) H'
theorem Zet {f f1 f2:Addr}{fd d1 d2:FuncData} (F:Fun K "placing_holds" "placing_holds" ZaC f fd) (T:Txt mg) (CN:Cal P w K mg base 6 "level_numbers" ["p","n"] Zdz f1 d1) (CI:Cal P w K mg base 4 "is_placing" ["numbers","rows","placing"] (Zbk K) f2 d2):FnOk P w K mg base CX0 7 f fd ["p","n","lengths","placing"] (Zb0 K):=by
 refine okW F Zcj (fun vs H Q E h=>?_) (fun cdv A outer s H vs Q E hr h=>?_)
 ·obtain⟨p,n,ll,pl,bl,b,qs,ls,ks,rfl,_⟩:=h;rfl
 ·obtain⟨p,n,ll,pl,bl,b,qs,ls,ks,rfl,p2,p7,hn,h4,hL,hP,hQ,hin,hnd,hl,h5,kk⟩:=h;have hr4:Room 4 _:=hr.mono (by decide);have hr6:Room 6 _:=hr.mono (by decide);refine⟨_,(Zat (ws (Zau (Zar CI hr4 rfl (Zaa (Zar CN hr6 rfl (Zaa (pv 0) (Zaa (pv 1) Zad))) (Zaa (Zam Zas rfl T.len Ybe (Zaa (pv 2) Zad)) (Zaa (pv 3) Zad))))))),?_⟩;refine⟨_,rfl,_,rfl,p,n,rfl,p2,p7,hn,h4,fun na ns H1 nna hna hNs s1=>?_⟩;refine⟨_,rfl,ll,_,rfl,sqOr (s1 _ _ hL),_,rfl,na,pl,b,ns,qs,num p n,ks,by rw[Yad,hl];rfl,hna,hNs,s1 _ _ hP,hQ.same s1,hin,hnd,h5,fun H2 s2=>kk H2 (s1.trans s2)⟩
end
end Fk36
namespace Fk36
open PySem L2 Lv
section
variable {P:Program}{w:World}{K:Yab}{mg:Str->Option Value}{base:Heap}
theorem scLawRight:FnScope ["p","n","reels","lengths","placing","due","kept","found"] ["p","n","reels","lengths","placing"] (Zac ZaR):=⟨rfl,rfl,rfl,by decide +kernel,rfl,by decide +kernel,by decide +kernel⟩
theorem Zh0 {K:Yab}{b:Bool}{H:Hp}{p:Addr}{ys:List V}{Q:VK} (h:H p=some (if b then .lst ys else .tup ys)) (k:∀ l H1,Same H H1->H1 l=some (.tup ys)->Q (.ref l) H1) :
  ∃ p' ys',[V.ref p]=[.ref p']/\((SqL K H p' ys'/\∀ l,H l=none->Q (.ref l) (upd H l (.tup ys')))∨(SqT K H p' ys'/\Q (.ref p') H)):=by
 cases b
 ·exact⟨p,ys,rfl,.inr ⟨SqT.of h,k p H (Same.refl _) h⟩⟩
 ·exact⟨p,ys,rfl,.inl ⟨SqL.of h,fun l hl=>k l _ (Same.new hl) Zab⟩⟩
theorem ZaN {X:Cx}:ZbA X (.type "tuple") (fun xs H Q=>∃ (p:Addr) (ys:List V) (b:Bool),xs=[.ref p]/\H p=some (if b then .lst ys else .tup ys)/\∀ l H1,Same H H1->H1 l=some (.tup ys)->Q (.ref l) H1):=fun pins s σ H xs us Q I r ⟨p,ys,b,e,h,k⟩=>ZaE pins s σ H xs us Q I r (by subst e;exact Zh0 h k)
theorem ZeT {H:Hp}:∀ {qs:List Addr}{ks:List (List Int)},TTs H qs ks->RdL H (qs.map V.ref) (ks.map fun k=>PyData.tuple (k.map Yb6))
 | [],[],_=>.nil
 | [],_::_,h=>absurd h.1 (by simp)
 | _::_,[],h=>absurd h.1 (by simp)
 | q::qs,k::ks,h=>.cons (.tup (h.2 0 q k rfl rfl) (ZcS k)) (ZeT (qs:=qs) (ks:=ks) ⟨by have:=h.1;simpa using this,fun j r xs e1 e2=>h.2 (j+1) r xs e1 e2⟩)
theorem Zc3:∀ ks:List (List Int),YaQ (ks.map fun k=>PyData.tuple (k.map Yb6))<=1
 | []=>by simp[YaQ]
 | k::ks=>by
  have:=Zc3 ks;simp only[YaK,YaQ,Ydj,ZbI];omega
def ZbX (K:Yab):Sp:=fun vs H Q _=>∃ (p n:Nat) (rl ll pl:Addr) (bl b:Bool) (rs qs:List Addr) (ls:List Int) (ks:List (List Int)),vs=[.int p,.int n,.ref rl,.ref ll,.ref pl]/\2<=p/\p<=7/\n<=300/\tot p n<=4000/\H rl=some (.lst (rs.map V.ref))/\LLs H rs (num p n)/\H ll=some (if bl then .lst (ls.map V.int) else .tup (ls.map V.int))/\H pl=some (if b then .lst (qs.map V.ref) else .tup (qs.map V.ref))/\TTs H qs ks/\(∀ k∈ks,InN (num p n) k)/\ks.Nodup/\ls.length=ks.length/\ks.length<=500/\(∀ l∈ls,0<=l/\l<=1000000000000)/\∀ H',Same H H'->Q (.bl true) H'
theorem Zer {f f1 f2:Addr}{fd d1 d2:FuncData} (F:Fun K "_law_right" "_law_right" ZaR f fd) (T:Txt mg) (CH:Cal P w K mg base 7 "placing_holds" ["p","n","lengths","placing"] (Zb0 K) f1 d1) (CR:Cal P w K mg base 7 "placing_reading" ["p","n","lengths","placing"] (Zdy K) f2 d2):FnOk P w K mg base CX0 8 f fd ["p","n","reels","lengths","placing"] (ZbX K):=by
 refine okW F scLawRight (fun vs H Q E h=>?_) (fun cdv A outer s H vs Q E hr h=>?_)
 ·obtain⟨p,n,rl,ll,pl,bl,b,rs,qs,ls,ks,rfl,_⟩:=h;rfl
 ·obtain⟨p,n,rl,ll,pl,bl,b,rs,qs,ls,ks,rfl,p2,p7,hn,h4,hR,hLL,hL,hP,hQ,hin,hnd,hl,h5,hlb,kk⟩:=h;have hr7:Room 7 _:=hr.mono (by decide);have hu1:_+12<cLine:=Yb7 (YdU (by decide:12<=64) _) hr.units;refine⟨_,(Zaf (ws (Zal (i:=5) scLawRight.nd rfl (YaJ rfl) (Zam (Zbc rfl) rfl T.sum Zez (Zaa (ZaU (own:=["length","reel","place"]) (js:=[2]) (CompOk.by (sc:=Zac ZaR) (N:=["p","n","reels","lengths","placing","due","kept","found"]) rfl rfl (by decide +kernel)) rfl (ZeZ rfl T.zip (Zaa (pv 3) (Zaa (pv 4) Zad))) (ZcG (i:=0) (k:=1) (m:=2) (K:=K)) (fun _ _ _ _ _=>(ZcU K rfl (ZaH (Zaq (i:=0) (by show (["length","reel","place","reels"]:List Str).Nodup;decide +kernel) rfl (YaJ rfl) (.inr rfl)) (ZaH (ZcU K rfl (ZaH (Zaq (i:=1) (by show (["length","reel","place","reels"]:List Str).Nodup;decide +kernel) rfl (YaJ rfl) (.inr rfl)) (ZaH (Zaq (i:=2) (by show (["length","reel","place","reels"]:List Str).Nodup;decide +kernel) rfl (YaJ rfl) (.inr rfl)) ZbH))) ZbH)))) (fun _ _ _ _ _=>ZaS) (fun _ _ _ _ _=>(Zak Ze7 (pv 0) (ZaM (Zbv K) (ZaM (Zbv K) (pv 3) (pv 1) (fun _ _=>rfl)) (pv 2) (fun _ _=>rfl))))) Zad))))
   (Zaf (ws (Zal (i:=6) scLawRight.nd rfl (YaJ rfl) (ZcB (Zaa (Zav ZaN rfl T.tuple ZaO (Zaa (pv 3) Zad)) (Zaa (Zav ZaN rfl T.tuple ZaO (Zaa (pv 4) Zad)) Zad)))))
   (Zaf (Zcf (ZaT Ze9 (Zar CH hr7 rfl (Zaa (pv 0) (Zaa (pv 1) (Zaa (pv 3) (Zaa (pv 4) Zad))))) ZdL (ZaP _))
   (Zat (ws (Zau ZdL)))
   ZaX)
   (Zaf (ws (Zal (i:=7) scLawRight.nd rfl (YaJ rfl) (Zar CR hr7 rfl (Zaa (pv 0) (Zaa (pv 1) (Zaa (pv 3) (Zaa (pv 4) Zad)))))))
   (Zaf (Zcf (PW.pt (Zem (Zbh (Zbq (Zam ZaW rfl T.isinstance ZaI (Zaa (pv 7) (Zaa (ZdJ rfl T.int ZgQ) Zad))))) (Zem (Zbq (Zam ZaW rfl T.isinstance ZaI (Zaa (pv 7) (Zaa (ZdJ rfl T.bool Zhb) Zad)))) (Zc8 (ZaT Zik (pv 7) (pv 5) (ZaP _))))))
   (Zat (ws (Zau ZdL)))
   ZaX)
   (Zat (ws (Zau (Zb6 (Zin hu1) (ZcB (Zaa (Zav ZaN rfl T.tuple ZaO (Zaa (pv 3) Zad)) (Zaa (Zav ZaN rfl T.tuple ZaO (Zaa (pv 4) Zad)) Zad))) (pv 6) (ZaP _)))))))))),?_⟩
  have hql:qs.length=ks.length:=hQ.1;have hbits:∀ l∈ls,Ya1 l<=8000:=fun l hl=>ZbK (by have:=hlb l hl;omega) (by have:=hlb l hl;omega);have hTu:TuM H qs ks:=TuM.ofTT hQ fun k hk=>by
   obtain⟨r,p,xs,rfl,_⟩:=hin k hk;exact Yeb _ _
  have hrv:(ZbQ (num p n) ls ks).length=ks.length:=by
   unfold ZbQ;rw[YdM,hl,Nat.min_self]
  refine⟨_,rfl,_,rfl,bl,b,ll,pl,rfl,⟨_,sqOf hL⟩,⟨_,sqOf hP⟩,?_⟩;refine ZfM ((ZbQ (num p n) ls ks).map V.int) (sqOf hL) (sqOf hP) (by rw[Yad,Yad];omega) (by rw[Yad,Yad];omega) (by rw[Yad];omega) (fun i x y z hx hy hz pp Hc sc hp Rr hRr=>?_) fun acc G n3 s3 hacc=>?_
  ·obtain⟨l,hl',rfl⟩:=Zbo hx;obtain⟨q,hq,rfl⟩:=Za4 hy;obtain⟨z',hz',rfl⟩:=Zbo hz;have hi:=(Yaf.mp hq).1
   have hk:ks[i]?=some ks[i]:=Yac (by omega);obtain⟨r,pp2,xs,ek,hr',hp'⟩:=hin _ (Ybj (l:=ks) (n:=i) (by omega));have hqk:=sc _ _ (hQ.2 i q _ hq hk);unfold ZbQ at hz';rw[List.getElem?_zipWith,hl',hk] at hz';cases hz';rw[ek] at hqk;have hnum:numV (num p n) ks[i]=xs[pp2]:=by
    rw[ek];unfold numV;simp[Yaw,hr',hp']
   rw[hnum] at hRr;have hrl:=(Yaf.mp hr').1
   obtain⟨ra,hra⟩:∃ ra,rs[r]?=some ra:=⟨_,Yac (by rw[hLL.1];exact hrl)⟩
   have hrow:=sc _ _ (hLL.2 r ra xs hra hr');refine⟨pp,_,rfl,SqT.of hp,rfl,_,_,rfl,_,_,rfl,q,_,rfl,SqT.of hqk,rfl,_,_,rfl,_,_,rfl,rfl,rfl,?_⟩;refine⟨_,rfl,_,rfl,_,rfl,rl,_,(r:Int),.ref ra,rfl,rfl,SqL.of (sc _ _ hR),Za0 (by rw[Yai,hra];rfl),_,rfl,ra,_,(pp2:Int),.int xs[pp2],rfl,rfl,SqL.of hrow,Za0 (by rw[Yai,Yac hp'];rfl),?_⟩;refine⟨l,xs[pp2],rfl,rfl,⟨8000,8000,hbits l (Yav hl'),?_,by decide⟩,hRr Hc (Same.refl _)⟩;have:=Zf1 p n xs (Yav hr') _ (Ybj hp');exact ZbK (by omega) (by omega)
  refine⟨acc,_,rfl,SqL.of hacc,?_⟩;refine⟨_,rfl,ll,_,bl,rfl,s3 _ _ hL,fun t1 H1 s1 ht1=>?_⟩;have s31:=s3.trans s1;refine⟨_,rfl,pl,_,b,rfl,s31 _ _ hP,fun t2 H2 s2 ht2=>?_⟩;have s32:=s31.trans s2;refine⟨(by show 2<=sizeLine;decide),fun kp nkp=>?_⟩;have s4:=Same.new (o:=.tup [.ref t1,.ref t2]) nkp;have hkp:upd H2 kp (.tup [.ref t1,.ref t2]) kp=some (.tup [.ref t1,.ref t2]):=Zab;generalize upd H2 kp (.tup [.ref t1,.ref t2])=H4 at s4 hkp ⊢;have s34:=s32.trans s4;have ht1':=s4 _ _ (s2 _ _ ht1);have ht2':=s4 _ _ ht2;refine⟨_,rfl,_,rfl,_,rfl,_,rfl,p,n,ll,pl,bl,b,qs,ls,ks,rfl,p2,p7,hn,h4,s34 _ _ hL,s34 _ _ hP,hQ.same s34,hin,hnd,hl,h5,fun H5 s5=>?_⟩;refine⟨true,true,rfl,rfl,_,rfl,iteF ?_⟩;have s35:=s34.trans s5;refine⟨_,rfl,_,rfl,_,rfl,_,rfl,p,n,ll,pl,bl,b,qs,ls,ks,rfl,p2,p7,hn,h4,sqOf (s35 _ _ hL),sqOf (s35 _ _ hP),hTu.same s35,hin,⟨hl,by omega⟩,hbits,fun H6 s6=>?_⟩;have s36:=s35.trans s6;refine⟨_,rfl,.int _,"int",_,true,rfl,.int _,Zca,true,rfl,iteF ?_⟩;refine⟨_,rfl,.int _,"bool",_,false,rfl,.int _,ZbO,false,rfl,iteF ?_⟩;refine⟨_,rfl,_,rfl,rfl,false,by rw[decide_eq_true rfl];rfl,iteF ?_⟩;have hkp6:=s6 _ _ (s5 _ _ hkp);have ht16:=s6 _ _ (s5 _ _ ht1');have ht26:=s6 _ _ (s5 _ _ ht2');refine⟨_,rfl,ll,_,bl,rfl,s36 _ _ hL,fun t3 H7 s7 ht3=>?_⟩;refine⟨_,rfl,pl,_,b,rfl,(s36.trans s7) _ _ hP,fun t4 H8 s8 ht4=>?_⟩;refine⟨(by show 2<=sizeLine;decide),fun kq nkq=>?_⟩;have s9:=Same.new (o:=.tup [.ref t3,.ref t4]) nkq;have hkq:upd H8 kq (.tup [.ref t3,.ref t4]) kq=some (.tup [.ref t3,.ref t4]):=Zab;generalize upd H8 kq (.tup [.ref t3,.ref t4])=H9 at s9 hkq ⊢;have s79:=(s7.trans s8).trans s9;have s89:=s36.trans s79;have rl:=ZcS (H:=H9) ls;have rk:=ZeT (hQ.same s89);refine⟨_,rfl,kq,kp,.tuple [.tuple (ls.map Yb6),.tuple (ks.map fun k=>.tuple (k.map Yb6))],rfl,rfl,.tup hkq (.cons (.tup (s9 _ _ (s8 _ _ ht3)) rl) (.cons (.tup (s9 _ _ ht4) rk) .nil)),.tup (s79 _ _ hkp6) (.cons (.tup (s79 _ _ ht16) rl) (.cons (.tup (s79 _ _ ht26) rk) .nil)),?_,kk H9 s89⟩;have:=Zc3 ks;simp only[YaQ,Ydj,ZbI];omega
end
end Fk36
namespace Fk36
open PySem L2 Lv
section
variable {P:Program}{w:World}{K:Yab}{mg:Str->Option Value}{base:Heap}
theorem scLaw36:FnScope ["script","cell","draws","p","lengths","n","reels","placing","turned"] ["script"] (Zac sLaw):=⟨rfl,rfl,rfl,by decide +kernel,rfl,by decide +kernel,by decide +kernel⟩
theorem ix36 (b:Bool):∃ v:Nat,atI [V.int 40,.int 200] (if b then 1 else 0)=some (.int v)/\1<=v/\v<=200:=by
 cases b
 ·exact⟨40,rfl,by decide,by decide⟩
 ·exact⟨200,rfl,by decide,by decide⟩
theorem iy36 (b:Bool):∃ v:Int,atI [V.int 400,.int 4000] (if b then 1 else 0)=some (.int v)/\v<=4000:=by
 cases b
 ·exact⟨400,rfl,by decide⟩
 ·exact⟨4000,rfl,by decide⟩
theorem TuM.toTT36 {H:Hp}{qs:List Addr}{ks:List (List Int)} (h:TuM H qs ks):TTs H qs ks:=by
 refine⟨h.len,fun j r xs e1 e2=>?_⟩;obtain⟨k,e3,e4⟩:=h.at e1;rw[e2] at e3;cases e3;exact e4
theorem ZeK {α:Type} (l:List α):((l.take 2).reverse++l.drop 2).Perm l:=by
 have:=(List.reverse_perm (l.take 2)).append_right (l.drop 2)
 rwa [Ybg] at this
theorem Zf8 {H:Hp}:∀ {qs:List Addr}{ks:List (List Int)},TTs H qs ks->TTs H ((qs.take 2).reverse++qs.drop 2) ((ks.take 2).reverse++ks.drop 2)
 | [],[],h=>h
 | [_],[_],h=>h
 | q::q'::qs,k::k'::ks,h=>by
  refine⟨by have:=h.1;simpa using this,fun j r xs e1 e2=>?_⟩;simp only[List.take_succ_cons,List.take_zero,YcM,List.reverse_nil,Yc0,List.drop_succ_cons,List.drop_zero,List.cons_append] at e1 e2
  match j,e1,e2 with
  | 0,e1,e2=>exact h.2 1 r xs e1 e2
  | 1,e1,e2=>exact h.2 0 r xs e1 e2
  | j+2,e1,e2=>exact h.2 (j+2) r xs e1 e2
 | [],_::_,h=>absurd h.1 (by simp)
 | _::_,[],h=>absurd h.1 (by simp)
 | [_],_::_::_,h=>absurd h.1 (by simp)
 | _::_::_,[_],h=>absurd h.1 (by simp)
theorem ZgA {f f1 f2 f3 f4 f5 f6:Addr}{fd d1 d2 d3 d4 d5 d6:FuncData} (F:Fun K "law" "law" sLaw f fd) (T:Txt mg) (CD:Cal P w K mg base 2 "_law_draws" ["cell","many","base"] ZcO f1 d1) (CE:Cal P w K mg base 1 "_law_lengths" ["draws","most"] ZdB f2 d2) (CV:Cal P w K mg base 1 "_law_level" ["p","rows","further","most"] (ZcL K) f3 d3) (CO:Cal P w K mg base 1 "_law_reels" ["p","n"] (ZbY K) f4 d4) (CP:Cal P w K mg base 1 "_law_placing" ["reels","rows","draws"] (Zdx K) f5 d5) (CR:Cal P w K mg base 8 "_law_right" ["p","n","reels","lengths","placing"] (ZbX K) f6 d6):FnOk P w K mg base CX0 9 f fd ["script"] (Zgb K):=by
 refine okW F scLaw36 (fun vs H Q E h=>?_) (fun cdv A outer s H vs Q E hr h=>?_)
 ·obtain⟨a,cs,rfl,_⟩:=h;rfl
 ·obtain⟨a,cs,rfl,hS,hlen,k⟩:=h;have hr1:Room 1 _:=hr.mono (by decide);have hr2:Room 2 _:=hr.mono (by decide);have hr8:Room 8 _:=hr.mono (by decide);refine⟨_,(Zaf (ws (ZbN Ybl rfl (ZdI (Zak Zbi (Zbs ZdE (pv 0) Zb5 (Zbn Zae)) (ZaF (Zaa (Zam Zas rfl T.len Ybe (Zaa (pv 0) Zad)) Zad)))) (Zaq (i:=1) scLaw36.nd rfl (YaJ rfl))
   (WSs.out (Zaf (ws (Zal (i:=2) scLaw36.nd rfl (YaJ rfl) (Zar CD hr2 rfl (Zaa (pv 1) (Zaa Zae (Zaa (Zak ZcC Zae Zae) Zad))))))
    (Zaf (ws (Zal (i:=3) scLaw36.nd rfl (YaJ rfl) (Zak ZaV Zae (Zak ZaJ (ZaM ZaB (pv 2) Zae (fun _ _=>rfl)) Zae))))
    (Zaf (ws (Zal (i:=4) scLaw36.nd rfl (YaJ rfl) (Zar CE hr1 rfl (Zaa (pv 2) (Zaa (ZaM ZaB (ZaF (Zaa Zae (Zaa Zae Zad))) (Zav Zdq rfl T.int ZgQ (Zaa (Zb6 Zfa (Zak ZaJ (ZaM ZaB (pv 2) Zae (fun _ _=>rfl)) Zae) Zae (ZaP _)) Zad)) (fun _ _=>rfl)) Zad)))))
    (Zaf (ws (Zal (i:=5) scLaw36.nd rfl (YaJ rfl) (Zar CV hr1 rfl (Zaa (pv 3) (Zaa (Zam Zas rfl T.len Ybe (Zaa (pv 4) Zad)) (Zaa (Zak ZaJ (ZaM ZaB (pv 2) Zae (fun _ _=>rfl)) Zae) (Zaa (ZaM ZaB (ZaF (Zaa Zae (Zaa Zae Zad))) (Zav Zdq rfl T.int ZgQ (Zaa (Zb6 Zfa (Zak ZaJ (ZaM ZaB (pv 2) Zae (fun _ _=>rfl)) Zae) Zae (ZaP _)) Zad)) (fun _ _=>rfl)) Zad)))))))
    (Zaf (ws (Zal (i:=6) scLaw36.nd rfl (YaJ rfl) (Zar CO hr1 rfl (Zaa (pv 3) (Zaa (pv 5) Zad)))))
    (Zaf (ws (Zal (i:=7) scLaw36.nd rfl (YaJ rfl) (Zar CP hr1 rfl (Zaa (pv 6) (Zaa (Zam Zas rfl T.len Ybe (Zaa (pv 4) Zad)) (Zaa (Zbs ZdE (pv 2) (Zbn Zae) Zb5) Zad))))))
    (Zaf (Zcf (ZaT Zfa (Zak ZaJ (ZaM ZaB (pv 2) Zae (fun _ _=>rfl)) Zae) Zae (ZaP _))
    (Zaf (ws (Zal (i:=4) scLaw36.nd rfl (YaJ rfl) (Zav ZaN rfl T.tuple ZaO (Zaa (pv 4) Zad))))
     (Zat (ws (Zal (i:=7) scLaw36.nd rfl (YaJ rfl) (Zav ZaN rfl T.tuple ZaO (Zaa (pv 7) Zad))))))
    ZaX)
    (Zaf (Zcf (Zbh (Zbq (Zar CR hr8 rfl (Zaa (pv 3) (Zaa (pv 5) (Zaa (pv 6) (Zaa (pv 4) (Zaa (pv 7) Zad))))))))
    (wss Za9)
    ZaX)
    (Zaf (ws (Zal (i:=8) scLaw36.nd rfl (YaJ rfl) (Zav Zdo rfl T.list Zha (Zaa (pv 7) Zad))))
    (Zaf (ws (ZeW (Zig (Zbs ZdE (pv 8) Zb5 (Zbn Zae)) (Zbn (Zif ZgV Zae))) (Zie (pv 8) (Zbn Zae))))
    (Zat (Zcf (Zbh (Zbq (Zar CR hr8 rfl (Zaa (pv 3) (Zaa (pv 5) (Zaa (pv 6) (Zaa (pv 4) (Zaa (pv 8) Zad))))))))
    (wss Za9)
    ZaX)))))))))))))))
   (Zat (ws (Zau ZdL)))),?_⟩
  have hz:20000<sizeLine:=by decide
  refine⟨_,rfl,6,rfl,a,_,rfl,hS,fun u nu=>?_⟩;rw[show (some (6:Int))=some ((6:Nat):Int) from rfl,Zd9,<- Ydm];have s0:=Same.new (o:=.lst ((cs.take 6).map V.int)) nu;have e0:upd H u (.lst ((cs.take 6).map V.int)) u=some (.lst ((cs.take 6).map V.int)):=Zab;generalize upd H u (.lst ((cs.take 6).map V.int))=H0 at s0 e0 ⊢;refine⟨_,rfl,a,_,rfl,.inl (s0.seq hS),(by show 1<=sizeLine;decide),fun q nq=>?_⟩;have s1:=Same.new (o:=.lst [V.int ((cs.map V.int).length:Nat)]) nq;refine⟨u,q,_,_,rfl,rfl,s1 _ _ e0,Zab,by rw[Yad,Yay];simp;omega,fun sl nsl=>?_⟩;have hcat:(cs.take 6).map V.int++[V.int ((cs.map V.int).length:Nat)]=(cs.take 6++[((cs.map V.int).length:Int)]).map V.int:=by rw[Yax];rfl
  rw[hcat];generalize hcells:cs.take 6++[((cs.map V.int).length:Int)]=cells;generalize upd H0 q (.lst [V.int ((cs.map V.int).length:Nat)])=H1 at nsl;generalize hH2:upd H1 sl (.lst (cells.map V.int))=H2;have hsl:H2 sl=some (.lst (cells.map V.int)):=by rw[<- hH2];exact Zab
  refine⟨sl,true,rfl,⟨_,SqL.of hsl⟩,?_⟩;refine ZgK (b:=true) (K:=K) (a:=sl) (xs:=cells.map V.int) (fun i σ Hx=>∃ o1 o2 o3 o4 o5 o6 o7 o8:Option V,σ=[some (.ref a),o1,o2,o3,o4,o5,o6,o7,o8]/\Same H2 Hx) ⟨none,none,none,none,none,none,none,none,rfl,Same.refl _⟩ (fun i σ Hx _ ⟨_,_,_,_,_,_,_,_,_,sx⟩=>SqL.of (sx _ _ hsl)) ?_ ?_
  ·rintro i x σ Hx hx ⟨o1,o2,o3,o4,o5,o6,o7,o8,rfl,sx⟩;obtain⟨z,hz',rfl⟩:=Zbo hx;refine⟨_,rfl,10,15,rfl,rfl,⟨by decide,by decide,by decide⟩,z,430,_,rfl,by decide,by decide,by decide,fun dl ds H3 ndl hdl dlen d0 s3=>?_⟩;have sx3:=sx.trans s3;have gd:∀ (j:Nat),j<430->atI (ds.map V.int) (j:Int)=some (.int (ds.getD j 0)):=fun j hj=>by
    rw[Zc0 (by omega) (by omega),YaS]
   have m6a:=YaT (ds.getD 210 0) (show (6:Int)≠0 by decide);have m6b:=YaY (ds.getD 210 0) (show (0:Int)<6 by decide);refine⟨_,rfl,dl,_,210,_,rfl,rfl,SqL.of hdl,gd 210 (by omega),_,_,rfl,rfl,(by show (0:Int)<6;decide),2,_,rfl,rfl,?_⟩;obtain⟨p,hpd⟩:∃ p:Nat,2+ds.getD 210 0 % 6=(p:Int):=⟨(2+ds.getD 210 0 % 6).toNat,by omega⟩
   have p2:2<=p:=by omega
   have p7:p<=7:=by omega
   refine⟨_,rfl,(by show 2<=sizeLine;decide),fun q1 nq1=>?_⟩;have s3a:=Same.new (o:=.lst [V.int 40,.int 200]) nq1;have e3a:upd H3 q1 (.lst [V.int 40,.int 200]) q1=some (.lst [V.int 40,.int 200]):=Zab;have hdl3:=s3a _ _ hdl;generalize upd H3 q1 (.lst [V.int 40,.int 200])=H3a at s3a e3a hdl3 ⊢;have sx3a:=sx3.trans s3a;refine⟨_,rfl,dl,_,211,_,rfl,rfl,SqL.of hdl3,gd 211 (by omega),_,_,rfl,rfl,(by show (0:Int)<8;decide),rfl,.inr ⟨_,rfl,?_⟩⟩;obtain⟨v,ev,v1,v2⟩:=ix36 (decide (V.int (ds.getD 211 0 % 8)=V.int 1));refine⟨q1,_,_,.int v,rfl,rfl,SqL.of e3a,ev,?_⟩;refine⟨dl,ds,v,rfl,hdl3,d0,v1,by omega,by omega,by omega,fun l0 ls H4 nl0 hl0 hls1 hlsv hlb s4=>?_⟩;have hls:ls.length<=200:=by omega
   clear ev v1 v2 hlsv;have sx4:=sx3a.trans s4;have hdl4:=s4 _ _ hdl3;have m4a:=YaT (ds.getD 212 0) (show (4:Int)≠0 by decide);refine⟨_,rfl,_,rfl,l0,_,rfl,.inl (SqL.of hl0),_,rfl,dl,_,212,_,rfl,rfl,SqL.of hdl4,gd 212 (by omega),_,_,rfl,rfl,(by show (0:Int)<4;decide),(by show 2<=sizeLine;decide),fun q2 nq2=>?_⟩;have s4a:=Same.new (o:=.lst [V.int 400,.int 4000]) nq2;have e4a:upd H4 q2 (.lst [V.int 400,.int 4000]) q2=some (.lst [V.int 400,.int 4000]):=Zab;have hdl4a:=s4a _ _ hdl4;have hl0a:=s4a _ _ hl0;generalize upd H4 q2 (.lst [V.int 400,.int 4000])=H4a at s4a e4a hdl4a hl0a ⊢;have sx4a:=sx4.trans s4a;refine⟨_,rfl,dl,_,213,_,rfl,rfl,SqL.of hdl4a,gd 213 (by omega),_,_,rfl,rfl,(by show (0:Int)<8;decide),rfl,.inr ⟨_,rfl,?_⟩⟩;obtain⟨v,ev,v2⟩:=iy36 (decide (V.int (ds.getD 213 0 % 8)=V.int 1));refine⟨q2,_,_,.int v,rfl,rfl,SqL.of e4a,ev,?_⟩;refine⟨p,(ls.length:Int),ds.getD 212 0 % 4,v,4000,by rw[<- hpd,Yad];rfl,p2,p7,by omega,by omega,m4a,v2,fun n H5 hn1 hn4 s5=>?_⟩;clear ev v2;have hn19:=Zi0 p2 p7 hn4;have sx5:=sx4a.trans s5;refine⟨_,rfl,_,rfl,p,n,by rw[<- hpd];rfl,p2,p7,by omega,hn4,fun rl rs H6 nrl hrl hLL s6=>?_⟩;have sx6:=sx5.trans s6;have hl06:=s6 _ _ (s5 _ _ hl0a);have hdl6:=s6 _ _ (s5 _ _ hdl4a);refine⟨_,rfl,_,rfl,l0,_,rfl,.inl (SqL.of hl06),_,rfl,214,rfl,dl,_,rfl,SqL.of hdl6,fun q3 nq3=>?_⟩;rw[show (some (214:Int))=some ((214:Nat):Int) from rfl,ZgL,<- Ydn];have s7:=Same.new (o:=.lst ((ds.drop 214).map V.int)) nq3;have e7:upd H6 q3 (.lst ((ds.drop 214).map V.int)) q3=some (.lst ((ds.drop 214).map V.int)):=Zab;generalize upd H6 q3 (.lst ((ds.drop 214).map V.int))=H7 at s7 e7 ⊢;have sx7:=sx6.trans s7;have hfl:((num p n).flatten.length:Int)=tot p n:=ZgE p n;refine⟨rl,q3,rs,num p n,ls.length,ds.drop 214,by rw[Yad];rfl,s7 _ _ hrl,hLL.same s7,by rw[Zb7 (by omega)];omega,by omega,by omega,by rw[Ya2];omega,e7,fun l1 qs ks H8 nl1 hl1 hTu hnd hin hkl s8=>?_⟩;have sx8:=sx7.trans s8;have hQ:=TuM.toTT36 hTu;have hrl8:=s8 _ _ (s7 _ _ hrl);have hLL8:=hLL.same (s7.trans s8);have hl08:=s8 _ _ (s7 _ _ hl06);have hdl8:=s8 _ _ (s7 _ _ hdl6);dsimp only;refine cutG (a:=tIfS _ _ _) (fun σ' H'=>∃ (ll pl:Addr) (bl b:Bool),σ'=[some (.ref a),some (.int z),some (.ref dl),some (.int p),some (.ref ll),some (.int n),some (.ref rl),some (.ref pl),o8]/\H' ll=some (if bl then .lst (ls.map V.int) else .tup (ls.map V.int))/\H' pl=some (if b then .lst (qs.map V.ref) else .tup (qs.map V.ref))/\Same H8 H') (fun R' hR=>?_) ?_
   ·refine⟨_,rfl,dl,_,209,_,rfl,rfl,SqL.of hdl8,gd 209 (by omega),_,_,rfl,rfl,(by show (0:Int)<2;decide),rfl,_,rfl,ite2 (fun _=>?_) fun _=>?_⟩
    ·refine⟨_,rfl,l0,_,true,rfl,hl08,fun l2 H9 s9 hl2=>?_⟩;exact⟨_,rfl,l1,_,true,rfl,s9 _ _ hl1,fun l3 H10 s10 hl3=>hR _ _ ⟨l2,l3,false,false,by rw[hpd];rfl,s10 _ _ hl2,hl3,s9.trans s10⟩⟩
    ·exact hR _ _ ⟨l0,l1,true,true,by rw[hpd];rfl,hl08,hl1,Same.refl _⟩
   rintro σ H9 ⟨ll,pl,bl,b,rfl,hL9,hP9,s9⟩;have sx9:=sx8.trans s9;refine⟨_,rfl,_,rfl,_,rfl,_,rfl,_,rfl,p,n,rl,ll,pl,bl,b,rs,qs,ls,ks,rfl,p2,p7,by omega,hn4,s9 _ _ hrl8,hLL8.same s9,hL9,hP9,hQ.same s9,hin,hnd,hkl.symm,by omega,hlb,fun H10 s10=>⟨true,rfl,iteF ?_⟩⟩;have hP10:=s10 _ _ hP9;refine⟨_,rfl,pl,_,rfl,sqOr hP10,fun tl ntl=>?_⟩;have s11:=Same.new (o:=.lst (qs.map V.ref)) ntl;have e11:upd H10 tl (.lst (qs.map V.ref)) tl=some (.lst (qs.map V.ref)):=Zab;generalize upd H10 tl (.lst (qs.map V.ref))=H11 at s11 e11 ⊢;refine⟨_,rfl,2,rfl,tl,_,rfl,SqL.of e11,fun u1 nu1=>?_⟩;rw[show (some (2:Int))=some ((2:Nat):Int) from rfl,Zd9,<- Ydm];have s12:=Same.new (o:=.lst ((qs.take 2).map V.ref)) nu1;have e12:upd H11 u1 (.lst ((qs.take 2).map V.ref)) u1=some (.lst ((qs.take 2).map V.ref)):=Zab;have t12:=s12 _ _ e11;generalize upd H11 u1 (.lst ((qs.take 2).map V.ref))=H12 at s12 e12 t12 ⊢;refine⟨1,rfl,-1,rfl,rfl,u1,_,rfl,SqL.of e12,fun u2 nu2=>?_⟩;rw[<- List.map_reverse];have s13:=Same.new (o:=.lst ((qs.take 2).reverse.map V.ref)) nu2;have e13:upd H12 u2 (.lst ((qs.take 2).reverse.map V.ref)) u2=some (.lst ((qs.take 2).reverse.map V.ref)):=Zab;have t13:=s13 _ _ t12;have ne2:tl≠u2:=Zag t12 nu2;generalize upd H12 u2 (.lst ((qs.take 2).reverse.map V.ref))=H13 at s13 e13 t13 ⊢;have s1013:=(s11.trans s12).trans s13;refine⟨_,rfl,2,rfl,tl,u2,_,_,2,rfl,rfl,rfl,ne2,t13,e13,by rw[Yad,Yad,Ycw,Yay,sizeLine_eq];have:=hTu.len;omega,?_⟩;rw[<- Ydn,<- Yax];have s14:Same H10 (upd H13 tl (.lst (((qs.take 2).reverse++qs.drop 2).map V.ref))):=s1013.put ntl;have e14:upd H13 tl (.lst (((qs.take 2).reverse++qs.drop 2).map V.ref)) tl=some (.lst (((qs.take 2).reverse++qs.drop 2).map V.ref)):=Zab;generalize upd H13 tl (.lst (((qs.take 2).reverse++qs.drop 2).map V.ref))=H14 at s14 e14 ⊢;have s914:=s10.trans s14;have hpm:=ZeK ks;refine⟨_,rfl,_,rfl,_,rfl,_,rfl,_,rfl,p,n,rl,ll,tl,bl,true,rs,_,ls,(ks.take 2).reverse++ks.drop 2,rfl,p2,p7,by omega,hn4,s914 _ _ (s9 _ _ hrl8),(hLL8.same s9).same s914,s914 _ _ hL9,e14,Zf8 ((hQ.same s9).same s914),fun k hk=>hin k (hpm.mem_iff.mp hk),hpm.nodup_iff.mpr hnd,by rw[hpm.length_eq];exact hkl.symm,by rw[hpm.length_eq];omega,hlb,fun H15 s15=>⟨true,rfl,iteF ?_⟩⟩;exact⟨_,_,_,_,_,_,_,_,rfl,(sx9.trans s914).trans s15⟩
  ·rintro σ Hx ⟨o1,o2,o3,o4,o5,o6,o7,o8,rfl,sx⟩;exact k Hx
end
end Fk36
namespace Fk36
open PySem L2 Lv
section
variable {P:Program}{w:World}{K:Yab}{mg:Str->Option Value}{base:Heap}
theorem Zhl:FnScope ["thing"] ["thing"] (Zac Zco):=⟨rfl,rfl,rfl,by decide +kernel,rfl,by decide +kernel,by decide +kernel⟩
theorem Zgr {f:Addr}{fd:FuncData} (F:Fun K "is_whole" "is_whole" Zco f fd) (T:Txt mg):FnOk P w K mg base CX0 1 f fd ["thing"] ZbW:=by
 refine F.ok Zhl (fun vs H Q E h=>?_) (fun cdv A outer s H vs Q E hr h=>?_)
 ·obtain⟨i,rfl,_⟩:=h;rfl
 ·obtain⟨i,rfl,k⟩:=h;refine⟨_,Zao (Zau (ZdX (Zam ZaW rfl T.isinstance ZaI (Zaa (pv 0) (Zaa (ZdJ rfl T.int ZgQ) Zad)))
   (ZdW (Zih (Zam ZaW rfl T.isinstance ZaI (Zaa (pv 0) (Zaa (ZdJ rfl T.bool Zhb) Zad))))))),?_⟩
  refine⟨_,rfl,.int i,"int",_,true,rfl,.int i,Zca,true,rfl,iteT ?_⟩;exact⟨_,rfl,.int i,"bool",_,false,rfl,.int i,ZbO,false,rfl,k⟩
theorem Zh8:FnScope ["p"] ["p"] (Zac Zei):=⟨rfl,rfl,rfl,by decide +kernel,rfl,by decide +kernel,by decide +kernel⟩
theorem ZhD {f fW:Addr}{fd dW:FuncData}{t2 t7:Tok} (F:Fun K "check_ways" "check_ways" Zei f fd) (T:Txt mg) (hL:mg "LEAST_WAYS"=some (.int 2 t2)) (hM:mg "MOST_WAYS"=some (.int 7 t7)) (CW:Cal P w K mg base 1 "is_whole" ["thing"] ZbW fW dW) :
  FnOk P w K mg base CX0 2 f fd ["p"] ZeO:=by
 refine F.ok Zh8 (fun vs H Q E h=>?_) (fun cdv A outer s H vs Q E hr h=>?_)
 ·obtain⟨i,rfl,_⟩:=h;rfl
 ·obtain⟨i,rfl,h1,h2,k⟩:=h;refine⟨_,Zao (Zen (PW.pt (Zem (Zbh (Zbq (Zar CW hr rfl (Zaa (pv 0) Zad))))
   (Zc8 (Zbh (ZdT Ze8 Ze8 (ZdK rfl hL) (pv 0) (ZdK rfl hM)))))) Za9 Zb4),?_⟩
  refine⟨_,rfl,i,rfl,true,rfl,iteF ?_⟩;refine⟨_,rfl,2,i,rfl,rfl,_,rfl,?_⟩;rw[decide_eq_true h1];refine iteT ⟨i,7,rfl,rfl,_,rfl,?_⟩;rw[decide_eq_true h2];exact iteF k
theorem Zhq:FnScope ["n","last"] ["n","last"] (Zac Zcu):=⟨rfl,rfl,rfl,by decide +kernel,rfl,by decide +kernel,by decide +kernel⟩
theorem Zgy {f fW da:Addr}{fd dW:FuncData} (F:FunD K "check_level" "check_level" Zcu f da fd) (T:Txt mg) (CW:Cal P w K mg base 1 "is_whole" ["thing"] ZbW fW dW) :
  FnOk P w K mg base CX0 2 f fd ["n","last"] ZcK:=by
 refine F.ok Zhq (fun vs H Q E h=>?_) (fun cdv A outer s H vs Q E hr h=>?_)
 ·obtain⟨i,m,rfl,_⟩:=h;rfl
 ·obtain⟨i,m,rfl,h1,h2,k⟩:=h;refine⟨_,Zao (Zen (PW.pt (Zem (Zbh (Zbq (Zar CW hr rfl (Zaa (pv 0) Zad))))
   (Zc8 (Zbh (ZdT Ze8 Ze8 Zae (pv 0) (pv 1)))))) Za9 Zb4),?_⟩
  refine⟨_,rfl,i,rfl,true,rfl,iteF ?_⟩;refine⟨_,rfl,0,i,rfl,rfl,_,rfl,?_⟩;rw[decide_eq_true h1];refine iteT ⟨_,rfl,i,m,rfl,rfl,_,rfl,?_⟩;rw[decide_eq_true h2];exact iteF k
theorem Zhr:FnScope ["p"] ["p"] (Zac Zcw):=⟨rfl,rfl,rfl,by decide +kernel,rfl,by decide +kernel,by decide +kernel⟩
theorem ZgB {f:Addr}{fd:FuncData} (F:Fun K "first_counts" "first_counts" Zcw f fd) (T:Txt mg):FnOk P w K mg base CX0 1 f fd ["p"] ZdC:=by
 refine F.ok Zhr (fun vs H Q E h=>?_) (fun cdv A outer s H vs Q E hr h=>?_)
 ·obtain⟨p,rfl,_⟩:=h;rfl
 ·obtain⟨p,rfl,h1,h2,k⟩:=h;refine⟨_,Zao (Zau (Zav ZaE rfl T.tuple ZaO (Zaa (Zak Zbi (ZaF (Zaa Zae Zad)) (Zak Ze6 (ZaF (Zaa Zae Zad)) (Zak Zbt (pv 0) Zae))) Zad))),?_⟩;refine⟨(by show 1<=sizeLine;decide),fun p1 e1=>⟨(by show 1<=sizeLine;decide),fun p2 e2=>⟨_,rfl,_,_,rfl,rfl,?_⟩⟩⟩;have z2:(upd (upd H p1 (.lst [.int 1])) p2 (.lst [.int 0])) p1=some (.lst [.int 1]):=by rw[Zah (Zag Zab e2)];exact Zab
  refine⟨p2,(p:Int) - 1,_,rfl,rfl,Zab,by omega,by omega,?_,fun p3 e3=>?_⟩
  ·exact Ya9 (ZaA (by show 1*((p:Int) - 1).toNat<=1000;omega))
  have z3:=(Same.new (o:=.lst (Yal ((p:Int) - 1).toNat [V.int 0]).flatten) e3) p1 _ z2;have ez:(Yal ((p:Int) - 1).toNat [V.int 0]).flatten=Yal (p - 1) (V.int 0):=by
   rw[show ((p:Int) - 1).toNat=p - 1 by omega];exact YbQ
  rw[ez] at z3 ⊢;refine⟨p1,p3,_,_,rfl,rfl,z3,Zab,?_,fun p4 e4=>?_⟩
  ·exact Ya9 (ZaA (by rw[Ybz];show 1+(p - 1)<=1000;omega))
  refine⟨p4,_,rfl,.inl ⟨SqL.of Zab,fun l hl=>?_⟩⟩;have s4:=(((Same.new (o:=.lst [.int 1]) e1).trans (Same.new (o:=.lst [.int 0]) e2)).trans (Same.new (o:=.lst (Yal (p - 1) (V.int 0))) e3)).trans (Same.new (o:=.lst ([.int 1]++Yal (p - 1) (V.int 0))) e4);refine k l _ (s4.free hl) ?_ (s4.trans (Same.new hl));rw[Zab];simp[Zbw]
theorem scNext:FnScope ["counts","first"] ["counts"] (Zac ZdG):=⟨rfl,rfl,rfl,by decide +kernel,rfl,by decide +kernel,by decide +kernel⟩
theorem ZhF {f:Addr}{fd:FuncData} (F:Fun K "next_counts" "next_counts" ZdG f fd) (T:Txt mg):FnOk P w K mg base CX0 1 f fd ["counts"] (ZeP K):=by
 refine F.ok scNext (fun vs H Q E h=>?_) (fun cdv A outer s H vs Q E hr h=>?_)
 ·obtain⟨a,c,rfl,_⟩:=h;rfl
 ·obtain⟨a,c,rfl,hA,h1,h2,k⟩:=h;refine⟨_,Zaw (Zal (i:=1) scNext.nd rfl (Ycj rfl) (ZaM Zd3 (pv 0) Zae (fun _ _=>rfl)))
   (Zao (Zau (Zav ZaE rfl T.tuple ZaO (Zaa (Zak Zbi
    (ZaU (own:=["count"]) (js:=[1]) (CompOk.by (sc:=Zac ZdG) (N:=["counts","first"]) rfl rfl (by decide +kernel)) rfl (Ze0 (Zbs Zg0 (pv 0) (Zbn Zae) Zb5)) ZaD
     (fun _ _ _ _ _=>Zaq (i:=0) (by show (["count","first"]:List Str).Nodup;decide +kernel) rfl (YaJ rfl) (.inr rfl)) (fun _ _ _ _ _=>ZaS) (fun _ _ _ _ _=>Zak ZaV (pv 1) (pv 0)))
    (ZaF (Zaa (pv 1) Zad))) Zad)))),?_⟩
  obtain⟨c0,cr,rfl⟩:∃ c0 cr,c=c0::cr:=by
   cases c with
   | nil=>simp at h1
   | cons x y=>exact⟨x,y,rfl⟩
  have hcr:cr.length<=6:=by simpa using h2
  refine⟨_,rfl,a,_,0,.int c0,rfl,rfl,hA,ZgS,?_⟩;refine⟨_,rfl,1,rfl,a,_,rfl,hA,?_,fun p1 e1=>⟨p1,rfl,⟨_,SqT.of Zab⟩,?_⟩⟩
  ·rintro⟨z,_⟩;have:HT.sIx ((c0::cr).map V.int).length 0 (some ((1:Nat):Int))=0:=z;rw[HT.sIx_nat] at this;simp at this
  have ecut:cutV ((c0::cr).map V.int) (some 1) none=cr.map V.int:=by
   unfold cutV;show (((c0::cr).map V.int).drop (HT.sIx ((c0::cr).map V.int).length 0 (some ((1:Nat):Int)))).take (HT.sIx ((c0::cr).map V.int).length ((c0::cr).map V.int).length none - HT.sIx ((c0::cr).map V.int).length 0 (some ((1:Nat):Int)))=_;rw[HT.sIx_nat];rw[show min 1 ((c0::cr).map V.int).length=1 by simp];show (cr.map V.int).take (((c0::cr).map V.int).length - 1)=_;rw[Ybb (by simp)]
  rw[ecut];refine ZcW (xs:=cr.map V.int) (fun acc i H2=>Same (upd H p1 (.tup (cr.map V.int))) H2/\H2 acc=some (.lst (((cr.take i).map (c0+·)).map V.int))) (fun acc h0=>⟨Same.new h0,Zab⟩) (fun acc i H2 h0 _ p=>p.1.tup (SqT.of Zab)) ?_ ?_
  ·rintro acc i x H2 h0 hx ⟨s2,hacc⟩;obtain⟨z,hz,rfl⟩:=Zbo hx;have hi:=(Yaf.mp hz).1
   refine⟨_,rfl,_,rfl,_,_,rfl,rfl,_,hacc,?_,by rw[Yad];exact hi,s2.put h0,?_⟩
   ·exact ZaA (by simp;omega)
   ·rw[Zab,Ybd,hz];simp
  ·rintro acc H2 h0 ⟨s2,hacc⟩;rw[Yad,YaR] at hacc;refine⟨_,rfl,(by show 1<=sizeLine;decide),fun p2 e2=>?_⟩;refine⟨acc,p2,_,_,rfl,rfl,(Same.new e2) acc _ hacc,Zab,?_,fun p3 e3=>⟨p3,_,rfl,.inl ⟨SqL.of Zab,fun l hl=>?_⟩⟩⟩
   ·exact Ya9 (ZaA (by simp;omega))
   have s3:=(((Same.new (o:=.tup (cr.map V.int)) e1).trans s2).trans (Same.new (o:=.lst [.int c0]) e2)).trans (Same.new (o:=.lst (((cr.map (c0+·)).map V.int)++[.int c0])) e3);refine k l _ (s3.free hl) ?_ (s3.trans (Same.new hl));rw[Zab];simp[Za3]
theorem scCounts:FnScope ["p","n","counts","level"] ["p","n"] (Zac ZbG):=⟨rfl,rfl,rfl,by decide +kernel,rfl,by decide +kernel,by decide +kernel⟩
theorem Zfh {f fA fB fC fD:Addr}{fd dA dB dC dD:FuncData} (F:Fun K "level_counts" "level_counts" ZbG f fd) (T:Txt mg) (CA:Cal P w K mg base 2 "check_ways" ["p"] ZeO fA dA) (CB:CalD P w K mg base 2 "check_level" ["n","last"] [.int 300] ZcK fB dB) (CC:Cal P w K mg base 1 "first_counts" ["p"] ZdC fC dC) (CD:Cal P w K mg base 1 "next_counts" ["counts"] (ZeP K) fD dD) :
  FnOk P w K mg base CX0 3 f fd ["p","n"] ZcP:=by
 refine F.ok scCounts (fun vs H Q E h=>?_) (fun cdv A outer s H vs Q E hr h=>?_)
 ·obtain⟨p,n,rfl,_⟩:=h;rfl
 ·obtain⟨p,n,rfl,h1,h2,h3,k⟩:=h;have hr1:Room 1 _:=hr.mono (by decide);refine⟨_,Zaw (ZaY (Zar CA hr rfl (Zaa (pv 0) Zad))) (Zaw (ZaY (Zhy CB hr rfl (Zaa (pv 1) Zad)))
   (Zaw (Zal (i:=2) scCounts.nd rfl (YaJ rfl) (Zar CC hr1 rfl (Zaa (pv 0) Zad)))
   (Zaw (ZbN Ybl rfl (ZaG rfl T.range (Zaa (pv 1) Zad)) (Zaq (i:=3) scCounts.nd rfl (YaJ rfl))
    (Zao (Zal (i:=2) scCounts.nd rfl (YaJ rfl) (Zar CD hr1 rfl (Zaa (pv 2) Zad)))))
   (Zao (Zau (pv 2)))))),?_⟩
  refine⟨_,rfl,p,rfl,by omega,by omega,?_⟩;refine⟨_,rfl,n,300,rfl,by omega,by omega,?_⟩;refine⟨_,rfl,p,rfl,h1,h2,fun l H1 hl0 hl1 s1=>?_⟩;refine⟨_,rfl,n,rfl,by omega,by omega,Za1 (fun i σ H2=>∃ (l:Addr) (o:Option V),σ=[some (.int p),some (.int n),some (.ref l),o]/\H l=none/\H2 l=some (.tup ((cnt p i).map V.int))/\Same H H2)
   ⟨l,none,rfl,hl0,hl1,s1⟩ ?_ ?_⟩
  ·rintro i σ H2 hi ⟨l,o,rfl,hl0,hl2,s2⟩;have hlen:=Zcd (p:=p) (by omega) i;refine⟨_,rfl,l,cnt p i,rfl,SqT.of hl2,by omega,by omega,fun l3 H3 h30 h3 s3=>?_⟩;exact⟨l3,_,rfl,s2.free h30,h3,s2.trans s3⟩
  ·rintro σ H2 ⟨l,o,rfl,hl0,hl2,s2⟩;refine⟨_,rfl,k l H2 hl0 ?_ s2⟩;simpa using hl2
theorem Zhn:FnScope ["p","n"] ["p","n"] (Zac Zcq):=⟨rfl,rfl,rfl,by decide +kernel,rfl,by decide +kernel,by decide +kernel⟩
theorem Zgt {f fA:Addr}{fd dA:FuncData} (F:Fun K "level_total" "level_total" Zcq f fd) (T:Txt mg) (CA:Cal P w K mg base 3 "level_counts" ["p","n"] ZcP fA dA):FnOk P w K mg base CX0 4 f fd ["p","n"] Zdw:=by
 refine F.ok Zhn (fun vs H Q E h=>?_) (fun cdv A outer s H vs Q E hr h=>?_)
 ·obtain⟨p,n,rfl,_⟩:=h;rfl
 ·obtain⟨p,n,rfl,h1,h2,h3,k⟩:=h;refine⟨_,Zao (Zau (Zam (ZfW rfl) rfl T.sum Zez (Zaa (Zar CA hr rfl (Zaa (pv 0) (Zaa (pv 1) Zad))) Zad))),?_⟩;exact⟨_,rfl,_,rfl,p,n,rfl,h1,h2,h3,fun l H1 hl0 hl1 s1=>⟨l,_,rfl,SqT.of hl1,k H1 s1⟩⟩
theorem ZiQ:FnScope ["total"] ["total"] (Zac sTot):=⟨rfl,rfl,rfl,by decide +kernel,rfl,by decide +kernel,by decide +kernel⟩
theorem Zio {f:Addr}{fd:FuncData}{tM:Tok} (F:Fun K "check_total" "check_total" sTot f fd) (T:Txt mg) (hM:mg "MOST_PLACES"=some (.int 4000 tM)):FnOk P w K mg base CX0 1 f fd ["total"] Zhj:=by
 refine F.ok ZiQ (fun vs H Q E h=>?_) (fun cdv A outer s H vs Q E hr h=>?_)
 ·obtain⟨i,rfl,_⟩:=h;rfl
 ·obtain⟨i,rfl,h4,k⟩:=h;refine⟨_,Zao (Zen (ZaT Zgo (pv 0) (ZdK rfl hM) (ZaP _)) Za9 Zb4),?_⟩;refine⟨_,rfl,_,_,rfl,rfl,_,rfl,?_⟩;rw[decide_eq_false (by omega)];exact iteF k
theorem Zgg:FnScope ["p"] ["p"] (Zac ZbF):=⟨rfl,rfl,rfl,by decide +kernel,rfl,by decide +kernel,by decide +kernel⟩
theorem Zfg {f:Addr}{fd:FuncData} (F:Fun K "first_numbers" "first_numbers" ZbF f fd) (T:Txt mg):FnOk P w K mg base CX0 1 f fd ["p"] ZcN:=by
 refine F.ok Zgg (fun vs H Q E h=>?_) (fun cdv A outer s H vs Q E hr h=>?_)
 ·obtain⟨p,rfl,_⟩:=h;rfl
 ·obtain⟨p,rfl,h1,h2,k⟩:=h;refine⟨_,Zao (Zau (Zav ZaE rfl T.tuple ZaO (Zaa (Zak Zbi (ZaF (Zaa (ZcB (Zaa Zae Zad)) Zad)) (Zak Ze6 (ZaF (Zaa (ZcB Zad) Zad)) (Zak Zbt (pv 0) Zae))) Zad))),?_⟩;refine⟨(by show 1<=sizeLine;decide),fun q0 e0=>⟨(by show 1<=sizeLine;decide),fun p1 e1=>⟨YaX _,fun q1 f1=>⟨(by show 1<=sizeLine;decide),fun p2 e2=>⟨_,rfl,_,_,rfl,rfl,?_⟩⟩⟩⟩⟩;have t0:Same H (upd H q0 (.tup [.int 0])):=Same.new e0;have t1:=t0.trans (Same.new (o:=.lst [.ref q0]) e1);have t2:=t1.trans (Same.new (o:=.tup []) f1);have t3:=t2.trans (Same.new (o:=.lst [.ref q1]) e2);have a0:(upd (upd (upd (upd H q0 (.tup [.int 0])) p1 (.lst [.ref q0])) q1 (.tup [])) p2 (.lst [.ref q1])) q0=some (.tup [.int 0]):=((Same.new e1).trans ((Same.new f1).trans (Same.new e2))) q0 _ Zab;have a1:(upd (upd (upd (upd H q0 (.tup [.int 0])) p1 (.lst [.ref q0])) q1 (.tup [])) p2 (.lst [.ref q1])) p1=some (.lst [.ref q0]):=((Same.new f1).trans (Same.new e2)) p1 _ Zab;have a2:(upd (upd (upd (upd H q0 (.tup [.int 0])) p1 (.lst [.ref q0])) q1 (.tup [])) p2 (.lst [.ref q1])) q1=some (.tup []):=(Same.new e2) q1 _ Zab;have a3:(upd (upd (upd (upd H q0 (.tup [.int 0])) p1 (.lst [.ref q0])) q1 (.tup [])) p2 (.lst [.ref q1])) p2=some (.lst [.ref q1]):=Zab;generalize (upd (upd (upd (upd H q0 (.tup [.int 0])) p1 (.lst [.ref q0])) q1 (.tup [])) p2 (.lst [.ref q1]))=H1 at t3 a0 a1 a2 a3 ⊢;refine⟨p2,(p:Int) - 1,_,rfl,rfl,a3,by omega,by omega,?_,fun p3 e3=>?_⟩
  ·exact Ya9 (ZaA (by show 1*((p:Int) - 1).toNat<=1000;omega))
  have ez:(Yal ((p:Int) - 1).toNat [V.ref q1]).flatten=Yal (p - 1) (V.ref q1):=by
   rw[show ((p:Int) - 1).toNat=p - 1 by omega];exact YbQ
  rw[ez];have s3:=Same.new (o:=.lst (Yal (p - 1) (V.ref q1))) e3;refine⟨p1,p3,_,_,rfl,rfl,s3 p1 _ a1,Zab,?_,fun p4 e4=>⟨p4,_,rfl,.inl ⟨SqL.of Zab,fun l hl=>?_⟩⟩⟩
  ·exact Ya9 (ZaA (by rw[Ybz];show 1+(p - 1)<=1000;omega))
  have s4:=s3.trans (Same.new (o:=.lst ([.ref q0]++Yal (p - 1) (V.ref q1))) e4);have s5:=s4.trans (Same.new (o:=.tup ([.ref q0]++Yal (p - 1) (V.ref q1))) hl);have hl0:H l=none:=(t3.trans s4).free hl;refine k l (q0::Yal (p - 1) q1) _ hl0 (by rw[Zab];simp) ⟨by simp[num0],fun j r xs ha hb=>?_⟩ (t3.trans s5)
  cases j with
  | zero=>
   have:r=q0:=by simpa using ha.symm
   have:xs=[0]:=by simpa[num0] using hb.symm
   subst r xs;exact s5 q0 _ a0
  | succ j=>
   have:r=q1:=ZeS (j:=j) (by simpa using ha);have:xs=[]:=ZeS (j:=j) (by simpa[num0] using hb);subst r xs;exact s5 q1 _ a2
theorem Zge:FnScope ["p","n"] ["p","n"] (Zac ZbC):=⟨rfl,rfl,rfl,by decide +kernel,rfl,by decide +kernel,by decide +kernel⟩
theorem Zfc {f fA fB:Addr}{fd dA dB:FuncData} (F:Fun K "check_places" "check_places" ZbC f fd) (T:Txt mg) (CA:Cal P w K mg base 4 "level_total" ["p","n"] Zdw fA dA) (CB:Cal P w K mg base 1 "check_total" ["total"] Zhj fB dB):FnOk P w K mg base CX0 5 f fd ["p","n"] ZcH:=by
 refine F.ok Zge (fun vs H Q E h=>?_) (fun cdv A outer s H vs Q E hr h=>?_)
 ·obtain⟨p,n,rfl,_⟩:=h;rfl
 ·obtain⟨p,n,rfl,h1,h2,h3,h4,k⟩:=h;have hr1:Room 1 _:=hr.mono (by decide);refine⟨_,Zao (ZaY (Zar CB hr1 rfl (Zaa (Zar CA hr rfl (Zaa (pv 0) (Zaa (pv 1) Zad))) Zad))),?_⟩;exact⟨_,rfl,_,rfl,p,n,rfl,h1,h2,h3,fun H1 s1=>⟨_,rfl,h4,k H1 s1⟩⟩
theorem scNextN:FnScope ["numbers","first"] ["numbers"] (Zac ZbL):=⟨rfl,rfl,rfl,by decide +kernel,rfl,by decide +kernel,by decide +kernel⟩
theorem Zgw {f:Addr}{fd:FuncData} (F:Fun K "next_numbers" "next_numbers" ZbL f fd) (T:Txt mg):FnOk P w K mg base CX0 1 f fd ["numbers"] ZcJ:=by
 refine F.ok scNextN (fun vs H Q E h=>?_) (fun cdv A outer s H vs Q E hr h=>?_)
 ·obtain⟨a,rs,N,rfl,_⟩:=h;rfl
 ·obtain⟨a,rs,N,rfl,hA,hT,h1,h2,hne,hz,k⟩:=h;refine⟨_,Zaw (Zal (i:=1) scNextN.nd rfl (Ycj rfl) (Zav ZaE rfl T.tuple ZaO (Zaa (ZaU (own:=["number"]) (js:=[]) (CompOk.by (sc:=Zac ZbL) (N:=["numbers","first"]) rfl rfl (by decide +kernel)) rfl (Ze0 (ZaM Zd3 (pv 0) Zae (fun _ _=>rfl))) ZaD
     (fun _ _ _ _ _=>Zaq (i:=0) (by show (["number"]:List Str).Nodup;decide +kernel) rfl (YaJ rfl) (.inr rfl)) (fun _ _ _ _ _=>ZaS) (fun _ _ _ _ _=>Zak ZaV (pv 0) Zae)) Zad)))
   (Zao (Zau (Zav ZaE rfl T.tuple ZaO (Zaa (Zak Zbi
    (ZaU (own:=["reel"]) (js:=[1]) (CompOk.by (sc:=Zac ZbL) (N:=["numbers","first"]) rfl rfl (by decide +kernel)) rfl (Ze0 (Zbs Zg0 (pv 0) (Zbn Zae) Zb5)) ZaD
     (fun _ _ _ _ _=>Zaq (i:=0) (by show (["reel","first"]:List Str).Nodup;decide +kernel) rfl (YaJ rfl) (.inr rfl)) (fun _ _ _ _ _=>ZaS) (fun _ _ _ _ _=>Zak (Zgq K) (pv 1) (pv 0)))
    (ZaF (Zaa (pv 1) Zad))) Zad)))),?_⟩
  obtain⟨x0,xr,rfl⟩:∃ x0 xr,N=x0::xr:=by
   cases N with
   | nil=>simp at h1
   | cons x y=>exact⟨x,y,rfl⟩
  obtain⟨r0,rr,rfl⟩:∃ r0 rr,rs=r0::rr:=by
   cases rs with
   | nil=>have:=hT.1;simp at this
   | cons x y=>exact⟨x,y,rfl⟩
  have hr0:H r0=some (.tup (x0.map V.int)):=hT.2 0 r0 x0 rfl rfl;have hrl:rr.length=xr.length:=by have:=hT.1;simpa using this
  have hxr:xr.length<=6:=by simpa using h2
  have hx0:x0.length<=4000:=hz x0 (by simp);have ef:fstN (x0::xr)=x0.map (·+1):=rfl;refine⟨_,rfl,a,_,0,.ref r0,rfl,rfl,SqT.of hA,Za0 (j:=0) rfl,r0,rfl,⟨_,SqT.of hr0⟩,?_⟩;refine ZcW (xs:=x0.map V.int) (fun acc i H2=>Same H H2/\H2 acc=some (.lst (((x0.take i).map (·+1)).map V.int))) (fun acc h0=>⟨Same.new h0,Zab⟩) (fun acc i H2 h0 _ p=>p.1.tup (SqT.of hr0)) ?_ ?_
  ·rintro acc i x H2 h0 hx ⟨s2,hacc⟩;obtain⟨z,hz',rfl⟩:=Zbo hx;have hi:=(Yaf.mp hz').1
   refine⟨_,rfl,z,1,rfl,rfl,_,hacc,?_,by rw[Yad];exact hi,s2.put h0,?_⟩
   ·exact Za8 (by simp;omega)
   ·rw[Zab,Ybd,hz',Ycu,Yax,Yax];rfl
  rintro acc H2 h0 ⟨s2,hacc⟩;rw[Yad,YaR] at hacc;refine⟨acc,_,rfl,.inl ⟨SqL.of hacc,fun fl hfl=>?_⟩⟩;have s3:=s2.trans (Same.new (o:=.tup ((x0.map (·+1)).map V.int)) hfl);have hfl3:(upd H2 fl (.tup ((x0.map (·+1)).map V.int))) fl=some (.tup ((x0.map (·+1)).map V.int)):=Zab;generalize (upd H2 fl (.tup ((x0.map (·+1)).map V.int)))=H3 at s3 hfl3 ⊢;have hfl0:H fl=none:=s2.free hfl;refine⟨_,rfl,1,rfl,a,_,rfl,SqT.of (s3 a _ hA),?_,fun p1 e1=>⟨p1,rfl,⟨_,SqT.of Zab⟩,?_⟩⟩
  ·rintro⟨z,_⟩;have:HT.sIx ((r0::rr).map V.ref).length 0 (some ((1:Nat):Int))=0:=z;rw[HT.sIx_nat] at this;simp at this
  have ecut:cutV ((r0::rr).map V.ref) (some 1) none=rr.map V.ref:=by
   unfold cutV;show (((r0::rr).map V.ref).drop (HT.sIx ((r0::rr).map V.ref).length 0 (some ((1:Nat):Int)))).take (HT.sIx ((r0::rr).map V.ref).length ((r0::rr).map V.ref).length none - HT.sIx ((r0::rr).map V.ref).length 0 (some ((1:Nat):Int)))=_;rw[HT.sIx_nat];rw[show min 1 ((r0::rr).map V.ref).length=1 by simp];show (rr.map V.ref).take (((r0::rr).map V.ref).length - 1)=_;rw[Ybb (by simp)]
  rw[ecut];have s4:=s3.trans (Same.new (o:=.tup (rr.map V.ref)) e1);have hfl4:=(Same.new (o:=.tup (rr.map V.ref)) e1) fl _ hfl3;have hp14:(upd H3 p1 (.tup (rr.map V.ref))) p1=some (.tup (rr.map V.ref)):=Zab;generalize (upd H3 p1 (.tup (rr.map V.ref)))=H4 at s4 hfl4 hp14 ⊢;have hr:∀ (j:Nat) r xs,rr[j]?=some r->xr[j]?=some xs->H r=some (.tup (xs.map V.int)):=fun j r xs a b=>hT.2 (j+1) r xs a b;have hxz:∀ xs∈xr,xs.length<=4000:=fun xs hx=>hz xs (by simp[hx]);have hx0ne:x0≠[]:=hne;refine ZcW (xs:=rr.map V.ref) (fun acc i H5=>Same H4 H5/\∃ qs:List Addr,H5 acc=some (.lst (qs.map V.ref))/\TTs H5 qs ((xr.take i).map (x0.map (·+1)++·))) (fun acc h0=>⟨Same.new h0,[],Zab,rfl,fun j r xs a b=>by simp at a⟩) (fun acc i H5 h0 _ p=>p.1.tup (SqT.of hp14)) ?_ ?_
  ·rintro acc i x H5 h0 hx ⟨s5,qs,hacc,hq⟩;obtain⟨r,hr',rfl⟩:=Za4 hx;have hi:=(Yaf.mp hr').1
   have hix:i<xr.length:=by omega
   have hrx:H5 r=some (.tup (xr[i].map V.int)):=(s4.trans s5) r _ (hr i r _ hr' (Yac hix));have hfl5:=s5 fl _ hfl4;have hxi:xr[i].length<=4000:=hxz _ (Ybj hix);have hqs:qs.length<=6:=by have:=hq.1;simp at this;omega
   have e2:(xr.take (i+1)).map (x0.map (·+1)++·)=(xr.take i).map (x0.map (·+1)++·)++[x0.map (·+1)++xr[i]]:=by
    rw[YbP hix,Yax];rfl
   rw[e2];refine⟨_,rfl,_,rfl,fl,r,_,_,rfl,rfl,SqT.of hfl5,SqT.of hrx,by simpa using hx0ne,?_,fun hemp=>?_,fun hemp pn en=>?_⟩
   ·exact Ya9 (Za8 (by simp;omega))
   ·have hemp':xr[i]=[]:=by simpa using hemp
    refine⟨_,hacc,Za8 (by simp;omega),by rw[Yad];exact hi,s5.put h0,qs++[fl],by rw[Zab];simp,?_⟩;refine (hq.lst hacc).snoc ?_;rw[hemp',Yc2,Zah (by intro z;subst z;rw[hacc] at hfl5;cases hfl5)];exact hfl5
   ·have hacc6:=(Same.new (o:=.tup ((x0.map (·+1)).map V.int++xr[i].map V.int)) en) acc _ hacc;refine⟨_,hacc6,Za8 (by simp;omega),by rw[Yad];exact hi,(s5.trans (Same.new en)).put h0,qs++[pn],by rw[Zab];simp,?_⟩;refine ((hq.same (Same.new en)).lst hacc6).snoc ?_;rw[Zah (by intro z;subst z;rw[hacc] at en;cases en),Zab];simp
  ·rintro acc H5 h0 ⟨s5,qs,hacc,hq⟩;rw[Yad,hrl,YaR] at hq;have hfl5:=s5 fl _ hfl4;have hqs:qs.length<=6:=by have:=hq.1;simp at this;omega
   refine⟨_,rfl,(by show 1<=sizeLine;decide),fun p2 e2=>?_⟩;refine⟨acc,p2,_,_,rfl,rfl,(Same.new e2) acc _ hacc,Zab,?_,fun p3 e3=>⟨p3,_,rfl,.inl ⟨SqL.of Zab,fun l hl=>?_⟩⟩⟩
   ·exact Ya9 (Za8 (by simp;omega))
   have sz:=((Same.new (o:=.lst [V.ref fl]) e2).trans (Same.new (o:=.lst (qs.map V.ref++[V.ref fl])) e3)).trans (Same.new (o:=.tup (qs.map V.ref++[V.ref fl])) hl);have s6:=(s4.trans s5).trans sz;refine k l (qs++[fl]) _ ?_ (by rw[Zab];simp) ?_ s6
   ·exact ((s4.trans s5).trans ((Same.new (o:=.lst [V.ref fl]) e2).trans (Same.new (o:=.lst (qs.map V.ref++[V.ref fl])) e3))).free hl
   ·exact (hq.same sz).snoc (sz fl _ hfl5)
theorem scAfter:FnScope ["p","n","following","numbers","level"] ["p","n","following"] (Zac Zcy):=⟨rfl,rfl,rfl,by decide +kernel,rfl,by decide +kernel,by decide +kernel⟩
theorem ZgD {f fA fB:Addr}{fd dA dB:FuncData} (F:Fun K "numbers_after" "numbers_after" Zcy f fd) (T:Txt mg) (CB:Cal P w K mg base 1 "first_numbers" ["p"] ZcN fB dB) (CA:Cal P w K mg base 1 "next_numbers" ["numbers"] ZcJ fA dA):FnOk P w K mg base CX0 2 f fd ["p","n","following"] (ZdD fA):=by
 refine F.ok scAfter (fun vs H Q E h=>?_) (fun cdv A outer s H vs Q E hr h=>?_)
 ·obtain⟨p,n,rfl,_⟩:=h;rfl
 ·obtain⟨p,n,rfl,h1,h2,h3,h4,k⟩:=h;refine⟨_,Zaw (Zal (i:=3) scAfter.nd rfl (YaJ rfl) (Zar CB hr rfl (Zaa (pv 0) Zad)))
   (Zaw (ZbN Ybl rfl (ZaG rfl T.range (Zaa (pv 1) Zad)) (Zaq (i:=4) scAfter.nd rfl (YaJ rfl)) (Zao (Zal (i:=3) scAfter.nd rfl (YaJ rfl) (Zhx 2 CA hr (Zaa (pv 3) Zad)))))
   (Zao (Zau (pv 3)))),?_⟩
  refine⟨_,rfl,p,rfl,h1,h2,fun l qs H1 hl0 hl1 hq1 s1=>?_⟩;refine⟨_,rfl,n,rfl,by omega,by omega,Za1 (fun i σ H2=>∃ (l:Addr) (qs:List Addr) (o:Option V),σ=[some (.int p),some (.int n),some (.ref fA),some (.ref l),o]/\H l=none/\H2 l=some (.tup (qs.map V.ref))/\TTs H2 qs (num p i)/\Same H H2)
   ⟨l,qs,none,rfl,hl0,hl1,hq1,s1⟩ ?_ ?_⟩
  ·rintro i σ H2 hi ⟨l,qs,o,rfl,hl0,hl2,hq,s2⟩;have hlen:=Zb7 (p:=p) (by omega) i;have htot:=ZbR (p:=p) h1 (show i<=n by omega);refine⟨rfl,_,rfl,l,qs,num p i,rfl,hl2,hq,by omega,by omega,?_,fun xs hx=>?_,fun l3 qs3 H3 h30 h3 hq3 s3=>?_⟩
   ·obtain⟨a,r,e,ha,_⟩:=ZgF h1 i;rw[e];exact ha
   ·have:=Zfl hx;omega
   ·exact⟨l3,qs3,_,rfl,s2.free h30,h3,hq3,s2.trans s3⟩
  ·rintro σ H2 ⟨l,qs,o,rfl,hl0,hl2,hq,s2⟩;refine⟨_,rfl,k l qs H2 hl0 hl2 ?_ s2⟩;simpa using hq
theorem Zhp:FnScope ["p","n"] ["p","n"] (Zac Zcs):=⟨rfl,rfl,rfl,by decide +kernel,rfl,by decide +kernel,by decide +kernel⟩
theorem Zgv {f fA fB:Addr}{fd dA dB:FuncData} (F:Fun K "numbers_of" "numbers_of" Zcs f fd) (T:Txt mg) (CA:Cal P w K mg base 1 "next_numbers" ["numbers"] ZcJ fA dA) (CB:Cal P w K mg base 2 "numbers_after" ["p","n","following"] (ZdD fA) fB dB):FnOk P w K mg base CX0 3 f fd ["p","n"] Zdz:=by
 refine F.ok Zhp (fun vs H Q E h=>?_) (fun cdv A outer s H vs Q E hr h=>?_)
 ·obtain⟨p,n,rfl,_⟩:=h;rfl
 ·obtain⟨p,n,rfl,h1,h2,h3,h4,k⟩:=h;refine⟨_,Zao (Zau (Zar CB hr rfl (Zaa (pv 0) (Zaa (pv 1) (Zaa (Zii CA rfl) Zad))))),?_⟩;exact⟨_,rfl,_,rfl,p,n,rfl,h1,h2,h3,h4,k⟩
theorem scLN:FnScope ["p","n"] ["p","n"] (Zac sLN):=⟨rfl,rfl,rfl,by decide +kernel,rfl,by decide +kernel,by decide +kernel⟩
theorem ZiW {f fA fB:Addr}{fd dA dB:FuncData} (F:Fun K "level_numbers" "level_numbers" sLN f fd) (T:Txt mg) (CA:Cal P w K mg base 5 "check_places" ["p","n"] ZcH fA dA) (CB:Cal P w K mg base 3 "numbers_of" ["p","n"] Zdz fB dB):FnOk P w K mg base CX0 6 f fd ["p","n"] Zdz:=by
 refine F.ok scLN (fun vs H Q E h=>?_) (fun cdv A outer s H vs Q E hr h=>?_)
 ·obtain⟨p,n,rfl,_⟩:=h;rfl
 ·obtain⟨p,n,rfl,h1,h2,h3,h4,k⟩:=h;have hr2:Room 3 _:=hr.mono (by decide);refine⟨_,Zaw (ZaY (Zar CA hr rfl (Zaa (pv 0) (Zaa (pv 1) Zad)))) (Zao (Zau (Zar CB hr2 rfl (Zaa (pv 0) (Zaa (pv 1) Zad))))),?_⟩;refine⟨_,rfl,_,rfl,p,n,rfl,h1,h2,h3,h4,fun H1 s1=>?_⟩;exact⟨_,rfl,_,rfl,p,n,rfl,h1,h2,h3,h4,fun l qs H2 hl0 hl hq s2=>k l qs H2 (s1.free hl0) hl hq (s1.trans s2)⟩
theorem scMixed:FnScope ["cell","k","prime","part"] ["cell","k"] (Zac Zct):=⟨rfl,rfl,rfl,by decide +kernel,rfl,by decide +kernel,by decide +kernel⟩
theorem ix7 {d:Int} (h0:0<=d) (h1:d<7):∃ v:Int,atI [V.int 2147483647,.int 2147483629,.int 2147483587,.int 2147483579,.int 2147483563,.int 2147483549,.int 2147483543] d=some (.int v)/\0<v/\v<=2147483647:=by
 have:d=0∨d=1∨d=2∨d=3∨d=4∨d=5∨d=6:=by omega
 rcases this with rfl | rfl | rfl | rfl | rfl | rfl | rfl
 all_goals exact⟨_,rfl,by decide,by decide⟩
theorem Zgx {f:Addr}{fd:FuncData} (F:Fun K "_law_mixed" "_law_mixed" Zct f fd) (T:Txt mg):FnOk P w K mg base CX0 1 f fd ["cell","k"] ZdA:=by
 refine F.ok scMixed (fun vs H Q E h=>?_) (fun cdv A outer s H vs Q E hr h=>?_)
 ·obtain⟨c,k,rfl,_⟩:=h;rfl
 ·obtain⟨c,kk,rfl,hk,k⟩:=h;refine⟨_,Zaw (Zal (i:=2) scMixed.nd rfl (YaJ rfl) (ZaM ZaB (ZaF (Zaa Zae (Zaa Zae (Zaa Zae (Zaa Zae (Zaa Zae (Zaa Zae (Zaa Zae Zad)))))))) (Zak ZaJ (pv 1) Zae) (fun _ _=>rfl)))
   (Zaw (Zal (i:=3) scMixed.nd rfl (YaJ rfl) (Zak ZaJ (Zak ZaV (Zak ZaV (Zak ZcD (Zak ZaJ (pv 0) Zae) Zae) (Zak ZcD Zae (pv 1))) Zae) (pv 2)))
   (Zaw (Zal (i:=3) scMixed.nd rfl (YaJ rfl) (Zak ZaJ (Zak ZcC (pv 3) Zae) Zae))
   (Zao (Zau (Zak ZhB (Zak ZaJ (Zak ZcD (Zak ZaV (pv 3) (Zak ZcD Zae (pv 1))) Zae) Zae) Zae))))),?_⟩
  refine⟨(by show 7<=sizeLine;decide),fun q hq=>⟨_,rfl,_,_,rfl,rfl,(by show (0:Int)<7;decide),?_⟩⟩;obtain⟨v,ev,v0,v1⟩:=ix7 (YaT (kk:Int) (show (7:Int)≠0 by decide)) (YaY (kk:Int) (show (0:Int)<7 by decide));refine⟨q,_,_,_,rfl,rfl,SqL.of Zab,ev,?_⟩;refine⟨_,rfl,_,_,rfl,rfl,(by show (0:Int)<1000000000000000009;decide),_,_,rfl,rfl,.inr ⟨by decide,by decide⟩,_,rfl,_,_,rfl,rfl,.inl ⟨by decide,by decide⟩,_,_,rfl,rfl,_,_,rfl,rfl,_,rfl,_,v,rfl,rfl,v0,?_⟩;have m0:=YaT (c % 1000000000000000009*40692+6361*(kk:Int)+77) (show v≠0 by omega);have m1:=YaY (c % 1000000000000000009*40692+6361*(kk:Int)+77) v0;refine⟨_,rfl,_,5,rfl,rfl,⟨by decide,by decide,?_⟩,_,_,rfl,rfl,(by show (0:Int)<2305843009213693951;decide),?_⟩
  ·generalize (c % 1000000000000000009*40692+6361*(kk:Int)+77) % v=y at m0 m1;omega
  refine⟨_,rfl,_,rfl,_,_,rfl,rfl,.inl ⟨by decide,by decide⟩,_,_,rfl,rfl,_,_,rfl,rfl,.inr ⟨by decide,by decide⟩,_,_,rfl,rfl,(by show (0:Int)<2305843009213693921;decide),_,_,rfl,rfl,⟨by decide,by decide⟩,?_⟩;refine k _ _ ?_ (Same.new hq);exact Int.ediv_nonneg (YaT _ (by decide)) (by decide)
end
end Fk36
namespace Fk36
open PySem L2 Lv
theorem len1 {P:List Value->Prop} (us:List Value) (hl:us.length=1) (h:∀ a0:Value,P [a0]):P us:=by
 match us,hl with
 | [a0],_=>exact h a0
theorem len2 {P:List Value->Prop} (us:List Value) (hl:us.length=2) (h:∀ a0 a1:Value,P [a0,a1]):P us:=by
 match us,hl with
 | [a0,a1],_=>exact h a0 a1
theorem len3 {P:List Value->Prop} (us:List Value) (hl:us.length=3) (h:∀ a0 a1 a2:Value,P [a0,a1,a2]):P us:=by
 match us,hl with
 | [a0,a1,a2],_=>exact h a0 a1 a2
theorem len4 {P:List Value->Prop} (us:List Value) (hl:us.length=4) (h:∀ a0 a1 a2 a3:Value,P [a0,a1,a2,a3]):P us:=by
 match us,hl with
 | [a0,a1,a2,a3],_=>exact h a0 a1 a2 a3
theorem len5 {P:List Value->Prop} (us:List Value) (hl:us.length=5) (h:∀ a0 a1 a2 a3 a4:Value,P [a0,a1,a2,a3,a4]):P us:=by
 match us,hl with
 | [a0,a1,a2,a3,a4],_=>exact h a0 a1 a2 a3 a4
theorem all_mk {l:YcP}{w:World}{K:Yab}{h:Heap}{mg:Str->Option Value}{fa f0 f1 f2 f3 f4 f5 f6 f7 f8 f9 f10 f11 f12 f13 f14 f15 f16 f17 f18 f19 f20 f21 f22 f23 f24 f25 f26 f27 f28 f29:Addr}{tk0 tk1 tk2 tk3:Tok} (X:K.In h) (G:h.Ns mainGlobals mg) (hfa:mg "law"=some (.ref fa))
  {od0 an0 od1 an1 od2 an2 od3 an3 od4 an4 od5 an5 od6 an6 od7 an7 od8 an8 od9 an9 od10 an10 od11 an11 od12 an12 od13 an13 od14 an14 od15 an15 od16 an16 od17 an17 od18 an18 od19 an19 od20 an20 od21 an21 od22 an22 od23 an23 od24 an24 od25 an25 od26 an26 od27 an27 od28 an28 od29 an29:Option Addr}{sl0 sl1 sl2 sl3 sl4 sl5 sl6 sl7 sl8 sl9 sl10 sl11 sl12 sl13 sl14 sl15 sl16 sl17 sl18 sl19 sl20 sl21 sl22 sl23 sl24 sl25 sl26 sl27 sl28 sl29:Array (Option Value)}{oc0 kV0 dc0 pm0 cd0 ct0 oc1 kV1 dc1 pm1 cd1 ct1 oc2 kV2 dc2 pm2 cd2 ct2 oc3 kV3 dc3 pm3 cd3 ct3 oc4 kV4 dc4 pm4 cd4 ct4 oc5 kV5 dc5 pm5 cd5 ct5 oc6 kV6 dc6 pm6 cd6 ct6 oc7 kV7 dc7 pm7 cd7 ct7 oc8 kV8 dc8 pm8 cd8 ct8 oc9 kV9 dc9 pm9 cd9 ct9 oc10 kV10 dc10 pm10 cd10 ct10 oc11 kV11 dc11 pm11 cd11 ct11 oc12 kV12 dc12 pm12 cd12 ct12 oc13 kV13 dc13 pm13 cd13 ct13 oc14 kV14 dc14 pm14 cd14 ct14 oc15 kV15 dc15 pm15 cd15 ct15 oc16 kV16 dc16 pm16 cd16 ct16 oc17 kV17 dc17 pm17 cd17 ct17 oc18 kV18 dc18 pm18 cd18 ct18 oc19 kV19 dc19 pm19 cd19 ct19 oc20 kV20 dc20 pm20 cd20 ct20 oc21 kV21 dc21 pm21 cd21 ct21 oc22 kV22 dc22 pm22 cd22 ct22 oc23 kV23 dc23 pm23 cd23 ct23 oc24 kV24 dc24 pm24 cd24 ct24 oc25 kV25 dc25 pm25 cd25 ct25 oc26 kV26 dc26 pm26 cd26 ct26 oc27 kV27 dc27 pm27 cd27 ct27 oc28 kV28 dc28 pm28 cd28 ct28 oc29 kV29 dc29 pm29 cd29 ct29:Value}
  {da5:Addr}{doc5:Value}{dod5:Option Addr}{dn5:Nat}{dsl5:Array (Option Value)}{dt5_0:Tok}
  (a0:Yaj K mainGlobals "is_whole"=some (some (.ref f0))) (l0:K.lookup f0=some ⟨oc0,od0,.func (Yao "is_whole" "is_whole" (Zaj Zco) (Zai Zco) (Zac Zco) .none kV0 dc0 pm0 an0 cd0 ct0),sl0⟩) (c0:Yan K cd0 "is_whole"=true) (k0:Yak K (.ref f0)=true)
  (a1:Yaj K mainGlobals "is_place"=some (some (.ref f1))) (l1:K.lookup f1=some ⟨oc1,od1,.func (Yao "is_place" "is_place" (Zaj Zcr) (Zai Zcr) (Zac Zcr) .none kV1 dc1 pm1 an1 cd1 ct1),sl1⟩) (c1:Yan K cd1 "is_place"=true) (k1:Yak K (.ref f1)=true)
  (a2:Yaj K mainGlobals "is_listed"=some (some (.ref f2))) (l2:K.lookup f2=some ⟨oc2,od2,.func (Yao "is_listed" "is_listed" (Zaj ZbD) (Zai ZbD) (Zac ZbD) .none kV2 dc2 pm2 an2 cd2 ct2),sl2⟩) (c2:Yan K cd2 "is_listed"=true) (k2:Yak K (.ref f2)=true)
  (a3:Yaj K mainGlobals "is_tuple_of"=some (some (.ref f3))) (l3:K.lookup f3=some ⟨oc3,od3,.func (Yao "is_tuple_of" "is_tuple_of" (Zaj Zcp) (Zai Zcp) (Zac Zcp) .none kV3 dc3 pm3 an3 cd3 ct3),sl3⟩) (c3:Yan K cd3 "is_tuple_of"=true) (k3:Yak K (.ref f3)=true)
  (a4:Yaj K mainGlobals "check_ways"=some (some (.ref f4))) (l4:K.lookup f4=some ⟨oc4,od4,.func (Yao "check_ways" "check_ways" (Zaj Zei) (Zai Zei) (Zac Zei) .none kV4 dc4 pm4 an4 cd4 ct4),sl4⟩) (c4:Yan K cd4 "check_ways"=true) (k4:Yak K (.ref f4)=true)
  (a5:Yaj K mainGlobals "check_level"=some (some (.ref f5))) (l5:K.lookup f5=some ⟨oc5,od5,.func (Yao "check_level" "check_level" (Zaj Zcu) (Zai Zcu) (Zac Zcu) (.ref da5) kV5 dc5 pm5 an5 cd5 ct5),sl5⟩) (c5:Yan K cd5 "check_level"=true) (k5:Yak K (.ref f5)=true)
  (d5:K.lookup da5=some ⟨doc5,dod5,.seq #[.int 300 dt5_0] dn5,dsl5⟩)
  (a6:Yaj K mainGlobals "first_counts"=some (some (.ref f6))) (l6:K.lookup f6=some ⟨oc6,od6,.func (Yao "first_counts" "first_counts" (Zaj Zcw) (Zai Zcw) (Zac Zcw) .none kV6 dc6 pm6 an6 cd6 ct6),sl6⟩) (c6:Yan K cd6 "first_counts"=true) (k6:Yak K (.ref f6)=true)
  (a7:Yaj K mainGlobals "next_counts"=some (some (.ref f7))) (l7:K.lookup f7=some ⟨oc7,od7,.func (Yao "next_counts" "next_counts" (Zaj ZdG) (Zai ZdG) (Zac ZdG) .none kV7 dc7 pm7 an7 cd7 ct7),sl7⟩) (c7:Yan K cd7 "next_counts"=true) (k7:Yak K (.ref f7)=true)
  (a8:Yaj K mainGlobals "level_counts"=some (some (.ref f8))) (l8:K.lookup f8=some ⟨oc8,od8,.func (Yao "level_counts" "level_counts" (Zaj ZbG) (Zai ZbG) (Zac ZbG) .none kV8 dc8 pm8 an8 cd8 ct8),sl8⟩) (c8:Yan K cd8 "level_counts"=true) (k8:Yak K (.ref f8)=true)
  (a9:Yaj K mainGlobals "level_total"=some (some (.ref f9))) (l9:K.lookup f9=some ⟨oc9,od9,.func (Yao "level_total" "level_total" (Zaj Zcq) (Zai Zcq) (Zac Zcq) .none kV9 dc9 pm9 an9 cd9 ct9),sl9⟩) (c9:Yan K cd9 "level_total"=true) (k9:Yak K (.ref f9)=true)
  (a10:Yaj K mainGlobals "check_total"=some (some (.ref f10))) (l10:K.lookup f10=some ⟨oc10,od10,.func (Yao "check_total" "check_total" (Zaj sTot) (Zai sTot) (Zac sTot) .none kV10 dc10 pm10 an10 cd10 ct10),sl10⟩) (c10:Yan K cd10 "check_total"=true) (k10:Yak K (.ref f10)=true)
  (a11:Yaj K mainGlobals "check_places"=some (some (.ref f11))) (l11:K.lookup f11=some ⟨oc11,od11,.func (Yao "check_places" "check_places" (Zaj ZbC) (Zai ZbC) (Zac ZbC) .none kV11 dc11 pm11 an11 cd11 ct11),sl11⟩) (c11:Yan K cd11 "check_places"=true) (k11:Yak K (.ref f11)=true)
  (a12:Yaj K mainGlobals "first_numbers"=some (some (.ref f12))) (l12:K.lookup f12=some ⟨oc12,od12,.func (Yao "first_numbers" "first_numbers" (Zaj ZbF) (Zai ZbF) (Zac ZbF) .none kV12 dc12 pm12 an12 cd12 ct12),sl12⟩) (c12:Yan K cd12 "first_numbers"=true) (k12:Yak K (.ref f12)=true)
  (a13:Yaj K mainGlobals "next_numbers"=some (some (.ref f13))) (l13:K.lookup f13=some ⟨oc13,od13,.func (Yao "next_numbers" "next_numbers" (Zaj ZbL) (Zai ZbL) (Zac ZbL) .none kV13 dc13 pm13 an13 cd13 ct13),sl13⟩) (c13:Yan K cd13 "next_numbers"=true) (k13:Yak K (.ref f13)=true)
  (a14:Yaj K mainGlobals "numbers_after"=some (some (.ref f14))) (l14:K.lookup f14=some ⟨oc14,od14,.func (Yao "numbers_after" "numbers_after" (Zaj Zcy) (Zai Zcy) (Zac Zcy) .none kV14 dc14 pm14 an14 cd14 ct14),sl14⟩) (c14:Yan K cd14 "numbers_after"=true) (k14:Yak K (.ref f14)=true)
  (a15:Yaj K mainGlobals "numbers_of"=some (some (.ref f15))) (l15:K.lookup f15=some ⟨oc15,od15,.func (Yao "numbers_of" "numbers_of" (Zaj Zcs) (Zai Zcs) (Zac Zcs) .none kV15 dc15 pm15 an15 cd15 ct15),sl15⟩) (c15:Yan K cd15 "numbers_of"=true) (k15:Yak K (.ref f15)=true)
  (a16:Yaj K mainGlobals "level_numbers"=some (some (.ref f16))) (l16:K.lookup f16=some ⟨oc16,od16,.func (Yao "level_numbers" "level_numbers" (Zaj sLN) (Zai sLN) (Zac sLN) .none kV16 dc16 pm16 an16 cd16 ct16),sl16⟩) (c16:Yan K cd16 "level_numbers"=true) (k16:Yak K (.ref f16)=true)
  (a17:Yaj K mainGlobals "is_spot"=some (some (.ref f17))) (l17:K.lookup f17=some ⟨oc17,od17,.func (Yao "is_spot" "is_spot" (Zaj ZbE) (Zai ZbE) (Zac ZbE) .none kV17 dc17 pm17 an17 cd17 ct17),sl17⟩) (c17:Yan K cd17 "is_spot"=true) (k17:Yak K (.ref f17)=true)
  (a18:Yaj K mainGlobals "is_placing"=some (some (.ref f18))) (l18:K.lookup f18=some ⟨oc18,od18,.func (Yao "is_placing" "is_placing" (Zaj ZaL) (Zai ZaL) (Zac ZaL) .none kV18 dc18 pm18 an18 cd18 ct18),sl18⟩) (c18:Yan K cd18 "is_placing"=true) (k18:Yak K (.ref f18)=true)
  (a19:Yaj K mainGlobals "reading_by"=some (some (.ref f19))) (l19:K.lookup f19=some ⟨oc19,od19,.func (Yao "reading_by" "reading_by" (Zaj Zbl) (Zai Zbl) (Zac Zbl) .none kV19 dc19 pm19 an19 cd19 ct19),sl19⟩) (c19:Yan K cd19 "reading_by"=true) (k19:Yak K (.ref f19)=true)
  (a20:Yaj K mainGlobals "placing_reading"=some (some (.ref f20))) (l20:K.lookup f20=some ⟨oc20,od20,.func (Yao "placing_reading" "placing_reading" (Zaj Zej) (Zai Zej) (Zac Zej) .none kV20 dc20 pm20 an20 cd20 ct20),sl20⟩) (c20:Yan K cd20 "placing_reading"=true) (k20:Yak K (.ref f20)=true)
  (a21:Yaj K mainGlobals "placing_holds"=some (some (.ref f21))) (l21:K.lookup f21=some ⟨oc21,od21,.func (Yao "placing_holds" "placing_holds" (Zaj ZaC) (Zai ZaC) (Zac ZaC) .none kV21 dc21 pm21 an21 cd21 ct21),sl21⟩) (c21:Yan K cd21 "placing_holds"=true) (k21:Yak K (.ref f21)=true)
  (a22:Yaj K mainGlobals "_law_mixed"=some (some (.ref f22))) (l22:K.lookup f22=some ⟨oc22,od22,.func (Yao "_law_mixed" "_law_mixed" (Zaj Zct) (Zai Zct) (Zac Zct) .none kV22 dc22 pm22 an22 cd22 ct22),sl22⟩) (c22:Yan K cd22 "_law_mixed"=true) (k22:Yak K (.ref f22)=true)
  (a23:Yaj K mainGlobals "_law_draws"=some (some (.ref f23))) (l23:K.lookup f23=some ⟨oc23,od23,.func (Yao "_law_draws" "_law_draws" (Zaj Zcx) (Zai Zcx) (Zac Zcx) .none kV23 dc23 pm23 an23 cd23 ct23),sl23⟩) (c23:Yan K cd23 "_law_draws"=true) (k23:Yak K (.ref f23)=true)
  (a24:Yaj K mainGlobals "_law_reels"=some (some (.ref f24))) (l24:K.lookup f24=some ⟨oc24,od24,.func (Yao "_law_reels" "_law_reels" (Zaj ZaQ) (Zai ZaQ) (Zac ZaQ) .none kV24 dc24 pm24 an24 cd24 ct24),sl24⟩) (c24:Yan K cd24 "_law_reels"=true) (k24:Yak K (.ref f24)=true)
  (a25:Yaj K mainGlobals "_law_level"=some (some (.ref f25))) (l25:K.lookup f25=some ⟨oc25,od25,.func (Yao "_law_level" "_law_level" (Zaj Za2) (Zai Za2) (Zac Za2) .none kV25 dc25 pm25 an25 cd25 ct25),sl25⟩) (c25:Yan K cd25 "_law_level"=true) (k25:Yak K (.ref f25)=true)
  (a26:Yaj K mainGlobals "_law_lengths"=some (some (.ref f26))) (l26:K.lookup f26=some ⟨oc26,od26,.func (Yao "_law_lengths" "_law_lengths" (Zaj Zcv) (Zai Zcv) (Zac Zcv) .none kV26 dc26 pm26 an26 cd26 ct26),sl26⟩) (c26:Yan K cd26 "_law_lengths"=true) (k26:Yak K (.ref f26)=true)
  (a27:Yaj K mainGlobals "_law_placing"=some (some (.ref f27))) (l27:K.lookup f27=some ⟨oc27,od27,.func (Yao "_law_placing" "_law_placing" (Zaj Zb2) (Zai Zb2) (Zac Zb2) .none kV27 dc27 pm27 an27 cd27 ct27),sl27⟩) (c27:Yan K cd27 "_law_placing"=true) (k27:Yak K (.ref f27)=true)
  (a28:Yaj K mainGlobals "_law_right"=some (some (.ref f28))) (l28:K.lookup f28=some ⟨oc28,od28,.func (Yao "_law_right" "_law_right" (Zaj ZaR) (Zai ZaR) (Zac ZaR) .none kV28 dc28 pm28 an28 cd28 ct28),sl28⟩) (c28:Yan K cd28 "_law_right"=true) (k28:Yak K (.ref f28)=true)
  (a29:Yaj K mainGlobals "law"=some (some (.ref f29))) (l29:K.lookup f29=some ⟨oc29,od29,.func (Yao "law" "law" (Zaj sLaw) (Zai sLaw) (Zac sLaw) .none kV29 dc29 pm29 an29 cd29 ct29),sl29⟩) (c29:Yan K cd29 "law"=true) (k29:Yak K (.ref f29)=true)
  (y0:Yaj K mainGlobals "LEAST_WAYS"=some (some (.int 2 tk0)))
  (y1:Yaj K mainGlobals "MOST_WAYS"=some (some (.int 7 tk1)))
  (y2:Yaj K mainGlobals "MOST_PLACES"=some (some (.int 4000 tk2)))
  (y3:Yaj K mainGlobals "LAST_LEVEL"=some (some (.int 300 tk3)))
  (z0:Yaj K mainGlobals "isinstance"=some none) (z1:Yaj K mainGlobals "int"=some none) (z2:Yaj K mainGlobals "bool"=some none) (z3:Yaj K mainGlobals "list"=some none) (z4:Yaj K mainGlobals "tuple"=some none) (z5:Yaj K mainGlobals "min"=some none) (z6:Yaj K mainGlobals "max"=some none) (z7:Yaj K mainGlobals "len"=some none) (z8:Yaj K mainGlobals "range"=some none) (z9:Yaj K mainGlobals "all"=some none) (z10:Yaj K mainGlobals "sum"=some none) (z11:Yaj K mainGlobals "sorted"=some none) (z12:Yaj K mainGlobals "zip"=some none) (zenumerate:Yaj K mainGlobals "enumerate"=some none) (zset:Yaj K mainGlobals "set"=some none) :
  ∃ fd:FuncData,(∀ (s:Shared) (v:Value),BindsTo s fd ⟨[v],[]⟩ [("script",v)])/\∀ base:Heap,K.In base->base.Ns mainGlobals mg->FnOk l.prog w K mg base CX0 9 fa fd ["script"] (Zgb K):=by
 have e:=hfa.symm.trans (Yd6 X G a29);cases e;have T:Txt mg:=⟨YaE X G z0,YaE X G z1,YaE X G z2,YaE X G z3,YaE X G z4,YaE X G z5,YaE X G z6,YaE X G z7,YaE X G z8,YaE X G z9,YaE X G z10,YaE X G z11,YaE X G z12⟩
 have F0:=Zay (st:=Zco) l0 c0 k0;have b0:=F0.binds (ps:=["thing"]) fun _ _ _ _ _ _ us hl=>@len1 (fun us=>bindArgs _ ⟨us,[]⟩=pure (Ya0 _ us)) us hl fun _=>rfl;have F1:=Zay (st:=Zcr) l1 c1 k1;have b1:=F1.binds (ps:=["thing","many"]) fun _ _ _ _ _ _ us hl=>@len2 (fun us=>bindArgs _ ⟨us,[]⟩=pure (Ya0 _ us)) us hl fun _ _=>rfl;have F2:=Zay (st:=ZbD) l2 c2 k2;have b2:=F2.binds (ps:=["thing"]) fun _ _ _ _ _ _ us hl=>@len1 (fun us=>bindArgs _ ⟨us,[]⟩=pure (Ya0 _ us)) us hl fun _=>rfl;have F3:=Zay (st:=Zcp) l3 c3 k3;have b3:=F3.binds (ps:=["thing","many"]) fun _ _ _ _ _ _ us hl=>@len2 (fun us=>bindArgs _ ⟨us,[]⟩=pure (Ya0 _ us)) us hl fun _ _=>rfl;have F4:=Zay (st:=Zei) l4 c4 k4;have b4:=F4.binds (ps:=["p"]) fun _ _ _ _ _ _ us hl=>@len1 (fun us=>bindArgs _ ⟨us,[]⟩=pure (Ya0 _ us)) us hl fun _=>rfl;have F5:=ZhR (st:=Zcu) l5 c5 k5;have b5:=F5.binds (ps:=["n","last"]) d5 rfl [.int 300 dt5_0] ["n"] rfl fun _ _ _ _ _ _ us hl=>match us,hl with | [_],_=>⟨_,rfl,rfl⟩
 have F6:=Zay (st:=Zcw) l6 c6 k6;have b6:=F6.binds (ps:=["p"]) fun _ _ _ _ _ _ us hl=>@len1 (fun us=>bindArgs _ ⟨us,[]⟩=pure (Ya0 _ us)) us hl fun _=>rfl;have F7:=Zay (st:=ZdG) l7 c7 k7;have b7:=F7.binds (ps:=["counts"]) fun _ _ _ _ _ _ us hl=>@len1 (fun us=>bindArgs _ ⟨us,[]⟩=pure (Ya0 _ us)) us hl fun _=>rfl;have F8:=Zay (st:=ZbG) l8 c8 k8;have b8:=F8.binds (ps:=["p","n"]) fun _ _ _ _ _ _ us hl=>@len2 (fun us=>bindArgs _ ⟨us,[]⟩=pure (Ya0 _ us)) us hl fun _ _=>rfl;have F9:=Zay (st:=Zcq) l9 c9 k9;have b9:=F9.binds (ps:=["p","n"]) fun _ _ _ _ _ _ us hl=>@len2 (fun us=>bindArgs _ ⟨us,[]⟩=pure (Ya0 _ us)) us hl fun _ _=>rfl;have F10:=Zay (st:=sTot) l10 c10 k10;have b10:=F10.binds (ps:=["total"]) fun _ _ _ _ _ _ us hl=>@len1 (fun us=>bindArgs _ ⟨us,[]⟩=pure (Ya0 _ us)) us hl fun _=>rfl;have F11:=Zay (st:=ZbC) l11 c11 k11;have b11:=F11.binds (ps:=["p","n"]) fun _ _ _ _ _ _ us hl=>@len2 (fun us=>bindArgs _ ⟨us,[]⟩=pure (Ya0 _ us)) us hl fun _ _=>rfl;have F12:=Zay (st:=ZbF) l12 c12 k12;have b12:=F12.binds (ps:=["p"]) fun _ _ _ _ _ _ us hl=>@len1 (fun us=>bindArgs _ ⟨us,[]⟩=pure (Ya0 _ us)) us hl fun _=>rfl;have F13:=Zay (st:=ZbL) l13 c13 k13;have b13:=F13.binds (ps:=["numbers"]) fun _ _ _ _ _ _ us hl=>@len1 (fun us=>bindArgs _ ⟨us,[]⟩=pure (Ya0 _ us)) us hl fun _=>rfl;have F14:=Zay (st:=Zcy) l14 c14 k14;have b14:=F14.binds (ps:=["p","n","following"]) fun _ _ _ _ _ _ us hl=>@len3 (fun us=>bindArgs _ ⟨us,[]⟩=pure (Ya0 _ us)) us hl fun _ _ _=>rfl;have F15:=Zay (st:=Zcs) l15 c15 k15;have b15:=F15.binds (ps:=["p","n"]) fun _ _ _ _ _ _ us hl=>@len2 (fun us=>bindArgs _ ⟨us,[]⟩=pure (Ya0 _ us)) us hl fun _ _=>rfl;have F16:=Zay (st:=sLN) l16 c16 k16;have b16:=F16.binds (ps:=["p","n"]) fun _ _ _ _ _ _ us hl=>@len2 (fun us=>bindArgs _ ⟨us,[]⟩=pure (Ya0 _ us)) us hl fun _ _=>rfl;have F17:=Zay (st:=ZbE) l17 c17 k17;have b17:=F17.binds (ps:=["numbers","pair"]) fun _ _ _ _ _ _ us hl=>@len2 (fun us=>bindArgs _ ⟨us,[]⟩=pure (Ya0 _ us)) us hl fun _ _=>rfl;have F18:=Zay (st:=ZaL) l18 c18 k18;have b18:=F18.binds (ps:=["numbers","rows","placing"]) fun _ _ _ _ _ _ us hl=>@len3 (fun us=>bindArgs _ ⟨us,[]⟩=pure (Ya0 _ us)) us hl fun _ _ _=>rfl;have F19:=Zay (st:=Zbl) l19 c19 k19;have b19:=F19.binds (ps:=["numbers","lengths","placing"]) fun _ _ _ _ _ _ us hl=>@len3 (fun us=>bindArgs _ ⟨us,[]⟩=pure (Ya0 _ us)) us hl fun _ _ _=>rfl;have F20:=Zay (st:=Zej) l20 c20 k20;have b20:=F20.binds (ps:=["p","n","lengths","placing"]) fun _ _ _ _ _ _ us hl=>@len4 (fun us=>bindArgs _ ⟨us,[]⟩=pure (Ya0 _ us)) us hl fun _ _ _ _=>rfl;have F21:=Zay (st:=ZaC) l21 c21 k21;have b21:=F21.binds (ps:=["p","n","lengths","placing"]) fun _ _ _ _ _ _ us hl=>@len4 (fun us=>bindArgs _ ⟨us,[]⟩=pure (Ya0 _ us)) us hl fun _ _ _ _=>rfl;have F22:=Zay (st:=Zct) l22 c22 k22;have b22:=F22.binds (ps:=["cell","k"]) fun _ _ _ _ _ _ us hl=>@len2 (fun us=>bindArgs _ ⟨us,[]⟩=pure (Ya0 _ us)) us hl fun _ _=>rfl;have F23:=Zay (st:=Zcx) l23 c23 k23;have b23:=F23.binds (ps:=["cell","many","base"]) fun _ _ _ _ _ _ us hl=>@len3 (fun us=>bindArgs _ ⟨us,[]⟩=pure (Ya0 _ us)) us hl fun _ _ _=>rfl;have F24:=Zay (st:=ZaQ) l24 c24 k24;have b24:=F24.binds (ps:=["p","n"]) fun _ _ _ _ _ _ us hl=>@len2 (fun us=>bindArgs _ ⟨us,[]⟩=pure (Ya0 _ us)) us hl fun _ _=>rfl;have F25:=Zay (st:=Za2) l25 c25 k25;have b25:=F25.binds (ps:=["p","rows","further","most"]) fun _ _ _ _ _ _ us hl=>@len4 (fun us=>bindArgs _ ⟨us,[]⟩=pure (Ya0 _ us)) us hl fun _ _ _ _=>rfl;have F26:=Zay (st:=Zcv) l26 c26 k26;have b26:=F26.binds (ps:=["draws","most"]) fun _ _ _ _ _ _ us hl=>@len2 (fun us=>bindArgs _ ⟨us,[]⟩=pure (Ya0 _ us)) us hl fun _ _=>rfl;have F27:=Zay (st:=Zb2) l27 c27 k27;have b27:=F27.binds (ps:=["reels","rows","draws"]) fun _ _ _ _ _ _ us hl=>@len3 (fun us=>bindArgs _ ⟨us,[]⟩=pure (Ya0 _ us)) us hl fun _ _ _=>rfl;have F28:=Zay (st:=ZaR) l28 c28 k28;have b28:=F28.binds (ps:=["p","n","reels","lengths","placing"]) fun _ _ _ _ _ _ us hl=>@len5 (fun us=>bindArgs _ ⟨us,[]⟩=pure (Ya0 _ us)) us hl fun _ _ _ _ _=>rfl;have F29:=Zay (st:=sLaw) l29 c29 k29;refine⟨Yao "law" "law" (Zaj sLaw) (Zai sLaw) (Zac sLaw) .none kV29 dc29 pm29 an29 cd29 ct29,fun s v=>.of_eq rfl,fun base _ _=>?_⟩;have m:=fun {x:Str}{v:Value} (a:Yaj K mainGlobals x=some (some v))=>Yd6 X G a;have mLEAST_WAYS:=m y0;have mMOST_WAYS:=m y1;have mMOST_PLACES:=m y2;have mLAST_LEVEL:=m y3;have Cis_whole:Cal l.prog w K mg base 1 "is_whole" ["thing"] ZbW _ _:=⟨Zgr F0 T,m a0,k0,b0⟩
 have Cis_place:Cal l.prog w K mg base 2 "is_place" ["thing","many"] ZcI _ _:=⟨Zfd F1 T Cis_whole,m a1,k1,b1⟩
 have Cis_listed:Cal l.prog w K mg base 1 "is_listed" ["thing"] Zb1 _ _:=⟨Zeu F2 T,m a2,k2,b2⟩
 have Cis_tuple_of:Cal l.prog w K mg base 1 "is_tuple_of" ["thing","many"] Zdv _ _:=⟨Zgs F3 T,m a3,k3,b3⟩
 have Ccheck_ways:Cal l.prog w K mg base 2 "check_ways" ["p"] ZeO _ _:=⟨ZhD F4 T mLEAST_WAYS mMOST_WAYS Cis_whole,m a4,k4,b4⟩
 have Ccheck_level:CalD l.prog w K mg base 2 "check_level" ["n","last"] [.int 300] ZcK _ _:=⟨Zgy F5 T Cis_whole,m a5,k5,⟨_,b5,.cons ⟨_,rfl⟩ (.nil)⟩⟩
 have Cfirst_counts:Cal l.prog w K mg base 1 "first_counts" ["p"] ZdC _ _:=⟨ZgB F6 T,m a6,k6,b6⟩
 have Cnext_counts:Cal l.prog w K mg base 1 "next_counts" ["counts"] (ZeP K) _ _:=⟨ZhF F7 T,m a7,k7,b7⟩
 have Clevel_counts:Cal l.prog w K mg base 3 "level_counts" ["p","n"] ZcP _ _:=⟨Zfh F8 T Ccheck_ways Ccheck_level Cfirst_counts Cnext_counts,m a8,k8,b8⟩
 have Clevel_total:Cal l.prog w K mg base 4 "level_total" ["p","n"] Zdw _ _:=⟨Zgt F9 T Clevel_counts,m a9,k9,b9⟩
 have Ccheck_total:Cal l.prog w K mg base 1 "check_total" ["total"] Zhj _ _:=⟨Zio F10 T mMOST_PLACES,m a10,k10,b10⟩
 have Ccheck_places:Cal l.prog w K mg base 5 "check_places" ["p","n"] ZcH _ _:=⟨Zfc F11 T Clevel_total Ccheck_total,m a11,k11,b11⟩
 have Cfirst_numbers:Cal l.prog w K mg base 1 "first_numbers" ["p"] ZcN _ _:=⟨Zfg F12 T,m a12,k12,b12⟩
 have Cnext_numbers:Cal l.prog w K mg base 1 "next_numbers" ["numbers"] ZcJ _ _:=⟨Zgw F13 T,m a13,k13,b13⟩
 have Cnumbers_after:Cal l.prog w K mg base 2 "numbers_after" ["p","n","following"] (ZdD _) _ _:=⟨ZgD F14 T Cfirst_numbers Cnext_numbers,m a14,k14,b14⟩
 have Cnumbers_of:Cal l.prog w K mg base 3 "numbers_of" ["p","n"] Zdz _ _:=⟨Zgv F15 T Cnext_numbers Cnumbers_after,m a15,k15,b15⟩
 have Clevel_numbers:Cal l.prog w K mg base 6 "level_numbers" ["p","n"] Zdz _ _:=⟨ZiW F16 T Ccheck_places Cnumbers_of,m a16,k16,b16⟩
 have Cis_spot:Cal l.prog w K mg base 3 "is_spot" ["numbers","pair"] ZcM _ _:=⟨Zff F17 T Cis_tuple_of Cis_place,m a17,k17,b17⟩
 have Cis_placing:Cal l.prog w K mg base 4 "is_placing" ["numbers","rows","placing"] (Zbk K) _ _:=⟨Zda F18 T (YaE X G zset) Cis_listed Cis_spot,m a18,k18,b18⟩
 have Creading_by:Cal l.prog w K mg base 1 "reading_by" ["numbers","lengths","placing"] (ZbZ K) _ _:=⟨Zfb F19 T,m a19,k19,b19⟩
 have Cplacing_reading:Cal l.prog w K mg base 7 "placing_reading" ["p","n","lengths","placing"] (Zdy K) _ _:=⟨ZhE F20 T Creading_by Clevel_numbers,m a20,k20,b20⟩
 have Cplacing_holds:Cal l.prog w K mg base 7 "placing_holds" ["p","n","lengths","placing"] (Zb0 K) _ _:=⟨Zet F21 T Clevel_numbers Cis_placing,m a21,k21,b21⟩
 have C_law_mixed:Cal l.prog w K mg base 1 "_law_mixed" ["cell","k"] ZdA _ _:=⟨Zgx F22 T,m a22,k22,b22⟩
 have C_law_draws:Cal l.prog w K mg base 2 "_law_draws" ["cell","many","base"] ZcO _ _:=⟨ZgC F23 T C_law_mixed,m a23,k23,b23⟩
 have C_law_reels:Cal l.prog w K mg base 1 "_law_reels" ["p","n"] (ZbY K) _ _:=⟨Zes F24 T,m a24,k24,b24⟩
 have C_law_level:Cal l.prog w K mg base 1 "_law_level" ["p","rows","further","most"] (ZcL K) _ _:=⟨Zfe F25 T,m a25,k25,b25⟩
 have C_law_lengths:Cal l.prog w K mg base 1 "_law_lengths" ["draws","most"] ZdB _ _:=⟨Zgz F26 T,m a26,k26,b26⟩
 have C_law_placing:Cal l.prog w K mg base 1 "_law_placing" ["reels","rows","draws"] (Zdx K) _ _:=⟨Zgu F27 T (YaE X G zenumerate),m a27,k27,b27⟩
 have C_law_right:Cal l.prog w K mg base 8 "_law_right" ["p","n","reels","lengths","placing"] (ZbX K) _ _:=⟨Zer F28 T Cplacing_holds Cplacing_reading,m a28,k28,b28⟩
 exact ZgA F29 T C_law_draws C_law_lengths C_law_level C_law_reels C_law_placing C_law_right
theorem walk {l:YcP}{q:Program}{loose:List Str}{XP:(Str->Option Value)->Heap->Prop}{YP:World->Heap->Prop}{d:DefRec}{K:Params->Yab} (hn:l.most=some 63) (hdf:d.params.defaults=[])
  (hY:∀ (w:World) (h:Heap),YP w h->(K w.params).In h)
  (F:∀ (w:World) (mg:Str->Option Value) (fa:Addr) (h:Heap),(K w.params).In h->h.Ns mainGlobals mg->mg d.name=some (.ref fa) ->
   ∃ fd:FuncData,(∀ (s:Shared) (u:Value),BindsTo s fd ⟨[u],[]⟩ [("script",u)])/\∀ base:Heap,(K w.params).In base->base.Ns mainGlobals mg->FnOk l.prog w (K w.params) mg base CX0 9 fa fd ["script"] (Zgb (K w.params))) :
  Yd7 q loose XP YP l.row.toRowW d [] (fun f vs=>YdS f vs) :=
 L2.walk_of (n:=63) (k:=9) (x:="script") (CX:=fun _=>CX0) (sp:=fun w=>Zgb (K w.params)) hn (by decide) hdf ⟨rfl,by decide,by decide,rfl⟩ hY F (fun _ _ a ns hl _ hS=>⟨a,ns,rfl,hS,hl,fun _=>rfl⟩) fun _ _ _ _ _ z=>z
end Fk36
def PySem.W.Fast.tw13913825940700353057 : Unit := ()
def PySem.W.Fast.tw15588732163640634357 : Unit := ()
def PySem.W.Fast.tw10212532906351489053 : Unit := ()
def PySem.W.Fast.tw9439005423601255741 : Unit := ()
def PySem.W.Fast.tw14444047688076172304 : Unit := ()
def PySem.W.Fast.tw10057791686143399425 : Unit := ()
def PySem.W.Fast.tw18293963178262899018 : Unit := ()
def PySem.W.Fast.tw16239530335238483687 : Unit := ()
def PySem.W.Fast.tw6082610537971238414 : Unit := ()
def PySem.W.Fast.tw1114430665842012922 : Unit := ()
def PySem.W.Fast.tw9793608493821886274 : Unit := ()
def PySem.W.Fast.tw14278719135341689980 : Unit := ()
def PySem.W.Fast.tw17544877879021868384 : Unit := ()
def PySem.W.Fast.tw8358478076790873871 : Unit := ()
def PySem.W.Fast.tw7055595881714662689 : Unit := ()
def PySem.W.Fast.tw5917817076009249843 : Unit := ()
def PySem.W.Fast.tw15842588336549237902 : Unit := ()
def PySem.W.Fast.tw3960561629715115999 : Unit := ()
def PySem.W.Fast.tw2771610262143694858 : Unit := ()
def PySem.W.Fast.tw916050455510033649 : Unit := ()
def PySem.W.Fast.tw6728336637956817966 : Unit := ()
def PySem.W.Fast.tw8916575928714441196 : Unit := ()
def PySem.W.Fast.tw4787907866851126981 : Unit := ()
def PySem.W.Fast.tw10733417580084130474 : Unit := ()
def PySem.W.Fast.tw4782422400416068622 : Unit := ()
def PySem.W.Fast.tw9854561134661260680 : Unit := ()
def PySem.W.Fast.tw15076967673925727058 : Unit := ()
def PySem.W.Fast.tw11797472814865039223 : Unit := ()
def PySem.W.Fast.tw4223917325143858321 : Unit := ()
def PySem.W.Fast.tw3301019686251570144 : Unit := ()
def PySem.W.Fast.tw8764163588384529571 : Unit := ()
def PySem.W.Fast.tw9110309608948582913 : Unit := ()
def PySem.W.Fast.tw8832533824113456853 : Unit := ()
def PySem.W.Fast.tw13850591772706256457 : Unit := ()
def PySem.W.Fast.tw6590554204148337842 : Unit := ()
def PySem.W.Fast.tw1363664631465288475 : Unit := ()
def PySem.W.Fast.tw12915538791262817317 : Unit := ()
def PySem.W.Fast.tw15588581496847117178 : Unit := ()
def PySem.W.Fast.tw17308909563434881171 : Unit := ()
def PySem.W.Fast.tw9424066061193329012 : Unit := ()
def PySem.W.Fast.tw6223337139862656122 : Unit := ()
def PySem.W.Fast.tw7711714341040109687 : Unit := ()
def PySem.W.Fast.tw12067951444484344283 : Unit := ()
def PySem.W.Fast.tw365647260171837098 : Unit := ()
def PySem.W.Fast.tw10862850806785843226 : Unit := ()
def PySem.W.Fast.tw5630563301481677294 : Unit := ()
def PySem.W.Fast.tw5999503259156261448 : Unit := ()
def PySem.W.Fast.tw3670267679931826791 : Unit := ()
def PySem.W.Fast.tw17897383541344567340 : Unit := ()
def PySem.W.Fast.tw2044685066870594511 : Unit := ()
def PySem.W.Fast.tw9040230222307979886 : Unit := ()
def PySem.W.Fast.tw14199225696363537259 : Unit := ()
def PySem.W.Fast.tw11263412712866060304 : Unit := ()
def PySem.W.Fast.tw2967970428073120552 : Unit := ()
def PySem.W.Fast.tw14549962137479554324 : Unit := ()
def PySem.W.Fast.tw10670414125754128921 : Unit := ()
def PySem.W.Fast.tw5265725661686927663 : Unit := ()
def PySem.W.Fast.tw4534284059746661891 : Unit := ()
def PySem.W.Fast.tw7025721556913046623 : Unit := ()
def PySem.W.Fast.tw10870489188375716224 : Unit := ()
def PySem.W.Fast.tw17731488497953043915 : Unit := ()
def PySem.W.Fast.tw14569717608927854644 : Unit := ()
def PySem.W.Fast.tw2656551790972582949 : Unit := ()
def PySem.W.Fast.tw13574740829479808834 : Unit := ()
def PySem.W.Fast.tw390969341426887048 : Unit := ()
def PySem.W.Fast.tw4823795945642361158 : Unit := ()
def PySem.W.Fast.tw14722673338057701140 : Unit := ()
def PySem.W.Fast.tw3613893395746041267 : Unit := ()
def PySem.W.Fast.tw13556798191184705630 : Unit := ()
def PySem.W.Fast.tw16635834842870843128 : Unit := ()
def PySem.W.Fast.tw4212401524326671818 : Unit := ()
def PySem.W.Fast.tw18339562324882038388 : Unit := ()
def PySem.W.Fast.tw13473993555728955465 : Unit := ()
def PySem.W.Fast.tw11187407614888614437 : Unit := ()
def PySem.W.Fast.tw12867512450253163142 : Unit := ()
def PySem.W.Fast.tw16761276989116596531 : Unit := ()
def PySem.W.Fast.tw1276404663586517844 : Unit := ()
def PySem.W.Fast.tw14783356436170344829 : Unit := ()
def PySem.W.Fast.tw15515254508048575176 : Unit := ()
def PySem.W.Fast.tw11393867910903434243 : Unit := ()
def PySem.W.Fast.tw4215145054376403761 : Unit := ()
def PySem.W.Fast.tw14681023178145528392 : Unit := ()
def PySem.W.Fast.tw967039343889779301 : Unit := ()
def PySem.W.Fast.tw989604073904121309 : Unit := ()
def PySem.W.Fast.tw11886994046893175497 : Unit := ()
def PySem.W.Fast.tw3838914950083198763 : Unit := ()
def PySem.W.Fast.tw3497058427268779478 : Unit := ()
def PySem.W.Fast.tw3882463626254775107 : Unit := ()
def PySem.W.Fast.tw17154000955941302897 : Unit := ()
def PySem.W.Fast.tw6240713031010789614 : Unit := ()
def PySem.W.Fast.tw8393127950595020206 : Unit := ()
def PySem.W.Fast.tw16773441488393144028 : Unit := ()
def PySem.W.Fast.tw6677527701282744428 : Unit := ()
def PySem.W.Fast.tw11139966821420089649 : Unit := ()
def PySem.W.Fast.tw10181499206469168048 : Unit := ()
def PySem.W.Fast.tw4058832467575391173 : Unit := ()
def PySem.W.Fast.tw10845441460943209732 : Unit := ()
def PySem.W.Fast.tw2549310489621719454 : Unit := ()
def PySem.W.Fast.tw12568617125758772018 : Unit := ()
def PySem.W.Fast.tw13762662555258461569 : Unit := ()
def PySem.W.Fast.tw13403845675461092646 : Unit := ()
def PySem.W.Fast.tw1214499526854359476 : Unit := ()
def PySem.W.Fast.tw7687841149136065632 : Unit := ()
def PySem.W.Fast.tw3495402958505510689 : Unit := ()
def PySem.W.Fast.tw12343165869510972954 : Unit := ()
def PySem.W.Fast.tw17025715772037970877 : Unit := ()
def PySem.W.Fast.tw6988616031743851088 : Unit := ()
def PySem.W.Fast.tw17234626280979895701 : Unit := ()
def PySem.W.Fast.tw12739406870108953941 : Unit := ()
def PySem.W.Fast.tw3088710692112706910 : Unit := ()
def PySem.W.Fast.tw17318059945846352819 : Unit := ()
def PySem.W.Fast.tw10436326253211731704 : Unit := ()
def PySem.W.Fast.tw1967897434171770274 : Unit := ()
def PySem.W.Fast.tw9172769899318704033 : Unit := ()
def PySem.W.Fast.tw14250334678694123429 : Unit := ()
def PySem.W.Fast.tw320432532995051488 : Unit := ()
def PySem.W.Fast.tw13998647676121578034 : Unit := ()
def PySem.W.Fast.tw9230626992608523565 : Unit := ()
def PySem.W.Fast.tw2764813837674475257 : Unit := ()
def PySem.W.Fast.tw16478114544976784054 : Unit := ()
def PySem.W.Fast.tw1427142836294761703 : Unit := ()
def PySem.W.Fast.tw3715579590882100959 : Unit := ()
def PySem.W.Fast.tw6050164152066509724 : Unit := ()
def PySem.W.Fast.tw6881070446154463353 : Unit := ()
def PySem.W.Fast.tw220133786970225088 : Unit := ()
def PySem.W.Fast.tw10513294752707868352 : Unit := ()
def PySem.W.Fast.tw11969982749785808169 : Unit := ()
def PySem.W.Fast.tw165027936308383035 : Unit := ()
def PySem.W.Fast.tw12295930063134143476 : Unit := ()
def PySem.W.Fast.tw17312076351999316096 : Unit := ()
def PySem.W.Fast.tw13354291055375975059 : Unit := ()
def PySem.W.Fast.tw11008063823147254400 : Unit := ()
def PySem.W.Fast.tw2600483089954078920 : Unit := ()
def PySem.W.Fast.tw4317993210939260514 : Unit := ()
def PySem.W.Fast.tw17339395432211945920 : Unit := ()
def PySem.W.Fast.tw7591797962170106720 : Unit := ()
def PySem.W.Fast.tw2740962366462081634 : Unit := ()
def PySem.W.Fast.tw16842121808665358904 : Unit := ()
def PySem.W.Fast.tw16753517564423454347 : Unit := ()
def PySem.W.Fast.tw15261651692900199890 : Unit := ()
def PySem.W.Fast.tw8055595388115499692 : Unit := ()
def PySem.W.Fast.tw2108026913862607313 : Unit := ()
open PySem PySem.W PyProof.Rows
set_option maxRecDepth 100000 in
set_option maxHeartbeats 0 in
theorem PySem.Challenge.cw_fewreels_k36_placings_read_holds : PySem.Challenge.rw_fewreels_k36_placings_read.Holds := by
  w_on; o_law; k_head; (case hw => w_witness2)
  k_fill
  refine Fk36.walk (l := PySem.Challenge.rw_fewreels_k36_placings_read) rfl rfl (fun w h Y => PySem.W.kIn_of Y) ?F
  case F =>
    intro w mg fa h KX G hmg
    refine' Fk36.all_mk KX G hmg ?a0 ?l0 ?c0 ?k0 ?a1 ?l1 ?c1 ?k1 ?a2 ?l2 ?c2 ?k2 ?a3 ?l3 ?c3 ?k3 ?a4 ?l4 ?c4 ?k4 ?a5 ?l5 ?c5 ?k5 ?d5 ?a6 ?l6 ?c6 ?k6 ?a7 ?l7 ?c7 ?k7 ?a8 ?l8 ?c8 ?k8 ?a9 ?l9 ?c9 ?k9 ?a10 ?l10 ?c10 ?k10 ?a11 ?l11 ?c11 ?k11 ?a12 ?l12 ?c12 ?k12 ?a13 ?l13 ?c13 ?k13 ?a14 ?l14 ?c14 ?k14 ?a15 ?l15 ?c15 ?k15 ?a16 ?l16 ?c16 ?k16 ?a17 ?l17 ?c17 ?k17 ?a18 ?l18 ?c18 ?k18 ?a19 ?l19 ?c19 ?k19 ?a20 ?l20 ?c20 ?k20 ?a21 ?l21 ?c21 ?k21 ?a22 ?l22 ?c22 ?k22 ?a23 ?l23 ?c23 ?k23 ?a24 ?l24 ?c24 ?k24 ?a25 ?l25 ?c25 ?k25 ?a26 ?l26 ?c26 ?k26 ?a27 ?l27 ?c27 ?k27 ?a28 ?l28 ?c28 ?k28 ?a29 ?l29 ?c29 ?k29 ?y0 ?y1 ?y2 ?y3 ?z0 ?z1 ?z2 ?z3 ?z4 ?z5 ?z6 ?z7 ?z8 ?z9 ?z10 ?z11 ?z12 ?zenumerate ?zset
    (case a0 => k_is); (case l0 => k_is); (case c0 => k_is); (case k0 => k_is); (case a1 => k_is); (case l1 => k_is)
    (case c1 => k_is); (case k1 => k_is); (case a2 => k_is); (case l2 => k_is); (case c2 => k_is); (case k2 => k_is)
    (case a3 => k_is); (case l3 => k_is); (case c3 => k_is); (case k3 => k_is); (case a4 => k_is); (case l4 => k_is)
    (case c4 => k_is); (case k4 => k_is); (case a5 => k_is); (case l5 => k_is); (case c5 => k_is); (case k5 => k_is)
    (case d5 => k_is); (case a6 => k_is); (case l6 => k_is); (case c6 => k_is); (case k6 => k_is); (case a7 => k_is)
    (case l7 => k_is); (case c7 => k_is); (case k7 => k_is); (case a8 => k_is); (case l8 => k_is); (case c8 => k_is)
    (case k8 => k_is); (case a9 => k_is); (case l9 => k_is); (case c9 => k_is); (case k9 => k_is); (case a10 => k_is)
    (case l10 => k_is); (case c10 => k_is); (case k10 => k_is); (case a11 => k_is); (case l11 => k_is); (case c11 => k_is)
    (case k11 => k_is); (case a12 => k_is); (case l12 => k_is); (case c12 => k_is); (case k12 => k_is); (case a13 => k_is)
    (case l13 => k_is); (case c13 => k_is); (case k13 => k_is); (case a14 => k_is); (case l14 => k_is); (case c14 => k_is)
    (case k14 => k_is); (case a15 => k_is); (case l15 => k_is); (case c15 => k_is); (case k15 => k_is); (case a16 => k_is)
    (case l16 => k_is); (case c16 => k_is); (case k16 => k_is); (case a17 => k_is); (case l17 => k_is); (case c17 => k_is)
    (case k17 => k_is); (case a18 => k_is); (case l18 => k_is); (case c18 => k_is); (case k18 => k_is); (case a19 => k_is)
    (case l19 => k_is); (case c19 => k_is); (case k19 => k_is); (case a20 => k_is); (case l20 => k_is); (case c20 => k_is)
    (case k20 => k_is); (case a21 => k_is); (case l21 => k_is); (case c21 => k_is); (case k21 => k_is); (case a22 => k_is)
    (case l22 => k_is); (case c22 => k_is); (case k22 => k_is); (case a23 => k_is); (case l23 => k_is); (case c23 => k_is)
    (case k23 => k_is); (case a24 => k_is); (case l24 => k_is); (case c24 => k_is); (case k24 => k_is); (case a25 => k_is)
    (case l25 => k_is); (case c25 => k_is); (case k25 => k_is); (case a26 => k_is); (case l26 => k_is); (case c26 => k_is)
    (case k26 => k_is); (case a27 => k_is); (case l27 => k_is); (case c27 => k_is); (case k27 => k_is); (case a28 => k_is)
    (case l28 => k_is); (case c28 => k_is); (case k28 => k_is); (case a29 => k_is); (case l29 => k_is); (case c29 => k_is)
    (case k29 => k_is); (case y0 => k_is); (case y1 => k_is); (case y2 => k_is); (case y3 => k_is); (case z0 => k_is)
    (case z1 => k_is); (case z2 => k_is); (case z3 => k_is); (case z4 => k_is); (case z5 => k_is); (case z6 => k_is)
    (case z7 => k_is); (case z8 => k_is); (case z9 => k_is); (case z10 => k_is); (case z11 => k_is); (case z12 => k_is)
    (case zenumerate => k_is); (case zset => k_is)
