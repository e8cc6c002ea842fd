import PyProof.Rows.All
import Wide.All
import OpenK.AllK
import Wide.FinOn
import Lean
import PyProof.EqAt
import PyProof.EqKinds
import PyProof.TupleCall
import PyProof.NeKinds
import PyProof.Draws
import PyProof.SumWalkG
import PyProof.ListRange
import PyProof.ZipIter
import PyProof.Rows.SortRev
import KE.IntBitsLaws
import PyProof.ListMulRoad
import PyProof.TupleKey
import PyProof.StationsW
import PyProof.RulesAs
import PyProof.NsDelKeeps
import PyProof.Rows.Own
import PyProof.Rows.Catch
import KE.KTryMore
import KE.KIsNot
import OpenK.KDescr
import PyProof.ExcAttrAll.ValueError
import PyProof.FString
import KE.KItemsList
import KE.KPairComp
import PyProof.DictWalks
import PyProof.Rows.SortShellK
import KE.KSortTup
import KE.KDictSum
import PyProof.ReprRoads
import PyProof.ReprLen
import PyProof.CallStr
import PyProof.Rows.RuleIs
import PyProof.Rows.SeqMore2
import KE.KRevIter
import PyProof.Rows.TupAdd
import PyProof.StrLawsRepr
import PyProof.Rows.StrJoin2
import PySem.Challenge.RW_fewreels_k33_best_layings_told
set_option Elab.async false
set_option linter.all false
set_option maxRecDepth 100000
namespace L2
open PySem PySem.Spec PyProof.Rows
abbrev Key:=Sum Int Str
def keyIs:Key->Value->Bool
 | .inl k,v=>Value.isInt k v
 | .inr x,v=>Value.isStrOf x v
def keyH (w:World):Key->Int
 | .inl k=>hashInt k
 | .inr x=>hashStr w x
theorem ZaaA:∀ {k:Key}{v:Value},keyIs k v=true->(∃ i t,k=Sum.inl i/\v=Value.int i t)∨(∃ x t,k=Sum.inr x/\v=Value.str x t)
 | .inl i,v,h=>by
  obtain⟨t,e⟩:=Value.isInt_shape (k:=i) (v:=v) h
  exact .inl ⟨i,t,rfl,e⟩
 | .inr x,v,h=>by
  obtain⟨t,e⟩:=Value.isStrOf_shape (x:=x) (v:=v) h
  exact .inr ⟨x,t,rfl,e⟩
theorem ZahQ (i:Int) (t:Tok):keyIs (.inl i) (.int i t)=true:=by simp[keyIs,Value.isInt]
theorem ZahP (x:Str) (t:Tok):keyIs (.inr x) (.str x t)=true:=by simp[keyIs,Value.isStrOf]
theorem Zamk (a b:Int):decide ((Sum.inl a:Key)=Sum.inl b)=(a == b):=by
 by_cases e:a=b
 ·subst e; simp
 ·have h:¬ (Sum.inl a:Key)=Sum.inl b:=fun q=>e (Sum.inl.inj q)
  rw[decide_eq_false h]
  exact (beq_eq_false_iff_ne.mpr e).symm
theorem Zamh (a b:Str):decide ((Sum.inr a:Key)=Sum.inr b)=decide (a=b):=by
 by_cases e:a=b
 ·subst e; simp
 ·have h:¬ (Sum.inr a:Key)=Sum.inr b:=fun q=>e (Sum.inr.inj q)
  rw[decide_eq_false h,decide_eq_false e]
theorem Zamj (a:Int) (b:Str):decide ((Sum.inl a:Key)=Sum.inr b)=false:=decide_eq_false (fun q=>nomatch q)
theorem Zami (a:Str) (b:Int):decide ((Sum.inr a:Key)=Sum.inl b)=false:=decide_eq_false (fun q=>nomatch q)
def ZaaD (prog:Program) (w:World):PySem.KeyKind prog w Key where
 is:=keyIs
 hash:=keyH w
 inj:=fun v a b ha hb=>by
  rcases ZaaA ha with ⟨i,t,rfl,rfl⟩ | ⟨x,t,rfl,rfl⟩
  ·rcases ZaaA hb with ⟨j,u,rfl,e⟩ | ⟨y,u,rfl,e⟩
   ·injection e with e1 _; rw[e1]
   ·exact nomatch e
  ·rcases ZaaA hb with ⟨j,u,rfl,e⟩ | ⟨y,u,rfl,e⟩
   ·exact nomatch e
   ·injection e with e1 _; rw[e1]
 byValue:=fun k v h=>by
  rcases ZaaA h with ⟨i,t,rfl,rfl⟩ | ⟨x,t,rfl,rfl⟩ <;> rfl
 pyHash:=fun hv h=>by
  rcases ZaaA hv with ⟨i,t,rfl,rfl⟩ | ⟨x,t,rfl,rfl⟩
  ·exact wpAny_pyHash_int h
  ·exact wpAny_pyHash_str h
 eqBool:=fun hu hv h=>by
  rcases ZaaA hu with ⟨i,t,rfl,rfl⟩ | ⟨x,t,rfl,rfl⟩
  ·rcases ZaaA hv with ⟨j,u,rfl,rfl⟩ | ⟨y,u,rfl,rfl⟩
   ·rw[Zamk] at h; exact wpAny_eqBool_int h
   ·rw[Zamj] at h; exact SeqAt.EqAt.int_str i t y u _ _ _ _ h
  ·rcases ZaaA hv with ⟨j,u,rfl,rfl⟩ | ⟨y,u,rfl,rfl⟩
   ·rw[Zami] at h; exact SeqAt.EqAt.str_int x t j u _ _ _ _ h
   ·rw[Zamh] at h; exact wpAny_eqBool_str h
 «strs»:=fun k x t v h=>by
  rcases ZaaA h with ⟨i,u,rfl,e⟩ | ⟨y,u,rfl,e⟩
  ·exact nomatch e
  ·injection e with e1 _
   subst e1
   cases v <;> rfl
theorem Zago (prog:Program) (w:World) (k:Key) (v:Value):(ZaaD prog w).is k v=keyIs k v:=rfl
theorem Zafl (prog:Program) (w:World) (i:Int) (t:Tok):(ZaaD prog w).is (.inl i) (.int i t)=true:=ZahQ i t
theorem Zafk (prog:Program) (w:World) (x:Str) (t:Tok):(ZaaD prog w).is (.inr x) (.str x t)=true:=ZahP x t
end L2
namespace L2
open PySem PySem.Spec PyProof.Rows
inductive V where
 | non | bl (b:Bool) | int (i:Int) | str (x:Str) | byt (b:Array UInt8) | flt (b:UInt64) | ref (a:Addr) | ty (n:String)
 deriving DecidableEq
def RelV:V->Value->Prop
 | .non,u=>u=Value.none
 | .bl b,u=>u=Value.bool b
 | .int i,u=>∃ t,u=Value.int i t
 | .str x,u=>∃ t,u=Value.str x t
 | .byt b,u=>∃ t,u=Value.bytes b t
 | .flt b,u=>∃ t,u=Value.float b t
 | .ref a,u=>u=Value.ref a
 | .ty n,u=>u=Value.type n
abbrev Vals:List V->List Value->Prop:=Paired RelV
theorem Vals.length {xs:List V}{us:List Value} (r:Vals xs us):xs.length=us.length:=Paired.length r
theorem Vals.get:∀ {xs:List V}{us:List Value}{i:Nat}{x:V},Vals xs us->xs[i]?=some x->∃ u,us[i]?=some u/\RelV x u
 | _,_,_,_,.nil,e=>by simp at e
 | _,_,0,_,.cons r _,e=>by simp at e; subst e; exact⟨_,rfl,r⟩
 | _,_,i+1,x,.cons _ t,e=>by
  obtain⟨u,h1,h2⟩:=Vals.get (i:=i) (x:=x) t (by simpa using e)
  exact⟨u,by simpa using h1,h2⟩
theorem Vals.set {x:V}{u:Value} (r:RelV x u):∀ {xs:List V}{us:List Value} (i:Nat),Vals xs us->Vals (xs.set i x) (us.set i u)
 | _,_,_,.nil=>.nil
 | _,_,0,.cons _ t=>.cons r t
 | _,_,i+1,.cons q t=>.cons q (Vals.set r i t)
theorem Vals.append:∀ {xs ys:List V}{us ws:List Value},Vals xs us->Vals ys ws->Vals (xs++ys) (us++ws)
 | _,_,_,_,.nil,s=>s
 | _,_,_,_,.cons r t,s=>.cons r (Vals.append t s)
theorem Vals.take:∀ {xs:List V}{us:List Value} (n:Nat),Vals xs us->Vals (xs.take n) (us.take n)
 | _,_,0,_=>.nil
 | _,_,_+1,.nil=>.nil
 | _,_,n+1,.cons r t=>.cons r (Vals.take n t)
theorem Vals.drop:∀ {xs:List V}{us:List Value} (n:Nat),Vals xs us->Vals (xs.drop n) (us.drop n)
 | _,_,0,r=>r
 | _,_,_+1,.nil=>.nil
 | _,_,n+1,.cons _ t=>Vals.drop n t
theorem Vals.none_of:∀ {xs:List V}{us:List Value}{i:Nat},Vals xs us->xs[i]?=none->us[i]?=none:=fun {xs us i} r e=>by
 have h1:=r.length
 have h2:xs.length<=i:=List.getElem?_eq_none_iff.mp e
 exact List.getElem?_eq_none_iff.mpr (by omega)
def RelO:Option V->Option Value->Prop
 | some v,some u=>RelV v u
 | none,none=>True
 | _,_=>False
def KV {κ:Type}:List (κ × V)->List (κ × Value)->Prop:=Paired fun (p:κ × V) (q:κ × Value)=>p.1=q.1/\RelV p.2 q.2
def kV:Key->V
 | .inl i=>.int i
 | .inr x=>.str x
inductive HO where
 | lst (xs:List V)
 | tup (xs:List V)
 | dK (kvs:List (Key × V)) | dT (kvs:List (List Key × V))
 | set (S:Int->Bool) (n:Nat)
 | ins (C dx:Addr) (fs:List (Str × V))
 | own (x:Addr)
 | xd (fs:List (Str × V))
 | met (f x:Addr)
 | rng (lo hi:Int)
 | frz (o:Obj) (u:HO)
 | tbl (ps:Array Value)
 | ext (φ:Heap->Prop)
abbrev Hp:=Addr->Option HO
def upd (H:Hp) (a:Addr) (o:HO):Hp:=fun b=>if b=a then some o else H b
theorem Zaab {H:Hp}{a:Addr}{o:HO}:upd H a o a=some o:=by unfold upd; rw[if_pos rfl]
theorem Zaaf {H:Hp}{a b:Addr}{o:HO} (h:b≠a):upd H a o b=H b:=by unfold upd; rw[if_neg h]
theorem ZafB {H:Hp}{a:Addr}{o u:HO}:upd (upd H a o) a u=upd H a u:=by
 funext b; unfold upd; split <;> rfl
theorem ne_of {H:Hp}{a b:Addr}{o u:HO} (h:H a=some o) (h':H b=some u) (d:o≠u):a≠b:=by
 intro e; subst e; rw[h] at h'; exact d (Option.some.inj h')
theorem Zaad {H:Hp}{a b:Addr}{o:HO} (h:H a=some o) (h':H b=none):a≠b:=by
 intro e; subst e; rw[h] at h'; cases h'
def IsTupD (h:Heap) (a:Addr) (items:Array Value):Prop:=∃ o,h.get? a=some o/\o.cls=.type "tuple"/\o.dict=none/\∃ n,o.data=.seq items n
theorem IsTupD.tup {h:Heap}{a:Addr}{items:Array Value} (x:IsTupD h a items):IsTup h a items:=let ⟨o,e,c,_,d⟩:=x; ⟨o,e,c,d⟩
theorem IsTupD.new (h:Heap) (items:Array Value):IsTupD (h.push { cls:=.type "tuple",data:=.seq items }) h.objs.size items:=⟨_,Heap.get?_push_size _ rfl,rfl,rfl,_,rfl⟩
section
variable (P:Program) (w:World)
def ObjOk (H:Hp) (h:Heap) (a:Addr):HO->Prop
 | .lst xs=>xs.length<=sizeLine/\∃ (its:List Value) (n:Nat),Vals xs its/\h.get? a=some { cls:=.type "list",data:=.seq its.toArray n }
 | .tup xs=>xs.length<=sizeLine/\∃ its:List Value,Vals xs its/\IsTupD h a its.toArray
 | .dK kvs=>kvs.length<=sizeLine/\(a == sysModules)=false/\∃ vs,KV kvs vs/\h.DictOf (ZaaD P w) a vs
 | .dT kvs => kvs.length ≤ sizeLine ∧ (a == sysModules) = false ∧ ∃ xs : List (List Key × Addr × Value),
   Paired (fun (p:List Key × V) (q:List Key × Addr × Value)=>p.1=q.1/\H q.2.1=some (.tup (p.1.map kV))/\RelV p.2 q.2.2) kvs xs /\
   ∃ o es ep,h.get? a=some o/\o.ExactDict/\o.data=.dict es ep/\es.toList=xs.map (entryOfKey (tupleKind (ZaaD P w)))/\(xs.map (·.1)).Nodup
 | .set S n=>h.SetOf (intKind P w) a S n
 | .ins C dx fs => H dx = some (.own a) ∧ fs.length ≤ 1000 ∧ dx ≠ a ∧ h.get? a = some (PySem.W.instObj C dx) ∧
   ∃ mA,h.Ns1 dx mA/\(∀ f,RelO (fs.lookup f) (mA f))/\PySem.Within mA (fs.map (·.1))
 | .own _=>∃ o,h.get? a=some o
 | .xd fs=>∃ mA,h.Ns1 a mA/\∀ f,RelO (fs.lookup f) (mA f)
 | .rng lo hi=>∃ t u v,h.get? a=some { cls:=.type "range",data:=.fields #[.int lo t,.int hi u,.int 1 v] }
 | .frz o u=>h.get? a=some o/\ObjOk H h a u
 | .tbl ps=>h.get? a=some { cls:=.none,data:=.fields ps }
 | .met f x=>h.get? a=some (PySem.W.methodObj (.ref f) (.ref x))
 | .ext φ=>φ h/\(∃ o,h.get? a=some o)/\∀ h1 h2:Heap,φ h1->(∀ o,h1.get? a=some o->h2.get? a=some o)->φ h2
def HOk (H:Hp) (h:Heap):Prop:=∀ a o,H a=some o->ObjOk P w H h a o
end
section
variable {P:Program}{w:World}{H H':Hp}{h h':Heap}{a:Addr}{o:HO}
theorem ObjOk.lt (x:ObjOk P w H h a o):a<h.objs.size:=by
 cases o with
 | lst xs=>obtain⟨_,_,_,_,e⟩:=x; exact Heap.lt_size e
 | tup xs=>obtain⟨_,_,_,p⟩:=x; exact p.tup.lt
 | dK kvs=>obtain⟨_,_,_,_,o,_,_,e,_⟩:=x; exact Heap.lt_size e
 | dT kvs=>obtain⟨_,_,_,_,o,_,_,e,_⟩:=x; exact Heap.lt_size e
 | set S n=>obtain⟨o,_,_,_,e,_⟩:=x; exact Heap.lt_size e
 | ins C dx fs=>obtain⟨_,_,_,e,_⟩:=x; exact Heap.lt_size e
 | own y=>obtain⟨_,e⟩:=x; exact Heap.lt_size e
 | xd fs=>obtain⟨_,⟨_,_,_,e,_⟩,_⟩:=x; exact Heap.lt_size e
 | rng lo hi=>obtain⟨_,_,_,e⟩:=x; exact Heap.lt_size e
 | frz ob u=>obtain⟨e,_⟩:=x; exact Heap.lt_size e
 | tbl ps=>exact Heap.lt_size (show h.get? a=some _ from x)
 | met f y=>exact Heap.lt_size (show h.get? a=some _ from x)
 | ext φ=>obtain⟨_,⟨_,e⟩,_⟩:=x; exact Heap.lt_size e
theorem Paired.mapP {α β:Type}{F G:α->β->Prop}:∀ {l₁:List α}{l₂:List β},Paired F l₁ l₂->(∀ a b,F a b->G a b)->Paired G l₁ l₂
 | _,_,.nil,_=>.nil
 | _,_,.cons r t,f=>.cons (f _ _ r) (Paired.mapP t f)
theorem ObjOk.stay (x : ObjOk P w H h a o) (k : ∀ b u, (b = a ∨ H b = some (.own a)) → h.get? b = some u → h'.get? b = some u)
  (ho:∀ b,H b=some (.own a)->H' b=some (.own a)) (ht:∀ b xs,H b=some (.tup xs)->H' b=some (.tup xs)):ObjOk P w H' h' a o:=by
 induction o with
 | lst xs=>obtain⟨z,its,n,r,e⟩:=x; exact⟨z,its,n,r,k _ _ (.inl rfl) e⟩
 | tup xs=>obtain⟨z,its,r,ob,e,c⟩:=x; exact⟨z,its,r,ob,k _ _ (.inl rfl) e,c⟩
 | dK kvs=>obtain⟨z,y,vs,r,ob,es,ep,e,c⟩:=x; exact⟨z,y,vs,r,ob,es,ep,k _ _ (.inl rfl) e,c⟩
 | dT kvs=>
  obtain⟨z,y,xs,r,ob,es,ep,e,c⟩:=x
  exact⟨z,y,xs,Paired.mapP r fun p q z=>⟨z.1,ht _ _ z.2.1,z.2.2⟩,ob,es,ep,k _ _ (.inl rfl) e,c⟩
 | set S n=>obtain⟨ob,es,ep,t,e,c⟩:=x; exact⟨ob,es,ep,t,k _ _ (.inl rfl) e,c⟩
 | ins C dx fs=>
  obtain⟨d,z,ne,e,mA,⟨od,es,ep,e2,c⟩,r⟩:=x
  exact⟨ho _ d,z,ne,k _ _ (.inl rfl) e,mA,⟨od,es,ep,k _ _ (.inr d) e2,c⟩,r⟩
 | own y=>obtain⟨ob,e⟩:=x; exact⟨ob,k _ _ (.inl rfl) e⟩
 | xd fs=>obtain⟨mA,⟨od,es,ep,e,c⟩,r⟩:=x; exact⟨mA,⟨od,es,ep,k _ _ (.inl rfl) e,c⟩,r⟩
 | rng lo hi=>obtain⟨t,u,v,e⟩:=x; exact⟨t,u,v,k _ _ (.inl rfl) e⟩
 | frz ob u ih=>obtain⟨e,q⟩:=x; exact⟨k _ _ (.inl rfl) e,ih q⟩
 | tbl ps=>
  have e:h.get? a=some { cls:=.none,data:=.fields ps }:=x
  show h'.get? a=some { cls:=.none,data:=.fields ps }
  exact k a _ (.inl rfl) e
 | met f y=>
  have e:h.get? a=some (PySem.W.methodObj (.ref f) (.ref y)):=x
  show h'.get? a=some (PySem.W.methodObj (.ref f) (.ref y))
  exact k a _ (.inl rfl) e
 | ext φ=>obtain⟨p,⟨o,e⟩,st⟩:=x; exact⟨st _ _ p fun o q=>k _ _ (.inl rfl) q,⟨o,k _ _ (.inl rfl) e⟩,st⟩
theorem HOk.lt (x:HOk P w H h) (e:H a=some o):a<h.objs.size:=(x a o e).lt
theorem HOk.fresh (x:HOk P w H h) (e:h.objs.size<=a):H a=none:=by
 cases q:H a with
 | none=>rfl
 | some u=>exact absurd (Nat.lt_of_lt_of_le (x.lt q) e) (Nat.lt_irrefl _)
theorem HOk.kept (x:HOk P w H h) (k:∀ b u,h.get? b=some u->h'.get? b=some u):HOk P w H h':=fun a o e=>
 (x a o e).stay (fun b u _ q=>k b u q) (fun _ q=>q) fun _ _ q=>q
theorem HOk.laid (x:HOk P w H h) (k:∀ b u,h.get? b=some u->h'.get? b=some u) (hp:h.objs.size<=a) (new:ObjOk P w (upd H a o) h' a o):HOk P w (upd H a o) h':=fun b u e=>by
 have hn:=x.fresh hp
 by_cases hb:b=a
 ·subst hb; rw[Zaab] at e; cases e; exact new
 ·rw[Zaaf hb] at e
  exact (x b u e).stay (fun c v _ q=>k c v q) (fun c q=>by rw[Zaaf (Zaad q hn)]; exact q) fun c xs q=>by rw[Zaaf (Zaad q hn)]; exact q
end
def Rd (H:Hp) (a:Addr) (u:HO):Prop:=H a=some u∨∃ o,H a=some (.frz o u)
theorem Rd.ok {P:Program}{w:World}{H:Hp}{h:Heap}{a:Addr}{u:HO} (r:Rd H a u) (x:HOk P w H h):ObjOk P w H h a u:=by
 rcases r with r | ⟨o,r⟩
 ·exact x a u r
 ·obtain⟨_,q⟩:=x a _ r
  exact q
def Mut:Option HO->Prop
 | some (.lst _)=>True
 | some (.dK _)=>True
 | some (.dT _)=>True
 | some (.set _ _)=>True
 | some (.ins _ _ _)=>True
 | some (.ext _)=>True
 | _=>False
section
variable {P:Program}{w:World}{H:Hp}{h h':Heap}{x e:Addr}{o':HO}
theorem HOk.write (ok : HOk P w H h) (mu : Mut (H x)) (he : e = x ∨ H e = some (.own x)) (k : ∀ b u, b ≠ e → h.get? b = some u → h'.get? b = some u) (heo : ∃ u, h'.get? e = some u)
  (new:ObjOk P w (upd H x o') h' x o'):HOk P w (upd H x o') h':=fun b u q=>by
 have nown:∀ c y,H c=some (.own y)->c≠x:=fun c y r z=>by subst z; rw[r] at mu; exact mu
 have ntup:∀ c xs,H c=some (.tup xs)->c≠x:=fun c xs r z=>by subst z; rw[r] at mu; exact mu
 by_cases hb:b=x
 ·subst hb; rw[Zaab] at q; cases q; exact new
 ·rw[Zaaf hb] at q
  by_cases hbe:b=e
  ·have q' : H b = some (.own x) := by
    rcases he with z | z
    ·exact absurd (hbe.trans z) hb
    ·rw[hbe]; exact z
   rw[q] at q'; cases q'
   obtain⟨v,hv⟩:=heo
   exact⟨v,by rw[hbe]; exact hv⟩
  ·refine (ok b u q).stay (fun c v hc r=>k c v ?_ r) (fun c r=>by rw[Zaaf (nown c b r)]; exact r) fun c xs r=>by rw[Zaaf (ntup c xs r)]; exact r
   rcases hc with rfl | hc
   ·exact hbe
   ·rintro rfl
    rcases he with z | z
    ·exact nown c b hc z
    ·rw[hc] at z; cases z; exact hb rfl
end
structure Un (fs ex:List Addr) (H H':Hp) (h h':Heap):Prop where
 keep:∀ b o,h.get? b=some o->H b=none->b ∉ fs->b ∉ ex->h'.get? b=some o
 slot:∀ b o,h.get? b=some o->H b=none->b∈fs->b ∉ ex->∃ sl,h'.get? b=some { o with slots:=sl }
 free:∀ b o,h.get? b=some o->H b=none->b ∉ ex->H' b=none
 there:∀ b o,h.get? b=some o->b ∉ ex->∃ o',h'.get? b=some o'
 tups:∀ b xs,H b=some (.tup xs)->H' b=some (.tup xs)
 frzs:∀ b o u,H b=some (.frz o u)->H' b=some (.frz o u)
 tbls:∀ b ps,H b=some (.tbl ps)->∃ more,H' b=some (.tbl (ps++more))
section
variable {fs fs' ex ex':List Addr}{H H1 H2:Hp}{h h1 h2 h':Heap}{a x e:Addr}{o:HO}
theorem Un.any (u:Un fs ex H H1 h h1) {b:Addr}{ob:Obj} (q:h.get? b=some ob) (n:H b=none) (hx:b ∉ ex):∃ sl,h1.get? b=some { ob with slots:=sl }:=by
 by_cases hb:b∈fs
 ·exact u.slot b ob q n hb hx
 ·exact⟨ob.slots,u.keep b ob q n hb hx⟩
theorem Un.kept (k:∀ b u,h.get? b=some u->h'.get? b=some u):Un fs ex H H h h' :=
 ⟨fun b ob q _ _ _=>k b ob q,fun b ob q _ _ _=>⟨ob.slots,k b ob q⟩,fun _ _ _ n _=>n,fun b ob q _=>⟨ob,k b ob q⟩,fun _ _ q=>q,fun _ _ _ q=>q,fun _ ps q=>⟨#[],by rw[q]; simp⟩⟩
theorem Un.refl:Un fs ex H H h h:=Un.kept fun _ _ q=>q
theorem Un.laid (k:∀ b u,h.get? b=some u->h'.get? b=some u) (hp:h.objs.size<=a) (hn:H a=none):Un fs ex H (upd H a o) h h' where
 keep:=fun b u q _ _ _=>k b u q
 slot:=fun b u q _ _ _=>⟨u.slots,k b u q⟩
 free:=fun b u q n _=>by rw[Zaaf (Nat.ne_of_lt (Nat.lt_of_lt_of_le (Heap.lt_size q) hp))]; exact n
 there:=fun b u q _=>⟨u,k b u q⟩
 tups:=fun b xs q=>by rw[Zaaf (Zaad q hn)]; exact q
 frzs:=fun b u xs q=>by rw[Zaaf (Zaad q hn)]; exact q
 tbls:=fun b ps q=>⟨#[],by rw[Zaaf (Zaad q hn),q]; simp⟩
theorem Un.write (mu:Mut (H x)) (he:e=x∨H e=some (.own x)) (k:∀ b u,b≠e->h.get? b=some u->h'.get? b=some u) (heo:∃ u,h'.get? e=some u):Un fs ex H (upd H x o) h h':=by
 have hx:∀ b,H b=none->b≠x:=fun b n z=>by subst z; rw[n] at mu; exact mu
 have hb:∀ b,H b=none->b≠e:=fun b n z=>by
  subst z
  rcases he with r | r
  ·exact hx b n r
  ·rw[n] at r; cases r
 have hm:∀ b u,H b=some u->¬ Mut (some u)->b≠x:=fun b u q nm z=>by subst z; rw[q] at mu; exact nm mu
 refine⟨fun b u q n _ _=>k b u (hb b n) q,fun b u q n _ _=>⟨u.slots,k b u (hb b n) q⟩,fun b u q n _=>by rw[Zaaf (hx b n)]; exact n,fun b u q _=>?_,
  fun b xs q=>by rw[Zaaf (hm b _ q fun z=>z)]; exact q,fun b u xs q=>by rw[Zaaf (hm b _ q fun z=>z)]; exact q,fun b ps q=>⟨#[],by rw[Zaaf (hm b _ q fun z=>z),q]; simp⟩⟩
 by_cases hbe:b=e
 ·subst hbe; exact heo
 ·exact⟨u,k b u hbe q⟩
end
def trk (h:Heap) (H:Hp):List Addr:=(List.range h.objs.size).filter fun a=>(H a).isSome
def hidT (h:Heap) (H:Hp):Heap:=PySem.W.hideAll h (trk h H)
theorem ZahV (h:Heap) (H:Hp):(hidT h H).objs.size=h.objs.size:=PySem.W.hideAll_size _ _
theorem ZajY {h:Heap}{H:Hp}{b:Addr}{o:Obj} (e:h.get? b=some o) (n:H b=none):(hidT h H).get? b=some o :=
 PySem.W.hideAll_get _ e fun hm=>by
  have q:(H b).isSome=true:=(List.mem_filter.mp hm).2
  rw[n] at q; simp at q
theorem Zak7 {h:Heap}{H:Hp}{b:Addr}{o:Obj} (e:(hidT h H).get? b=some o):h.get? b=some o/\H b=none:=by
 have e':h.get? b=some o:=PySem.W.of_hideAll (trk h H) e
 refine⟨e',?_⟩
 cases q:H b with
 | none=>rfl
 | some x=>
  have hm:b∈trk h H:=List.mem_filter.mpr ⟨List.mem_range.mpr (Heap.lt_size e'),by simp[q]⟩
  have z:(hidT h H).get? b=none:=PySem.W.hideAll_none (trk h H) hm
  rw[z] at e; cases e
def ZalF (g h:Heap) (L:Addr):List (Addr × Obj):=(List.range h.objs.size).filterMap fun a=>if a=L∨(g.get? a).isSome=true then none else (h.get? a).map fun o=>(a,o)
def rest (g h:Heap) (L d:Addr):List (Addr × Obj):=(ZalF g h L).filter fun p=>decide (p.1≠d)
end L2
namespace L2
open PySem PySem.Spec PyProof.Rows
structure Mod (K:PySem.W.Frag) (mg:Str->Option Value) (base:Heap):Prop where
 kin:K.In base
 glob:base.Ns mainGlobals mg
 blt:∃ mb,base.Ns builtinsNs mb/\∀ x:Str,x≠"__name__"->mb x=bootBuiltins x
 nolimit:base.NoLimit
structure Cx where
 prog:Program
 w:World
 K:PySem.W.Frag
 mg:Str->Option Value
 base:Heap
 A:Around
 N:List Str
 s₀:Shared
 H₀:Hp
 env:Env
 outer:List Env
 stack:List Env
 ex:List Addr
 fn:Str->Bool
 calm:Bool
 pn:List (Addr × Obj)
 xe:Value->Shared->Prop
def frs (l:List Env):List Addr:=l.filterMap (·.frame)
abbrev Cx.fs (X:Cx):List Addr:=frs X.outer
def Vis (sc:Scope) (x:Str):Prop:=sc.names.lookup x=some .local ∨ sc.names.lookup x=some .cell∨sc.names.lookup x=some .free
def Loc (sc:Scope) (x:Str):Prop:=sc.names.lookup x=some .local ∨ sc.names.lookup x=some .cell
def Look (env:Env) (h:Heap) (m:Str->Option Value) (x:Str) (u:Value):Prop :=
 (env.kindOf x=some .local /\ m x=some u)∨((env.kindOf x=some .cell∨env.kindOf x=some .free)/\∃ c,env.cells.lookup x=some c/\h.IsCell c (some u))
structure Cx.Ok (X:Cx):Prop where
 mod:Mod X.K X.mg X.base
 kind:X.env.scope.kind=.function
 glob:X.env.globals=mainGlobals
 blt:X.env.builtins=builtinsNs
 above:X.s₀.heap.objs.size<=X.env.locals
 inj:∀ x y c,X.env.cells.lookup x=some c->X.env.cells.lookup y=some c->x=y
 has:∀ x,(X.env.kindOf x=some .cell∨X.env.kindOf x=some .free)->∃ c,X.env.cells.lookup x=some c
 cab:∀ x c,X.fn x=true->X.env.cells.lookup x=some c->X.s₀.heap.objs.size<=c
 hd:X.calm=true->X.A.handled=none
 frames:X.A.frames=some X.stack
 stk:X.stack=X.outer∨(X.stack=X.env::X.outer/\X.env.frame=some X.env.locals)
 exf:∀ b∈X.ex,b≠X.env.locals/\∀ x c,X.env.cells.lookup x=some c->c≠b
 bs:∀ b o,X.base.get? b=some o->X.s₀.heap.get? b=some o/\X.H₀ b=none
 bsz:X.base.objs.size<=X.s₀.heap.objs.size
 noex:∀ b o,X.base.get? b=some o->b ∉ X.ex
 exfs:∀ b∈X.ex,b ∉ X.fs
 funs:X.s₀.heap.FunFrames X.base X.outer
 frf:∀ b∈X.fs,X.H₀ b=none
structure Inv (X:Cx) (pins:List (Addr × Obj)) (σ:List (Option V)) (H:Hp) (s:Shared):Prop where
 ok:X.Ok
 os:s.os=X.s₀.os
 bare:AllBare s.gens
 base:Un X.fs X.ex X.H₀ H X.s₀.heap s.heap
 loc:∃ m,s.heap.Ns X.env.locals m/\∀ (i:Nat) (x:Str) (v:V),X.N[i]?=some x->σ[i]?=some (some v)->Vis X.env.scope x->∃ u,RelV v u/\Look X.env s.heap m x u
 cell:∀ x c,X.env.cells.lookup x=some c->∃ v,s.heap.IsCell c v
 free:H X.env.locals=none
 freeC:∀ x c,X.env.cells.lookup x=some c->H c=none
 pin:∀ p∈X.pn++pins,s.heap.get? p.1=some p.2/\H p.1=none/\p.1≠X.env.locals/\p.1 ∉ X.fs/\∀ v,p.2.data≠.cell v
 hok:HOk X.prog X.w H s.heap
 len:σ.length=X.N.length
section
variable {X:Cx}{pins:List (Addr × Obj)}{σ:List (Option V)}{H H':Hp}{s:Shared}{h':Heap}
theorem Cx.Ok.nofr (ok:X.Ok) {b:Addr}{o:Obj} (e:X.base.get? b=some o):b ∉ X.fs:=fun hb=>by
 have:=(ok.funs.mem hb).1
 rw[e] at this; cases this
theorem Inv.bs (I:Inv X pins σ H s):∀ b o,X.base.get? b=some o->s.heap.get? b=some o/\H b=none:=fun b o e=>
 ⟨I.base.keep b o (I.ok.bs b o e).1 (I.ok.bs b o e).2 (I.ok.nofr e) (I.ok.noex b o e),I.base.free b o (I.ok.bs b o e).1 (I.ok.bs b o e).2 (I.ok.noex b o e)⟩
theorem Inv.bk (I:Inv X pins σ H s):∀ b o,X.base.get? b=some o->s.heap.get? b=some o:=fun b o e=>(I.bs b o e).1
theorem Inv.mod (I:Inv X pins σ H s):Mod X.K X.mg X.base:=I.ok.mod
theorem Inv.kIn (I:Inv X pins σ H s):X.K.In s.heap:=I.ok.mod.kin.keeps I.bk
theorem Inv.lt (I:Inv X pins σ H s):X.env.locals<s.heap.objs.size:=let ⟨_,hn,_⟩:=I.loc; hn.lt
theorem Inv.sz (I:Inv X pins σ H s):X.s₀.heap.objs.size<=s.heap.objs.size:=Nat.le_trans I.ok.above (Nat.le_of_lt I.lt)
theorem Inv.nofs (I:Inv X pins σ H s) {a:Addr} (h:s.heap.objs.size<=a):a ∉ X.fs:=fun hb=>by
 obtain⟨_,o,ho,_⟩:=I.ok.funs.mem hb
 exact absurd (Nat.lt_of_lt_of_le (Heap.lt_size ho) (Nat.le_trans I.sz h)) (Nat.lt_irrefl _)
theorem Inv.cne (I:Inv X pins σ H s):∀ x c,X.env.cells.lookup x=some c->c≠X.env.locals:=fun x c e z=>by
 obtain⟨v,o,ho,hd⟩:=I.cell x c e
 obtain⟨m,⟨o',es,ep,ho',hd',_⟩,_⟩:=I.loc
 rw[z,ho'] at ho; cases ho; rw[hd'] at hd; cases hd
theorem Inv.funs (I:Inv X pins σ H s):s.heap.FunFrames X.base X.outer:=by
 have all:∀ (l:List Env),(∀ b∈frs l,b∈X.fs)->X.s₀.heap.FunFrames X.base l->s.heap.FunFrames X.base l:=by
  intro l
  induction l with
  | nil=>intro _ _; trivial
  | cons env r ih=>
   intro hs hl
   obtain⟨hk,⟨L,o,hf,hn,ho,hd⟩,hr⟩:=hl
   have hL:L∈X.fs:=hs L (by unfold frs; rw[List.filterMap_cons,hf]; exact List.mem_cons_self)
   obtain⟨sl,e⟩:=I.base.slot L o ho (I.ok.frf L hL) hL fun z=>I.ok.exfs L z hL
   exact⟨hk,⟨L,_,hf,hn,e,hd⟩,ih (fun b hb=>hs b (by unfold frs; rw[List.filterMap_cons,hf]; exact List.mem_cons_of_mem _ hb)) hr⟩
 exact all X.outer (fun _ hb=>hb) I.ok.funs
theorem Inv.stack (I:Inv X pins σ H s):s.heap.FunFrames X.base X.stack:=by
 rcases I.ok.stk with e | ⟨e,hf⟩
 ·rw[e]; exact I.funs
 ·rw[e]
  obtain⟨m,hn,_⟩:=I.loc
  refine .cons (by rw[I.ok.kind]; decide) hf hn ?_ I.funs
  exact Heap.get?_none_of_le (Nat.le_trans I.ok.bsz I.ok.above)
theorem Inv.stkSub (I:Inv X pins σ H s):∀ b∈frs X.stack,b∈X.env.locals::X.fs:=fun b hb=>by
 rcases I.ok.stk with e | ⟨e,hf⟩
 ·rw[e] at hb; exact List.mem_cons_of_mem _ hb
 ·rw[e] at hb
  unfold frs at hb
  rw[List.filterMap_cons,hf] at hb
  exact hb
theorem Inv.stkFree (I:Inv X pins σ H s):∀ b∈frs X.stack,H b=none:=fun b hb=>by
 rcases List.mem_cons.mp (I.stkSub b hb) with e | hb
 ·rw[e]; exact I.free
 ·obtain⟨_,o,ho,_⟩:=I.ok.funs.mem hb
  exact I.base.free b o ho (I.ok.frf b hb) fun z=>I.ok.exfs b z hb
theorem Inv.step {g' : Array GenState} {t' : Nat} {d' : Drawn} {ch : List Addr} (I : Inv X pins σ H s)
  (hch:∀ b∈ch,(b∈X.ex∨X.s₀.heap.objs.size<=b)/\b≠X.env.locals/\(∀ x c,X.env.cells.lookup x=some c->c≠b)/\∀ p∈X.pn++pins,p.1≠b)
  (keep:∀ b o,b≠X.env.locals->b ∉ X.fs->b ∉ ch->s.heap.get? b=some o->H b=none->h'.get? b=some o)
  (slot:∀ b o,b≠X.env.locals->b∈X.fs->b ∉ ch->s.heap.get? b=some o->H b=none->∃ sl,h'.get? b=some { o with slots:=sl }) (free:∀ b o,b ∉ ch->s.heap.get? b=some o->H b=none->H' b=none)
  (there:∀ b o,b ∉ ch->s.heap.get? b=some o->∃ o',h'.get? b=some o')
  (tups:∀ b xs,H b=some (.tup xs)->H' b=some (.tup xs)) (frzs:∀ b o u,H b=some (.frz o u)->H' b=some (.frz o u)) (tbls:∀ b ps,H b=some (.tbl ps)->∃ more,H' b=some (.tbl (ps++more)))
  (ns:∀ m,s.heap.Ns X.env.locals m->h'.Ns X.env.locals m) (hok:HOk X.prog X.w H' h') (hg:AllBare g') :
  Inv X pins σ H' { s with heap:=h',gens:=g',drawn:=d',toks:=t' }:=by
 have neL:∀ b o,X.s₀.heap.get? b=some o->b≠X.env.locals:=fun b o e=>Nat.ne_of_lt (Nat.lt_of_lt_of_le (Heap.lt_size e) I.ok.above)
 have neC:∀ b o,X.s₀.heap.get? b=some o->b ∉ X.ex->b ∉ ch:=fun b o e hx hb=>by
  rcases (hch b hb).1 with z | z
  ·exact hx z
  ·exact absurd (Nat.lt_of_lt_of_le (Heap.lt_size e) z) (Nat.lt_irrefl _)
 have cellK:∀ x c,X.env.cells.lookup x=some c->∀ v,s.heap.IsCell c v->h'.IsCell c v:=fun x c e v ⟨o,ho,hd⟩=>by
  have nch:c ∉ ch:=fun z=>(hch c z).2.2.1 x c e rfl
  by_cases hc:c∈X.fs
  ·obtain⟨sl,q⟩:=slot c o (I.cne x c e) hc nch ho (I.freeC x c e)
   exact⟨_,q,hd⟩
  ·exact⟨o,keep c o (I.cne x c e) hc nch ho (I.freeC x c e),hd⟩
 refine⟨I.ok,I.os,hg,⟨fun b o e n hb hx=>?_,fun b o e n hb hx=>?_,fun b o e n hx=>?_,fun b o e hx=>?_,fun b xs e=>tups b xs (I.base.tups b xs e),fun b o xs e=>frzs b o xs (I.base.frzs b o xs e),fun b ps e=>?_⟩,?_,fun x c e=>?_,?_,fun x c e=>?_,fun p hp=>?_,hok,I.len⟩
 ·exact keep b o (neL b o e) hb (neC b o e hx) (I.base.keep b o e n hb hx) (I.base.free b o e n hx)
 ·obtain⟨sl,e1⟩:=I.base.slot b o e n hb hx
  obtain⟨sl',e2⟩:=slot b _ (neL b o e) hb (neC b o e hx) e1 (I.base.free b o e n hx)
  exact⟨sl',e2⟩
 ·obtain⟨o',e1⟩:=I.base.there b o e hx
  exact free b o' (neC b o e hx) e1 (I.base.free b o e n hx)
 ·obtain⟨o',e1⟩:=I.base.there b o e hx
  exact there b o' (neC b o e hx) e1
 ·obtain⟨m1,e1⟩:=I.base.tbls b ps e
  obtain⟨m2,e2⟩:=tbls b _ e1
  exact⟨m1++m2,by rw[e2,Array.append_assoc]⟩
 ·obtain⟨m,hn,hl⟩:=I.loc
  refine⟨m,ns m hn,fun i x v e1 e2 e3=>?_⟩
  obtain⟨u,r,l⟩:=hl i x v e1 e2 e3
  refine⟨u,r,?_⟩
  rcases l with l | ⟨k,c,e,z⟩
  ·exact .inl l
  ·exact .inr ⟨k,c,e,cellK x c e _ z⟩
 ·obtain⟨v,z⟩:=I.cell x c e
  exact⟨v,cellK x c e v z⟩
 ·obtain⟨m,⟨o,_,_,ho,_⟩,_⟩:=I.loc
  exact free _ o (fun z=>(hch _ z).2.1 rfl) ho I.free
 ·obtain⟨v,o,ho,hd⟩:=I.cell x c e
  exact free c o (fun z=>(hch c z).2.2.1 x c e rfl) ho (I.freeC x c e)
 ·obtain⟨e,n,ne,nf,d⟩:=I.pin p hp
  have nch:p.1 ∉ ch:=fun z=>(hch p.1 z).2.2.2 p hp rfl
  exact⟨keep p.1 p.2 ne nf nch e n,free p.1 p.2 nch e n,ne,nf,d⟩
theorem Inv.un {t':Nat} (I:Inv X pins σ H s) (u:Un X.fs [] H H' s.heap h') (hok:HOk X.prog X.w H' h'):Inv X pins σ H' { s with heap:=h',toks:=t' }:=by
 obtain⟨m,⟨o,es,ep,ho,r⟩,_⟩:=id I.loc
 obtain⟨sl,hL⟩:=u.any ho I.free (by simp)
 exact I.step (g':=s.gens) (d':=s.drawn) (ch:=[]) (fun _ z=>nomatch z) (fun b o _ hb _ e n=>u.keep b o e n hb (by simp)) (fun b o _ hb _ e n=>u.slot b o e n hb (by simp)) (fun b o _ e n=>u.free b o e n (by simp)) (fun b o _ e=>u.there b o e (by simp)) u.tups u.frzs u.tbls (fun m' hm=>by
  obtain⟨o',es',ep',ho',r'⟩:=hm
  rw[ho] at ho'; cases ho'
  exact⟨_,es',ep',hL,r'⟩) hok I.bare
theorem Inv.call {g' : Array GenState} {t' : Nat} {d' : Drawn} {ch : List Addr} (I : Inv X pins σ H s) (u : Un (frs X.stack) ch H H' s.heap h') (hok : HOk X.prog X.w H' h') (hg : AllBare g')
  (hch:∀ b∈ch,(b∈X.ex∨X.s₀.heap.objs.size<=b)/\b≠X.env.locals/\(∀ x c,X.env.cells.lookup x=some c->c≠b)/\∀ p∈X.pn++pins,p.1≠b) :
  Inv X pins σ H' { s with heap:=h',gens:=g',drawn:=d',toks:=t' }:=by
 obtain⟨m,⟨o,es,ep,ho,r⟩,_⟩:=id I.loc
 obtain⟨sl,hL⟩:=u.any ho I.free fun z=>(hch _ z).2.1 rfl
 exact I.step (ch:=ch) hch (fun b o hL hb hc e n=>u.keep b o e n (fun z=>(List.mem_cons.mp (I.stkSub b z)).elim hL hb) hc) (fun b o _ _ hc e n=>u.any e n hc) (fun b o hc e n=>u.free b o e n hc) (fun b o hc e=>u.there b o e hc) u.tups u.frzs u.tbls (fun m' hm=>by
  obtain⟨o',es',ep',ho',r'⟩:=hm
  rw[ho] at ho'; cases ho'
  exact⟨_,es',ep',hL,r'⟩) hok hg
theorem Inv.turned {t' : Nat} {it : Addr} (I : Inv X pins σ H s) (k : ∀ b o, b ≠ it → s.heap.get? b = some o → h'.get? b = some o) (hn : H it = none) (hL : it ≠ X.env.locals)
  (h1:it∈X.ex∨X.s₀.heap.objs.size<=it) (h2:∀ x c,X.env.cells.lookup x=some c->c≠it) (h3:∀ p∈X.pn++pins,p.1≠it):Inv X pins σ H { s with heap:=h',toks:=t' }:=by
 have nit:∀ b u,H b=some u->b≠it:=fun b u e z=>by rw[z,hn] at e; cases e
 refine I.step (g':=s.gens) (d':=s.drawn) (ch:=[it]) (fun b hb=>?_) (fun b o _ _ hc e _=>k b o (fun z=>hc (by simp[z])) e) (fun b o _ _ hc e _=>⟨o.slots,k b o (fun z=>hc (by simp[z])) e⟩) (fun _ _ _ _ n=>n)
  (fun b o hc e=>⟨o,k b o (fun z=>hc (by simp[z])) e⟩) (fun _ _ e=>e) (fun _ _ _ e=>e) (fun b ps e=>⟨#[],by rw[e]; simp⟩) (fun m hm=>?_) (fun b u e=>?_) I.bare
 ·have e:b=it:=by simpa using hb
  subst e
  exact⟨h1,hL,h2,h3⟩
 ·obtain⟨o,es,ep,ho,r⟩:=hm
  exact⟨o,es,ep,k _ o (Ne.symm hL) ho,r⟩
 ·refine (I.hok b u e).stay (fun c v hc q=>k c v ?_ q) (fun _ q=>q) fun _ _ q=>q
  rcases hc with z | z
  ·rw[z]; exact nit b u e
  ·exact nit c _ z
theorem Inv.tok (I:Inv X pins σ H s) (t:Nat):Inv X pins σ H { s with toks:=t }:=I.un (h':=s.heap) (t':=t) Un.refl I.hok
theorem Inv.kept {t':Nat} (I:Inv X pins σ H s) (k:∀ b u,s.heap.get? b=some u->h'.get? b=some u):Inv X pins σ H { s with heap:=h',toks:=t' }:=I.un (Un.kept k) (I.hok.kept k)
theorem Inv.laid {a : Addr} {o : HO} {t' : Nat} (I : Inv X pins σ H s) (k : ∀ b u, s.heap.get? b = some u → h'.get? b = some u) (hp : s.heap.objs.size ≤ a) (new : ObjOk X.prog X.w (upd H a o) h' a o) :
  Inv X pins σ (upd H a o) { s with heap:=h',toks:=t' }:=I.un (Un.laid k hp (I.hok.fresh hp)) (I.hok.laid k hp new)
theorem Inv.write {x e : Addr} {o : HO} {t' : Nat} (I : Inv X pins σ H s) (mu : Mut (H x)) (he : e = x ∨ H e = some (.own x)) (k : ∀ b u, b ≠ e → s.heap.get? b = some u → h'.get? b = some u) (heo : ∃ u, h'.get? e = some u)
  (new:ObjOk X.prog X.w (upd H x o) h' x o):Inv X pins σ (upd H x o) { s with heap:=h',toks:=t' }:=I.un (Un.write mu he k heo) (I.hok.write mu he k heo new)
theorem Inv.weak {σ':List (Option V)} (I:Inv X pins σ H s) (hl:σ'.length=σ.length) (w:∀ (i:Nat) v,σ'[i]?=some (some v)->σ[i]?=some (some v)):Inv X pins σ' H s :=
 ⟨I.ok,I.os,I.bare,I.base,let ⟨m,hn,hl'⟩:=I.loc; ⟨m,hn,fun i x v e1 e2 e3=>hl' i x v e1 (w i v e2) e3⟩,I.cell,I.free,I.freeC,I.pin,I.hok,hl.trans I.len⟩
theorem Inv.pins_of {pins':List (Addr × Obj)} (I:Inv X pins σ H s) (h:∀ p∈pins',s.heap.get? p.1=some p.2/\H p.1=none/\p.1≠X.env.locals/\p.1 ∉ X.fs/\∀ v,p.2.data≠.cell v):Inv X pins' σ H s :=
 ⟨I.ok,I.os,I.bare,I.base,I.loc,I.cell,I.free,I.freeC,fun p hp=>(List.mem_append.mp hp).elim (fun z=>I.pin p (List.mem_append_left _ z)) (h p),I.hok,I.len⟩
theorem Zad3 {N:List Str} (hN:N.Nodup) {i j:Nat}{x:Str} (a:N[i]?=some x) (b:N[j]?=some x):i=j:=by
 obtain⟨h1,e1⟩:=List.getElem?_eq_some_iff.mp a
 obtain⟨h2,e2⟩:=List.getElem?_eq_some_iff.mp b
 exact (List.getElem_inj hN).mp (e1.trans e2.symm)
theorem ZacL {M : Model} {A : Around} {E : Value → Shared → Prop} {i : Nat} {x : Str} {v : V} {u : Value} {Q : Unit → Shared → Prop} (I : Inv X pins σ H s) (hN : X.N.Nodup) (hi : X.N[i]? = some x) (hx : Loc X.env.scope x) (r : RelV v u)
  (h:∀ s',Inv X pins (σ.set i (some v)) H s'->(∃ a,Heap.SameBut a s.heap s'.heap/\(a=X.env.locals∨X.env.cells.lookup x=some a))->Q () s') (hf:X.fn x=true∨X.env.scope.names.lookup x=some .local:=by first | exact .inl rfl | exact .inr rfl | assumption):wpAny M A (storeName X.env x u) Q E s:=by
 obtain⟨m,hn,hl⟩:=id I.loc
 have hcls:(X.env.scope.kind == .class || (X.env.scope.kind == .module && X.env.locals != X.env.globals))=false:=by rw[I.ok.kind]; rfl
 have hiσ:i<σ.length:=by rw[I.len]; exact (List.getElem?_eq_some_iff.mp hi).1
 have cne:=I.cne
 have tracked:∀ {a:Addr}{h':Heap},(∃ o,s.heap.get? a=some o/\H a=none)->Heap.SameBut a s.heap h'->HOk X.prog X.w H h':=fun {a h'} ha hs b ob e=>by
  obtain⟨_,_,hfree⟩:=ha
  refine (I.hok b ob e).stay (fun c w' hc q=>(hs.2 c ?_).trans q) (fun _ q=>q) fun _ _ q=>q
  rintro rfl
  rcases hc with rfl | hc
  ·rw[hfree] at e; cases e
  ·rw[hfree] at hc; cases hc
 rcases hx with hk | hk
 ·refine wpAny_storeName_local hk hn (fun h' hn' hs=>?_) hcls
  obtain⟨oL,_,_,hoL,_⟩:=id hn
  refine h _ ⟨I.ok,I.os,I.bare,⟨fun b o e n hb hx=>?_,fun b o e n hb hx=>?_,I.base.free,fun b o e hx=>?_,I.base.tups,I.base.frzs,I.base.tbls⟩,⟨_,hn',fun j y v' e1 e2 e3=>?_⟩,fun y c e=>?_,I.free,I.freeC,fun p hp=>?_,tracked ⟨oL,hoL,I.free⟩ hs,by simpa using I.len⟩ ⟨_,hs,.inl rfl⟩
  ·exact (hs.2 b (Nat.ne_of_lt (Nat.lt_of_lt_of_le (Heap.lt_size e) I.ok.above))).trans (I.base.keep b o e n hb hx)
  ·obtain⟨sl,e1⟩:=I.base.slot b o e n hb hx
   exact⟨sl,(hs.2 b (Nat.ne_of_lt (Nat.lt_of_lt_of_le (Heap.lt_size e) I.ok.above))).trans e1⟩
  ·obtain⟨o',e1⟩:=I.base.there b o e hx
   exact⟨o',(hs.2 b (Nat.ne_of_lt (Nat.lt_of_lt_of_le (Heap.lt_size e) I.ok.above))).trans e1⟩
  ·by_cases hj:j=i
   ·subst hj
    rw[hi] at e1; cases e1
    rw[List.getElem?_set_self hiσ] at e2
    cases e2
    exact⟨u,r,.inl ⟨hk,by simp⟩⟩
   ·rw[List.getElem?_set_ne (Ne.symm hj)] at e2
    obtain⟨u',r',q⟩:=hl j y v' e1 e2 e3
    refine⟨u',r',?_⟩
    rcases q with ⟨k,e⟩ | ⟨k,c,e,z⟩
    ·refine .inl ⟨k,?_⟩
     have:y≠x:=fun e=>hj (Zad3 hN e1 (e ▸ hi))
     simp[this,e]
    ·exact .inr ⟨k,c,e,z.sameBut hs (cne y c e)⟩
  ·obtain⟨w',z⟩:=I.cell y c e
   exact⟨w',z.sameBut hs (cne y c e)⟩
  ·obtain⟨e,n,ne,nf,d⟩:=I.pin p hp
   exact⟨(hs.2 p.1 ne).trans e,n,ne,nf,d⟩
 ·have hfn : X.fn x = true := by
   rcases hf with z | z
   ·exact z
   ·rw[z] at hk; cases hk
  obtain⟨c,hc⟩:=I.ok.has x (.inl hk)
  obtain⟨w',z⟩:=I.cell x c hc
  refine wpAny_storeName_cell I.ok.kind hk hc z (fun h' hc' hs=>?_)
  obtain⟨oc,hoc,hocd⟩:=id z
  refine h { s with heap:=h' } ⟨I.ok,I.os,I.bare,⟨fun b o e n hb hx=>?_,fun b o e n hb hx=>?_,I.base.free,fun b o e hx=>?_,I.base.tups,I.base.frzs,I.base.tbls⟩,⟨m,hn.sameBut hs (Ne.symm (cne x c hc)),fun j y v' e1 e2 e3=>?_⟩,fun y c' e=>?_,I.free,I.freeC,fun p hp=>?_,tracked ⟨oc,hoc,I.freeC x c hc⟩ hs,by simpa using I.len⟩ ⟨c,hs,.inr hc⟩
  ·exact (hs.2 b (Nat.ne_of_lt (Nat.lt_of_lt_of_le (Heap.lt_size e) (I.ok.cab x c hfn hc)))).trans (I.base.keep b o e n hb hx)
  ·obtain⟨sl,e1⟩:=I.base.slot b o e n hb hx
   exact⟨sl,(hs.2 b (Nat.ne_of_lt (Nat.lt_of_lt_of_le (Heap.lt_size e) (I.ok.cab x c hfn hc)))).trans e1⟩
  ·obtain⟨o',e1⟩:=I.base.there b o e hx
   exact⟨o',(hs.2 b (Nat.ne_of_lt (Nat.lt_of_lt_of_le (Heap.lt_size e) (I.ok.cab x c hfn hc)))).trans e1⟩
  ·by_cases hj:j=i
   ·subst hj
    rw[hi] at e1; cases e1
    rw[List.getElem?_set_self hiσ] at e2
    cases e2
    exact⟨u,r,.inr ⟨.inl hk,c,hc,hc'⟩⟩
   ·rw[List.getElem?_set_ne (Ne.symm hj)] at e2
    obtain⟨u',r',q⟩:=hl j y v' e1 e2 e3
    refine⟨u',r',?_⟩
    rcases q with q | ⟨k,c',e,z'⟩
    ·exact .inl q
    ·refine .inr ⟨k,c',e,z'.sameBut hs ?_⟩
     rintro rfl
     exact hj (Zad3 hN e1 (I.ok.inj _ _ _ e hc ▸ hi))
  ·by_cases hcc:c'=c
   ·subst hcc; exact⟨_,hc'⟩
   ·obtain⟨w2,z2⟩:=I.cell y c' e
    exact⟨w2,z2.sameBut hs hcc⟩
  ·obtain⟨e,n,ne,nf,d⟩:=I.pin p hp
   refine⟨(hs.2 p.1 ?_).trans e,n,ne,nf,d⟩
   intro q
   rw[q,hoc] at e
   have q':oc=p.2:=Option.some.inj e
   exact d w' (by rw[<- q']; exact hocd)
theorem ZacM {M : Model} {A : Around} {E : Value → Shared → Prop} {i : Nat} {x : Str} {v : V} {u : Value} {Q : Unit → Shared → Prop} (I : Inv X pins σ H s) (hN : X.N.Nodup) (hi : X.N[i]? = some x) (hx : Loc X.env.scope x) (r : RelV v u)
  (h:∀ s',Inv X pins (σ.set i (some v)) H s'->Q () s') (hf:X.fn x=true∨X.env.scope.names.lookup x=some .local:=by first | exact .inl rfl | exact .inr rfl | assumption):wpAny M A (storeName X.env x u) Q E s :=
 ZacL I hN hi hx r (fun s' I' _=>h s' I') hf
theorem Inv.call' {s' : Shared} {ch : List Addr} (I : Inv X pins σ H s) (ho : s'.os = s.os) (u : Un (frs X.stack) ch H H' s.heap s'.heap) (hok : HOk X.prog X.w H' s'.heap) (hg : AllBare s'.gens)
  (hch:∀ b∈ch,(b∈X.ex∨X.s₀.heap.objs.size<=b)/\b≠X.env.locals/\(∀ x c,X.env.cells.lookup x=some c->c≠b)/\∀ p∈X.pn++pins,p.1≠b):Inv X pins σ H' s':=by
 obtain⟨h',g',d',t',o'⟩:=s'
 have e:o'=s.os:=ho
 subst e
 exact I.call (g':=g') (t':=t') (d':=d') u hok hg hch
end
abbrev XK:=Value->Option Addr->Hp->Prop
abbrev St:=List (Option V)
abbrev VK:=V->Hp->Prop
abbrev TE:=St->Hp->VK->Prop
abbrev TT:=St->Hp->(Bool->Hp->Prop)->Prop
abbrev TA:=St->Hp->(List V->Hp->Prop)->Prop
structure Ends where
 nx:St->Hp->Prop
 rt:VK
 bk:St->Hp->Prop:=fun _ _=>False
 ct:St->Hp->Prop:=fun _ _=>False
abbrev TS:=Ends->St->Hp->Prop
def EP (X:Cx) (pins:List (Addr × Obj)) (σ:St) (Q:VK) (u:Value) (s':Shared):Prop:=∃ v H',Inv X pins σ H' s'/\RelV v u/\Q v H'
def TP (X:Cx) (pins:List (Addr × Obj)) (σ:St) (Q:Bool->Hp->Prop) (b:Bool) (s':Shared):Prop:=∃ H',Inv X pins σ H' s'/\Q b H'
def AP (X:Cx) (pins:List (Addr × Obj)) (σ:St) (Q:List V->Hp->Prop) (us:List Value) (s':Shared):Prop:=∃ vs H',Inv X pins σ H' s'/\Vals vs us/\Q vs H'
def SP (X:Cx) (pins:List (Addr × Obj)) (D:Ends) (f:Flow) (s':Shared):Prop :=
 match f with
 | .next=>∃ σ' H',Inv X pins σ' H' s'/\D.nx σ' H'
 | .brk=>∃ σ' H',Inv X pins σ' H' s'/\D.bk σ' H'
 | .cont=>∃ σ' H',Inv X pins σ' H' s'/\D.ct σ' H'
 | .ret u=>∃ v σ' H',Inv X pins σ' H' s'/\RelV v u/\D.rt v H'
def PE (X:Cx) (e:Expr) (t:TE):Prop :=
 ∀ (pins:List (Addr × Obj)) (s:Shared) (σ:St) (H:Hp) (Q:VK),Inv X pins σ H s->t σ H Q->wpAny (model X.prog X.w) X.A (eval e X.env) (EP X pins σ Q) X.xe s
def PT (X:Cx) (e:Expr) (t:TT):Prop :=
 ∀ (pins:List (Addr × Obj)) (s:Shared) (σ:St) (H:Hp) (Q:Bool->Hp->Prop),Inv X pins σ H s->t σ H Q->wpAny (model X.prog X.w) X.A (isTrue e X.env (eval e X.env)) (TP X pins σ Q) X.xe s
def PW (X:Cx) (e:Expr) (t:TT):Prop :=
 ∀ (whole:Sem Value) (pins:List (Addr × Obj)) (s:Shared) (σ:St) (H:Hp) (Q:Bool->Hp->Prop),Inv X pins σ H s->t σ H Q->wpAny (model X.prog X.w) X.A (isTrue e X.env whole) (TP X pins σ Q) X.xe s
theorem PW.pt {X:Cx}{e:Expr}{t:TT} (h:PW X e t):PT X e t:=h _
def PA (X:Cx) (es:List Expr) (t:TA):Prop :=
 ∀ (pos:Pos) (pins:List (Addr × Obj)) (s:Shared) (σ:St) (H:Hp) (Q:List V->Hp->Prop),Inv X pins σ H s->t σ H Q->wpAny (model X.prog X.w) X.A (spliced (backTo pos (starEach es X.env))) (AP X pins σ Q) X.xe s
def PS (X:Cx) (st:Stmt) (t:TS):Prop :=
 ∀ (pins:List (Addr × Obj)) (s:Shared) (σ:St) (H:Hp) (D:Ends),Inv X pins σ H s->t D σ H->wpAny (model X.prog X.w) X.A (exec st X.env) (SP X pins D) X.xe s
def PSs (X:Cx) (st:List Stmt) (t:TS):Prop :=
 ∀ (pins:List (Addr × Obj)) (s:Shared) (σ:St) (H:Hp) (D:Ends),Inv X pins σ H s->t D σ H->wpAny (model X.prog X.w) X.A (execs st X.env) (SP X pins D) X.xe s
theorem thn {α:Type}{t:Sem α}{Q Q':α->Shared->Prop}{M:Model}{A:Around}{E:Value->Shared->Prop}{s:Shared} (h:wpAny M A t Q E s) (hQ:∀ a s,Q a s->Q' a s):wpAny M A t Q' E s:=wpAny_mono h hQ fun _ _ x=>x
end L2
namespace L2
open PySem PySem.Spec PyProof.Rows
section
variable {X:Cx}
def tVar (i:Nat):TE:=fun σ H Q=>∃ v,σ[i]?=some (some v)/\Q v H
def tC (v:V):TE:=fun _ H Q=>Q v H
theorem ZakQ {i:Nat}{x:Str}{pos:Pos} (hN:X.N[i]?=some x) (hv:Vis X.env.scope x) (hd:(x == ("__debug__":Str))=false:=by decide) (hcd:(x == ("__classdict__":Str))=false:=by decide):PE X (.Name x pos) (tVar i):=by
 intro pins s σ H Q I h
 obtain⟨v,e,h⟩:=h
 obtain⟨m,hn,hl⟩:=I.loc
 obtain⟨u,r,l⟩:=hl i x v hN e hv
 have fin:EP X pins σ Q u s:=⟨v,H,I,r,h⟩
 rcases l with ⟨hk,hm⟩ | ⟨hk,c,hc,hcell⟩
 ·exact wpAny_Name (wpAny_loadName_local I.ok.kind hk hn hm fin) hd
 ·rcases hk with hk | hk
  ·exact wpAny_Name (wpAny_loadName_cell I.ok.kind hk hc hcell fin) hd
  ·exact wpAny_Name (wpAny_loadName_free I.ok.kind hk hc hcell fin hcd) hd
theorem Zaah {i j pos}:PE X (.Constant (.int i) j pos) (tC (.int i)):=fun _ _ _ H _ I h=>wpAny_Constant_int ⟨.int i,H,I.tok _,⟨_,rfl⟩,h⟩
theorem pe_bl {b j pos}:PE X (.Constant (.bool b) j pos) (tC (.bl b)):=fun _ _ _ H _ I h=>Constant_bool ⟨.bl b,H,I,rfl,h⟩
theorem ZacU {j pos}:PE X (.Constant .none j pos) (tC .non):=fun _ _ _ H _ I h=>Constant_none ⟨.non,H,I,rfl,h⟩
theorem ZacT {x j pos}:PE X (.Constant (.str x) j pos) (tC (.str x)):=fun _ _ _ H _ I h=>Calls.Constant_str ⟨.str x,H,I.tok _,⟨_,rfl⟩,h⟩
def Gl (X:Cx) (x:Str):Prop:=X.env.kindOf x=some .globalImplicit
theorem ZaeG {E : Value → Shared → Prop} {pins : List (Addr × Obj)} {s : Shared} {σ : St} {H : Hp} {x : Str} {u : Value} {pos : Pos} {Q : Value → Shared → Prop} (I : Inv X pins σ H s) (hg : Gl X x) (hm : X.mg x = some u) (h : Q u s)
  (hd:(x == ("__debug__":Str))=false:=by decide):wpAny (model X.prog X.w) X.A (eval (.Name x pos) X.env) Q E s :=
 Calls.Name_function_global I.ok.kind hg (Calls.loadGlobal_global (by rw[I.ok.glob]; exact I.mod.glob.keeps I.bk) hm h) hd
theorem Zad5 {E : Value → Shared → Prop} {pins : List (Addr × Obj)} {s : Shared} {σ : St} {H : Hp} {x : Str} {u : Value} {pos : Pos} {Q : Value → Shared → Prop} (I : Inv X pins σ H s) (hg : Gl X x) (hm : X.mg x = none) (hv : bootBuiltins x = some u) (h : Q u s)
  (hn:x≠"__name__":=by decide) (hd:(x == ("__debug__":Str))=false:=by decide):wpAny (model X.prog X.w) X.A (eval (.Name x pos) X.env) Q E s:=by
 obtain⟨mb,h1,h2⟩:=I.mod.blt
 exact Calls.Name_function_global I.ok.kind hg (Calls.loadGlobal_builtin (by rw[I.ok.glob]; exact I.mod.glob.keeps I.bk) hm (by rw[I.ok.blt]; exact h1.keeps I.bk) ((h2 x hn).trans hv) h) hd
theorem Zagd {x:Str}{v:V}{u:Value}{pos:Pos} (hg:Gl X x) (hm:X.mg x=some u) (r:RelV v u) (hd:(x == ("__debug__":Str))=false:=by decide):PE X (.Name x pos) (tC v) :=
 fun _ _ _ H _ I h=>ZaeG I hg hm ⟨v,H,I,r,h⟩ hd
theorem ZakW {x:Str}{v:V}{u:Value}{pos:Pos} (hg:Gl X x) (hm:X.mg x=none) (hv:bootBuiltins x=some u) (r:RelV v u) (hn:x≠"__name__":=by decide) (hd:(x == ("__debug__":Str))=false:=by decide):PE X (.Name x pos) (tC v) :=
 fun _ _ _ H _ I h=>Zad5 I hg hm hv ⟨v,H,I,r,h⟩ hn hd
variable {a b:Expr}{ta tb:TE}{pos:Pos}
def PC (X:Cx) (op:CmpOp) (a b:Expr) (t:TE):Prop :=
 ∀ (pins:List (Addr × Obj)) (s:Shared) (σ:St) (H:Hp) (Q:VK),Inv X pins σ H s->t σ H Q ->
  wpAny (model X.prog X.w) X.A (eval a X.env) (fun v s₁=>wpAny (model X.prog X.w) X.A (eval b X.env) (fun u s₂=>wpAny (model X.prog X.w) X.A (compareOp op v u) (EP X pins σ Q) X.xe s₂) X.xe s₁) X.xe s
theorem ZajM (b:Expr) {op:CmpOp} (h:op≠.In) (h2:op≠.NotIn):behindInMarks op b=false:=by
 have e1:(op == CmpOp.In)=false:=by cases op <;> first | rfl | exact absurd rfl h
 have e2:(op == CmpOp.NotIn)=false:=by cases op <;> first | rfl | exact absurd rfl h2
 cases b <;> simp[behindInMarks,e1,e2]
def tIsN (ta:TE):TE:=fun σ H Q=>ta σ H fun x H1=>Q (.bl (decide (x=.non))) H1
theorem RelV.none_iff {x:V}{v:Value} (r:RelV x v):(v == Value.none)=decide (x=.non):=by
 cases x with
 | non=>cases r; rfl
 | bl _=>cases r; rfl
 | int _=>obtain⟨t,rfl⟩:=r; rfl
 | str _=>obtain⟨t,rfl⟩:=r; rfl
 | byt _=>obtain⟨t,rfl⟩:=r; rfl
 | flt _=>obtain⟨t,rfl⟩:=r; rfl
 | ref _=>cases r; rfl
 | ty _=>cases r; rfl
theorem Zaju {j pos'} (ha:PE X a ta):PC X .Is a (.Constant .none j pos') (tIsN ta):=by
 intro pins s σ H Q I h
 refine thn (ha pins s σ H _ I h) fun v s1 ⟨x,H1,I1,r1,q1⟩=>?_
 exact Constant_none (is_none_gen ⟨.bl _,H1,I1,by rw[r1.none_iff]; rfl,q1⟩)
def tB (t:TE):TT:=fun σ H Q=>t σ H fun x H1=>∃ c,x=.bl c/\Q c H1
theorem Zajj {op:CmpOp}{t:TE} (h:PC X op a b t) (h1:behindInMarks op b=false:=by first | exact ZajM _ (by decide) (by decide) | rfl):PT X (.Compare a [op] [b] pos) (tB t):=by
 intro pins s σ H Q I hw
 refine wpAny_isTrue_Compare1 (thn (h pins s σ H _ I hw) fun v s1 h1=>thn h1 fun u s2 h2=>thn h2 fun c s3 ⟨x,H1,I1,r1,q1⟩=>?_) h1
 obtain⟨d,rfl,q⟩:=q1
 cases r1
 exact wpAny_truthy_bool ⟨H1,I1,q⟩
theorem Zaby {e:Expr}{t:TE} (h:PE X e t) (he:∀ whole,isTrue e X.env whole=(do let v <- whole; standAt e.pos; holding [v] (truthy v)):=by intro _; rfl):PT X e (tB t):=by
 intro pins s σ H Q I hw
 refine isTrue_plain (thn (h pins s σ H _ I hw) fun v s1 ⟨x,H1,I1,r1,q1⟩=>?_) (he _)
 obtain⟨d,rfl,q⟩:=q1
 cases r1
 exact wpAny_truthy_bool ⟨H1,I1,q⟩
variable {tA tB':TT}{rest:List Expr}
def tAnd (t u:TT):TT:=fun σ H Q=>t σ H fun c H1=>if c=true then u σ H1 Q else Q false H1
def tOr (t u:TT):TT:=fun σ H Q=>t σ H fun c H1=>if c=true then Q true H1 else u σ H1 Q
def tNot (t:TT):TT:=fun σ H Q=>t σ H fun c H1=>Q (!c) H1
theorem Zair (ha:PT X a tA):PW X (.BoolOp .And [a] pos) tA:=by
 intro wh pins s σ H Q I h
 refine isTrue_and (thn (ha pins s σ H Q I h) fun c s1 e=>?_)
 cases c with
 | true=>exact isTrue_and_nil e
 | false=>exact e
theorem Zab9 (ha:PT X a tA):PW X (.BoolOp .Or [a] pos) tA:=by
 intro wh pins s σ H Q I h
 refine isTrue_or (thn (ha pins s σ H Q I h) fun c s1 e=>?_)
 cases c with
 | false=>exact isTrue_or_nil e
 | true=>exact e
theorem ZakI (ha:PT X a tA) (hb:PW X (.BoolOp .And (b::rest) pos) tB'):PW X (.BoolOp .And (a::b::rest) pos) (tAnd tA tB'):=by
 intro wh pins s σ H Q I h
 refine isTrue_and (thn (ha pins s σ H _ I h) fun c s1 ⟨H1,I1,q1⟩=>?_)
 cases c with
 | true=>exact hb wh pins s1 σ H1 Q I1 q1
 | false=>exact⟨H1,I1,q1⟩
theorem pw_or (ha:PT X a tA) (hb:PW X (.BoolOp .Or (b::rest) pos) tB'):PW X (.BoolOp .Or (a::b::rest) pos) (tOr tA tB'):=by
 intro wh pins s σ H Q I h
 refine isTrue_or (thn (ha pins s σ H _ I h) fun c s1 ⟨H1,I1,q1⟩=>?_)
 cases c with
 | true=>exact⟨H1,I1,q1⟩
 | false=>exact hb wh pins s1 σ H1 Q I1 q1
theorem Zabm (ha:PT X a tA):PT X (.UnaryOp .Not a pos) (tNot tA):=by
 intro pins s σ H Q I h
 exact isTrue_not (ha pins s σ H (fun c H1=>Q (!c) H1) I h)
def tAndV (ta tb:TE):TE:=fun σ H Q=>ta σ H fun x H1=>∃ c,x=.bl c/\if c=true then tb σ H1 Q else Q (.bl false) H1
def tNotV (ta:TE):TE:=fun σ H Q=>ta σ H fun x H1=>∃ c,x=.bl c/\Q (.bl (!c)) H1
theorem Zajq {op}{t:TE} (h:PE X a t):PE X (.BoolOp op [a] pos) t:=fun pins s σ H Q I hw=>BoolOp_one (h pins s σ H Q I hw)
theorem Zahl (ha:PE X a ta) (hb:PE X (.BoolOp .And (b::rest) pos) tb):PE X (.BoolOp .And (a::b::rest) pos) (tAndV ta tb):=by
 intro pins s σ H Q I h
 refine BoolOp_and (thn (ha pins s σ H _ I h) fun v s1 ⟨x,H1,I1,r1,q1⟩=>?_)
 obtain⟨c,rfl,q1⟩:=q1
 cases r1
 refine wpAny_truthy_bool ?_
 cases c with
 | true=>exact hb pins s1 σ H1 Q I1 q1
 | false=>exact⟨.bl false,H1,I1,rfl,q1⟩
theorem ZakR (ha:PE X a ta):PE X (.UnaryOp .Not a pos) (tNotV ta):=by
 intro pins s σ H Q I h
 refine UnaryOp_ (thn (ha pins s σ H _ I h) fun v s1 ⟨x,H1,I1,r1,q1⟩=>?_)
 obtain⟨c,rfl,q1⟩:=q1
 cases r1
 exact not_of (wpAny_truthy_bool ⟨.bl (!c),H1,I1,rfl,q1⟩)
def tIf (t:TT) (ta tb:TE):TE:=fun σ H Q=>t σ H fun c H1=>if c=true then ta σ H1 Q else tb σ H1 Q
theorem Zajr {c:Expr} (hc:PT X c tA) (ha:PE X a ta) (hb:PE X b tb):PE X (.IfExp c a b pos) (tIf tA ta tb):=by
 intro pins s σ H Q I h
 refine wpAny_IfExp (thn (hc pins s σ H _ I h) fun d s1 ⟨H1,I1,q1⟩=>?_)
 cases d with
 | true=>exact ha pins s1 σ H1 Q I1 q1
 | false=>exact hb pins s1 σ H1 Q I1 q1
end
end L2
namespace L2
open PySem PySem.Spec PyProof.Rows
def SqL (K:PySem.W.Frag) (H:Hp) (a:Addr) (xs:List V):Prop :=
 Rd H a (.lst xs) ∨
  ∃ (o:Obj) (its:Array Value) (n:Nat),K.lookup a=some o/\o.cls=.type "list"/\o.dict=none/\o.data=.seq its n/\its.size<=sizeLine/\Vals xs its.toList
def SqT (K:PySem.W.Frag) (H:Hp) (a:Addr) (xs:List V):Prop :=
 Rd H a (.tup xs) ∨
  ∃ (o:Obj) (its:Array Value) (n:Nat),K.lookup a=some o/\o.cls=.type "tuple"/\o.data=.seq its n/\its.size<=sizeLine/\Vals xs its.toList
def absV:Value->Option V
 | .none=>some .non
 | .bool b=>some (.bl b)
 | .int i _=>some (.int i)
 | .str x _=>some (.str x)
 | .bytes b _=>some (.byt b)
 | .float b _=>some (.flt b)
 | .ref a=>some (.ref a)
 | .type n=>some (.ty n)
 | _=>none
theorem RelV.abs {x:V}{u:Value} (r:RelV x u):absV u=some x:=by
 cases x with
 | non=>cases r; rfl
 | bl _=>cases r; rfl
 | int _=>obtain⟨t,rfl⟩:=r; rfl
 | str _=>obtain⟨t,rfl⟩:=r; rfl
 | byt _=>obtain⟨t,rfl⟩:=r; rfl
 | flt _=>obtain⟨t,rfl⟩:=r; rfl
 | ref _=>cases r; rfl
 | ty _=>cases r; rfl
theorem RelV.inj {x y:V}{u:Value} (r:RelV x u) (q:RelV y u):x=y:=Option.some.inj (r.abs.symm.trans q.abs)
theorem Vals.inj:∀ {xs ys:List V}{us:List Value},Vals xs us->Vals ys us->xs=ys
 | _,_,_,.nil,.nil=>rfl
 | _,_,_,.cons r t,.cons r' t'=>by rw[r.inj r',Vals.inj t t']
section
variable {X:Cx}{pins:List (Addr × Obj)}{σ:St}{H:Hp}{s:Shared}{a:Addr}{xs ys:List V}
theorem SqL.of {K:PySem.W.Frag} (h:H a=some (.lst xs)):SqL K H a xs:=.inl (.inl h)
theorem SqT.of {K:PySem.W.Frag} (h:H a=some (.tup xs)):SqT K H a xs:=.inl (.inl h)
theorem Inv.list (I:Inv X pins σ H s) (h:SqL X.K H a xs):∃ its:List Value,Vals xs its/\PlainL s.heap a its.toArray/\xs.length<=sizeLine:=by
 rcases h with h | ⟨o,its,n,hk,hc,hd,hs,hz,r⟩
 ·obtain⟨z,its,n,r,e⟩:=h.ok I.hok
  exact⟨its,r,⟨_,n,e,rfl,rfl,rfl⟩,z⟩
 ·refine⟨its.toList,r,⟨o,n,I.kIn a o hk,hc,hd,by simpa using hs⟩,?_⟩
  have e:=r.length
  simp only[Array.length_toList] at e
  omega
theorem Inv.tuple (I:Inv X pins σ H s) (h:SqT X.K H a xs):∃ its:List Value,Vals xs its/\IsTup s.heap a its.toArray/\xs.length<=sizeLine:=by
 rcases h with h | ⟨o,its,n,hk,hc,hs,hz,r⟩
 ·obtain⟨z,its,r,p⟩:=h.ok I.hok
  exact⟨its,r,p.tup,z⟩
 ·refine⟨its.toList,r,⟨o,I.kIn a o hk,hc,n,by simpa using hs⟩,?_⟩
  have e:=r.length
  simp only[Array.length_toList] at e
  omega
theorem Inv.list_inj (I:Inv X pins σ H s) (h:SqL X.K H a xs) (h':SqL X.K H a ys):xs=ys:=by
 obtain⟨its,r,⟨o,n,e,_,_,d⟩,_⟩:=I.list h
 obtain⟨its',r',⟨o',n',e',_,_,d'⟩,_⟩:=I.list h'
 rw[e] at e'; cases e'
 rw[d] at d'
 injection d' with d1 _
 have:its=its':=by simpa using congrArg Array.toList d1
 subst this
 exact r.inj r'
theorem Inv.tuple_inj (I:Inv X pins σ H s) (h:SqT X.K H a xs) (h':SqT X.K H a ys):xs=ys:=by
 obtain⟨its,r,⟨o,e,_,n,d⟩,_⟩:=I.tuple h
 obtain⟨its',r',⟨o',e',_,n',d'⟩,_⟩:=I.tuple h'
 rw[e] at e'; cases e'
 rw[d] at d'
 injection d' with d1 _
 have:its=its':=by simpa using congrArg Array.toList d1
 subst this
 exact r.inj r'
end
abbrev Cx.wish (X:Cx) (E:Value->Shared->Prop):Cx:={ X with xe:=E }
abbrev Cx.nox (X:Cx):Cx:=X.wish fun _ _=>False
theorem Cx.Ok.wish {X:Cx} (ok:X.Ok) (E:Value->Shared->Prop):(X.wish E).Ok :=
 ⟨ok.mod,ok.kind,ok.glob,ok.blt,ok.above,ok.inj,ok.has,ok.cab,ok.hd,ok.frames,ok.stk,ok.exf,ok.bs,ok.bsz,ok.noex,ok.exfs,ok.funs,ok.frf⟩
theorem Cx.Ok.unwish {X:Cx}{E:Value->Shared->Prop} (ok:(X.wish E).Ok):X.Ok :=
 ⟨ok.mod,ok.kind,ok.glob,ok.blt,ok.above,ok.inj,ok.has,ok.cab,ok.hd,ok.frames,ok.stk,ok.exf,ok.bs,ok.bsz,ok.noex,ok.exfs,ok.funs,ok.frf⟩
section
variable {X:Cx}{pins:List (Addr × Obj)}{σ:St}{H:Hp}{s:Shared}{E:Value->Shared->Prop}
theorem Inv.wish (I:Inv X pins σ H s) (E:Value->Shared->Prop):Inv (X.wish E) pins σ H s:=⟨I.ok.wish E,I.os,I.bare,I.base,I.loc,I.cell,I.free,I.freeC,I.pin,I.hok,I.len⟩
theorem Inv.unwish (I:Inv (X.wish E) pins σ H s):Inv X pins σ H s:=⟨I.ok.unwish,I.os,I.bare,I.base,I.loc,I.cell,I.free,I.freeC,I.pin,I.hok,I.len⟩
theorem SP.unwish {D:Ends}{f:Flow}{s':Shared} (h:SP (X.wish E) pins D f s'):SP X pins D f s':=by
 cases f with
 | next=>obtain⟨σ',H',I,q⟩:=h; exact⟨σ',H',I.unwish,q⟩
 | brk=>obtain⟨σ',H',I,q⟩:=h; exact⟨σ',H',I.unwish,q⟩
 | cont=>obtain⟨σ',H',I,q⟩:=h; exact⟨σ',H',I.unwish,q⟩
 | ret u=>obtain⟨v,σ',H',I,r,q⟩:=h; exact⟨v,σ',H',I.unwish,r,q⟩
theorem PSs.nox {st:List Stmt}{t:TS} (h:PSs X.nox st t):PSs X st t:=fun pins s σ H D I hw=>
 wpAny_mono (h pins s σ H D (I.wish _) hw) (fun _ _ q=>q.unwish) fun _ _ z=>False.elim z
end
section
variable {X:Cx}{st:Stmt}{rest:List Stmt}{t u:TS}{e:Expr}{te:TE}{pos:Pos}
def tNext:TS:=fun D σ H=>D.nx σ H
def tSeq (t u:TS):TS:=fun D σ H=>t { D with nx:=u D } σ H
theorem Zabz:PSs X [] tNext:=fun _ _ σ H _ I h=>wpAny_execs_nil ⟨σ,H,I,h⟩
theorem Zaam (h1:PS X st t) (h2:PSs X rest u):PSs X (st::rest) (tSeq t u):=by
 intro pins s σ H D I h
 refine wpAny_execs_cons (thn (h1 pins s σ H { D with nx:=u D } I h) fun f s1 q=>?_)
 cases f with
 | next=>
  obtain⟨σ',H',I',q⟩:=q
  exact h2 pins s1 σ' H' D I' q
 | ret v=>exact q
 | brk=>exact q
 | cont=>exact q
theorem Zaar (h1:PS X st t):PSs X [st] t:=by
 intro pins s σ H D I h
 refine wpAny_execs_cons (thn (h1 pins s σ H D I h) fun f s1 q=>?_)
 cases f with
 | next=>exact wpAny_execs_nil q
 | ret v=>exact q
 | brk=>exact q
 | cont=>exact q
theorem Inv.quiet {pins:List (Addr × Obj)}{σ:St}{H:Hp}{s:Shared} (I:Inv X pins σ H s):interactive X.env=false:=by simp[interactive,I.ok.kind]
def tDrop (te:TE):TS:=fun D σ H=>te σ H fun _ H1=>D.nx σ H1
theorem ZaaZ (he:PE X e te) (hs:swapsWith e none pos.line X.env=pure false:=by rfl):PS X (.Expr e pos) (tDrop te):=by
 intro pins s σ H D I h
 exact wpAny_Expr_any (thn (he pins s σ H _ I h) fun v s1 ⟨x,H1,I1,r1,q1⟩=>⟨σ,H1,I1,q1⟩) I.quiet hs
def tRet (te:TE):TS:=fun D σ H=>te σ H D.rt
theorem Zaax (he:PE X e te):PS X (.Return (some e) pos) (tRet te):=by
 intro pins s σ H D I h
 exact wpAny_Return_some (thn (he pins s σ H _ I h) fun v s1 ⟨x,H1,I1,r1,q1⟩=>⟨x,σ,H1,I1,r1,q1⟩)
def tIfS (c:TT) (t u:TS):TS:=fun D σ H=>c σ H fun b H1=>if b=true then t D σ H1 else u D σ H1
theorem ps_if {c:Expr}{a b:List Stmt}{tc:TT} (hc:PT X c tc) (ha:PSs X a t) (hb:PSs X b u):PS X (.If c a b pos) (tIfS tc t u):=by
 intro pins s σ H D I h
 refine wpAny_If (thn (hc pins s σ H _ I h) fun d s1 ⟨H1,I1,q1⟩=>?_)
 cases d with
 | true=>exact ha pins s1 σ H1 D I1 q1
 | false=>exact hb pins s1 σ H1 D I1 q1
def ZalO:TS:=fun _ _ _=>False
theorem ZaaV {sts:List Stmt}:PSs X sts ZalO:=fun _ _ _ _ _ _ h=>h.elim
end
abbrev TG:=V->St->Hp->(St->Hp->Prop)->Prop
abbrev TGs:=List V->St->Hp->(St->Hp->Prop)->Prop
def PG (X:Cx) (target:Expr) (t:TG):Prop :=
 ∀ (pins:List (Addr × Obj)) (s:Shared) (σ:St) (H:Hp) (v:V) (u:Value) (Q:St->Hp->Prop),Inv X pins σ H s->RelV v u->t v σ H Q ->
  wpAny (model X.prog X.w) X.A (assign target X.env u) (fun _ s'=>∃ σ' H',Inv X pins σ' H' s'/\Q σ' H') X.xe s
def PGs (X:Cx) (ts:List Expr) (t:TGs):Prop :=
 ∀ (pins:List (Addr × Obj)) (s:Shared) (σ:St) (H:Hp) (vs:List V) (us:List Value) (Q:St->Hp->Prop),Inv X pins σ H s->Vals vs us->t vs σ H Q ->
  wpAny (model X.prog X.w) X.A (assignInOrder ((assignEach ts X.env).map (·.2)) us) (fun _ s'=>∃ σ' H',Inv X pins σ' H' s'/\Q σ' H') X.xe s
abbrev TSet:=V->V->V->Hp->(Hp->Prop)->Prop
def PSet (X:Cx) (t:TSet):Prop :=
 ∀ (pins:List (Addr × Obj)) (s:Shared) (σ:St) (H:Hp) (o i v:V) (ov iv u:Value) (Q:Hp->Prop),Inv X pins σ H s->RelV o ov->RelV i iv->RelV v u->t o i v H Q ->
  wpAny (model X.prog X.w) X.A (setItem ov iv u) (fun _ s'=>∃ H',Inv X pins σ H' s'/\Q H') X.xe s
abbrev TIp:=V->V->Hp->VK->Prop
def PIp (X:Cx) (op:Operator) (t:TIp):Prop :=
 ∀ (pins:List (Addr × Obj)) (s:Shared) (σ:St) (H:Hp) (x y:V) (v u:Value) (Q:VK),Inv X pins σ H s->RelV x v->RelV y u->t x y H Q ->
  wpAny (model X.prog X.w) X.A (inplaceOp op v u) (EP X pins σ Q) X.xe s
section
variable {X:Cx}{pos:Pos}
def gName (i:Nat):TG:=fun v σ H Q=>Q (σ.set i (some v)) H
theorem Zaak {i:Nat}{x:Str} (hN:X.N.Nodup) (hi:X.N[i]?=some x) (hx:Loc X.env.scope x) (hf:X.fn x=true∨X.env.scope.names.lookup x=some .local:=by first | exact .inl rfl | exact .inr rfl | assumption):PG X (.Name x pos) (gName i):=by
 intro pins s σ H v u Q I r h
 exact wpAny_assign_Name (ZacM I hN hi hx r (fun s' I'=>⟨_,H,I',h⟩) hf)
def gNil:TGs:=fun vs σ H Q=>vs=[]/\Q σ H
def gCons (t:TG) (u:TGs):TGs:=fun vs σ H Q=>∃ v r,vs=v::r/\t v σ H fun σ' H'=>u r σ' H' Q
theorem Zabo:PGs X [] gNil:=by
 intro pins s σ H vs us Q I r h
 obtain⟨e,h⟩:=h
 subst e
 cases r
 exact assignInOrder_nil ⟨σ,H,I,h⟩
theorem Zaaw {e : Expr} {es : List Expr} {t : TG} {u : TGs} (h1 : PG X e t) (h2 : PGs X es u)
  (hs:(assignEach (e::es) X.env).map (·.2)=assign e X.env::(assignEach es X.env).map (·.2):=by rfl):PGs X (e::es) (gCons t u):=by
 intro pins s σ H vs us Q I r h
 obtain⟨v,vr,e1,h⟩:=h
 subst e1
 cases r with
 | cons r rr=>
  rw[hs]
  refine assignInOrder_cons (thn (h1 pins s σ H _ _ _ I r h) fun _ s1 ⟨σ1,H1,I1,q1⟩=>?_)
  exact h2 pins s1 σ1 H1 _ _ Q I1 rr q1
def gTup (K:PySem.W.Frag) (n:Nat) (t:TGs):TG:=fun v σ H Q=>∃ a xs,v=.ref a/\SqT K H a xs/\xs.length=n/\t xs σ H Q
theorem ZadZ {es : List Expr} {k : Nat} {t : TGs} {n : Nat} (hc : X.calm = true) (h : PGs X es t)
  (hn:(assignEach es X.env).length=n:=by rfl) (hst:(assignEach es X.env).findIdx? (·.1)=none:=by rfl):PG X (.Tuple es k pos) (gTup X.K n t):=by
 intro pins s σ H v u Q I r hw
 obtain⟨a,xs,e1,hq,hl,hw⟩:=hw
 subst e1
 cases r
 obtain⟨its,rv,ht,hz⟩:=I.tuple hq
 refine assign_Tuple_tuple (I.ok.hd hc) ht (by simp[hn,<- hl,rv.length]) hst fun h' hx=>?_
 have I1:Inv X pins σ H { s with heap:=h' }:=I.kept (t':=s.toks) fun b o e=>hx b o (Nat.ne_of_lt (Heap.lt_size e)) e
 exact h pins _ σ H xs _ Q I1 (by simpa using rv) hw
def gSub (to ti:TE) (t:TSet):TG:=fun v σ H Q=>to σ H fun o H1=>ti σ H1 fun i H2=>t o i v H2 fun H3=>Q σ H3
theorem ZakP {o i : Expr} {to ti : TE} {t : TSet} (ho : PE X o to) (hi : PE X i ti) (hs : PSet X t)
  (ha:∀ v,assign (.Subscript o i pos) X.env v=(do
   let ov <- holding [v] (eval o X.env)
   let iv <- holding [v,ov] (eval i X.env)
   standAt pos
   holding [v,ov,iv] (setItem ov iv v)
   release [v,ov,iv] []):=by intro _; rfl):PG X (.Subscript o i pos) (gSub to ti t):=by
 intro pins s σ H v u Q I r h
 rw[ha]
 refine wpAny_bind (wpAny_holding (thn (ho pins s σ H _ I h) fun ov s1 ⟨x,H1,I1,r1,q1⟩=>?_))
 refine wpAny_bind (wpAny_holding (thn (hi pins s1 σ H1 _ I1 q1) fun iv s2 ⟨y,H2,I2,r2,q2⟩=>?_))
 refine wpAny_bind (wpAny_standAt (wpAny_bind (wpAny_holding (thn (hs pins s2 σ H2 x y v ov iv u _ I2 r1 r2 r q2) fun _ s3 ⟨H3,I3,q3⟩=>?_))))
 exact wpAny_release ⟨σ,H3,I3,q3⟩
def tAsg (te:TE) (g:TG):TS:=fun D σ H=>te σ H fun x H1=>g x σ H1 D.nx
theorem Zahi {tg e : Expr} {te : TE} {g : TG} (he : PE X e te) (hg : PG X tg g) (hs : swapsWithSole [tg] e pos.line X.env = pure false := by rfl) (hw : swappedStores [tg] e X.env = pure none := by rfl)
  (h1:(assignEach [tg] X.env).map (·.2)=[assign tg X.env]:=by rfl):PS X (.Assign [tg] e pos) (tAsg te g):=by
 intro pins s σ H D I h
 refine wpAny_Assign_stores (thn (he pins s σ H _ I h) fun v s1 ⟨x,H1,I1,r1,q1⟩=>?_) hs hw
 rw[h1]
 exact thn (hg pins s1 σ H1 x v _ I1 r1 q1) fun _ s2 q=>q
theorem Zaaq {i : Nat} {x : Str} {e : Expr} {te : TE} {pos' : Pos} (hN : X.N.Nodup) (hi : X.N[i]? = some x) (hx : Loc X.env.scope x) (he : PE X e te) (hs : swapsWith e (some (.Name x pos')) pos.line X.env = pure false := by rfl) (hf : X.fn x = true ∨ X.env.scope.names.lookup x = some .local := by first | exact .inl rfl | exact .inr rfl | assumption) :
  PS X (.Assign [.Name x pos'] e pos) (tAsg te (gName i)):=by
 intro pins s σ H D I h
 refine wpAny_Assign_Name (thn (he pins s σ H _ I h) fun v s1 ⟨y,H1,I1,r1,q1⟩=>?_) hs
 exact ZacM I1 hN hi hx r1 (fun s2 I2=>⟨_,H1,I2,q1⟩) hf
def tAug (i:Nat) (te:TE) (ti:TIp):TS:=fun D σ H=>∃ x,σ[i]?=some (some x)/\te σ H fun y H1=>ti x y H1 fun z H2=>D.nx (σ.set i (some z)) H2
theorem ZakM {i : Nat} {x : Str} {e : Expr} {te : TE} {op : Operator} {ti : TIp} {pos' : Pos} (hN : X.N.Nodup) (hi : X.N[i]? = some x) (hx : Loc X.env.scope x) (he : PE X e te) (ho : PIp X op ti) (hf : X.fn x = true ∨ X.env.scope.names.lookup x = some .local := by first | exact .inl rfl | exact .inr rfl | assumption) :
  PS X (.AugAssign (.Name x pos') op e pos) (tAug i te ti):=by
 intro pins s σ H D I h
 obtain⟨v,e1,h⟩:=h
 obtain⟨m,hn,hl⟩:=I.loc
 have vis:Vis X.env.scope x:=by rcases hx with k | k; exact .inl k; exact .inr (.inl k)
 obtain⟨u,r,l⟩:=hl i x v hi e1 vis
 refine wpAny_AugAssign_Name ?_
 have go:wpAny (model X.prog X.w) X.A (eval e X.env) (fun w s₂=>wpAny (model X.prog X.w) X.A (inplaceOp op u w) (fun r s₃=>wpAny (model X.prog X.w) X.A (storeName X.env x r) (fun _=>SP X pins D .next) X.xe s₃) X.xe s₂) X.xe s:=by
  refine thn (he pins s σ H _ I h) fun w s1 ⟨y,H1,I1,r1,q1⟩=>?_
  refine thn (ho pins s1 σ H1 v y u w _ I1 r r1 q1) fun z s2 ⟨zv,H2,I2,r2,q2⟩=>?_
  exact ZacM I2 hN hi hx r2 (fun s3 I3=>⟨_,H2,I3,q2⟩) hf
 rcases l with ⟨hk,hm⟩ | ⟨hk,c,hc,hcell⟩
 ·exact wpAny_loadName_local I.ok.kind hk hn hm go
 ·rcases hk with hk | hk
  ·exact wpAny_loadName_cell I.ok.kind hk hc hcell go
  ·rcases hx with k | k
   ·have:X.env.scope.names.lookup x=some .free:=hk
    rw[k] at this; cases this
   ·have:X.env.scope.names.lookup x=some .free:=hk
    rw[k] at this; cases this
def ipI (f:Int->Int->Int):TIp:=fun x y H Q=>∃ i j,x=.int i/\y=.int j/\Q (.int (f i j)) H
theorem Zamn:PIp X .Add (ipI fun i j=>i+j):=by
 intro pins s σ H x y v u Q I r1 r2 h
 obtain⟨i,j,e1,e2,q⟩:=h
 subst e1; subst e2
 obtain⟨t,rfl⟩:=r1
 obtain⟨t',rfl⟩:=r2
 exact iadd_int ⟨.int _,H,I.tok _,⟨_,rfl⟩,q⟩
theorem Zamm:PIp X .Sub (ipI fun i j=>i - j):=by
 intro pins s σ H x y v u Q I r1 r2 h
 obtain⟨i,j,e1,e2,q⟩:=h
 subst e1; subst e2
 obtain⟨t,rfl⟩:=r1
 obtain⟨t',rfl⟩:=r2
 exact isub_int ⟨.int _,H,I.tok _,⟨_,rfl⟩,q⟩
end
section
variable {X:Cx}{pos:Pos}
def ZalM (c:TT) (tb:TS):TS:=fun D σ H=>∃ W:Nat->St->Hp->Prop,(∃ m,W m σ H)/\∀ m σ H,W m σ H ->
 c σ H fun b H1=>if b=true then ∃ N:St->Hp->Prop,(∀ σ' H',N σ' H'->∃ m',m'<m/\W m' σ' H')/\tb { D with nx:=N,ct:=N,bk:=D.nx } σ H1 else D.nx σ H1
theorem Zajk {c:Expr}{body:List Stmt}{tc:TT}{tb:TS} (hp:PassesOwn (model X.prog X.w) X.A X.env X.xe) (hc:PT X c tc) (hb:PSs X body tb):PS X (.While c body [] pos) (ZalM tc tb):=by
 intro pins s σ H D I h
 obtain⟨W,⟨m0,w0⟩,turn⟩:=h
 refine wpAny_While (codeAny_whileLoop (fun n s'=>∃ σ' H',Inv X pins σ' H' s'/\W n σ' H') ?_ m0 ⟨σ,H,I,w0⟩)
 rintro n s1 ⟨σ1,H1,I1,w1⟩
 refine wpAny_passesOwn hp (thn (hc pins s1 σ1 H1 _ I1 (turn n σ1 H1 w1)) fun b s2 ⟨H2,I2,q2⟩=>?_)
 cases b with
 | true=>
  obtain⟨N,hN,q2⟩:=q2
  rw[if_pos rfl]
  refine wpAny_passesOwn hp (thn (hb pins s2 σ1 H2 _ I2 q2) fun f s3 q3=>?_)
  cases f with
  | next=>
   obtain⟨σ3,H3,I3,n3⟩:=q3
   obtain⟨m',hm,w3⟩:=hN σ3 H3 n3
   exact⟨m',hm,σ3,H3,I3,w3⟩
  | cont=>
   obtain⟨σ3,H3,I3,n3⟩:=q3
   obtain⟨m',hm,w3⟩:=hN σ3 H3 n3
   exact⟨m',hm,σ3,H3,I3,w3⟩
  | brk=>exact q3
  | ret v=>exact q3
 | false=>
  rw[if_neg Bool.false_ne_true]
  exact wpAny_execs_nil ⟨σ1,H2,I2,q2⟩
end
structure It where
 go:Nat->Hp->Prop
 yld:Nat->Hp->V->Hp->Prop
 stop:Nat->Hp->Prop
def FpOk (X:Cx) (pins:List (Addr × Obj)) (H:Hp) (b:Addr):Prop :=
 H b=none/\b≠X.env.locals/\b ∉ X.fs/\(b∈X.ex∨X.s₀.heap.objs.size<=b)/\(∀ x c,X.env.cells.lookup x=some c->c≠b)/\∀ p∈X.pn++pins,p.1≠b
theorem Inv.fpOk {X:Cx}{pins:List (Addr × Obj)}{σ:St}{H H':Hp}{s:Shared}{b:Addr} (I:Inv X pins σ H s) (hb:s.heap.objs.size<=b) (hn:H' b=none):FpOk X pins H' b:=by
 refine⟨hn,Nat.ne_of_gt (Nat.lt_of_lt_of_le I.lt hb),I.nofs hb,.inr (Nat.le_trans I.sz hb),fun x c e z=>?_,fun p hp z=>?_⟩
 ·obtain⟨v,q⟩:=I.cell x c e
  exact absurd (Nat.lt_of_lt_of_le q.lt (by rw[z]; exact hb)) (Nat.lt_irrefl _)
 ·exact absurd (Nat.lt_of_lt_of_le (Heap.lt_size (I.pin p hp).1) (by rw[z]; exact hb)) (Nat.lt_irrefl _)
structure Turn (P:Program) (w:World) (K:PySem.W.Frag) (tg:Expr) (J:It) (fp:List Addr) (it:Addr) (tn:Nat->Heap->Prop):Prop where
 mem:it∈fp
 obj:∀ i h,tn i h->∀ b∈fp,∃ o,h.get? b=some o/\∀ v,o.data≠.cell v
 keep:∀ i h h',tn i h->(∀ b∈fp,∀ o,h.get? b=some o->h'.get? b=some o)->tn i h'
 item:∀ (X:Cx),X.prog=P->X.w=w->X.K=K->X.calm=true->∀ (i:Nat) (pins:List (Addr × Obj)) (s:Shared) (σ:St) (H:Hp) (E:Value->Shared->Prop),Inv X pins σ H s->(∀ b∈fp,FpOk X pins H b)->tn i s.heap->J.go i H ->
  wpAny (model P w) X.A (pyNext (.ref it)) (fun r s1=>∃ u,r=some u /\
   wpAny (model P w) X.A (letOwnedTupleGo tg (.ref it) u) (fun _ s2=>∃ x H',Inv X pins σ H' s2/\RelV x u/\J.yld i H x H'/\tn (i+1) s2.heap/\∀ b∈fp,H' b=none) E s1) E s
 done:∀ (X:Cx),X.prog=P->X.w=w->X.K=K->X.calm=true->∀ (i:Nat) (pins:List (Addr × Obj)) (s:Shared) (σ:St) (H:Hp) (E:Value->Shared->Prop),Inv X pins σ H s->(∀ b∈fp,FpOk X pins H b)->tn i s.heap->J.stop i H ->
  wpAny (model P w) X.A (pyNext (.ref it)) (fun r s1=>r=none/\Inv X pins σ H s1) E s
 self:∀ (A:Around) (i:Nat) (s:Shared) (Q:Value->Shared->Prop) (E:Value->Shared->Prop),tn i s.heap->Q (.ref it) s->wpAny (model P w) A (pyIter (.ref it)) Q E s
abbrev TI:=St->Hp->(It->Hp->Prop)->Prop
def PIE (X:Cx) (pins:List (Addr × Obj)) (σ:St) (tg:Expr) (R:It->Hp->Prop) (itv:Value) (s2:Shared):Prop :=
 ∃ (it:Addr) (fp:List Addr) (tn:Nat->Heap->Prop) (J:It) (H':Hp),itv=.ref it/\Inv X pins σ H' s2/\Turn X.prog X.w X.K tg J fp it tn/\tn 0 s2.heap/\(∀ b∈fp,FpOk X pins H' b)/\R J H'
def PI (X:Cx) (tg iter:Expr) (wi:TI):Prop :=
 ∀ (pins:List (Addr × Obj)) (s:Shared) (σ:St) (H:Hp) (R:It->Hp->Prop),Inv X pins σ H s->wi σ H R ->
  wpAny (model X.prog X.w) X.A (eval iter X.env) (fun v s1=>wpAny (model X.prog X.w) X.A (pyIter v) (PIE X pins σ tg R) X.xe s1) X.xe s
theorem go_of {M : Model} {A : Around} {E : Value → Shared → Prop} {s : Shared} {tg : Expr} {it : Addr} {u : Value} {o : Obj} {n : String} {vs : Array Value} {Q : Unit → Shared → Prop} (ho : s.heap.get? it = some o) (hc : o.cls = .type n) (hd : o.data = .fields vs)
    (hn:["enumerate","zip","dict_itemiterator","dict_reverseitemiterator","odict_iterator","itertools.zip_longest","itertools.pairwise"].contains n=false) (hQ:Q () s):wpAny M A (letOwnedTupleGo tg (.ref it) u) Q E s:=by
  unfold letOwnedTupleGo
  cases tg <;> first
    | exact wpAny_pure hQ
    | (cases u <;> first
        | exact wpAny_pure hQ
        | (refine wpAny_bind (wpAny_load ho ?_)
           rw[hc,hd]
           show wpAny M A (if (["enumerate","zip","dict_itemiterator","dict_reverseitemiterator","odict_iterator","itertools.zip_longest","itertools.pairwise"].contains n && vs[0]? == some (rawInt _))=true then _ else _) Q E s
           rw[if_neg (by intro h; rw[hn,Bool.false_and] at h; cases h)]
           exact wpAny_pure hQ))
def Itl (K:PySem.W.Frag) (a:Addr):It :=
 ⟨fun i H=>∃ xs x,SqL K H a xs/\xs[i]?=some x,fun i H x H'=>H'=H/\∀ xs,SqL K H a xs->xs[i]?=some x,fun i H=>∃ xs,SqL K H a xs/\xs.length<=i⟩
def Itt (K:PySem.W.Frag) (a:Addr):It :=
 ⟨fun i H=>∃ xs x,SqT K H a xs/\xs[i]?=some x,fun i H x H'=>H'=H/\∀ xs,SqT K H a xs->xs[i]?=some x,fun i H=>∃ xs,SqT K H a xs/\xs.length<=i⟩
def Itr (lo:Int) (n:Nat):It:=⟨fun i _=>i<n,fun i H x H'=>H'=H/\x=.int (lo+i),fun i _=>n<=i⟩
theorem Zaen {P:Program}{w:World}{K:PySem.W.Frag}{tg:Expr} (a it:Addr):Turn P w K tg (Itl K a) [it] it (fun i h=>h.IsListIter it a i) where
 mem:=by simp
 obj:=fun i h st b hb=>by
  have e:b=it:=by simpa using hb
  subst e
  obtain⟨o,e,c,d⟩:=st
  exact⟨o,e,fun v z=>by rw[d] at z; cases z⟩
 keep:=fun i h h' st k=>st.at fun o e=>k it (by simp) o e
 item:=by
  intro X hP hw hK hc i pins s σ H E I hf st hg
  subst hP hw hK
  obtain⟨xs,x,hq,hx⟩:=hg
  obtain⟨its,rv,p,hz⟩:=I.list hq
  obtain⟨u,hu,ru⟩:=rv.get hx
  obtain⟨f0,f1,f2,f3,f4,f5⟩:=hf it (by simp)
  refine wpAny_pyNext_list_item st p.isList (x:=u) (by simpa using hu) fun h' st' sb=>?_
  have I1:Inv X pins σ H { s with heap:=h' }:=I.turned (t':=s.toks) (fun b o hb e=>(sb.2 b hb).trans e) f0 f1 f3 f4 f5
  obtain⟨o,e,c,d⟩:=id st'
  exact⟨u,rfl,go_of (s:={ s with heap:=h' }) e c d (by decide) ⟨x,H,I1,ru,⟨rfl,fun ys hy=>by rw[I.list_inj hy hq]; exact hx⟩,st',fun b hb=>(hf b hb).1⟩⟩
 done:=by
  intro X hP hw hK hc i pins s σ H E I hf st hg
  subst hP hw hK
  obtain⟨xs,hq,hx⟩:=hg
  obtain⟨its,rv,p,hz⟩:=I.list hq
  obtain⟨f0,f1,f2,f3,f4,f5⟩:=hf it (by simp)
  have hl:=rv.length
  exact wpAny_pyNext_list_end (I.ok.hd hc) st p.isList (by simp; omega) fun h' eb=>⟨rfl,I.turned (t':=s.toks) (fun b o hb e=>eb b o hb e) f0 f1 f3 f4 f5⟩
 self:=fun _ _ _ _ _ st h=>wpAny_pyIter_listiter st h
theorem Zadc {P:Program}{w:World}{K:PySem.W.Frag}{tg:Expr} (a it:Addr):Turn P w K tg (Itt K a) [it] it (fun i h=>h.IsTupleIter it a i) where
 mem:=by simp
 obj:=fun i h st b hb=>by
  have e:b=it:=by simpa using hb
  subst e
  obtain⟨o,e,c,d⟩:=st
  exact⟨o,e,fun v z=>by rw[d] at z; cases z⟩
 keep:=fun i h h' st k=>st.at fun o e=>k it (by simp) o e
 item:=by
  intro X hP hw hK hc i pins s σ H E I hf st hg
  subst hP hw hK
  obtain⟨xs,x,hq,hx⟩:=hg
  obtain⟨its,rv,p,hz⟩:=I.tuple hq
  obtain⟨u,hu,ru⟩:=rv.get hx
  obtain⟨f0,f1,f2,f3,f4,f5⟩:=hf it (by simp)
  refine wpAny_pyNext_tuple_item st (show s.heap.IsTuple a its.toArray from p) (x:=u) (by simpa using hu) fun h' st' sb=>?_
  have I1:Inv X pins σ H { s with heap:=h' }:=I.turned (t':=s.toks) (fun b o hb e=>(sb.2 b hb).trans e) f0 f1 f3 f4 f5
  obtain⟨o,e,c,d⟩:=id st'
  exact⟨u,rfl,go_of (s:={ s with heap:=h' }) e c d (by decide) ⟨x,H,I1,ru,⟨rfl,fun ys hy=>by rw[I.tuple_inj hy hq]; exact hx⟩,st',fun b hb=>(hf b hb).1⟩⟩
 done:=by
  intro X hP hw hK hc i pins s σ H E I hf st hg
  subst hP hw hK
  obtain⟨xs,hq,hx⟩:=hg
  obtain⟨its,rv,p,hz⟩:=I.tuple hq
  obtain⟨f0,f1,f2,f3,f4,f5⟩:=hf it (by simp)
  have hl:=rv.length
  exact wpAny_pyNext_tuple_end (I.ok.hd hc) st (show s.heap.IsTuple a its.toArray from p) (by simp; omega) fun h' eb=>⟨rfl,I.turned (t':=s.toks) (fun b o hb e=>eb b o hb e) f0 f1 f3 f4 f5⟩
 self:=fun _ _ _ _ _ st h=>wpAny_pyIter_tupleiter st h
theorem ZafC {P:Program}{w:World}{K:PySem.W.Frag}{tg:Expr} (it:Addr) (lo:Int) (n:Nat):Turn P w K tg (Itr lo n) [it] it (fun i h=>IsRangeIter h it (lo+(i:Nat)*1) ((n:Int) - (i:Nat)) 1) where
 mem:=by simp
 obj:=fun i h st b hb=>by
  have e:b=it:=by simpa using hb
  subst e
  exact⟨_,st,fun v z=>by
   have z':Data.fields _=Data.cell v:=z
   cases z'⟩
 keep:=fun i h h' st k=>k it (by simp) _ st
 item:=by
  intro X hP hw hK hc i pins s σ H E I hf st hg
  subst hP hw hK
  obtain⟨f0,f1,f2,f3,f4,f5⟩:=hf it (by simp)
  have W:=Walks.range (prog:=X.prog) (w:=X.w) (I.ok.hd hc) it lo 1 n
  refine W.item i s _ _ hg st fun v h' tk hv st' kk=>?_
  obtain⟨t,rfl⟩:=hv
  have I1:Inv X pins σ H { s with heap:=h',toks:=tk }:=I.turned (fun b o hb e=>kk b o (by simpa using hb) e) f0 f1 f3 f4 f5
  refine⟨_,rfl,go_of (s:={ s with heap:=h',toks:=tk }) (n:="range_iterator") st' rfl rfl (by decide) ⟨.int (lo+i),H,I1,⟨t,?_⟩,⟨rfl,rfl⟩,st',fun b hb=>(hf b hb).1⟩⟩
  rw[Int.mul_one]
 done:=by
  intro X hP hw hK hc i pins s σ H E I hf st hg
  subst hP hw hK
  obtain⟨f0,f1,f2,f3,f4,f5⟩:=hf it (by simp)
  exact wpAny_pyNext_range_end (I.ok.hd hc) st (by have:n<=i:=hg; omega) fun h' eb=>⟨rfl,I.turned (t':=s.toks) (fun b o hb e=>eb b o hb e) f0 f1 f3 f4 f5⟩
 self:=fun _ _ _ _ _ st h=>wpAny_pyIter_rangeiter st h
end L2
namespace L2
open PySem PySem.Spec PyProof.Rows
section
variable {X:Cx}{tg:Expr}
def iList (K:PySem.W.Frag) (tl:TE):TI:=fun σ H R=>tl σ H fun x H1=>∃ a,x=.ref a/\(∃ xs,SqL K H1 a xs)/\R (Itl K a) H1
def iTup (K:PySem.W.Frag) (tl:TE):TI:=fun σ H R=>tl σ H fun x H1=>∃ a,x=.ref a/\(∃ xs,SqT K H1 a xs)/\R (Itt K a) H1
theorem Zadp {l:Expr}{tl:TE} (hl:PE X l tl):PI X tg l (iList X.K tl):=by
 intro pins s σ H R I h
 refine thn (hl pins s σ H _ I h) fun v s1 ⟨x,H1,I1,r1,q1⟩=>?_
 obtain⟨a,e,⟨xs,hq⟩,q⟩:=q1
 subst e
 cases r1
 obtain⟨its,rv,p,hz⟩:=I1.list hq
 refine wpAny_pyIter_list p.isList ?_
 refine⟨s1.heap.objs.size,[s1.heap.objs.size],_,_,H1,rfl,I1.kept (t':=s1.toks) fun b o e=>Heap.get?_push_of_some _ e,Zaen a _,⟨_,Heap.get?_push_size _ rfl,rfl,rfl⟩,fun b hb=>?_,q⟩
 have e:b=s1.heap.objs.size:=by simpa using hb
 subst e
 exact I1.fpOk (Nat.le_refl _) (I1.hok.fresh (Nat.le_refl _))
theorem Zaf9 {l:Expr}{tl:TE} (hl:PE X l tl):PI X tg l (iTup X.K tl):=by
 intro pins s σ H R I h
 refine thn (hl pins s σ H _ I h) fun v s1 ⟨x,H1,I1,r1,q1⟩=>?_
 obtain⟨a,e,⟨xs,hq⟩,q⟩:=q1
 subst e
 cases r1
 obtain⟨its,rv,p,hz⟩:=I1.tuple hq
 refine wpAny_pyIter_tuple (show s1.heap.IsTuple a its.toArray from p) ?_
 refine⟨s1.heap.objs.size,[s1.heap.objs.size],_,_,H1,rfl,I1.kept (t':=s1.toks) fun b o e=>Heap.get?_push_of_some _ e,Zadc a _,⟨_,Heap.get?_push_size _ rfl,rfl,rfl⟩,fun b hb=>?_,q⟩
 have e:b=s1.heap.objs.size:=by simpa using hb
 subst e
 exact I1.fpOk (Nat.le_refl _) (I1.hok.fresh (Nat.le_refl _))
theorem Zaf6 {pins : List (Addr × Obj)} {σ : St} {H : Hp} {s : Shared} {R : It → Hp → Prop} {E : Value → Shared → Prop} {lo hi : Int} {t u v : Tok} {tk : Nat} (I : Inv X pins σ H s) (h1 : -(2 ^ 62) ≤ lo) (h2 : lo < 2 ^ 62) (h3 : -(2 ^ 62) ≤ hi) (h4 : hi < 2 ^ 62)
  (q:R (Itr lo (hi - lo).toNat) H):wpAny (model X.prog X.w) X.A (pyIter (.ref s.heap.objs.size)) (PIE X pins σ tg R) E { s with heap:=s.heap.push { cls:=.type "range",data:=.fields #[.int lo t,.int hi u,.int 1 v] },toks:=tk }:=by
 refine wpAny_pyIter_range (IsRange.new ..) (small_one h1 h2 h3 h4) ?_
 have I1:Inv X pins σ H { s with heap:=s.heap.push { cls:=.type "range",data:=.fields #[.int lo t,.int hi u,.int 1 v] },toks:=tk }:=I.kept fun b o e=>Heap.get?_push_of_some _ e
 refine⟨(s.heap.push { cls:=.type "range",data:=.fields #[.int lo t,.int hi u,.int 1 v] }).objs.size,[(s.heap.push { cls:=.type "range",data:=.fields #[.int lo t,.int hi u,.int 1 v] }).objs.size],_,_,H,rfl,
  I1.kept (t':=tk) fun b o e=>Heap.get?_push_of_some _ e,ZafC _ lo (hi - lo).toNat,?_,fun b hb=>?_,q⟩
 ·have e1:lo+((0:Nat):Int)*1=lo:=by simp
  have e2:(((hi - lo).toNat:Nat):Int) - ((0:Nat):Int)=Builtin.Range.rangeSize lo hi 1:=by rw[rangeSize_one]; split <;> omega
  show IsRangeIter _ _ (lo+((0:Nat):Int)*1) ((((hi - lo).toNat:Nat):Int) - ((0:Nat):Int)) 1
  rw[e1,e2]
  exact Heap.get?_push_size _ rfl
 ·have e:b=(s.heap.push { cls:=.type "range",data:=.fields #[.int lo t,.int hi u,.int 1 v] }).objs.size:=by simpa using hb
  subst e
  exact I1.fpOk (Nat.le_refl _) (I1.hok.fresh (Nat.le_refl _))
def iRng1 (ta:TA):TI:=fun σ H R=>ta σ H fun vs H1=>∃ j:Int,vs=[.int j]/\-(2 ^ 62)<=j/\j<2 ^ 62/\R (Itr 0 j.toNat) H1
def iRng2 (ta:TA):TI:=fun σ H R=>ta σ H fun vs H1=>∃ i j:Int,vs=[.int i,.int j]/\(-(2 ^ 62)<=i/\i<2 ^ 62/\-(2 ^ 62)<=j/\j<2 ^ 62)/\R (Itr i (j - i).toNat) H1
theorem Zaa5 {a:Expr}{ta:TA}{p pos:Pos} (hg:Gl X "range") (hm:X.mg "range"=none) (ha:PA X [a] ta) (hs:starEach [a] X.env=[(false,eval a X.env)]:=by rfl):PI X tg (.Call (.Name "range" p) [a] [] pos) (iRng1 ta):=by
 intro pins s σ H R I h
 refine Call_ (Zad5 I hg hm boot_range (PyProof.Rows.callWith_type1 (thn (ha pos pins s σ H _ I h) fun us s1 ⟨vs,H1,I1,r1,q1⟩=>?_) hs rfl))
 obtain⟨j,e,q1,q2,q⟩:=q1
 subst e
 cases r1 with
 | cons r rr=>
  cases rr
  obtain⟨t,rfl⟩:=r
  exact call_range_1 (Zaf6 I1 (by omega) (by omega) q1 q2 (by simpa using q))
theorem ZabY {a b : Expr} {ta : TA} {p pos : Pos} (hg : Gl X "range") (hm : X.mg "range" = none) (ha : PA X [a, b] ta) (hs : starEach [a, b] X.env = [(false, eval a X.env), (false, eval b X.env)] := by rfl) (hs2 : starEach [b] X.env = [(false, eval b X.env)] := by rfl) :
  PI X tg (.Call (.Name "range" p) [a,b] [] pos) (iRng2 ta):=by
 intro pins s σ H R I h
 refine Call_ (Zad5 I hg hm boot_range (PyProof.Rows.callWith_type1 (thn (ha pos pins s σ H _ I h) fun us s1 ⟨vs,H1,I1,r1,q1⟩=>?_) (by rw[hs,hs2]) (by rw[hs2]; rfl)))
 obtain⟨i,j,e,⟨q1,q2,q3,q4⟩,q⟩:=q1
 subst e
 cases r1 with
 | cons r rr=>
  cases rr with
  | cons r' rr=>
   cases rr
   obtain⟨t,rfl⟩:=r
   obtain⟨t',rfl⟩:=r'
   exact call_range_2 (Zaf6 I1 q1 q2 q3 q4 q)
def tFor (wi:TI) (g:TG) (tb:TS):TS:=fun D σ H=>wi σ H fun J H1=>∃ W:Nat->Nat->St->Hp->Prop,(∃ m,W 0 m σ H1)/\∀ i m σ H,W i m σ H ->
 (J.stop i H/\D.nx σ H)∨(J.go i H/\∃ N:St->Hp->Prop,(∀ σ' H',N σ' H'->∃ m',m'<m/\W (i+1) m' σ' H')/\∀ x H',J.yld i H x H'->g x σ H' fun σ2 H2=>tb { D with nx:=N,ct:=N,bk:=D.nx } σ2 H2)
def Zadn (fp:List Addr) (h:Heap):List (Addr × Obj):=fp.filterMap fun b=>(h.get? b).map fun o=>(b,o)
theorem ZaaG {fp:List Addr}{h:Heap}{b:Addr}{o:Obj} (hb:b∈fp) (e:h.get? b=some o):(b,o)∈Zadn fp h:=List.mem_filterMap.mpr ⟨b,hb,by rw[e]; rfl⟩
theorem Zahz {fp:List Addr}{h:Heap}{p:Addr × Obj} (hp:p∈Zadn fp h):p.1∈fp/\h.get? p.1=some p.2:=by
 obtain⟨b,hb,e⟩:=List.mem_filterMap.mp hp
 cases q:h.get? b with
 | none=>rw[q] at e; cases e
 | some o=>
  rw[q] at e
  have e':(b,o)=p:=Option.some.inj e
  subst e'
  exact⟨hb,q⟩
theorem Inv.pinned {pins:List (Addr × Obj)}{σ:St}{H:Hp}{s:Shared}{fp:List Addr} (I:Inv X pins σ H s) (hf:∀ b∈fp,FpOk X pins H b) (ho:∀ b∈fp,∃ o,s.heap.get? b=some o/\∀ v,o.data≠.cell v):Inv X (pins++Zadn fp s.heap) σ H s :=
 I.pins_of fun p hp=>(List.mem_append.mp hp).elim (fun z=>I.pin p (List.mem_append_right _ z)) fun z=>by
  obtain⟨hb,e⟩:=Zahz z
  obtain⟨f0,f1,f2,_⟩:=hf p.1 hb
  obtain⟨o,e',d⟩:=ho p.1 hb
  rw[e] at e'; cases e'
  exact⟨e,f0,f1,f2,d⟩
theorem Inv.unpinned {pins pl:List (Addr × Obj)}{σ:St}{H:Hp}{s:Shared} (I:Inv X (pins++pl) σ H s):Inv X pins σ H s:=I.pins_of fun p hp=>I.pin p (List.mem_append_right _ (List.mem_append_left _ hp))
theorem Zaa4 {iter : Expr} {body : List Stmt} {wi : TI} {g : TG} {tb : TS} {pos : Pos} (hp : PassesOwn (model X.prog X.w) X.A X.env X.xe) (hc : X.calm = true) (hi : PI X tg iter wi) (hg : PG X tg g) (hb : PSs X body tb)
  (hs:∀ x,foldedSetIterable iter X.env x=pure x:=by intro _; rfl):PS X (.For tg iter body [] pos) (tFor wi g tb):=by
 intro pins s σ H D I h
 refine wpAny_For (thn (hi pins s σ H _ I h) fun v s1 h1=>thn h1 fun itv s2 h2=>?_) hs
 obtain⟨it,fp,tn,J,H2,e,I2,T,st2,f2,W,⟨m0,w0⟩,turn⟩:=h2
 subst e
 have stat:∀ {H':Hp},(∀ b∈fp,H' b=none)->∀ b∈fp,FpOk X pins H' b:=fun hn b hb=>⟨hn b hb,(f2 b hb).2⟩
 refine codeAny_forLoop_any (fun n s'=>∃ i σ' H',Inv X pins σ' H' s'/\tn i s'.heap/\(∀ b∈fp,H' b=none)/\W i n σ' H') ?_ m0 ⟨0,σ,H2,I2,st2,fun b hb=>(f2 b hb).1,w0⟩
 rintro n s3 ⟨i,σ3,H3,I3,st3,fr3,w3⟩
 rcases turn i n σ3 H3 w3 with ⟨stop,qn⟩ | ⟨go,N,hN,step⟩
 ·refine wpAny_passesOwn hp (thn (T.done X rfl rfl rfl hc i pins s3 σ3 H3 X.xe I3 (stat fr3) st3 stop) fun r s4 ⟨hr,I4⟩=>?_)
  subst hr
  exact wpAny_execs_nil ⟨σ3,H3,I4,qn⟩
 ·refine wpAny_passesOwn hp (thn (T.item X rfl rfl rfl hc i pins s3 σ3 H3 X.xe I3 (stat fr3) st3 go) fun r s4 ⟨u,hr,h4⟩=>?_)
  subst hr
  refine wpAny_passesOwn hp (thn h4 fun _ s5 ⟨x,H5,I5,r5,y5,st5,fr5⟩=>?_)
  have I5':=I5.pinned (stat fr5) (T.obj _ _ st5)
  refine wpAny_passesOwn hp (thn (hg _ s5 σ3 H5 x u _ I5' r5 (step x H5 y5)) fun _ s6 ⟨σ6,H6,I6,q6⟩=>?_)
  refine wpAny_passesOwn hp (thn (hb _ s6 σ6 H6 _ I6 q6) fun f s7 q7=>?_)
  have again:∀ {σ7:St}{H7:Hp},Inv X (pins++Zadn fp s5.heap) σ7 H7 s7->N σ7 H7->∃ m,m<n/\∃ i σ' H',Inv X pins σ' H' s7/\tn i s7.heap/\(∀ b∈fp,H' b=none)/\W i m σ' H':=fun {σ7 H7} I7 n7=>by
   obtain⟨m',hm,w7⟩:=hN σ7 H7 n7
   refine⟨m',hm,i+1,σ7,H7,I7.unpinned,T.keep _ _ _ st5 fun b hb o e=>(I7.pin (b,o) (List.mem_append_right _ (List.mem_append_right _ (ZaaG hb e)))).1,fun b hb=>?_,w7⟩
   obtain⟨o,e,d⟩:=T.obj _ _ st5 b hb
   exact (I7.pin (b,o) (List.mem_append_right _ (List.mem_append_right _ (ZaaG hb e)))).2.1
  cases f with
  | next=>obtain⟨σ7,H7,I7,n7⟩:=q7; exact again I7 n7
  | cont=>obtain⟨σ7,H7,I7,n7⟩:=q7; exact again I7 n7
  | brk=>obtain⟨σ7,H7,I7,q7⟩:=q7; exact⟨σ7,H7,I7.unpinned,q7⟩
  | ret v=>obtain⟨x7,σ7,H7,I7,r7,q7⟩:=q7; exact⟨x7,σ7,H7,I7.unpinned,r7,q7⟩
end
theorem ZagE {K : PySem.W.Frag} {a : Addr} {xs : List V} {g : TG} {tb : TS} {D : Ends} {σ : St} {H : Hp} (Pv : Nat → St → Hp → Prop) (h0 : Pv 0 σ H) (hl : ∀ i σ H, i ≤ xs.length → Pv i σ H → SqL K H a xs)
  (hs:∀ i x σ H,xs[i]?=some x->Pv i σ H->g x σ H fun σ2 H2=>tb { D with nx:=Pv (i+1),ct:=Pv (i+1),bk:=D.nx } σ2 H2) (hd:∀ σ H,Pv xs.length σ H->D.nx σ H) :
  ∃ W:Nat->Nat->St->Hp->Prop,(∃ m,W 0 m σ H)/\∀ i m σ H,W i m σ H ->
   ((Itl K a).stop i H/\D.nx σ H)∨((Itl K a).go i H/\∃ N:St->Hp->Prop,(∀ σ' H',N σ' H'->∃ m',m'<m/\W (i+1) m' σ' H')/\∀ x H',(Itl K a).yld i H x H'->g x σ H' fun σ2 H2=>tb { D with nx:=N,ct:=N,bk:=D.nx } σ2 H2):=by
 refine⟨fun i m σ H=>m=xs.length - i/\i<=xs.length/\Pv i σ H,⟨xs.length,by simp,Nat.zero_le _,h0⟩,?_⟩
 rintro i m σ H ⟨rfl,hi,p⟩
 have q:=hl i σ H hi p
 by_cases hlt:i<xs.length
 ·refine .inr ⟨⟨xs,xs[i],q,by simp[hlt]⟩,Pv (i+1),fun σ' H' p'=>⟨xs.length - (i+1),by omega,rfl,hlt,p'⟩,fun x H' y=>?_⟩
  obtain⟨e,y⟩:=y
  subst e
  exact hs i x σ _ (y xs q) p
 ·have e:i=xs.length:=by omega
  subst e
  exact .inl ⟨⟨xs,q,Nat.le_refl _⟩,hd σ H p⟩
theorem Zalu {K : PySem.W.Frag} {a : Addr} {xs : List V} {g : TG} {tb : TS} {D : Ends} {σ : St} {H : Hp} (Pv : Nat → St → Hp → Prop) (h0 : Pv 0 σ H) (hl : ∀ i σ H, i ≤ xs.length → Pv i σ H → SqT K H a xs)
  (hs:∀ i x σ H,xs[i]?=some x->Pv i σ H->g x σ H fun σ2 H2=>tb { D with nx:=Pv (i+1),ct:=Pv (i+1),bk:=D.nx } σ2 H2) (hd:∀ σ H,Pv xs.length σ H->D.nx σ H) :
  ∃ W:Nat->Nat->St->Hp->Prop,(∃ m,W 0 m σ H)/\∀ i m σ H,W i m σ H ->
   ((Itt K a).stop i H/\D.nx σ H)∨((Itt K a).go i H/\∃ N:St->Hp->Prop,(∀ σ' H',N σ' H'->∃ m',m'<m/\W (i+1) m' σ' H')/\∀ x H',(Itt K a).yld i H x H'->g x σ H' fun σ2 H2=>tb { D with nx:=N,ct:=N,bk:=D.nx } σ2 H2):=by
 refine⟨fun i m σ H=>m=xs.length - i/\i<=xs.length/\Pv i σ H,⟨xs.length,by simp,Nat.zero_le _,h0⟩,?_⟩
 rintro i m σ H ⟨rfl,hi,p⟩
 have q:=hl i σ H hi p
 by_cases hlt:i<xs.length
 ·refine .inr ⟨⟨xs,xs[i],q,by simp[hlt]⟩,Pv (i+1),fun σ' H' p'=>⟨xs.length - (i+1),by omega,rfl,hlt,p'⟩,fun x H' y=>?_⟩
  obtain⟨e,y⟩:=y
  subst e
  exact hs i x σ _ (y xs q) p
 ·have e:i=xs.length:=by omega
  subst e
  exact .inl ⟨⟨xs,q,Nat.le_refl _⟩,hd σ H p⟩
theorem ZaaP {lo : Int} {n : Nat} {g : TG} {tb : TS} {D : Ends} {σ : St} {H : Hp} (Pv : Nat → St → Hp → Prop) (h0 : Pv 0 σ H)
  (hs:∀ i σ H,i<n->Pv i σ H->g (.int (lo+i)) σ H fun σ2 H2=>tb { D with nx:=Pv (i+1),ct:=Pv (i+1),bk:=D.nx } σ2 H2) (hd:∀ σ H,Pv n σ H->D.nx σ H) :
  ∃ W:Nat->Nat->St->Hp->Prop,(∃ m,W 0 m σ H)/\∀ i m σ H,W i m σ H ->
   ((Itr lo n).stop i H/\D.nx σ H)∨((Itr lo n).go i H/\∃ N:St->Hp->Prop,(∀ σ' H',N σ' H'->∃ m',m'<m/\W (i+1) m' σ' H')/\∀ x H',(Itr lo n).yld i H x H'->g x σ H' fun σ2 H2=>tb { D with nx:=N,ct:=N,bk:=D.nx } σ2 H2):=by
 refine⟨fun i m σ H=>m=n - i/\i<=n/\Pv i σ H,⟨n,by simp,Nat.zero_le _,h0⟩,?_⟩
 rintro i m σ H ⟨rfl,hi,p⟩
 by_cases hlt:i<n
 ·refine .inr ⟨hlt,Pv (i+1),fun σ' H' p'=>⟨n - (i+1),by omega,rfl,hlt,p'⟩,fun x H' y=>?_⟩
  obtain⟨e,y⟩:=y
  subst e y
  exact hs i σ _ hlt p
 ·have e:i=n:=by omega
  subst e
  exact .inl ⟨Nat.le_refl _,hd σ H p⟩
end L2
namespace L2
open PySem PySem.Spec PyProof.Rows
abbrev R2:=V->V->Hp->VK->Prop
def OpR (X:Cx) (f:Value->Value->Sem Value) (r:R2):Prop :=
 ∀ (pins:List (Addr × Obj)) (s:Shared) (σ:St) (H:Hp) (x y:V) (v u:Value) (Q:VK),Inv X pins σ H s->RelV x v->RelV y u->r x y H Q ->
  wpAny (model X.prog X.w) X.A (f v u) (EP X pins σ Q) X.xe s
def CallR (X:Cx) (f:Value) (r:List V->Hp->VK->Prop):Prop :=
 ∀ (pins:List (Addr × Obj)) (s:Shared) (σ:St) (H:Hp) (xs:List V) (us:List Value) (Q:VK),Inv X pins σ H s->Vals xs us->r xs H Q ->
  wpAny (model X.prog X.w) X.A (call f us) (EP X pins σ Q) X.xe s
def tOp (r:R2) (ta tb:TE):TE:=fun σ H Q=>ta σ H fun x H1=>tb σ H1 fun y H2=>r x y H2 Q
def rI (C:Int->Int->Prop) (g:Int->Int->V):R2:=fun x y H Q=>∃ i j,x=.int i/\y=.int j/\C i j/\Q (g i j) H
def rI0 (g:Int->Int->V):R2:=fun x y H Q=>∃ i j,x=.int i/\y=.int j/\Q (g i j) H
section
variable {X:Cx}{a b c:Expr}{ta tb tc:TE}{pos:Pos}
theorem binT (ha : PE X a ta) (hb : PE X b tb) {pins : List (Addr × Obj)} {s : Shared} {σ : St} {H : Hp} {R : V → V → Hp → Prop} (I : Inv X pins σ H s)
  (h:ta σ H fun x H1=>tb σ H1 fun y H2=>R x y H2) {Q:Value->Shared->Prop}{f:Value->Value->Sem Value}
  (hf:∀ v u s2 x y H2,Inv X pins σ H2 s2->RelV x v->RelV y u->R x y H2->wpAny (model X.prog X.w) X.A (f v u) Q X.xe s2) :
  wpAny (model X.prog X.w) X.A (eval a X.env) (fun v s₁=>wpAny (model X.prog X.w) X.A (eval b X.env) (fun u s₂=>wpAny (model X.prog X.w) X.A (f v u) Q X.xe s₂) X.xe s₁) X.xe s:=by
 refine thn (ha pins s σ H _ I h) fun v s1 ⟨x,H1,I1,r1,q1⟩=>?_
 refine thn (hb pins s1 σ H1 _ I1 q1) fun u s2 ⟨y,H2,I2,r2,q2⟩=>?_
 exact hf v u s2 x y H2 I2 r1 r2 q2
theorem pe_op {op:Operator}{r:R2} (ho:OpR X (binaryOp op) r) (ha:PE X a ta) (hb:PE X b tb):PE X (.BinOp a op b pos) (tOp r ta tb):=by
 intro pins s σ H Q I h
 exact wpAny_BinOp (binT ha hb I h fun v u s2 x y H2 I2 rx ry q=>ho pins s2 σ H2 x y v u Q I2 rx ry q)
theorem opI {f : Value → Value → Sem Value} {C : Int → Int → Prop} {g : Int → Int → Int}
  (rule:∀ (i j:Int) (t u:Tok) (s:Shared) (Q:Value->Shared->Prop) (E:Value->Shared->Prop),C i j->Q (.int (g i j) s.toks) { s with toks:=s.toks+1 }->wpAny (model X.prog X.w) X.A (f (.int i t) (.int j u)) Q E s) :
  OpR X f (rI C fun i j=>.int (g i j)):=by
 intro pins s σ H x y v u Q I rx ry h
 obtain⟨i,j,rfl,rfl,hc,q⟩:=h
 obtain⟨t,rfl⟩:=rx
 obtain⟨t',rfl⟩:=ry
 exact rule i j t t' s _ _ hc ⟨.int (g i j),H,I.tok _,⟨_,rfl⟩,q⟩
theorem opI0 {f : Value → Value → Sem Value} {g : Int → Int → Int}
  (rule:∀ (i j:Int) (t u:Tok) (s:Shared) (Q:Value->Shared->Prop) (E:Value->Shared->Prop),Q (.int (g i j) s.toks) { s with toks:=s.toks+1 }->wpAny (model X.prog X.w) X.A (f (.int i t) (.int j u)) Q E s) :
  OpR X f (rI0 fun i j=>.int (g i j)):=by
 intro pins s σ H x y v u Q I rx ry h
 obtain⟨i,j,rfl,rfl,q⟩:=h
 obtain⟨t,rfl⟩:=rx
 obtain⟨t',rfl⟩:=ry
 exact rule i j t t' s _ _ ⟨.int (g i j),H,I.tok _,⟨_,rfl⟩,q⟩
theorem opB0 {f : Value → Value → Sem Value} {g : Int → Int → Bool}
  (rule:∀ (i j:Int) (t u:Tok) (s:Shared) (Q:Value->Shared->Prop) (E:Value->Shared->Prop),Q (.bool (g i j)) s->wpAny (model X.prog X.w) X.A (f (.int i t) (.int j u)) Q E s) :
  OpR X f (rI0 fun i j=>.bl (g i j)):=by
 intro pins s σ H x y v u Q I rx ry h
 obtain⟨i,j,rfl,rfl,q⟩:=h
 obtain⟨t,rfl⟩:=rx
 obtain⟨t',rfl⟩:=ry
 exact rule i j t t' s _ _ ⟨.bl (g i j),H,I,rfl,q⟩
def CDiv (i j:Int):Prop:=0<j/\j<1073741824
def CPow (i j:Int):Prop:=0<=j/\j<=1000000/\i.natAbs<2 ^ 64
def CMul (i j:Int):Prop:=(-(2 ^ 64)<i/\i<2 ^ 64)∨(-(2 ^ 64)<j/\j<2 ^ 64)
theorem CMul.ok {i j:Int} (h:CMul i j):IntMulOk i j:=by
 rcases h with ⟨h1,h2⟩ | ⟨h1,h2⟩
 ·exact .of_left (intBits_le_64 h1 h2)
 ·exact .of_right (intBits_le_64 h1 h2)
theorem ZaaE:OpR X (binaryOp .Add) (rI0 fun i j=>.int (i+j)):=opI0 fun _ _ _ _ _ _ _ q=>add_int q
theorem ZabB:OpR X (binaryOp .Sub) (rI0 fun i j=>.int (i - j)):=opI0 fun _ _ _ _ _ _ _ q=>sub_int q
theorem Zabu:OpR X (binaryOp .Mult) (rI CMul fun i j=>.int (i*j)):=opI fun _ _ _ _ _ _ _ hc q=>mul_int q hc.ok
theorem Zaiv:OpR X (binaryOp .FloorDiv) (rI CDiv fun i j=>.int (i / j)):=opI fun i j _ _ _ _ _ hc q=>by
 have h1:(0:Int)<j:=hc.1
 have h2:j<1073741824:=hc.2
 exact floordiv_int (by omega) (by rw[Int.fdiv_eq_ediv_of_nonneg i (by omega)]; exact q) (.inl (PyProof.noPylong_small (by omega)))
theorem Zafi:OpR X (binaryOp .Mod) (rI (fun _ j=>0<j) fun i j=>.int (i % j)):=opI fun i j _ _ _ _ _ hc q=>by
 have h1:(0:Int)<j:=hc
 exact mod_int' (by omega) (by rw[Int.fmod_eq_emod_of_nonneg i (by omega)]; exact q)
theorem ZakY:OpR X (binaryOp .Pow) (rI CPow fun i j=>.int (i ^ j.toNat)):=opI fun _ _ _ _ _ _ _ hc q=>pow_int_small hc.1 hc.2.1 hc.2.2 q
end
def scal:V->V->Bool
 | .non,.non=>true | .non,.int _=>true | .int _,.non=>true | .non,.bl _=>true | .bl _,.non=>true | .non,.str _=>true | .str _,.non=>true
 | .int _,.int _=>true | .bl _,.bl _=>true | .str _,.str _=>true | .byt _,.byt _=>true
 | .int _,.str _=>true | .str _,.int _=>true | .bl _,.str _=>true | .str _,.bl _=>true
 | _,_=>false
def rEq:R2:=fun x y H Q=>scal x y=true/\Q (.bl (decide (x=y))) H
def rNe:R2:=fun x y H Q=>scal x y=true/\Q (.bl (!decide (x=y))) H
theorem ZaiJ {i j:Int}:decide (V.int i=V.int j)=(i == j):=by
 rw[Bool.eq_iff_iff]
 simp
theorem Zalz {i j:Bool}:decide (V.bl i=V.bl j)=(i == j):=by
 rw[Bool.eq_iff_iff]
 simp
theorem ZaiI {i j:Str}:decide (V.str i=V.str j)=(i == j):=by
 rw[Bool.eq_iff_iff]
 simp
theorem ZaiK {i j:Array UInt8}:decide (V.byt i=V.byt j)=(i.toList == j.toList):=by
 rw[Bool.eq_iff_iff]
 cases i
 cases j
 simp
section
variable {X:Cx}{a b c:Expr}{ta tb tc:TE}{pos:Pos}
theorem ZaaH {pins:List (Addr × Obj)}{σ:St}{H:Hp}{s:Shared}{Q:VK}{k k':Bool} (I:Inv X pins σ H s) (q:Q (.bl k) H) (e:k=k'):EP X pins σ Q (.bool k') s:=by
 subst e
 exact⟨.bl k,H,I,rfl,q⟩
theorem op_eq:OpR X (compareOp .Eq) rEq:=by
 intro pins s σ H x y v u Q I rx ry h
 obtain⟨hs,q⟩:=h
 cases x with
 | non=>
  cases rx
  cases y with
  | non=>cases ry; exact PySem.EqNone.eq_none_none (ZaaH I q (by simp))
  | bl j=>cases ry; exact PySem.EqNone.eq_none_bool (ZaaH I q (by simp))
  | int j=>obtain⟨t',rfl⟩:=ry; exact PySem.EqNone.eq_none_int (ZaaH I q (by simp))
  | str j=>obtain⟨t',rfl⟩:=ry; exact PySem.EqNone.eq_none_str (ZaaH I q (by simp))
  | _=>exact absurd (show false=true from hs) Bool.false_ne_true
 | bl i=>
  cases rx
  cases y with
  | non=>cases ry; exact PySem.EqNone.eq_bool_none (ZaaH I q (by simp))
  | bl j=>cases ry; exact eq_bool (ZaaH I q Zalz)
  | str j=>obtain⟨t',rfl⟩:=ry; exact PySem.EqMixed.eq_bool_str (ZaaH I q (by simp))
  | _=>exact absurd (show false=true from hs) Bool.false_ne_true
 | int i=>
  obtain⟨t,rfl⟩:=rx
  cases y with
  | non=>cases ry; exact PySem.EqNone.eq_int_none (ZaaH I q (by simp))
  | int j=>obtain⟨t',rfl⟩:=ry; exact eq_int (ZaaH I q ZaiJ)
  | str j=>obtain⟨t',rfl⟩:=ry; exact PySem.EqMixed.eq_int_str (ZaaH I q (by simp))
  | _=>exact absurd (show false=true from hs) Bool.false_ne_true
 | str i=>
  obtain⟨t,rfl⟩:=rx
  cases y with
  | non=>cases ry; exact PySem.EqNone.eq_str_none (ZaaH I q (by simp))
  | bl j=>cases ry; exact PySem.EqMixed.eq_str_bool (ZaaH I q (by simp))
  | int j=>obtain⟨t',rfl⟩:=ry; exact PySem.EqMixed.eq_str_int (ZaaH I q (by simp))
  | str j=>obtain⟨t',rfl⟩:=ry; exact eq_str (ZaaH I q ZaiI)
  | _=>exact absurd (show false=true from hs) Bool.false_ne_true
 | byt i=>
  obtain⟨t,rfl⟩:=rx
  cases y with
  | byt j=>obtain⟨t',rfl⟩:=ry; exact PySem.W.eq_bytes (ZaaH I q ZaiK)
  | _=>exact absurd (show false=true from hs) Bool.false_ne_true
 | _=>cases y <;> exact absurd (show false=true from hs) Bool.false_ne_true
theorem op_ne:OpR X (compareOp .NotEq) rNe:=by
 intro pins s σ H x y v u Q I rx ry h
 obtain⟨hs,q⟩:=h
 cases x with
 | non=>
  cases rx
  cases y with
  | non=>cases ry; exact PySem.EqNone.ne_none_none (ZaaH I q (by simp))
  | bl j=>cases ry; exact PySem.EqNone.ne_none_bool (ZaaH I q (by simp))
  | int j=>obtain⟨t',rfl⟩:=ry; exact PySem.EqNone.ne_none_int (ZaaH I q (by simp))
  | str j=>obtain⟨t',rfl⟩:=ry; exact PySem.EqNone.ne_none_str (ZaaH I q (by simp))
  | _=>exact absurd (show false=true from hs) Bool.false_ne_true
 | bl i=>
  cases rx
  cases y with
  | non=>cases ry; exact PySem.EqNone.ne_bool_none (ZaaH I q (by simp))
  | bl j=>cases ry; exact ne_bool (ZaaH I q (congrArg not Zalz))
  | str j=>obtain⟨t',rfl⟩:=ry; exact PySem.EqMixed.ne_bool_str (ZaaH I q (by simp))
  | _=>exact absurd (show false=true from hs) Bool.false_ne_true
 | int i=>
  obtain⟨t,rfl⟩:=rx
  cases y with
  | non=>cases ry; exact PySem.EqNone.ne_int_none (ZaaH I q (by simp))
  | int j=>obtain⟨t',rfl⟩:=ry; exact ne_int (ZaaH I q (congrArg not ZaiJ))
  | str j=>obtain⟨t',rfl⟩:=ry; exact PySem.EqMixed.ne_int_str (ZaaH I q (by simp))
  | _=>exact absurd (show false=true from hs) Bool.false_ne_true
 | str i=>
  obtain⟨t,rfl⟩:=rx
  cases y with
  | non=>cases ry; exact PySem.EqNone.ne_str_none (ZaaH I q (by simp))
  | bl j=>cases ry; exact PySem.EqMixed.ne_str_bool (ZaaH I q (by simp))
  | int j=>obtain⟨t',rfl⟩:=ry; exact PySem.EqMixed.ne_str_int (ZaaH I q (by simp))
  | str j=>obtain⟨t',rfl⟩:=ry; exact ne_str (ZaaH I q (congrArg not ZaiI))
  | _=>exact absurd (show false=true from hs) Bool.false_ne_true
 | byt i=>
  obtain⟨t,rfl⟩:=rx
  cases y with
  | byt j=>obtain⟨t',rfl⟩:=ry; exact PySem.W.ne_bytes (ZaaH I q (congrArg not ZaiK))
  | _=>exact absurd (show false=true from hs) Bool.false_ne_true
 | _=>cases y <;> exact absurd (show false=true from hs) Bool.false_ne_true
theorem op_lt:OpR X (compareOp .Lt) (rI0 fun i j=>.bl (decide (i<j))):=opB0 fun _ _ _ _ _ _ _ q=>lt_int q
theorem op_le:OpR X (compareOp .LtE) (rI0 fun i j=>.bl (decide (i<=j))):=opB0 fun _ _ _ _ _ _ _ q=>le_int q
theorem op_gt:OpR X (compareOp .Gt) (rI0 fun i j=>.bl (decide (j<i))):=opB0 fun _ _ _ _ _ _ _ q=>gt_int q
theorem op_ge:OpR X (compareOp .GtE) (rI0 fun i j=>.bl (decide (j<=i))):=opB0 fun _ _ _ _ _ _ _ q=>ge_int q
theorem Zal7:OpR X (compareOp .Is) (fun x y H Q=>y=.non/\Q (.bl (decide (x=.non))) H):=by
 intro pins s σ H x y v u Q I rx ry h
 obtain⟨rfl,q⟩:=h
 cases ry
 refine is_none_gen (ZaaH I q ?_)
 cases x <;> first
  | (cases rx; rfl)
  | (obtain⟨t,rfl⟩:=rx; rfl)
theorem Zaiu:OpR X (compareOp .IsNot) (fun x y H Q=>y=.non/\Q (.bl (!decide (x=.non))) H):=by
 intro pins s σ H x y v u Q I rx ry h
 obtain⟨rfl,q⟩:=h
 cases ry
 refine isnot_none_gen (ZaaH I q ?_)
 cases x <;> first
  | (cases rx; rfl)
  | (obtain⟨t,rfl⟩:=rx; rfl)
theorem ZaaK (b:Expr) {op:CmpOp} (h:op≠.In:=by decide) (h2:op≠.NotIn:=by decide):behindInMarks op b=false:=by
 have e1:(op == CmpOp.In)=false:=by cases op <;> first | rfl | exact absurd rfl h
 have e2:(op == CmpOp.NotIn)=false:=by cases op <;> first | rfl | exact absurd rfl h2
 cases b <;> simp[behindInMarks,e1,e2]
theorem Zacx {op:CmpOp}{r:R2} (ho:OpR X (compareOp op) r) (ha:PE X a ta) (hb:PE X b tb) (hm:behindInMarks op b=false):PE X (.Compare a [op] [b] pos) (tOp r ta tb):=by
 intro pins s σ H Q I h
 exact wpAny_Compare1 (binT ha hb I h fun v u s2 x y H2 I2 rx ry q=>ho pins s2 σ H2 x y v u Q I2 rx ry q) hm
def tTest (t:TE):TT:=fun σ H Q=>t σ H fun x H'=>∃ k,x=.bl k/\Q k H'
theorem ZaaB {op:CmpOp}{r:R2} (ho:OpR X (compareOp op) r) (ha:PE X a ta) (hb:PE X b tb) (hm:behindInMarks op b=false):PT X (.Compare a [op] [b] pos) (tTest (tOp r ta tb)):=by
 intro pins s σ H Q I h
 refine wpAny_isTrue_Compare1 (thn (ha pins s σ H _ I h) fun v s1 ⟨x,H1,I1,r1,q1⟩=>thn (hb pins s1 σ H1 _ I1 q1) fun u s2 ⟨y,H2,I2,r2,q2⟩=>
  thn (ho pins s2 σ H2 x y v u _ I2 r1 r2 q2) fun c s3 ⟨z,H3,I3,r3,k,e,q3⟩=>?_) hm
 subst e
 cases r3
 exact wpAny_truthy_bool ⟨H3,I3,q3⟩
def ZalU (r r':R2) (ta tb tc:TE):TE:=fun σ H Q=>ta σ H fun x H1=>tb σ H1 fun y H2=>r x y H2 fun z H3=>∃ k,z=.bl k /\
 (if k=true then tc σ H3 fun w' H4=>r' y w' H4 Q else Q (.bl false) H3)
theorem ZacS {op op' : CmpOp} {r r' : R2} (ho : OpR X (compareOp op) r) (ho' : OpR X (compareOp op') r') (ha : PE X a ta) (hb : PE X b tb) (hc : PE X c tc)
  (hm:lastMarks [op,op'] [b,c]=false:=by with_unfolding_all rfl):PT X (.Compare a [op,op'] [b,c] pos) (tTest (ZalU r r' ta tb tc)):=by
 intro pins s σ H Q I h
 refine isTrue_chain (thn (ha pins s σ H _ I h) fun v s1 ⟨x,H1,I1,r1,q1⟩=>test_link (thn (hb pins s1 σ H1 _ I1 q1) fun u s2 ⟨y,H2,I2,r2,q2⟩=>
  thn (ho pins s2 σ H2 x y v u _ I2 r1 r2 q2) fun d s3 ⟨z,H3,I3,r3,k,e,q3⟩=>?_)) hm
 subst e
 cases r3
 refine wpAny_truthy_bool ?_
 cases k with
 | false=>
  obtain⟨k',e',q'⟩:=q3
  cases e'
  exact ite_ff ⟨H3,I3,q'⟩
 | true=>
  refine ite_tt (test_last (thn (hc pins s3 σ H3 _ I3 q3) fun w' s4 ⟨z',H4,I4,r4,q4⟩=>thn (ho' pins s4 σ H4 y z' u w' _ I4 r2 r4 q4) fun d' s5 ⟨z2,H5,I5,r5,k2,e2,q5⟩=>?_))
  subst e2
  cases r5
  exact wpAny_truthy_bool ⟨H5,I5,q5⟩
theorem ZahL:(sizeLine:Nat)<2 ^ 63:=by rw[sizeLine_eq]; decide
theorem vals1 {x:V}{us:List Value} (r:Vals [x] us):∃ u,us=[u]/\RelV x u:=by
 cases r with
 | cons r1 r2=>cases r2; exact⟨_,rfl,r1⟩
theorem vals2 {x y:V}{us:List Value} (r:Vals [x,y] us):∃ u w',us=[u,w']/\RelV x u/\RelV y w':=by
 cases r with
 | cons r1 r2=>
  cases r2 with
  | cons r3 r4=>cases r4; exact⟨_,_,rfl,r1,r3⟩
theorem Zaid (hc:X.calm=true):CallR X (.builtin "max") (fun xs H Q=>∃ i j,xs=[.int i,.int j]/\Q (.int (if j > i then j else i)) H):=by
 intro pins s σ H xs us Q I r h
 obtain⟨i,j,rfl,q⟩:=h
 obtain⟨u,w',rfl,⟨t,rfl⟩,⟨t',rfl⟩⟩:=vals2 r
 refine max_two_ints (I.ok.hd hc) fun h' tk k=>⟨_,H,I.kept k,?_,q⟩
 by_cases hj:j > i
 ·rw[if_pos hj,if_pos hj]; exact⟨_,rfl⟩
 ·rw[if_neg hj,if_neg hj]; exact⟨_,rfl⟩
theorem Zabk (hc:X.calm=true):CallR X (.builtin "min") (fun xs H Q=>∃ i j,xs=[.int i,.int j]/\Q (.int (if j<i then j else i)) H):=by
 intro pins s σ H xs us Q I r h
 obtain⟨i,j,rfl,q⟩:=h
 obtain⟨u,w',rfl,⟨t,rfl⟩,⟨t',rfl⟩⟩:=vals2 r
 refine min_two_ints (I.ok.hd hc) fun h' tk k=>⟨_,H,I.kept k,?_,q⟩
 by_cases hj:j<i
 ·rw[if_pos hj,if_pos hj]; exact⟨_,rfl⟩
 ·rw[if_neg hj,if_neg hj]; exact⟨_,rfl⟩
theorem ZaeX:CallR X (.type "int") (fun xs H Q=>(∃ i,xs=[.int i]/\Q (.int i) H)∨∃ k,xs=[.bl k]/\Q (.int (if k then 1 else 0)) H):=by
 intro pins s σ H xs us Q I r h
 rcases h with ⟨i,rfl,q⟩ | ⟨k,rfl,q⟩
 ·obtain⟨u,rfl,t,rfl⟩:=vals1 r
  exact call_int_int ⟨.int i,H,I,⟨_,rfl⟩,q⟩
 ·obtain⟨u,rfl,r1⟩:=vals1 r
  cases r1
  exact call_int_bool ⟨.int (if k then 1 else 0),H,I.tok _,⟨_,rfl⟩,q⟩
end
end L2
namespace L2
open PySem PySem.Spec PyProof.Rows
structure ObjM (h:Heap) (x dx C:Addr) (mA:Str->Option Value):Prop where
 obj:h.get? x=some (PySem.W.instObj C dx)
 ns:h.Ns1 dx mA
 ne:dx≠x
theorem ZahK {h:Heap}{dx:Addr}{mA:Str->Option Value} (n:h.Ns1 dx mA):∃ od,h.get? dx=some od/\∀ name,PySem.W.lookIn name od=some (mA name):=by
 obtain⟨o,es,ep,ho,hd,hk,_,hm⟩:=n
 refine⟨o,ho,fun name=>?_⟩
 have e:=hm name
 unfold nsFind findBy at e
 rw[<- Array.find?_toList] at e
 unfold PySem.W.lookIn
 rw[hd]
 dsimp only
 split
 ·rename_i y q
  rw[q] at e
  exact congrArg some e
 ·rename_i q
  rw[q] at e
  have a:es.toList.any (·.refKey)=false:=by
   rw[List.any_eq_false]
   intro y hy
   obtain⟨z,t,hkey⟩:=hk y (Array.mem_toList_iff.mp hy)
   simp[DictEntry.refKey,hkey]
  have a':¬ es.toList.any (·.refKey)=true:=by rw[a]; exact Bool.false_ne_true
  rw[if_neg a']
  exact congrArg some e
theorem ObjM.look {h:Heap}{x dx C:Addr}{mA:Str->Option Value} (I:ObjM h x dx C mA):∃ od,PySem.W.InstAt h x (PySem.W.instObj C dx) C (some od)/\∀ name,PySem.W.lookIn name od=some (mA name) :=
 let ⟨od,ho,hl⟩:=ZahK I.ns
 ⟨od,⟨I.obj,rfl,rfl,ho⟩,hl⟩
section
variable {prog:Program}{w:World}{A:Around}{E:Value->Shared->Prop}{s:Shared}{K:PySem.W.Frag}{x dx C f:Addr}{mA:Str->Option Value}{name:Str}{v:Value}
end
theorem RelO.some_of {v:V}{o:Option Value} (r:RelO (some v) o):∃ u,o=some u/\RelV v u:=by
 cases o with
 | none=>exact (show False from r).elim
 | some u=>exact⟨u,rfl,r⟩
section
variable {P:Program}{w:World}{H H':Hp}{h h':Heap}{a C dx:Addr}{fs fs':List (Str × V)}
theorem Zalo (hok:HOk P w H h) (e:H a=some (.ins C dx fs)):∃ mA,ObjM h a dx C mA/\(∀ f,RelO (fs.lookup f) (mA f))/\PySem.Within mA (fs.map (·.1))/\fs.length<=1000/\H dx=some (.own a):=by
 obtain⟨d,z,ne,ob,mA,n,r,q⟩:=(show ObjOk P w H h a (.ins C dx fs) from hok a _ e)
 exact⟨mA,⟨ob,n,ne⟩,r,q,z,d⟩
end
structure Cls (K:PySem.W.Frag) (C:Addr):Prop where
 pg:PySem.W.plainGet K C Str.empty=true
 hd:PySem.W.hasDictIn K C=true
 po:PySem.W.plainOver K C=true
 sa:PySem.W.findIn K (.ref C) "__setattr__"=some (some (.builtin "object.__setattr__"))
theorem Cls.get {K:PySem.W.Frag}{C:Addr} (c:Cls K C) (f:Str):PySem.W.plainGet K C f=true:=c.pg
structure Con (K:PySem.W.Frag) (C:Addr) (f:Str) (v:V) (u:Value):Prop where
 at_:PySem.W.findIn K (.ref C) f=some (some u)
 rel:RelV v u
 get:PySem.W.specialIn K u "__get__"=some none
 cp:PySem.W.copiedNames.contains f=false
structure Meth (K:PySem.W.Frag) (C:Addr) (m:Str) (f:Addr):Prop where
 at_:PySem.W.findIn K (.ref C) m=some (some (.ref f))
 fn:PySem.W.isFn K (.ref f)=true
 kp:PySem.W.keepIn K (.ref f)=true
section
variable {X:Cx}{pins:List (Addr × Obj)}{σ:St}{H:Hp}{s:Shared}{a C dx:Addr}{fs:List (Str × V)}{f:Str}{v:V}{A:Around}{E:Value->Shared->Prop}
end
section
variable {X:Cx}{o e value:Expr}{f:Str}{pos pos' tpos:Pos}{ta tv:TE}
end
section
variable {X:Cx}{pins:List (Addr × Obj)}{σ:St}{H:Hp}{s:Shared}{A:Around}{E:Value->Shared->Prop}{Q:Value->Shared->Prop}{c:Value}{b:Bool}
inductive TyOf (K:PySem.W.Frag) (H:Hp):V->Value->Prop where
 | non:TyOf K H .non (.type "NoneType")
 | bl (x:Bool):TyOf K H (.bl x) (.type "bool")
 | int (i:Int):TyOf K H (.int i) (.type "int")
 | str (x:Str):TyOf K H (.str x) (.type "str")
 | flt (x:UInt64):TyOf K H (.flt x) (.type "float")
 | lst {a:Addr}{xs:List V} (e:H a=some (.lst xs)):TyOf K H (.ref a) (.type "list")
 | frz {a:Addr}{o:Obj}{xs:List V} (e:H a=some (.frz o (.lst xs))):TyOf K H (.ref a) (.type "list")
 | tup {a:Addr}{xs:List V} (e:H a=some (.tup xs)):TyOf K H (.ref a) (.type "tuple")
 | dK {a:Addr}{kvs:List (Key × V)} (e:H a=some (.dK kvs)):TyOf K H (.ref a) (.type "dict")
 | dT {a:Addr}{kvs:List (List Key × V)} (e:H a=some (.dT kvs)):TyOf K H (.ref a) (.type "dict")
 | ins {a C dx : Addr} {fs : List (Str × V)} (e : H a = some (.ins C dx fs)) (cl : Cls K C) (ha : PySem.W.findIn K (.ref C) "__class__" = some (some (.builtin "object.__class__")))
   (hn:PySem.W.specialIn K (.builtin "object.__class__") "__get__"=some (some (.builtin "getset_descriptor.__get__"))) (htk:PySem.W.takesIn K (.builtin "object.__class__")=some true)
   (hm:PySem.W.mroIn K C (.type "object")=some true):TyOf K H (.ref a) (.ref C)
theorem ZahR {x : V} {u t : Value} (I : Inv X pins σ H s) (rx : RelV x u) (ty : TyOf X.K H x t) (e : PySem.W.kitOne X.K t c = some b) (h : ∀ tk, Q (.bool b) { s with toks := tk }) :
  wpAny (model X.prog X.w) A (call (.builtin "isinstance") [u,c]) Q E s:=by
 cases ty with
 | non=>cases (show u=Value.none from rx); exact PySem.W.kia_one PySem.W.kitx_none I.kIn True.intro e (fun z=>nomatch z) h
 | bl y=>cases (show u=Value.bool y from rx); exact PySem.W.kia_one PySem.W.kitx_bool I.kIn True.intro e (fun z=>nomatch z) h
 | int i=>obtain⟨t,q⟩:=(show ∃ t,u=Value.int i t from rx); cases q; exact PySem.W.kia_one PySem.W.kitx_int I.kIn True.intro e (fun z=>nomatch z) h
 | str y=>obtain⟨t,q⟩:=(show ∃ t,u=Value.str y t from rx); cases q; exact PySem.W.kia_one PySem.W.kitx_str I.kIn True.intro e (fun z=>nomatch z) h
 | flt y=>obtain⟨t,q⟩:=(show ∃ t,u=Value.float y t from rx); cases q; exact PySem.W.kia_one PySem.W.kitx_float I.kIn True.intro e (fun z=>nomatch z) h
 | @lst a xs ea=>
  cases (show u=Value.ref a from rx)
  obtain⟨_,_,n,_,h1⟩:=(show ObjOk X.prog X.w H s.heap a (.lst xs) from I.hok a _ ea)
  exact PySem.W.kia_one PySem.W.kitx_list I.kIn ⟨_,h1,rfl⟩ e (fun z=>nomatch z) h
 | @frz a ob xs ea=>
  cases (show u=Value.ref a from rx)
  obtain⟨_,_,_,n,_,h1⟩:=(show ObjOk X.prog X.w H s.heap a (.frz ob (.lst xs)) from I.hok a _ ea)
  exact PySem.W.kia_one PySem.W.kitx_list I.kIn ⟨_,h1,rfl⟩ e (fun z=>nomatch z) h
 | @tup a xs ea=>
  cases (show u=Value.ref a from rx)
  obtain⟨_,_,_,p⟩:=(show ObjOk X.prog X.w H s.heap a (.tup xs) from I.hok a _ ea)
  obtain⟨o,h1,h2,_⟩:=p
  exact PySem.W.kia_one PySem.W.kitx_tuple I.kIn ⟨o,h1,h2⟩ e (fun z=>nomatch z) h
 | @dK a kvs ea=>
  cases (show u=Value.ref a from rx)
  obtain⟨_,_,vs,_,p⟩:=(show ObjOk X.prog X.w H s.heap a (.dK kvs) from I.hok a _ ea)
  obtain⟨o,es,ep,h1,h2,_⟩:=p
  exact PySem.W.kia_one PySem.W.kitx_dict I.kIn ⟨o,h1,h2.1⟩ e (fun z=>nomatch z) h
 | @dT a kvs ea=>
  cases (show u=Value.ref a from rx)
  obtain⟨_,_,xs,_,o,es,ep,h1,h2,_⟩:=(show ObjOk X.prog X.w H s.heap a (.dT kvs) from I.hok a _ ea)
  exact PySem.W.kia_one PySem.W.kitx_dict I.kIn ⟨o,h1,h2.1⟩ e (fun z=>nomatch z) h
 | @ins a C dx fs ea cl ha hn htk hm=>
  cases (show u=Value.ref a from rx)
  obtain⟨mA,O,_⟩:=Zalo I.hok ea
  obtain⟨od,J,_⟩:=O.look
  exact PySem.W.kia_one (PySem.W.kitx_own (cl.get _) cl.hd ha hn htk hm) I.kIn J e (fun z=>nomatch z) h
end
end L2
namespace L2
open PySem PySem.Spec PyProof.Rows
structure Room (k:Nat) (A:Around):Prop where
 hd:A.handled=none
 dp:A.depth+3*k+5<recursionLimit
 un:A.units+16*k+200<cLine
 gd:A.guards=some []
theorem Room.mono {j k:Nat}{A:Around} (r:Room k A) (h:j<=k):Room j A:=⟨r.hd,by have:=r.dp; omega,by have:=r.un; omega,r.gd⟩
theorem Room.deeper {k:Nat}{A:Around} (r:Room (k+1) A) (env:Env):Room k (A.deeper env) :=
 ⟨r.hd,by have:=r.dp; show A.depth+1+3*k+5<_; omega,by have:=r.un; show A.units+3+16*k+200<_; omega,r.gd⟩
theorem Room.depth {k:Nat}{A:Around} (r:Room k A):A.depth<recursionLimit:=by have:=r.dp; omega
theorem Room.units {k:Nat}{A:Around} (r:Room k A):A.units+64<cLine:=by have:=r.un; omega
def tNil:TA:=fun _ H Q=>Q [] H
def tCons (ta:TE) (tr:TA):TA:=fun σ H Q=>ta σ H fun x H1=>tr σ H1 fun xs H2=>Q (x::xs) H2
section
variable {X:Cx}{e:Expr}{es:List Expr}{te:TE}{t:TA}{pos:Pos}
theorem Zaae:PA X [] tNil:=fun _ _ _ _ H Q I h=>Calls.spliced_nil ⟨[],H,I,.nil,h⟩
theorem Zaaa (ha:PE X e te) (hr:PA X es t) (hs:starEach (e::es) X.env=(false,eval e X.env)::starEach es X.env:=by rfl):PA X (e::es) (tCons te t):=by
 intro pos pins s σ H Q I h
 rw[hs]
 show wpAny _ _ (spliced ((false,eval e X.env)::backTo pos (starEach es X.env))) _ _ s
 refine Calls.spliced_cons (thn (ha pins s σ H _ I h) fun u s1 ⟨x,H1,I1,r1,q1⟩=>?_)
 exact thn (hr pos pins s1 σ H1 _ I1 q1) fun us s2 ⟨xs,H2,I2,r2,q2⟩=>⟨x::xs,H2,I2,.cons r1 r2,q2⟩
def tTup (t:TA):TE:=fun σ H Q=>t σ H fun xs H1=>xs.length<=sizeLine/\∀ p,H1 p=none->Q (.ref p) (upd H1 p (.tup xs))
def tLst (t:TA):TE:=fun σ H Q=>t σ H fun xs H1=>xs.length<=sizeLine/\∀ p,H1 p=none->Q (.ref p) (upd H1 p (.lst xs))
theorem Zacm {x1} (h:PA X es t):PE X (.Tuple es x1 pos) (tTup t):=by
 intro pins s σ H Q I hq
 refine wpAny_Tuple_spliced (thn (h pos pins s σ H _ I hq) fun us s1 ⟨xs,H1,I1,r,z,q⟩=>⟨by rw[<- r.length]; exact z,?_⟩)
 have hf:H1 s1.heap.objs.size=none:=I1.hok.fresh (Nat.le_refl _)
 refine⟨.ref s1.heap.objs.size,upd H1 s1.heap.objs.size (.tup xs),I1.laid (t':=s1.toks) (fun b u e=>Heap.get?_push_of_some _ e) (Nat.le_refl _) ?_,rfl,q _ hf⟩
 exact⟨z,us,r,⟨_,Heap.get?_push_size _ rfl,rfl,rfl,_,rfl⟩⟩
theorem Zabn (h:PA X es t):PE X (.List es pos) (tLst t):=by
 intro pins s σ H Q I hq
 refine wpAny_List_spliced (thn (h pos pins s σ H _ I hq) fun us s1 ⟨xs,H1,I1,r,z,q⟩=>⟨by rw[<- r.length]; exact z,?_⟩)
 have hf:H1 s1.heap.objs.size=none:=I1.hok.fresh (Nat.le_refl _)
 refine⟨.ref s1.heap.objs.size,upd H1 s1.heap.objs.size (.lst xs),I1.laid (t':=s1.toks) (fun b u e=>Heap.get?_push_of_some _ e) (Nat.le_refl _) ?_,rfl,q _ hf⟩
 exact⟨z,us,0,r,Heap.get?_push_size _ rfl⟩
end
abbrev Sp:=List V->Hp->VK->XK->Prop
abbrev CXT:=List Env->Hp->Shared->XK->Value->Shared->Prop
structure Env0 (P:Program) (w:World) (K:PySem.W.Frag) (mg:Str->Option Value) (base:Heap) (A:Around) (outer:List Env) (s:Shared) (H:Hp):Prop where
 frames:A.frames=some outer
 mod:Mod K mg base
 bs:∀ b o,base.get? b=some o->s.heap.get? b=some o/\H b=none
 bsz:base.objs.size<=s.heap.objs.size
 funs:s.heap.FunFrames base outer
 frf:∀ b∈frs outer,H b=none
 hok:HOk P w H s.heap
 bare:AllBare s.gens
def CE (outer:List Env) (P:Program) (w:World) (H:Hp) (s:Shared) (Q:VK) (u:Value) (s':Shared):Prop :=
 ∃ v H',s'.os=s.os/\AllBare s'.gens/\Un (frs outer) [] H H' s.heap s'.heap/\HOk P w H' s'.heap/\RelV v u/\Q v H'
def CR (CX:CXT) (outer:List Env) (P:Program) (w:World) (H:Hp) (s:Shared) (Q:VK) (E:XK) (r:Result) (s':Shared):Prop :=
 match r with
 | .ok (.ret u)=>CE outer P w H s Q u s'
 | .ok _=>False
 | .error e=>CX outer H s E e s'
structure FnOk (P:Program) (w:World) (K:PySem.W.Frag) (mg:Str->Option Value) (base:Heap) (CX:CXT) (k:Nat) (f:Addr) (fd:FuncData) (ps:List Str) (sp:Sp):Prop where
 len:∀ vs H Q E,sp vs H Q E->vs.length=ps.length
 run:∀ (A:Around) (outer:List Env) (s:Shared) (H:Hp) (args:Args) (us:List Value) (vs:List V) (Q:VK) (E:XK),Room k A->Env0 P w K mg base A outer s H->BindsTo s fd args (ps.zip us)->Vals vs us->sp vs H Q E ->
  codeAny (model P w) A (.call (.ref f) args) (CR CX outer P w H s Q E) s
theorem FnOk.imp {P : Program} {w : World} {K : PySem.W.Frag} {mg : Str → Option Value} {base : Heap} {CX : CXT} {k : Nat} {f : Addr} {fd : FuncData} {ps : List Str} {sp sp' : Sp} (F : FnOk P w K mg base CX k f fd ps sp)
  (h:∀ vs H Q E,sp' vs H Q E->sp vs H Q E):FnOk P w K mg base CX k f fd ps sp' :=
 ⟨fun vs H Q E q=>F.len vs H Q E (h _ _ _ _ q),fun A outer s H args us vs Q E hr he hb hv hs=>F.run A outer s H args us vs Q E hr he hb hv (h _ _ _ _ hs)⟩
section
variable {X:Cx}{pins:List (Addr × Obj)}{σ:St}{H:Hp}{s s':Shared}
theorem Inv.env0 (I:Inv X pins σ H s):Env0 X.prog X.w X.K X.mg X.base X.A X.stack s H :=
 ⟨I.ok.frames,I.ok.mod,I.bs,Nat.le_trans I.ok.bsz I.sz,I.stack,I.stkFree,I.hok,I.bare⟩
theorem Inv.after {Q:VK}{u:Value} (I:Inv X pins σ H s) (h:CE X.stack X.prog X.w H s Q u s'):EP X pins σ Q u s':=by
 obtain⟨v,H',os,bare,un,hok,r,q⟩:=h
 obtain⟨hh,g,d,t,os'⟩:=s'
 obtain rfl:os'=s.os:=os
 exact⟨v,H',I.call (h':=hh) (g':=g) (d':=d) (t':=t) (ch:=[]) un hok bare (fun b z=>absurd z (by simp)),r,q⟩
end
def tCall (sp:Sp) (dvs:List V) (E:XK) (t:TA):TE:=fun σ H Q=>t σ H fun vs H1=>sp (vs++dvs) H1 Q E
def Binds (K:PySem.W.Frag) (fd:FuncData) (ps:List Str) (ds:List Value):Prop :=
 ∀ (s:Shared) (us:List Value),K.In s.heap->(us++ds).length=ps.length->BindsTo s fd ⟨us,[]⟩ (ps.zip (us++ds))
theorem Binds.all {K:PySem.W.Frag}{fd:FuncData}{ps:List Str} (h:∀ us:List Value,us.length=ps.length->bindArgs fd ⟨us,[]⟩=pure (ps.zip us)):Binds K fd ps []:=fun s us _ hl=>by
 rw[List.append_nil] at hl ⊢
 exact .of_eq (h us hl)
def Zafw (CX:CXT) (X:Cx) (E:XK):Prop:=∀ (pins:List (Addr × Obj)) (σ:St) (H:Hp) (s:Shared) (e:Value) (s':Shared),Inv X pins σ H s->CX X.stack H s E e s'->X.xe e s'
section
variable {X:Cx}{CX:CXT}{k:Nat}{f C:Addr}{fd:FuncData}{ps:List Str}{sp:Sp}{dvs:List V}{ds:List Value}{E:XK}{x m:Str}{p pos apos:Pos}{e o:Expr}{es:List Expr}{ta:TE}{t:TA}
theorem ZakA {pins : List (Addr × Obj)} {σ : St} {H : Hp} {s : Shared} {Q : VK} {us : List Value} {vs : List V} (F : FnOk X.prog X.w X.K X.mg X.base CX k f fd ps sp) (hr : Room k X.A) (hb : Binds X.K fd ps ds) (hd : Vals dvs ds) (hx : Zafw CX X E)
  (I:Inv X pins σ H s) (r:Vals vs us) (h:sp (vs++dvs) H Q E):wpAny (model X.prog X.w) X.A (call (.ref f) us) (EP X pins σ Q) X.xe s:=by
 have r2:Vals (vs++dvs) (us++ds):=r.append hd
 have hl:(us++ds).length=ps.length:=by rw[<- r2.length]; exact F.len _ _ _ _ h
 refine wpAny_call (codeAny_mono (F.run X.A X.stack s H ⟨us,[]⟩ (us++ds) (vs++dvs) Q E hr I.env0 (hb s us I.kIn hl) r2 h) fun r s' hq=>?_)
 cases r with
 | error e=>exact hx pins σ H s e s' I hq
 | ok fl=>
  cases fl with
  | ret u=>exact I.after hq
  | next=>exact False.elim hq
  | brk=>exact False.elim hq
  | cont=>exact False.elim hq
theorem Zagf (F : FnOk X.prog X.w X.K X.mg X.base CX k f fd ps sp) (hr : Room k X.A) (hg : Gl X x) (hm : X.mg x = some (.ref f)) (hk : PySem.W.keepIn X.K (.ref f) = true) (hb : Binds X.K fd ps ds) (hd : Vals dvs ds) (hx : Zafw CX X E)
  (ha:PA X (e::es) t) (hdb:(x == ("__debug__":Str))=false:=by decide) (he:starEach (e::es) X.env=(false,eval e X.env)::starEach es X.env:=by rfl) (hpl:(backTo pos (starEach es X.env)).any (·.1)=false:=by rfl) :
  PE X (.Call (.Name x p) (e::es) [] pos) (tCall sp dvs E t):=by
 intro pins s σ H Q I h
 refine wpAny_Call_Name_kw (ZaeG I hg hm ?_ hdb)
 refine PySem.W.callWith_K (h₀:=X.base) I.ok.mod.kin hk (thn (ha pos pins s σ H _ I h) fun us s1 ⟨vs,H1,I1,r,q⟩=>⟨I1.kIn,?_⟩) he hpl
 exact ZakA F hr hb hd hx I1 r q
structure Mk (K:PySem.W.Frag) (C f:Addr):Prop where
 makes:PySem.W.makesIn K C=true
 init:PySem.W.findIn K (.ref C) "__init__"=some (some (.ref f))
 fn:PySem.W.isFn K (.ref f)=true
 kp:PySem.W.keepIn K (.ref C)=true
end
section
variable {X:Cx}{CX:CXT}{k:Nat}{f C:Addr}{fd:FuncData}{ps ks:List Str}{sp:Sp}{E:XK}{x m:Str}{p pos apos kpos:Pos}{e o:Expr}{es:List Expr}{kws:List Keyword}{te ta:TE}{t tk:TA}{nm:Option Str}
structure KBinds (K:PySem.W.Frag) (fd:FuncData) (ps ks:List Str) (g:List Value->List Value->List Value) (gV:List V->List V->List V):Prop where
 to:∀ (s:Shared) (us ws:List Value),K.In s.heap->(g us ws).length=ps.length->BindsTo s fd ⟨us,ks.zip ws⟩ (ps.zip (g us ws))
 rel:∀ {vs:List V}{us:List Value}{zs:List V}{ws:List Value},Vals vs us->Vals zs ws->Vals (gV vs zs) (g us ws)
variable {g:List Value->List Value->List Value}{gV:List V->List V->List V}
end
structure FnScope (N P:List Str) (sc:Scope):Prop where
 kind:sc.kind=.function
 co:sc.isCoroutine=false
 gen:sc.isGenerator=false
 nd:N.Nodup
 pre:N.take P.length=P
 par:∀ x∈P,sc.names.lookup x=some .local ∨ sc.names.lookup x=some .cell
 nofree:∀ y∈sc.names,y.2≠.free
theorem Zae0 {kindOf:Str->Option NameKind}{x:Str}:∀ {binds:List (Str × Value)}{m:Str->Option Value},(∀ v,(x,v) ∉ binds)->bindL kindOf binds m x=m x
 | [],_,_=>rfl
 | (n,v)::r,m,h=>by
  unfold bindL
  rw[Zae0 fun w hw=>h w (List.mem_cons_of_mem _ hw)]
  split
  ·have:x≠n:=by rintro rfl; exact h v List.mem_cons_self
   simp[this]
  ·rfl
theorem Zae2 {kindOf:Str->Option NameKind}{x:Str}:∀ {binds:List (Str × Value)}{m:Str->Option Value},(∀ v,(x,v) ∉ binds)->bindC kindOf binds m x=m x
 | [],_,_=>rfl
 | (n,v)::r,m,h=>by
  unfold bindC
  rw[Zae2 fun w hw=>h w (List.mem_cons_of_mem _ hw)]
  split
  ·rfl
  ·have:x≠n:=by rintro rfl; exact h v List.mem_cons_self
   simp[this]
theorem Zae1 {kindOf : Str → Option NameKind} {x : Str} {v : Value} : ∀ {P : List Str} {vs : List Value} {i : Nat} {m : Str → Option Value}, P.Nodup → P[i]? = some x → vs[i]? = some v → kindOf x = some .local →
  bindL kindOf (P.zip vs) m x=some v
 | [],_,_,_,_,h,_,_=>by simp at h
 | _::_,[],_,_,_,_,h,_=>by simp at h
 | p::P,w::vs,0,m,nd,h1,h2,hk=>by
  simp at h1 h2; subst h1; subst h2
  show bindL kindOf ((p,w)::P.zip vs) m p=_
  unfold bindL
  rw[Zae0 fun v hv=>(List.nodup_cons.mp nd).1 (List.of_mem_zip hv).1,if_pos hk]
  simp
 | p::P,w::vs,i+1,m,nd,h1,h2,hk=>by
  show bindL kindOf ((p,w)::P.zip vs) m x=_
  unfold bindL
  exact Zae1 (i:=i) (List.nodup_cons.mp nd).2 (by simpa using h1) (by simpa using h2) hk
theorem Zae3 {kindOf : Str → Option NameKind} {x : Str} {v : Value} : ∀ {P : List Str} {vs : List Value} {i : Nat} {m : Str → Option Value}, P.Nodup → P[i]? = some x → vs[i]? = some v → kindOf x ≠ some .local →
  bindC kindOf (P.zip vs) m x=some v
 | [],_,_,_,_,h,_,_=>by simp at h
 | _::_,[],_,_,_,_,h,_=>by simp at h
 | p::P,w::vs,0,m,nd,h1,h2,hk=>by
  simp at h1 h2; subst h1; subst h2
  show bindC kindOf ((p,w)::P.zip vs) m p=_
  unfold bindC
  rw[Zae2 fun v hv=>(List.nodup_cons.mp nd).1 (List.of_mem_zip hv).1,if_neg hk]
  simp
 | p::P,w::vs,i+1,m,nd,h1,h2,hk=>by
  show bindC kindOf ((p,w)::P.zip vs) m x=_
  unfold bindC
  exact Zae3 (i:=i) (List.nodup_cons.mp nd).2 (by simpa using h1) (by simpa using h2) hk
def start (N:List Str) (vs:List V):St:=vs.map some++List.replicate (N.length - vs.length) none
def cxOf (CX:CXT) (P:Program) (w:World) (K:PySem.W.Frag) (mg:Str->Option Value) (base:Heap) (N:List Str) (qual:Str) (scope:Scope) (f:Addr) (cd:Value) (A:Around) (outer:List Env) (s:Shared) (H:Hp) (E:XK):Cx where
 prog:=P
 w:=w
 K:=K
 mg:=mg
 base:=base
 A:=A.deeper (envOfC qual scope s.heap.objs.size f cd)
 N:=N
 s₀:=s
 H₀:=H
 env:=envOfC qual scope s.heap.objs.size f cd
 outer:=outer
 stack:=envOfC qual scope s.heap.objs.size f cd::outer
 ex:=[]
 calm:=true
 fn:=fun _=>true
 pn:=[]
 xe:=fun e s'=>wpAny (model P w) (A.deeper (envOfC qual scope s.heap.objs.size f cd)) (leaving (envOfC qual scope s.heap.objs.size f cd) e) (fun _ s''=>CX outer H s E e s'') (fun e' s''=>CX outer H s E e' s'') s'
theorem ZagQ {sc:Scope}{n:Nat}{x:Str} (h:sc.names.lookup x=some .cell):∃ c,(cellsFrom n sc.names []).lookup x=some c:=by
 have q:=PySem.W.cellsFrom_some sc.names n [] (.inl h)
 exact Option.isSome_iff_exists.mp q
theorem ZahS {CX : CXT} {P : Program} {w : World} {K : PySem.W.Frag} {mg : Str → Option Value} {base : Heap} {N ps : List Str} {qual : Str} {scope : Scope} {f : Addr} {cd : Value} {A : Around} {outer : List Env} {s s1 : Shared} {H : Hp} {E : XK} {us : List Value} {vs : List V}
  (S:FnScope N ps scope) (hd:A.handled=none) (e0:Env0 P w K mg base A outer s H) (hl:vs.length=ps.length) (r:Vals vs us)
  (x:InCallC s s.heap.objs.size (bindL (envOfC qual scope s.heap.objs.size f cd).kindOf (ps.zip us) fun _=>none) (cellsFrom (s.heap.objs.size+1) scope.names []) (bindC (envOfC qual scope s.heap.objs.size f cd).kindOf (ps.zip us) fun _=>none) s1) :
  Inv (cxOf CX P w K mg base N qual scope f cd A outer s H E) [] (start N vs) H s1:=by
 have hpl:ps.length<=N.length:=by have:=congrArg List.length S.pre; rw[List.length_take] at this; omega
 obtain⟨h1,tk,rfl,hk⟩:=x.done
 have noA:∀ b:Addr,b ∉ (cxOf CX P w K mg base N qual scope f cd A outer s H E).ex:=fun b z=>absurd (show b∈([]:List Addr) from z) (by simp)
 refine⟨⟨e0.mod,S.kind,rfl,rfl,Nat.le_refl _,fun y z c h1 h2=>?_,fun y hy=>?_,fun y c _ h=>?_,fun _=>hd,Around.frames_deeper e0.frames,.inr ⟨rfl,rfl⟩,fun b z=>absurd z (noA b),e0.bs,e0.bsz,fun b _ _=>noA b,fun b z=>absurd z (noA b),e0.funs,e0.frf⟩,
  rfl,e0.bare,Un.kept hk,⟨_,x.toInCall.ns,fun i y v h1 h2 h3=>?_⟩,fun y c h=>⟨_,x.cell y c h⟩,e0.hok.fresh (Nat.le_refl _),fun y c h=>?_,fun p hp=>absurd (show p∈([]:List (Addr × Obj)) from hp) (by simp),e0.hok.kept hk,?_⟩
 ·exact name_of_addr x.apart (PySem.mem_of_lookup h1) (PySem.mem_of_lookup h2)
 ·have hy:scope.names.lookup y=some .cell∨scope.names.lookup y=some .free:=hy
  rcases hy with hy | hy
  ·exact ZagQ hy
  ·exact absurd rfl (S.nofree _ (PySem.mem_of_lookup hy))
 ·exact Nat.le_of_lt (x.above y c (PySem.mem_of_lookup h))
 ·have hi : i < vs.length := by
   unfold start at h2
   by_cases hi:i<vs.length
   ·exact hi
   ·rw[List.getElem?_append_right (by simpa using hi)] at h2
    rw[List.getElem?_replicate] at h2
    split at h2 <;> cases h2
  have ha:vs[i]?=some v:=by
   unfold start at h2
   rw[List.getElem?_append_left (by simpa using hi),List.getElem?_map] at h2
   cases e:vs[i]? with
   | none=>rw[e] at h2; cases h2
   | some a=>rw[e] at h2; cases h2; rfl
  obtain⟨u,hu,rv⟩:=r.get ha
  have hp:ps[i]?=some y:=by
   rw[<- S.pre,List.getElem?_take_of_lt (by omega)]; exact h1
  have ndP:ps.Nodup:=by rw[<- S.pre]; exact S.nd.sublist (List.take_sublist _ _)
  refine⟨u,rv,?_⟩
  rcases S.par y (List.mem_of_getElem? hp) with k | k
  ·exact .inl ⟨k,Zae1 ndP hp hu k⟩
  ·obtain⟨c,e⟩:=ZagQ (n:=s.heap.objs.size+1) k
   refine .inr ⟨.inl k,c,e,?_⟩
   have q:=x.cell y c e
   rw[Zae3 ndP hp hu (by show scope.names.lookup y≠_; rw[k]; decide)] at q
   exact q
 ·exact e0.hok.fresh (Nat.le_of_lt (x.above y c (PySem.mem_of_lookup h)))
 ·unfold start
  show _=N.length
  rw[List.length_append,List.length_map,List.length_replicate]
  omega
theorem fn_of {CX : CXT} {P : Program} {w : World} {K : PySem.W.Frag} {mg : Str → Option Value} {base : Heap} {k : Nat} {f : Addr} {name qual : Str} {params : Arguments} {body : List Stmt} {scope : Scope} {dV kV doc pm cdv ct oc : Value} {an od : Option Addr}
  {osl:Array (Option Value)}{N ps:List Str}{sp:Sp} (lk:K.lookup f=some ⟨oc,od,.func (PySem.W.fnOf name qual params body scope dV kV doc pm an cdv ct),osl⟩) (hcd:PySem.W.codeIn K cdv qual=true) (S:FnScope N ps scope)
  (len:∀ vs H Q E,sp vs H Q E->vs.length=ps.length)
  (hbody:∀ (A:Around) (outer:List Env) (s:Shared) (H:Hp) (vs:List V) (Q:VK) (E:XK),Room k (A.deeper (envOfC qual scope s.heap.objs.size f cdv))->sp vs H Q E ->
   ∃ t,PSs (cxOf CX P w K mg base N qual scope f cdv A outer s H E) body t/\t { nx:=fun _ H'=>Q .non H',rt:=Q } (start N vs) H) :
  FnOk P w K mg base CX (k+1) f (PySem.W.fnOf name qual params body scope dV kV doc pm an cdv ct) ps sp:=by
 refine⟨len,fun A outer s H args us vs Q E hr e0 hb r hsp=>?_⟩
 have hl:=len _ _ _ _ hsp
 have KX:K.In s.heap:=e0.mod.kin.keeps fun b o e=>(e0.bs b o e).1
 have lim:s.heap.NoLimit:=e0.mod.nolimit.keeps fun b o e=>(e0.bs b o e).1
 have hkind:∀ y∈ps.zip us,scope.names.lookup y.1=some .local ∨ (scope.names.lookup y.1=some .cell/\((cellsFrom (s.heap.objs.size+1) scope.names []).lookup y.1).isSome=true):=fun ⟨n,v⟩ hy=>by
  rcases S.par n (List.of_mem_zip hy).1 with q | q
  ·exact .inl q
  ·exact .inr ⟨q,PySem.W.cellsFrom_some _ _ _ (.inl q)⟩
 refine codeAny_call_function hr.depth (KX _ _ lk) rfl S.co S.gen rfl (PySem.W.codeRec_of KX hcd) (hb _ _ _ _ ?_)
 refine wpAny_newFunctionEnv_cells S.kind hkind fun env he s1 x=>?_
 subst he
 refine⟨lim.keeps x.toInCall.keep,codeAny_func ?_⟩
 obtain⟨t,ht,hq⟩:=hbody A outer s H vs Q E (hr.deeper _) hsp
 have I:Inv (cxOf CX P w K mg base N qual scope f cdv A outer s H E) [] (start N vs) H s1:=ZahS S hr.hd e0 hl r x
 refine wpAny_mono (ht [] s1 (start N vs) H _ I hq) (fun fl s' hs=>?_) fun e s' hs=>hs
 have fin:∀ {σ':St}{H':Hp}{v:V}{u:Value},Inv (cxOf CX P w K mg base N qual scope f cdv A outer s H E) [] σ' H' s'->RelV v u->Q v H'->CE outer P w H s Q u s' :=
  fun {σ' H' v u} J rv q=>⟨v,H',J.os,J.bare,J.base,J.hok,rv,q⟩
 cases fl with
 | ret u=>
  obtain⟨v,σ',H',J,rv,q⟩:=hs
  exact fin J rv q
 | next=>
  obtain⟨σ',H',J,q⟩:=hs
  exact fin (v:=V.non) (u:=Value.none) J rfl q
 | brk=>
  obtain⟨_,_,_,q⟩:=hs
  exact False.elim q
 | cont=>
  obtain⟨_,_,_,q⟩:=hs
  exact False.elim q
end L2
namespace L2
open PySem PySem.Spec PyProof.Rows
section
variable {X:Cx}{x:Str}{p pos:Pos}{e:Expr}{es:List Expr}{t:TA}{id T:String}{r:List V->Hp->VK->Prop}
def tCB (r:List V->Hp->VK->Prop) (t:TA):TE:=fun σ H Q=>t σ H fun vs H1=>r vs H1 Q
theorem Zaaj (hc : CallR X (.builtin id) r) (hg : Gl X x) (hm : X.mg x = none) (hv : bootBuiltins x = some (.builtin id)) (ha : PA X (e :: es) t) (hn : x ≠ "__name__" := by decide) (hdb : (x == ("__debug__" : Str)) = false := by decide)
  (he:starEach (e::es) X.env=(false,eval e X.env)::starEach es X.env:=by rfl) (hpl:(backTo pos (starEach es X.env)).any (·.1)=false:=by rfl):PE X (.Call (.Name x p) (e::es) [] pos) (tCB r t):=by
 intro pins s σ H Q I h
 refine wpAny_Call_Name_kw (Zad5 I hg hm hv ?_ hn hdb)
 exact PyProof.Rows.callWith_builtin1 (thn (ha pos pins s σ H _ I h) fun us s1 ⟨vs,H1,I1,r1,q1⟩=>hc pins s1 σ H1 vs us Q I1 r1 q1) he hpl
theorem ZaaI (hc : CallR X (.type T) r) (hg : Gl X x) (hm : X.mg x = none) (hv : bootBuiltins x = some (.type T)) (ha : PA X (e :: es) t) (hn : x ≠ "__name__" := by decide) (hdb : (x == ("__debug__" : Str)) = false := by decide)
  (he:starEach (e::es) X.env=(false,eval e X.env)::starEach es X.env:=by rfl) (hpl:(backTo pos (starEach es X.env)).any (·.1)=false:=by rfl):PE X (.Call (.Name x p) (e::es) [] pos) (tCB r t):=by
 intro pins s σ H Q I h
 refine wpAny_Call_Name_kw (Zad5 I hg hm hv ?_ hn hdb)
 exact PyProof.Rows.callWith_type1 (thn (ha pos pins s σ H _ I h) fun us s1 ⟨vs,H1,I1,r1,q1⟩=>hc pins s1 σ H1 vs us Q I1 r1 q1) he hpl
end
end L2
namespace HT
open PySem PyProof.Rows
section
open PySem.SeqAt
open PySem.AutoSeq1 (wpAny_loadPart')
open PySem.MeetsSeq PySem.MeetsSeq2 PySem.MeetsSeq3
end
section
variable {prog:Program}{w:World}{A:Around}{E:Value->Shared->Prop}{s:Shared}
theorem cat_tup {t b : Addr} {vs ws : List Value} {Q : Value → Shared → Prop} (ht : IsTup s.heap t vs.toArray) (hb : IsTup s.heap b ws.toArray) (hv : vs ≠ [])
  (h1:ws=[]->Q (.ref t) s) (h2:ws≠[]->Q (.ref s.heap.objs.size) { s with heap:=s.heap.push { cls:=.type "tuple",data:=.seq (vs++ws).toArray } })
  (hsz:vs.length+ws.length<=sizeLine):wpAny (model prog w) A (binaryOp .Add (.ref t) (.ref b)) Q E s:=by
 obtain⟨⟨cls,dd,data,sl⟩,ho,hc,n,hd⟩:=id ht
 obtain⟨⟨cls2,dd2,data2,sl2⟩,ho2,hc2,n2,hd2⟩:=id hb
 simp only at hc hd hc2 hd2
 subst hc hd hc2 hd2
 have e:vs.toArray++ws.toArray=(vs++ws).toArray:=by simp
 by_cases hw:ws=[]
 ·exact concat_meets ⟨_, ho, rfl⟩ ⟨_, ho2, rfl⟩ noFill_tuple_add seq_tuple_add PySem.F.slot_tuple_add PySem.F.entry_tuple_add (PySem.F.args_tuple_add_2 _ _)
   (tuple_addW1 t b vs.toArray ws.toArray n n2 dd dd2 sl sl2 (by simpa using hv) (by simp[hw])) ⟨ho,ho2,h1 hw⟩
 ·refine concat_meets ⟨_, ho, rfl⟩ ⟨_, ho2, rfl⟩ noFill_tuple_add seq_tuple_add PySem.F.slot_tuple_add PySem.F.entry_tuple_add (PySem.F.args_tuple_add_2 _ _)
   (tuple_addW2 t b vs.toArray ws.toArray n n2 dd dd2 sl sl2 (by simpa using hv) (by simpa using hw) (by rw[List.size_toArray,List.size_toArray]; exact hsz)) ⟨ho,ho2,?_⟩
  rw[e]
  exact h2 hw
def sIx (n d:Nat):Option Int->Nat
 | none=>d
 | some v=>if v<0 then (v+(n:Int)).toNat else min v.toNat n
theorem sIx_nat (n d k:Nat):sIx n d (some (k:Int))=min k n:=by
 show (if (k:Int)<0 then ((k:Int)+(n:Int)).toNat else min (k:Int).toNat n)=min k n
 rw[if_neg (by omega),Int.toNat_natCast]
theorem Zal1 (n d:Nat) (hd:d<=n) (o:Option Int):sIx n d o<=n:=by
 cases o with
 | none=>exact hd
 | some v=>
  show (if v<0 then (v+(n:Int)).toNat else min v.toNat n)<=n
  by_cases hv:v<0
  ·rw[if_pos hv]; omega
  ·rw[if_neg hv]; exact Nat.min_le_right _ _
theorem ZaiN (v:Int) (n d:Nat):(if v<0 then max (v+(n:Int)) 0 else min v (n:Int))=((sIx n d (some v):Nat):Int):=by
 show (if v<0 then max (v+(n:Int)) 0 else min v (n:Int))=(((if v<0 then (v+(n:Int)).toNat else min v.toNat n):Nat):Int)
 by_cases hv:v<0
 ·simp only[if_pos hv]; omega
 ·simp only[if_neg hv]; omega
theorem ZagZ (lo hi:Option Int) (n:Nat):Builtin.Slice.sliceAdjust lo hi 1 (n:Int)=(((sIx n 0 lo:Nat):Int),((sIx n n hi:Nat):Int)):=by
 have h1:¬ ((1:Int)<0):=by omega
 unfold Builtin.Slice.sliceAdjust
 simp only[h1,if_false]
 refine Prod.ext ?_ ?_
 ·cases lo with
  | none=>rfl
  | some v=>exact ZaiN v n 0
 ·cases hi with
  | none=>rfl
  | some v=>exact ZaiN v n n
theorem Zaf8 (i j:Nat):Builtin.Slice.slicePlaces (i:Int) (j:Int) 1=j - i:=by
 unfold Builtin.Slice.slicePlaces
 have h1:(1:Int) > 0:=by omega
 simp only[h1,if_true,Int.ediv_one]
 split <;> omega
theorem Zadj {v:Value}{o:Option Int}{Q:Option Int->Shared->Prop} (p:IsPart v o) (h:Q o s):wpAny (model prog w) A (Builtin.Slice.slicePartIndex v) Q E s:=by
 cases p with
 | none=>exact slicePart_none h
 | int i t=>exact slicePart_int h
theorem Zab5 {sl : Addr} {vl vu : Value} {lo hi : Option Int} {n : Nat} {Q : Int × Int × Nat → Shared → Prop} (hs : s.heap.IsSliceOf sl vl vu .none) (pl : IsPart vl lo) (pu : IsPart vu hi)
  (h:Q (((sIx n 0 lo:Nat):Int),1,sIx n n hi - sIx n 0 lo) s):wpAny (model prog w) A (Builtin.Slice.sliceApplied (.ref sl) (pure (n:Int))) Q E s:=by
 obtain⟨os,hos,hcs,hds⟩:=id hs
 unfold Builtin.Slice.sliceApplied Builtin.Slice.sliceFields
 refine wpAny_bind (wpAny_bind (wpAny_field hos hds (x:=vl) rfl (wpAny_bind (wpAny_field hos hds (x:=vu) rfl (wpAny_bind (wpAny_field hos hds (x:=.none) rfl (wpAny_pure ?_)))))))
 refine wpAny_bind (slicePart_none ?_)
 show wpAny _ _ (if ((1:Int) == 0)=true then _ else _) _ _ s
 rw[if_neg (by decide)]
 refine wpAny_bind (Zadj pl (wpAny_bind (Zadj pu (wpAny_bind (wpAny_pure ?_)))))
 show wpAny _ _ (match Builtin.Slice.sliceAdjust lo hi 1 (n:Int) with | (lo,hi)=>pure (lo,(1:Int),Builtin.Slice.slicePlaces lo hi 1)) _ _ s
 rw[ZagZ lo hi n]
 show wpAny _ _ (pure (((sIx n 0 lo:Nat):Int),(1:Int),Builtin.Slice.slicePlaces ((sIx n 0 lo:Nat):Int) ((sIx n n hi:Nat):Int) 1)) _ _ s
 rw[Zaf8]
 exact wpAny_pure h
theorem Zajn (xs:Array Value) (i k:Nat):((List.range k).filterMap fun (m:Nat)=>xs[((i:Int)+(m:Int)*1).toNat]?).toArray=((xs.toList.drop i).take k).toArray:=by
 have e:(fun (m:Nat)=>xs[((i:Int)+(m:Int)*1).toNat]?)=fun m=>xs[i+m]?:=by
  funext m
  have:((i:Int)+(m:Int)*1).toNat=i+m:=by omega
  rw[this]
 rw[e]
 have:=pick_run xs i k
 rw[List.filterMap_map] at this
 have e2:((fun x=>xs[x]?) ∘ fun x=>i+x)=fun m=>xs[i+m]?:=rfl
 rw[e2] at this
 rw[this]
theorem getItem_tuple_cut {t sl : Addr} {items : Array Value} {vl vu : Value} {lo hi : Option Int} {Q : Value → Shared → Prop} (ht : IsTup s.heap t items) (hs : s.heap.IsSliceOf sl vl vu .none) (pl : IsPart vl lo) (pu : IsPart vu hi)
  (hw:¬ (sIx items.size 0 lo=0/\sIx items.size items.size hi=items.size))
  (h:Q (.ref s.heap.objs.size) { s with heap:=s.heap.push { cls:=.type "tuple",data:=.seq ((items.toList.drop (sIx items.size 0 lo)).take (sIx items.size items.size hi - sIx items.size 0 lo)).toArray } })
  (hsz:items.size<=sizeLine):wpAny (model prog w) A (getItem (.ref t) (.ref sl)) Q E s:=by
 have htake:sizeOk (.seq ((items.toList.drop (sIx items.size 0 lo)).take (sIx items.size items.size hi - sIx items.size 0 lo)).toArray):=by
  show ((items.toList.drop (sIx items.size 0 lo)).take (sIx items.size items.size hi - sIx items.size 0 lo)).toArray.size<=sizeLine
  rw[List.size_toArray,List.length_take,List.length_drop,Array.length_toList]
  omega
 have hj:sIx items.size items.size hi<=items.size:=Zal1 _ _ (Nat.le_refl _) hi
 obtain⟨os,hos,hcs,hds⟩:=id hs
 have hTs:s.TypeIs (.ref sl) "slice":=⟨os,hos,hcs⟩
 unfold getItem
 try with_reducible refine wpAny_holding ?_
 first | refine wpAny_bind (wpAny_pure ?_) | skip
 refine wpAny_bind (wpAny_sequenceKey ht.typeIs (by decide) ?_)
 refine wpAny_bind (wpAny_callSpecial?_slot (name:=Str.ofString "__getitem__") ht.typeIs PyProof.Rows.slot_tuple_getitem
  (wpAny_call_entry PyProof.Rows.slot_tuple_getitem ht.typeIs entry_tuple_getitem ?_ (args_tuple_getitem _ _)))
 show wpAny _ _ (Builtin.Tuple.tupleItemsOf (.ref t) >>= _) _ _ s
 refine wpAny_bind (tupleItemsOf_ ht ?_)
 refine wpAny_bind (wpAny_typeOf hTs ?_)
 rw[if_pos (by decide)]
 refine wpAny_bind (Zab5 hs pl pu ?_)
 have hno:¬ ((((sIx items.size 0 lo:Nat):Int) == 0 && (1:Int) == 1 && (sIx items.size items.size hi - sIx items.size 0 lo) == items.size)=true):=by
  intro q
  rw[Bool.and_eq_true,Bool.and_eq_true] at q
  have q1:((sIx items.size 0 lo:Nat):Int)=0:=eq_of_beq q.1.1
  have q2:sIx items.size items.size hi - sIx items.size 0 lo=items.size:=eq_of_beq q.2
  exact hw ⟨by omega,by omega⟩
 show wpAny _ _ (if (((sIx items.size 0 lo:Nat):Int) == 0 && (1:Int) == 1 && (sIx items.size items.size hi - sIx items.size 0 lo) == items.size)=true then _ else _) _ _ s
 rw[if_neg hno,Zajn]
 first
  | exact wpAny_bind (m:=Builtin.Tuple.tupleExact _) (wpAny_newObj_type (wpAny_pure ⟨_,rfl,wpAny_pure h⟩) htake)
  | exact wpAny_bind (m:=Builtin.Tuple.tupleExact _) (wpAny_newObj_type (wpAny_bind (wpAny_pure (wpAny_pure ⟨_,rfl,wpAny_pure h⟩))) htake)
  | exact wpAny_bind (wpAny_bind (m:=Builtin.Tuple.tupleExact _) (wpAny_newObj_type (wpAny_pure (wpAny_pure ⟨_,rfl,wpAny_pure h⟩)) htake))
  | exact wpAny_bind (wpAny_bind (m:=Builtin.Tuple.tupleExact _) (wpAny_newObj_type (wpAny_pure ⟨_,rfl,wpAny_pure h⟩) htake))
end
end HT
namespace L2
open PySem PySem.Spec PyProof.Rows
abbrev TO:=St->Hp->(Option Int->Hp->Prop)->Prop
def PO (X:Cx) (e:Option Expr) (t:TO):Prop :=
 ∀ (pins:List (Addr × Obj)) (s:Shared) (σ:St) (H:Hp) (Q:Option Int->Hp->Prop),Inv X pins σ H s->t σ H Q ->
  wpAny (model X.prog X.w) X.A (evalPart e X.env) (fun u s'=>∃ o H',Inv X pins σ H' s'/\IsPart u o/\Q o H') X.xe s
def Zakm:TO:=fun _ H Q=>Q none H
def tPart (t:TE):TO:=fun σ H Q=>t σ H fun x H1=>∃ i,x=.int i/\Q (some i) H1
theorem Zadv {ns:List Int}:∀ {us:List Value},Vals (ns.map V.int) us->IntsAre us ns:=by
 induction ns with
 | nil=>intro us r; rw[List.map_nil] at r; cases r; exact .nil
 | cons n ns ih=>
  intro us r
  rw[List.map_cons] at r
  cases r with
  | cons r1 r2=>
   obtain⟨t,e⟩:=r1
   subst e
   exact .cons n t (ih r2)
section
variable {X:Cx}{e:Expr}{te:TE}{lo hi:Option Expr}{tl th:TO}{pos p2:Pos}
theorem Zacc:PO X none Zakm:=by
 intro pins s σ H Q I h
 rw[evalPart_none]
 exact wpAny_pure ⟨none,H,I,.none,h⟩
theorem Zacb (h:PE X e te):PO X (some e) (tPart te):=by
 intro pins s σ H Q I hw
 rw[evalPart_some]
 refine thn (h pins s σ H _ I hw) fun u s1 ⟨x,H1,I1,r1,q1⟩=>?_
 obtain⟨i,rfl,q⟩:=q1
 obtain⟨t,rfl⟩:=r1
 exact⟨some i,H1,I1,.int i t,q⟩
def SlR (X:Cx) (r:V->Option Int->Option Int->Hp->VK->Prop):Prop :=
 ∀ (pins:List (Addr × Obj)) (s:Shared) (σ:St) (H:Hp) (x:V) (v vl vu:Value) (lo hi:Option Int) (sl:Addr) (Q:VK),Inv X pins σ H s->RelV x v->s.heap.IsSliceOf sl vl vu .none->IsPart vl lo->IsPart vu hi->r x lo hi H Q ->
  ∃ T id,typeLookup (.type T) "__getitem__"=pure (some (.builtin id))/\s.TypeIs v T/\wpAny (model X.prog X.w) X.A (getItem v (.ref sl)) (EP X pins σ Q) X.xe s
def tSl (r:V->Option Int->Option Int->Hp->VK->Prop) (te:TE) (tl th:TO):TE:=fun σ H Q=>te σ H fun x H1=>tl σ H1 fun l H2=>th σ H2 fun u H3=>r x l u H3 Q
theorem Zabt {r:V->Option Int->Option Int->Hp->VK->Prop} (hr:SlR X r) (he:PE X e te) (hl:PO X lo tl) (hu:PO X hi th):PE X (.Subscript e (.Slice lo hi none p2) pos) (tSl r te tl th):=by
 intro pins s σ H Q I h
 refine Subscript_ (thn (he pins s σ H _ I h) fun v s1 ⟨x,H1,I1,r1,q1⟩=>?_)
 refine wpAny_Slice (thn (hl pins s1 σ H1 _ I1 q1) fun vl s2 ⟨l,H2,I2,pl,q2⟩=>thn (hu pins s2 σ H2 _ I2 q2) fun vu s3 ⟨u,H3,I3,pu,q3⟩=>?_)
 rw[evalPart_none]
 refine wpAny_pure ?_
 have I4:Inv X pins σ H3 { s3 with heap:=s3.heap.push { cls:=.type "slice",data:=.fields #[vl,vu,.none] } }:=I3.kept (t':=s3.toks) fun b ob q=>Heap.get?_push_of_some _ q
 obtain⟨T,id,hT,ht,hg⟩:=hr pins { s3 with heap:=s3.heap.push { cls:=.type "slice",data:=.fields #[vl,vu,.none] } } σ H3 x v vl vu l u s3.heap.objs.size Q I4 r1 (Heap.IsSliceOf.new ..) pl pu q3
 show wpAny (model X.prog X.w) X.A (subscriptTail e (.Slice lo hi none p2) v (.ref s3.heap.objs.size)) (EP X pins σ Q) X.xe { s3 with heap:=s3.heap.push { cls:=.type "slice",data:=.fields #[vl,vu,.none] } }
 exact tail_any (ops:=[.ref s3.heap.objs.size,v]) ht hT hg (by with_unfolding_all rfl)
def cutV (xs:List V) (lo hi:Option Int):List V:=(xs.drop (HT.sIx xs.length 0 lo)).take (HT.sIx xs.length xs.length hi - HT.sIx xs.length 0 lo)
theorem ZacD (xs:List V) (lo hi:Option Int):(cutV xs lo hi).length<=xs.length:=by
 unfold cutV
 rw[List.length_take,List.length_drop]
 omega
def rSlT (K:PySem.W.Frag):V->Option Int->Option Int->Hp->VK->Prop:=fun x lo hi H Q=>∃ a xs,x=.ref a/\SqT K H a xs /\
 ¬ (HT.sIx xs.length 0 lo=0/\HT.sIx xs.length xs.length hi=xs.length)/\∀ p,H p=none->Q (.ref p) (upd H p (.tup (cutV xs lo hi)))
theorem Zahd:SlR X (rSlT X.K):=by
 intro pins s σ H x v vl vu lo hi sl Q I rx hs pl pu h
 obtain⟨a,xs,rfl,hx,hw,q⟩:=h
 cases rx
 obtain⟨its,r,ht,hz⟩:=I.tuple hx
 have hlen:its.toArray.size=xs.length:=by rw[List.size_toArray]; exact r.length.symm
 refine⟨"tuple",_,PyProof.Rows.slot_tuple_getitem.lookup,ht.typeIs,?_⟩
 refine HT.getItem_tuple_cut ht hs pl pu (by rw[hlen]; exact hw) ?_ (by rw[hlen]; exact hz)
 rw[hlen]
 refine⟨.ref s.heap.objs.size,_,I.laid (t':=s.toks) (o:=.tup (cutV xs lo hi)) (fun b ob q=>Heap.get?_push_of_some _ q) (Nat.le_refl _) ?_,rfl,q _ (I.hok.fresh (Nat.le_refl _))⟩
 exact⟨Nat.le_trans (ZacD xs lo hi) hz,_,(r.drop (HT.sIx xs.length 0 lo)).take (HT.sIx xs.length xs.length hi - HT.sIx xs.length 0 lo),IsTupD.new _ _⟩
def rCatT (K:PySem.W.Frag):R2:=fun x y H Q=>∃ a b xs ys,x=.ref a/\y=.ref b/\SqT K H a xs/\SqT K H b ys/\xs≠[]/\xs.length+ys.length<=sizeLine /\
 (ys=[]->Q (.ref a) H)/\(ys≠[]->∀ p,H p=none->Q (.ref p) (upd H p (.tup (xs++ys))))
theorem Vals.nil_iff {xs:List V}{us:List Value} (r:Vals xs us):us=[]↔xs=[]:=by
 cases r with
 | nil=>simp
 | cons _ _=>simp
theorem Zaiw:OpR X (binaryOp .Add) (rCatT X.K):=by
 intro pins s σ H x y v u Q I rx ry h
 obtain⟨a,b,xs,ys,rfl,rfl,ha,hb,hx,hz,q1,q2⟩:=h
 cases rx
 cases ry
 obtain⟨its,r1,p1,_⟩:=I.tuple ha
 obtain⟨its2,r2,p2,_⟩:=I.tuple hb
 refine HT.cat_tup p1 p2 (fun z=>hx (r1.nil_iff.mp z)) (fun z=>⟨.ref a,H,I,rfl,q1 (r2.nil_iff.mp z)⟩) (fun z=>?_) (by rw[<- r1.length,<- r2.length]; exact hz)
 refine⟨.ref s.heap.objs.size,_,I.laid (t':=s.toks) (o:=.tup (xs++ys)) (fun b ob q=>Heap.get?_push_of_some _ q) (Nat.le_refl _) ?_,rfl,q2 (fun w=>z (r2.nil_iff.mpr w)) _ (I.hok.fresh (Nat.le_refl _))⟩
 exact⟨by rw[List.length_append]; exact hz,_,r1.append r2,IsTupD.new _ _⟩
end
end L2
namespace L2
open PySem PySem.Spec PyProof.Rows
def ixN (n:Nat) (i:Int):Option Nat:=if 0<=i then (if i<n then some i.toNat else none) else if -(n:Int)<=i then some (i+n).toNat else none
def atI {α:Type} (xs:List α) (i:Int):Option α:=(ixN xs.length i).bind fun j=>xs[j]?
theorem ZaiC {n:Nat}{i:Int}{j:Nat} (h:ixN n i=some j):seqIndex? i n=some j/\j<n/\-(n:Int)<=i/\i<n:=by
 unfold ixN at h
 by_cases h0:0<=i
 ·rw[if_pos h0] at h
  by_cases h1:i<n
  ·rw[if_pos h1] at h
   have e:i.toNat=j:=Option.some.inj h
   exact⟨by rw[seqIndex_of h0 h1,e],by omega,by omega,h1⟩
  ·rw[if_neg h1] at h; cases h
 ·rw[if_neg h0] at h
  by_cases h1:-(n:Int)<=i
  ·rw[if_pos h1] at h
   have e:(i+n).toNat=j:=Option.some.inj h
   exact⟨by rw[seqIndex_neg (by omega) h1,e],by omega,h1,by omega⟩
  ·rw[if_neg h1] at h; cases h
theorem ZaiR {α:Type}{xs:List α}{i:Int}{v:α} (h:atI xs i=some v):∃ j,seqIndex? i xs.length=some j/\xs[j]?=some v/\j<xs.length/\-(xs.length:Int)<=i/\i<xs.length:=by
 unfold atI at h
 cases e:ixN xs.length i with
 | none=>rw[e] at h; cases h
 | some j=>
  rw[e] at h
  obtain⟨h1,h2,h3,h4⟩:=ZaiC e
  exact⟨j,h1,h,h2,h3,h4⟩
theorem ZabG {α:Type}{xs:List α}{j:Nat}{v:α} (h:xs[j]?=some v):atI xs (j:Int)=some v:=by
 have hj:j<xs.length:=(List.getElem?_eq_some_iff.mp h).1
 have e:ixN xs.length (j:Int)=some j:=by
  unfold ixN
  rw[if_pos (by omega),if_pos (by omega)]; simp
 unfold atI; rw[e]; exact h
def ZaiS (b:Expr):Prop:=∀ o i,subscripted b false o i=operate [o,i] (getItem o i)
def IxR (X:Cx) (r:R2):Prop :=
 ∀ (value slice:Expr) (pins:List (Addr × Obj)) (s:Shared) (σ:St) (H:Hp) (x y:V) (v u:Value) (Q:VK),Inv X pins σ H s->RelV x v->RelV y u->r x y H Q ->
  subscripted slice false v u=operate [v,u] (getItem v u)->wpAny (model X.prog X.w) X.A (subscriptTail value slice v u) (EP X pins σ Q) X.xe s
def MtR (X:Cx) (id:String) (r:V->List V->Hp->VK->Prop):Prop :=
 ∀ (pins:List (Addr × Obj)) (s:Shared) (σ:St) (H:Hp) (x:V) (xs:List V) (v:Value) (us:List Value) (Q:VK),Inv X pins σ H s->RelV x v->Vals xs us->r x xs H Q ->
  wpAny (model X.prog X.w) X.A (call (.builtin id) (v::us)) (EP X pins σ Q) X.xe s
section
variable {X:Cx}{a b:Expr}{ta tb:TE}{pos:Pos}
theorem pe_ix {r:R2} (hr:IxR X r) (ha:PE X a ta) (hb:PE X b tb) (hs:ZaiS b):PE X (.Subscript a b pos) (tOp r ta tb):=by
 intro pins s σ H Q I h
 exact Subscript_ (binT ha hb I h fun v u s2 x y H2 I2 rx ry q=>hr a b pins s2 σ H2 x y v u Q I2 rx ry q (hs _ _))
def rIxL (K:PySem.W.Frag):R2:=fun x y H Q=>∃ p xs i v,x=.ref p/\y=.int i/\SqL K H p xs/\atI xs i=some v/\Q v H
def rIxT (K:PySem.W.Frag):R2:=fun x y H Q=>∃ p xs i v,x=.ref p/\y=.int i/\SqT K H p xs/\atI xs i=some v/\Q v H
theorem Zabh:IxR X (rIxL X.K):=by
 intro value slice pins s σ H x y v u Q I rx ry h hs
 obtain⟨p,xs,i,z,rfl,rfl,hq,he,q⟩:=h
 cases rx
 obtain⟨t,rfl⟩:=ry
 obtain⟨its,r,pl,hz⟩:=I.list hq
 obtain⟨j,h1,h2,h3,h4,h5⟩:=ZaiR he
 obtain⟨w,ew,rw'⟩:=r.get h2
 have hl:=r.length
 have hn:=ZahL
 have fin:EP X pins σ Q w s:=⟨z,H,I,rw',q⟩
 by_cases h0:0<=i
 ·have hj : i.toNat = j := by
   rw[seqIndex_of h0 h5] at h1
   exact Option.some.inj h1
  exact item_listR pl.isList h0 (by omega) (by rw[hj]; simpa using ew) fin hs
 ·have hj : (i + (its.toArray.size : Int)).toNat = j := by
   rw[seqIndex_neg (by omega) h4] at h1
   rw[List.size_toArray,<- hl]
   exact Option.some.inj h1
  exact subscriptTail_builtinR (x:=w) pl.isList.typeIs slot_list_getitem.lookup
   (wpAny_getItem_list_neg (Q:=fun r s'=>r=w/\EP X pins σ Q r s') pl.isList (by omega) (by rw[List.size_toArray] <;> omega) (by omega) (by rw[hj]; simpa using ew) ⟨rfl,fin⟩) hs
theorem Zabd:IxR X (rIxT X.K):=by
 intro value slice pins s σ H x y v u Q I rx ry h hs
 obtain⟨p,xs,i,z,rfl,rfl,hq,he,q⟩:=h
 cases rx
 obtain⟨t,rfl⟩:=ry
 obtain⟨its,r,pl,hz⟩:=I.tuple hq
 obtain⟨j,h1,h2,h3,h4,h5⟩:=ZaiR he
 obtain⟨w,ew,rw'⟩:=r.get h2
 have hl:=r.length
 have hn:=ZahL
 have fin:EP X pins σ Q w s:=⟨z,H,I,rw',q⟩
 exact subscriptTail_builtinR (x:=w) pl.typeIs slot_tuple_getitem.lookup
  (getItem_tuple (j:=j) (Q:=fun r s'=>r=w/\EP X pins σ Q r s') pl (by omega) (by omega) (by rw[List.size_toArray,<- hl]; exact h1) (by simpa using ew) ⟨rfl,fin⟩) hs
theorem Zagp (its:List Value) (n j:Nat) (u:Value):Obj.mapSeq (·.setIfInBounds j u) { cls:=.type "list",data:=.seq its.toArray n }={ cls:=.type "list",data:=.seq (its.set j u).toArray n }:=by
 simp[Obj.mapSeq]
theorem Inv.lst {pins : List (Addr × Obj)} {σ : St} {H : Hp} {s : Shared} {p : Addr} {xs : List V} (I : Inv X pins σ H s) (h : H p = some (.lst xs)) :
  ∃ (its:List Value) (n:Nat),Vals xs its/\s.heap.get? p=some { cls:=.type "list",data:=.seq its.toArray n }/\xs.length<=sizeLine:=by
 obtain⟨z,its,n,r,e⟩:=I.hok p _ h
 exact⟨its,n,r,e,z⟩
theorem Inv.lstUpd {pins : List (Addr × Obj)} {σ : St} {H : Hp} {s : Shared} {p : Addr} {xs ys : List V} {its its' : List Value} {n n' : Nat} {f : Obj → Obj} (I : Inv X pins σ H s) (h : H p = some (.lst xs))
  (ho:s.heap.get? p=some { cls:=.type "list",data:=.seq its.toArray n }) (hf:f { cls:=.type "list",data:=.seq its.toArray n }={ cls:=.type "list",data:=.seq its'.toArray n' }) (r:Vals ys its') (hz:ys.length<=sizeLine) (t:Nat) :
  Inv X pins σ (upd H p (.lst ys)) { s with heap:=s.heap.update p f,toks:=t }:=by
 have e:(s.heap.update p f).get? p=some { cls:=.type "list",data:=.seq its'.toArray n' }:=by
  rw[Heap.get?_update_self f ho (by rw[hf] <;> rfl),hf]
 refine I.write (x:=p) (e:=p) (by rw[h]; trivial) (.inl rfl) (fun b u hb q=>(Heap.get?_update_other _ _ (Ne.symm hb)).trans q) ⟨_,e⟩ ?_
 exact⟨hz,its',n',r,e⟩
def rSetL:V->V->V->Hp->(Hp->Prop)->Prop:=fun o i v H Q=>∃ p xs k j,o=.ref p/\i=.int k/\H p=some (.lst xs)/\ixN xs.length k=some j/\Q (upd H p (.lst (xs.set j v)))
theorem ZafZ:PSet X rSetL:=by
 intro pins s σ H o i v ov iv u Q I ro ri rv h
 obtain⟨p,xs,k,j,rfl,rfl,hp,hj,q⟩:=h
 cases ro
 obtain⟨t,rfl⟩:=ri
 obtain⟨its,n,r,ho,hz⟩:=I.lst hp
 obtain⟨h1,h2,h3,h4⟩:=ZaiC hj
 have hl:=r.length
 have hn:=ZahL
 have I':Inv X pins σ (upd H p (.lst (xs.set j v))) { s with heap:=s.heap.update p (Obj.mapSeq (·.setIfInBounds j u)) } :=
  I.lstUpd hp ho (Zagp its n j u) (r.set rv j) (by rw[List.length_set]; exact hz) s.toks
 by_cases h0:0<=k
 ·have hk : k.toNat = j := by
   rw[seqIndex_of h0 h4] at h1
   exact Option.some.inj h1
  exact PySem.W.ki_setAt ho h0 (by omega) (by rw[List.size_toArray,<- hl]; exact h4) (by rw[hk]; exact⟨_,I',q⟩)
 ·have hk : (k + (its.toArray.size : Int)).toNat = j := by
   rw[seqIndex_neg (by omega) h3] at h1
   rw[List.size_toArray,<- hl]
   exact Option.some.inj h1
  exact PySem.W.ki_setBack ho (by omega) (by rw[List.size_toArray,<- hl]; exact h3) (by omega) (by rw[hk]; exact⟨_,I',q⟩)
theorem ZadR (lo hi:Option Int) (n:Nat):(sliceBounds lo hi none n).1=((HT.sIx n 0 lo:Nat):Int)/\(sliceBounds lo hi none n).2.1=((HT.sIx n n hi:Nat):Int)/\(sliceBounds lo hi none n).2.2=1:=by
 refine⟨?_,?_,rfl⟩
 ·cases lo with
  | none=>simp[sliceBounds,HT.sIx]
  | some i=>
   simp only[sliceBounds,HT.sIx,Option.getD_none,show (1:Int) > 0 by decide,if_true]
   by_cases h:i<0
   ·simp only[h,if_true] <;> omega
   ·simp only[h,if_false] <;> omega
 ·cases hi with
  | none=>simp[sliceBounds,HT.sIx]
  | some i=>
   simp only[sliceBounds,HT.sIx,Option.getD_none,show (1:Int) > 0 by decide,if_true]
   by_cases h:i<0
   ·simp only[h,if_true] <;> omega
   ·simp only[h,if_false] <;> omega
theorem Zadi (its:List Value) (lo hi:Option Int):slicePick its.toArray lo hi none=((its.drop (HT.sIx its.length 0 lo)).take (HT.sIx its.length its.length hi - HT.sIx its.length 0 lo)).toArray:=by
 obtain⟨h1,h2,h3⟩:=ZadR lo hi its.toArray.size
 unfold slicePick
 rw[h1,h2,h3]
 simp only[sliceRange_one,pick_run,List.size_toArray] <;> rfl
def rSlL (K:PySem.W.Frag):V->Option Int->Option Int->Hp->VK->Prop:=fun x lo hi H Q=>∃ a xs,x=.ref a/\SqL K H a xs/\∀ p,H p=none->Q (.ref p) (upd H p (.lst (cutV xs lo hi)))
theorem ZafY:SlR X (rSlL X.K):=by
 intro pins s σ H x v vl vu lo hi sl Q I rx hs pl pu h
 obtain⟨a,xs,rfl,hx,q⟩:=h
 cases rx
 obtain⟨its,r,ht,hz⟩:=I.list hx
 have hlen:=r.length
 refine⟨"list",_,slot_list_getitem.lookup,ht.isList.typeIs,?_⟩
 refine wpAny_getItem_list_slice ht.isList hs pl pu .none (by simp) ?_ (by rw[List.size_toArray] <;> omega)
 rw[Zadi,<- hlen]
 refine⟨.ref s.heap.objs.size,_,I.laid (t':=s.toks) (o:=.lst (cutV xs lo hi)) (fun b ob q=>Heap.get?_push_of_some _ q) (Nat.le_refl _) ?_,rfl,q _ (I.hok.fresh (Nat.le_refl _))⟩
 exact⟨Nat.le_trans (ZacD xs lo hi) hz,_,0,(r.drop (HT.sIx xs.length 0 lo)).take (HT.sIx xs.length xs.length hi - HT.sIx xs.length 0 lo),Heap.get?_push_size _ rfl⟩
theorem ZaaC:CallR X (.builtin "len") (fun xs H Q=>∃ p ys,xs=[.ref p]/\(SqL X.K H p ys∨SqT X.K H p ys)/\Q (.int ys.length) H):=by
 intro pins s σ H xs us Q I r h
 obtain⟨p,ys,rfl,hq,q⟩:=h
 obtain⟨u,rfl,rx⟩:=vals1 r
 cases rx
 have hn:=ZahL
 rcases hq with hq | hq
 ·obtain⟨its,r',pl,hz⟩:=I.list hq
  have hlen:=r'.length
  exact Calls.call_len_list pl.isList (by simp only[List.size_toArray] <;> omega) ⟨.int ys.length,H,I.tok _,⟨s.toks+1,by rw[List.size_toArray,hlen]⟩,q⟩
 ·obtain⟨its,r',pl,hz⟩:=I.tuple hq
  have hlen:=r'.length
  exact len_tuple pl (by simp only[List.size_toArray] <;> omega) ⟨.int ys.length,H,I.tok _,⟨s.toks+1,by rw[List.size_toArray,hlen]⟩,q⟩
theorem Zaav:CallR X (.type "tuple") (fun xs H Q=>∃ p ys,xs=[.ref p]/\((SqL X.K H p ys/\∀ l,H l=none->Q (.ref l) (upd H l (.tup ys)))∨(SqT X.K H p ys/\Q (.ref p) H))):=by
 intro pins s σ H xs us Q I r h
 obtain⟨p,ys,rfl,h⟩:=h
 obtain⟨u,rfl,rx⟩:=vals1 r
 cases rx
 rcases h with ⟨hq,q⟩ | ⟨hq,q⟩
 ·obtain⟨its,r',pl,hz⟩:=I.list hq
  have hlen:=r'.length
  refine call_tuple_list pl.isList (fun h' kp=>?_) (by simp only[List.size_toArray] <;> omega)
  have I1:Inv X pins σ H { s with heap:=h' }:=I.kept (t':=s.toks) kp
  have I2:Inv X pins σ (upd H h'.objs.size (.tup ys)) { s with heap:=h'.push { cls:=.type "tuple",data:=.seq its.toArray } } :=
   I1.laid (t':=s.toks) (fun b o e=>Heap.get?_push_of_some _ e) (Nat.le_refl _) (show ObjOk X.prog X.w _ _ _ (.tup ys) from⟨hz,its,r',IsTupD.new _ _⟩)
  exact⟨.ref h'.objs.size,_,I2,rfl,q _ (I1.hok.fresh (Nat.le_refl _))⟩
 ·obtain⟨its,r',pl,hz⟩:=I.tuple hq
  exact call_tuple_same pl ⟨.ref p,H,I,rfl,q⟩
def tyV (K:PySem.W.Frag) (T:String) (x:V) (H:Hp):Prop:=match x with
 | .str _=>T="str"
 | .int _=>T="int"
 | .ref p => (T = "list" ∧ ∃ xs, SqL K H p xs) ∨ (T = "tuple" ∧ ∃ o, K.lookup p = some o ∧ o.cls = .type "tuple" ∧ o.dict = none) ∨
   (T="dict"/\((∃ kvs,H p=some (.dK kvs))∨∃ kvs,H p=some (.dT kvs)))∨(T="set"/\∃ S n,H p=some (.set S n))
 | _=>False
theorem ZalJ {pins : List (Addr × Obj)} {σ : St} {H : Hp} {s : Shared} {T : String} {x : V} {v : Value} (I : Inv X pins σ H s) (r : RelV x v) (ty : tyV X.K T x H) :
  s.TypeIs v T/\∀ a,v=.ref a->∃ ob,s.heap.get? a=some ob/\ob.dict=none:=by
 cases x with
 | str z=>
  obtain⟨t,rfl⟩:=r
  cases (show T="str" from ty)
  exact⟨typeIs_str s z t,fun _ e=>nomatch e⟩
 | int i=>
  obtain⟨t,rfl⟩:=r
  cases (show T="int" from ty)
  exact⟨typeIs_int s i t,fun _ e=>nomatch e⟩
 | ref p=>
  cases r
  rcases ty with ⟨rfl,xs,hq⟩ | ⟨rfl,o,hk,hc,hd⟩ | ⟨rfl,hk⟩ | ⟨rfl,S,n,hk⟩
  ·obtain⟨its,_,pl,_⟩:=I.list hq
   refine⟨pl.isList.typeIs,fun a e=>?_⟩
   cases e
   obtain⟨o,n,e,c,hd,_⟩:=pl
   exact⟨o,e,hd⟩
  ·refine⟨⟨o,I.kIn p o hk,hc⟩,fun a e=>?_⟩
   cases e
   exact⟨o,I.kIn _ o hk,hd⟩
  ·have z : ∃ o, s.heap.get? p = some o ∧ o.ExactDict := by
    rcases hk with ⟨kvs,hk⟩ | ⟨kvs,hk⟩
    ·obtain⟨_,_,_,_,o,_,_,e,ex,_⟩:=I.hok p _ hk
     exact⟨o,e,ex⟩
    ·obtain⟨_,_,_,_,o,_,_,e,ex,_⟩:=I.hok p _ hk
     exact⟨o,e,ex⟩
   obtain⟨o,e,ex⟩:=z
   refine⟨⟨o,e,ex.1⟩,fun a e2=>?_⟩
   cases e2
   exact⟨o,e,ex.2.1⟩
  ·obtain⟨o,_,_,_,e,ex,_⟩:=I.hok p _ hk
   refine⟨⟨o,e,ex.1⟩,fun a e2=>?_⟩
   cases e2
   exact⟨o,e,ex.2.1⟩
 | _=>exact False.elim ty
def tBM (K:PySem.W.Frag) (T:String) (r:V->List V->Hp->VK->Prop) (to:TE) (t:TA):TE:=fun σ H Q=>to σ H fun x H1=>tyV K T x H1/\t σ H1 fun xs H2=>r x xs H2 Q
variable {o e:Expr}{es:List Expr}{to:TE}{t:TA}{name:Str}{apos cpos:Pos}{T id:String}{r:V->List V->Hp->VK->Prop}
theorem pe_bm (pa : PlainAttrs T) (slot : Slot T name id) (hty : typeOf (.builtin id) = pure (.type "method_descriptor")) (hm : MtR X id r) (ho : PE X o to) (ha : PA X (e :: es) t)
  (hbase:attributeBase o name X.env (eval o X.env)=eval o X.env:=by rfl)
  (hfew:((backTo cpos (starEach (e::es) X.env)).all (fun x=>!x.1) && (backToKw cpos (keywordEach [] X.env)).all (fun x=>x.1.isSome)
   && decide ((e::es).length+([]:List Keyword).length+(if ([]:List Keyword).isEmpty then 0 else 1)<30))=true:=by rfl)
  (hline:(apos.endLine == cpos.line)=true:=by rfl) (hs:starEach (e::es) X.env=(false,eval e X.env)::starEach es X.env:=by rfl) (hplain:(backTo cpos (starEach es X.env)).any (·.1)=false:=by rfl) :
  PE X (.Call (.Attribute o name apos) (e::es) [] cpos) (tBM X.K T r to t):=by
 intro pins s σ H Q I h
 refine wpAny_Call_method_late hbase hfew hline rfl (thn (ho pins s σ H _ I h) fun v s1 ⟨x,H1,I1,r1,ty,q1⟩=>?_)
 obtain⟨h1,h2⟩:=ZalJ I1 r1 ty
 refine⟨T,id,pa,slot,hty,h1,h2,?_⟩
 have hA:=ha cpos pins s1 σ H1 _ I1 q1
 rw[hs] at hA ⊢
 refine Calls.callWith_builtin (by show (false || (backTo cpos (starEach es X.env)).any (·.1))=false; rw[hplain] <;> rfl) (Calls.evalArgs_plain ?_)
 exact thn hA fun us s2 ⟨vs,H2,I2,r2,q2⟩=>hm pins s2 σ H2 x vs v us Q I2 r1 r2 q2
end
end L2
namespace L2
open PySem PySem.Spec PyProof.Rows
def MtM (X:Cx) (id:String) (r:V->List V->Hp->VK->Prop):Prop :=
 ∀ (pins:List (Addr × Obj)) (s:Shared) (σ:St) (H:Hp) (x:V) (xs:List V) (v:Value) (us:List Value) (Q:VK),Inv X pins σ H s->RelV x v->Vals xs us->r x xs H Q ->
  wpAny (model X.prog X.w) X.A (call (.builtin id) (v::us)) (EP X pins σ Q) X.xe s
theorem Vals.one:∀ {x:V}{us:List Value},Vals [x] us->∃ u,us=[u]/\RelV x u
 | _,_,.cons r .nil=>⟨_,rfl,r⟩
theorem Vals.rep {xs:List V}{us:List Value} (h:Vals xs us):∀ k:Nat,Vals (List.replicate k xs).flatten (List.replicate k us).flatten
 | 0=>.nil
 | k+1=>by
  rw[List.replicate_succ,List.replicate_succ,List.flatten_cons,List.flatten_cons]
  exact Vals.append h (Vals.rep h k)
theorem ZacY (its : List Value) : ∀ (k : Nat) (acc : List Value),
  List.foldl (fun x1 x2=>x1++x2) acc.toArray (List.replicate k its.toArray)=(acc++(List.replicate k its).flatten).toArray
 | 0,acc=>by simp
 | k+1,acc=>by
  have e:acc.toArray++its.toArray=(acc++its).toArray:=by simp
  have e2:(acc++its)++(List.replicate k its).flatten=acc++(List.replicate (k+1) its).flatten:=by
   rw[List.replicate_succ,List.flatten_cons,List.append_assoc]
  rw[<- e2,<- ZacY its k (acc++its),<- e,List.replicate_succ,List.foldl_cons]
section
variable {X:Cx}{pins:List (Addr × Obj)}{σ:St}{H:Hp}{s:Shared}{l b:Addr}{xs ys zs:List V}
theorem Inv.lset {its its' : List Value} {n : Nat} {f : Array Value → Array Value} {t' : Nat} (I : Inv X pins σ H s) (hH : H l = some (.lst xs))
  (e:s.heap.get? l=some { cls:=.type "list",data:=.seq its.toArray n }) (hf:f its.toArray=its'.toArray) (hv:Vals ys its') (hz:ys.length<=sizeLine) :
  Inv X pins σ (upd H l (.lst ys)) { s with heap:=s.heap.update l (Obj.mapSeq f),toks:=t' }:=by
 have q:=PySem.IsL.update e f
 rw[hf] at q
 refine I.write (x:=l) (e:=l) (by rw[hH]; exact trivial) (.inl rfl) (fun b' u hb hu=>(Heap.get?_update_other s.heap (Obj.mapSeq f) (Ne.symm hb)).trans hu) ⟨_,q⟩ ?_
 exact⟨hz,its',_,hv,q⟩
theorem Inv.lnew {its : List Value} {t' : Nat} (I : Inv X pins σ H s) (hv : Vals ys its) (hz : ys.length ≤ sizeLine) :
  Inv X pins σ (upd H s.heap.objs.size (.lst ys)) { s with heap:=s.heap.push { cls:=.type "list",data:=.seq its.toArray },toks:=t' } :=
 I.laid (fun _ _ q=>Heap.get?_push_of_some _ q) (Nat.le_refl _) ⟨hz,its,0,hv,Heap.get?_push_size _ rfl⟩
theorem Inv.fresh (I:Inv X pins σ H s):H s.heap.objs.size=none:=I.hok.fresh (Nat.le_refl _)
theorem Inv.lstM (I:Inv X pins σ H s) (hH:H l=some (.lst xs)):xs.length<=sizeLine/\∃ (its:List Value) (n:Nat),Vals xs its/\xs.length=its.length/\s.heap.get? l=some { cls:=.type "list",data:=.seq its.toArray n }:=by
 obtain⟨z,its,n,r,e⟩:=I.hok l _ hH
 exact⟨z,its,n,r,r.length,e⟩
theorem ZajL {n:Nat} (h:n<=sizeLine):Builtin.List.listTooLong n=false:=by
 unfold Builtin.List.listTooLong
 exact decide_eq_false (by omega)
end
section
variable {X:Cx}
def ZakH:V->List V->Hp->VK->Prop:=fun x vs H Q=>∃ l xs y,x=.ref l/\vs=[y]/\H l=some (.lst xs)/\xs.length<sizeLine/\Q .non (upd H l (.lst (xs++[y])))
theorem ZabC:MtM X "list.append" ZakH:=by
 intro pins s σ H x vs v us Q I rx rv h
 obtain⟨l,xs,y,rfl,rfl,hH,hz,q⟩:=h
 cases rx
 obtain⟨u,rfl,ru⟩:=rv.one
 obtain⟨z,its,n,r,hl,e⟩:=I.lstM hH
 refine call_meets F.slot_list_append ⟨_,e,rfl⟩ F.entry_list_append (F.args_list_append_2 _ _) (PySem.list_append l its.toArray n u (by rw[List.size_toArray]; omega)) ⟨e,?_⟩
 refine⟨.non,_,I.lset (its':=its++[u]) hH e (by simp) (r.append (.cons ru .nil)) ?_,rfl,q⟩
 rw[List.length_append,List.length_singleton]
 omega
def rCat:R2:=fun x y H Q=>∃ l b xs zs,x=.ref l/\y=.ref b/\H l=some (.lst xs)/\H b=some (.lst zs)/\xs.length+zs.length<=sizeLine/\∀ p,H p=none->Q (.ref p) (upd H p (.lst (xs++zs)))
theorem Zacn:OpR X (binaryOp .Add) rCat:=by
 intro pins s σ H x y v u Q I rx ry h
 obtain⟨l,b,xs,zs,rfl,rfl,hH,hB,hz,q⟩:=h
 cases rx
 cases ry
 obtain⟨z,its,n,r,hl,e⟩:=I.lstM hH
 obtain⟨z2,its2,n2,r2,hl2,e2⟩:=I.lstM hB
 refine PySem.P.add_list e e2 ?_ (by rw[List.size_toArray,List.size_toArray]; omega)
 have ea:its.toArray++its2.toArray=(its++its2).toArray:=by simp
 rw[ea]
 exact⟨.ref _,_,I.lnew (t':=s.toks) (r.append r2) (by rw[List.length_append]; omega),rfl,q _ I.fresh⟩
def rRep:R2:=fun x y H Q=>∃ l k xs,x=.ref l/\y=.int k/\H l=some (.lst xs)/\-(2 ^ 63)<=k/\k<2 ^ 63/\xs.length*k.toNat<=sizeLine /\
 ∀ p,H p=none->Q (.ref p) (upd H p (.lst (List.replicate k.toNat xs).flatten))
theorem Zags {α:Type} (xs:List α) (k:Nat):(List.replicate k xs).flatten.length=k*xs.length:=by
 induction k with
 | zero=>simp
 | succ k ih=>rw[List.replicate_succ,List.flatten_cons,List.length_append,ih,Nat.succ_mul,Nat.add_comm]
theorem Zahm:OpR X (binaryOp .Mult) rRep:=by
 intro pins s σ H x y v u Q I rx ry h
 obtain⟨l,k,xs,rfl,rfl,hH,h1,h2,hz,q⟩:=h
 cases rx
 obtain⟨t,rfl⟩:=ry
 obtain⟨z,its,n,r,hl,e⟩:=I.lstM hH
 have hlen:its.toArray.size*k.toNat<=sizeLine:=by rw[List.size_toArray,<- hl]; exact hz
 have hcap:¬ its.toArray.size*k.toNat > (2 ^ 63 - 1) / 8:=by
  have:(sizeLine:Nat)<=(2 ^ 63 - 1) / 8:=by decide
  omega
 have hfit:¬ (!Builtin.List.listFitsIndex k)=true:=by
  rw[fitsIndex_both h1 h2]
  exact Bool.false_ne_true
 have hlong:¬ Builtin.List.listTooLong (its.toArray.size*k.toNat)=true:=by
  rw[ZajL hlen]
  exact Bool.false_ne_true
 have hnew:List.foldl (fun x1 x2=>x1++x2) #[] (List.replicate (if its.toArray.isEmpty=true then 0 else k.toNat) its.toArray)=(List.replicate k.toNat its).flatten.toArray:=by
  have f0:∀ m:Nat,List.foldl (fun x1 x2=>x1++x2) #[] (List.replicate m its.toArray)=(List.replicate m its).flatten.toArray:=fun m=>by
   have:=ZacY its m []
   rw[List.nil_append] at this
   exact this
  rw[f0]
  cases its with
  | nil=>simp
  | cons a r'=>rw[if_neg (by simp)]
 refine wpAny_binaryOp_repeat_ref (T:="list") (U:="int") (by decide) ⟨_,e,rfl⟩ (fun s'=>typeIs_int s' k t) noFill_list_mul F.fills_int_mul F.slot_int_rmul repeat_list F.slot_int_index.lookup
  (call_meets F.slot_int_rmul (typeIs_int s k t) F.entry_int_rmul (F.args_int_rmul_2 _ _) (int___rmul___int_list k t l its.toArray n)
   ⟨e,rfl,⟨_,e,rfl⟩,call_meets F.slot_list_mul ⟨_,e,rfl⟩ F.entry_list_mul (F.args_list_mul_2 _ _) (AutoListH.list___mul___list_int_3 l its.toArray n k t hfit hcap hlong) ⟨e,?_⟩⟩)
 rw[hnew]
 exact⟨.ref _,_,I.lnew (t':=s.toks) (r.rep k.toNat) (by rw[Zags,Nat.mul_comm]; exact hz),rfl,q _ I.fresh⟩
end
section
variable {prog:Program}{w:World}{A:Around}{E:Value->Shared->Prop}{s:Shared}
set_option maxRecDepth 100000 in
end
section
variable {X:Cx}
end
end L2
namespace Att
open PySem PySem.W PySem.Calls PyProof.Rows
theorem Zaco {P:Params}{h:Heap}:∀ (ns:List Int) (vs:List Value),WellAll P h vs (ns.map WData.int)->IntsAre vs ns:=by
 intro ns
 induction ns with
 | nil=>
  intro vs w
  rw[List.map_nil] at w
  cases w
  exact .nil
 | cons n ns ih=>
  intro vs w
  rw[List.map_cons] at w
  cases w with
  | cons a b=>
   cases a
   exact .cons _ _ (ih _ b)
theorem Zahf {l : OpenLaw} {n : Nat} (hn : l.most = some n) {P : Params} {h : Heap} {args : List WData} {vals : List Value}
  (hpre:l.row.toRowW.claim.pre args=true) (hwl:WellAll P h vals args) :
  ∃ a vs ns,vals=[Value.ref a]/\args=[WData.list (ns.map WData.int)]/\h.get? a=some { cls:=.type "list",data:=.seq vs.toArray }/\IntsAre vs ns/\ns.length<=n:=by
 have hsh:WShape.hasAll [] args [.list .int]=true:=(pre_splitW hpre).1
 have hc:l.pre.holds [] { args:=args }=true:=(pre_splitW hpre).2
 obtain⟨d,r,rfl,h1,h2⟩:=hasAllW_cons hsh
 obtain rfl:=hasAllW_nil h2
 obtain⟨xs,rfl,h3⟩:=hasW_list h1
 obtain⟨ns,rfl⟩:=items_int h3
 have hlen:ns.length<=n:=by
  unfold OpenLaw.pre at hc
  have h4:(WTm.not (.lt (.lit (.int (n:Int))) (.len (.arg 0)))).holds [] { args:=[.list (ns.map .int)] }=true:=by
   have h4:=(holds_andW hc).1
   rw[hn] at h4
   exact h4
  have h5:=condW_of h4 (w_not (w_lt w_lit (w_len_list (w_arg rfl))))
  rw[List.length_map] at h5
  refine Nat.le_of_not_lt fun q=>?_
  have q':(n:Int)<((ns.length:Nat):Int):=by omega
  first
   | (rw[decide_eq_true q'] at h5; exact absurd h5 (by decide))
   | (simp at h5; omega)
 cases hwl with
 | cons w1 w2=>
  cases w2
  cases w1 with
  | list ho hall=>exact⟨_,_,ns,rfl,rfl,ho,Zaco ns _ hall,hlen⟩
theorem Zahj (l:OpenLaw) (args:List WData):l.row.toRowW.claim.post args (.bool true) args=true :=
 postW_of (r:=l.row.toRowW) (X:=(true == true))
  (show WShape.has [] (.bool true) .bool=true by first | rfl | decide | simp[WShape.has,WShape.arms,WShape.armsAll])
  (show (WTm.eq .res (.lit (.bool true))).value [] { args:=args,res:=some (.bool true),after:=args }=some (.bool (true == true)) from w_eq_bool (w_res rfl) w_lit) rfl
theorem attach_call {l : OpenLaw} {n : Nat} {q : Program} {loose : List Str} {XP : (Str → Option Value) → Heap → Prop} {YP : World → Heap → Prop} {d : DefRec}
  (hn:l.most=some n) (hdf:d.params.defaults=[])
  (call:∀ (w:World) (s₀ s₁:Shared) (mg mb:Str->Option Value) (fa:Addr) (o:Obj) (pm cd doc:Value) (a:Addr) (vs:List Value) (ns:List Int),
   Ground q loose [] XP w s₀ mg mb s₁.heap->YP w s₁.heap ->
   s₁.heap.get? fa=some o->o.data=.func (docDef d.name d.params d.body d.scope pm cd doc)->s₁.heap.CodeRec cd d.name->mg d.name=some (.ref fa) ->
   s₁.heap.get? a=some { cls:=.type "list",data:=.seq vs.toArray }->IntsAre vs ns->ns.length<=n->s₁.gens=#[] ->
   codeAny (model l.prog w) callerA (.call (.ref fa) ⟨[.ref a],[]⟩) (fun r s'=>r=.ok (.ret (.bool true))/\OldK s₁.heap s'.heap/\s'.os=s₁.os/\AllBare s'.gens) s₁) :
  WalkO q loose XP YP l.row.toRowW d [] (fun f vs=>PySem.call f vs):=by
 intro w s₀ s₁ mg mb G Y fa o pm cd doc dV kV ho hd hcd hD hmg hg args vals as hpre hlay hrd hwl hlo
 obtain rfl:dV=.none:=Dflts.none hD hdf
 obtain rfl:kV=.none:=Dflts.noKw hD
 obtain⟨a,vs,ns,rfl,rfl,hobj,hints,hlen⟩:=Zahf hn hpre hwl
 refine enter_call (codeAny_mono (call w s₀ s₁ mg mb fa o pm cd doc a vs ns G Y ho (fd_plain hd) hcd hmg hobj hints hlen hg) fun r s' hq=>?_)
 obtain⟨rfl,h2,h3,h4⟩:=hq
 exact⟨.inl ⟨.bool true,.bool true,[],rfl,fun _=>rfl,.bool true,Zahj l _,fun _=>⟨List.Pairwise.nil,fun _ hm=>(nomatch hm)⟩⟩,h2,h3,h4⟩
section
variable {prog:Program}{w:World}{A:Around}{E:Value->Shared->Prop}{s:Shared}{K:Frag}
def Zamv (h:Heap) (L d:Addr):List (Addr × Obj):=(List.range h.objs.size).filterMap fun a=>if a=L∨a=d then none else (h.get? a).map fun o=>(a,o)
end
end Att
namespace L2
open PySem PySem.Spec PyProof.Rows
theorem Zael:∀ {vs:List Value}{ns:List Int},IntsAre vs ns->Vals (ns.map V.int) vs
 | _,_,.nil=>.nil
 | _,_,.cons n t h=>.cons ⟨t,rfl⟩ (Zael h)
def Only (H:Hp):Prop:=∀ b,H b=none∨∃ o xs,H b=some (.frz o (.lst xs))
theorem ZajR {P : Program} {w : World} {K : PySem.W.Frag} {mg mb : Str → Option Value} {CX : CXT} {k : Nat} {fa a : Addr} {fd : FuncData} {x : Str} {sp : Sp} {s₁ : Shared} {vs : List Value} {ns : List Int}
  (KX:K.In s₁.heap) (hns:s₁.heap.Ns mainGlobals mg) (hb:s₁.heap.Ns builtinsNs mb) (hbb:∀ x:Str,x≠"__name__"->mb x=bootBuiltins x) (hlim:s₁.heap.NoLimit) (hg:s₁.gens=#[])
  (ha:s₁.heap.get? a=some { cls:=.type "list",data:=.seq vs.toArray }) (hi:IntsAre vs ns) (hl:ns.length<=sizeLine) (hr:Room k callerA)
  (F:∀ base:Heap,K.In base->base.Ns mainGlobals mg->FnOk P w K mg base CX k fa fd [x] sp) (hbind:∀ (s:Shared) (u:Value),BindsTo s fd ⟨[u],[]⟩ [(x,u)])
  (hsp:∀ H:Hp,Only H->SqL K H a (ns.map V.int)->sp [.ref a] H (fun v _=>v=.bl true) fun _ _ _=>False)
  (hCX:∀ H e s',CX [] H s₁ (fun _ _ _=>False) e s'->False) :
  codeAny (model P w) callerA (.call (.ref fa) ⟨[.ref a],[]⟩) (fun r s'=>r=.ok (.ret (.bool true))/\OldK s₁.heap s'.heap/\s'.os=s₁.os/\AllBare s'.gens) s₁:=by
 have rv:=Zael hi
 have lenV:=hi.length
 have core : ∀ H : Hp, Only H → SqL K H a (ns.map V.int) → HOk P w H s₁.heap → (∀ b, H b ≠ none → b = a) → (H a ≠ none → K.lookup a = none) →
   codeAny (model P w) callerA (.call (.ref fa) ⟨[.ref a],[]⟩) (fun r s'=>r=.ok (.ret (.bool true))/\OldK s₁.heap s'.heap/\s'.os=s₁.os/\AllBare s'.gens) s₁:=by
  intro H hO hS hok hA hK
  have base_of:∀ {b:Addr}{o:Obj},s₁.heap.get? b=some o->H b=none->(hidT s₁.heap H).get? b=some o:=fun e n=>ZajY e n
  have noA:∀ {b:Addr}{o:Obj}{es:Array DictEntry}{ep:Nat},s₁.heap.get? b=some o->o.data=.dict es ep->H b=none:=fun {b o es ep} e d=>by
   cases q:H b with
   | none=>rfl
   | some u=>
    have e':b=a:=hA b (by rw[q]; simp)
    subst e'
    rw[ha] at e; cases e
    have d':Data.seq vs.toArray _=Data.dict es ep:=d
    cases d'
  have nsK:∀ {b:Addr}{m:Str->Option Value},s₁.heap.Ns b m->(hidT s₁.heap H).Ns b m:=fun {b m} ⟨o,es,ep,e,d,r⟩=>⟨o,es,ep,base_of e (noA e d),d,r⟩
  have hKb:K.In (hidT s₁.heap H):=fun b o e=>base_of (KX b o e) (by
   cases q:H b with
   | none=>rfl
   | some u=>
    have e':b=a:=hA b (by rw[q]; simp)
    subst e'
    rw[hK (by rw[q]; simp)] at e; cases e)
  have hM:Mod K mg (hidT s₁.heap H):=⟨hKb,nsK hns,⟨mb,nsK hb,hbb⟩,let ⟨mc,h1,h2⟩:=hlim; ⟨mc,nsK h1,h2⟩⟩
  have e0:Env0 P w K mg (hidT s₁.heap H) callerA [] s₁ H:=⟨rfl,hM,fun b o e=>Zak7 e,Nat.le_of_eq (ZahV _ _),trivial,fun b hb=>absurd (show b∈([]:List Addr) from hb) (by simp),hok,.of_eq hg⟩
  refine codeAny_mono ((F _ hKb (nsK hns)).run callerA [] s₁ H ⟨[.ref a],[]⟩ [.ref a] [.ref a] _ _ hr e0 (hbind s₁ (.ref a)) (.cons rfl .nil) (hsp H hO hS)) fun r s' h=>?_
  cases r with
  | error e=>exact (hCX H e s' h).elim
  | ok fl=>
   cases fl with
   | next=>exact False.elim h
   | brk=>exact False.elim h
   | cont=>exact False.elim h
   | ret u=>
    obtain⟨v,H',os,bare,un,hok',r',q⟩:=h
    have q':v=.bl true:=q
    subst q'
    obtain rfl:u=Value.bool true:=r'
    refine⟨rfl,OldK.of_keep fun b o e=>?_,os,bare⟩
    cases q:H b with
    | none=>exact un.keep b o e q (by intro z; exact absurd (show b∈([]:List Addr) from z) (by simp)) (by simp)
    | some u=>
     rcases hO b with z | ⟨ob,xs,z⟩
     ·rw[q] at z; cases z
     ·have z2:=un.frzs b ob _ z
      obtain⟨e1,_⟩:=hok b _ z
      obtain⟨e2,_⟩:=hok' b _ z2
      rw[e] at e1; cases e1
      exact e2
 cases hk:K.lookup a with
 | some o=>
  have e:=KX a o hk
  rw[ha] at e
  cases e
  refine core (fun _=>none) (fun _=>.inl rfl) (.inr ⟨_,vs.toArray,_,hk,rfl,rfl,rfl,by rw[List.size_toArray,lenV]; exact hl,by simpa using rv⟩) (fun b u z=>by have z':(none:Option HO)=some u:=z; cases z') (fun b z=>absurd rfl z) fun z=>absurd rfl z
 | none=>
  refine core (fun b=>if b=a then some (.frz { cls:=.type "list",data:=.seq vs.toArray } (.lst (ns.map V.int))) else none) (fun b=>?_) (.inl (.inr ⟨{ cls:=.type "list",data:=.seq vs.toArray },if_pos rfl⟩)) (fun b u z=>?_) (fun b z=>?_) fun _=>hk
  ·by_cases hb:b=a
   ·exact .inr ⟨_,_,if_pos hb⟩
   ·exact .inl (if_neg hb)
  ·by_cases hb:b=a
   ·have z':=(if_pos hb).symm.trans z
    cases z'
    subst hb
    exact⟨ha,by rw[List.length_map]; exact hl,vs,_,rv,ha⟩
   ·have z':=(if_neg hb).symm.trans z
    cases z'
  ·by_cases hb:b=a
   ·exact hb
   ·exact absurd (if_neg hb) z
end L2
namespace L2
open PySem PySem.Spec PyProof.Rows
theorem walk_of {l : PySem.W.OpenLaw} {n k : Nat} {q : Program} {loose : List Str} {XP : (Str → Option Value) → Heap → Prop} {YP : World → Heap → Prop} {d : DefRec} {K : Params → PySem.W.Frag} {CX : World → CXT} {sp : World → Sp} {x : Str}
  (hn:l.most=some n) (hn2:n<=sizeLine) (hdf:d.params.defaults=[]) (hr:Room k callerA)
  (hY:∀ (w:World) (h:Heap),YP w h->(K w.params).In h)
  (F:∀ (w:World) (mg:Str->Option Value) (fa:Addr) (h:Heap),(K w.params).In h->h.Ns mainGlobals mg->mg d.name=some (.ref fa) ->
   ∃ fd:FuncData,(∀ (s:Shared) (u:Value),BindsTo s fd ⟨[u],[]⟩ [(x,u)]) /\
    ∀ base:Heap,(K w.params).In base->base.Ns mainGlobals mg->FnOk l.prog w (K w.params) mg base (CX w) k fa fd [x] (sp w))
  (hsp:∀ (w:World) (H:Hp) (a:Addr) (ns:List Int),ns.length<=n->Only H->SqL (K w.params) H a (ns.map V.int)->sp w [.ref a] H (fun v _=>v=.bl true) fun _ _ _=>False)
  (hCX:∀ (w:World) (H:Hp) (s:Shared) (e:Value) (s':Shared),CX w [] H s (fun _ _ _=>False) e s'->False) :
  PySem.W.WalkO q loose XP YP l.row.toRowW d [] (fun f vs=>PySem.call f vs):=by
 refine Att.attach_call hn hdf fun w s₀ s₁ mg mb fa o pm cd doc a vs ns G Y ho hd hcd hmg hobj hints hlen hg=>?_
 have KX:=hY w _ Y
 obtain⟨fd,hb,hF⟩:=F w mg fa _ KX G.T.g hmg
 exact ZajR KX G.T.g G.T.b G.T.builtins G.T.nolimit hg hobj hints (Nat.le_trans hlen hn2) hr hF hb (fun H hO hS=>hsp w H a ns hlen hO hS) fun H e s'=>hCX w H s₁ e s'
end L2
namespace L2
open PySem PySem.Spec PyProof.Rows
def Zaal (s:Stmt):Arguments:=match s with
 | .FunctionDef _ a _ _ _ _ _ _ _ _=>a
 | _=>{ posonlyargs:=[],args:=[],vararg:=none,kwonlyargs:=[],kw_defaults:=[],kwarg:=none,defaults:=[] }
def Zaai (s:Stmt):List Stmt:=match s with
 | .FunctionDef _ _ b _ _ _ _ _ _ _=>b
 | _=>[]
def Zaac (s:Stmt):Scope:=match s with
 | .FunctionDef _ _ _ _ _ _ sc _ _ _=>sc
 | _=>{ kind:=.function,names:=[],isGenerator:=false,isCoroutine:=false }
abbrev CX0:CXT:=fun _ _ _ _ _ _=>False
abbrev E0:XK:=fun _ _ _=>False
theorem pass0 {X:Cx}:Zafw CX0 X E0:=fun _ _ _ _ _ _ _ h=>h.elim
structure Fun (K:PySem.W.Frag) (x qual:Str) (st:Stmt) (f:Addr) (fd:FuncData):Prop where
 ex:∃ (oc:Value) (od:Option Addr) (kV doc pm:Value) (an:Option Addr) (cdv ct:Value) (osl:Array (Option Value)),
  fd=PySem.W.fnOf x qual (Zaal st) (Zaai st) (Zaac st) .none kV doc pm an cdv ct/\K.lookup f=some ⟨oc,od,.func fd,osl⟩/\PySem.W.codeIn K cdv qual=true
 kp:PySem.W.keepIn K (.ref f)=true
section
variable {P:Program}{w:World}{K:PySem.W.Frag}{mg:Str->Option Value}{base:Heap}
theorem Fun.ok {x qual : Str} {st : Stmt} {f : Addr} {fd : FuncData} {N ps : List Str} {k : Nat} {sp : Sp} (F : Fun K x qual st f fd) (S : FnScope N ps (Zaac st)) (len : ∀ vs H Q E, sp vs H Q E → vs.length = ps.length)
  (hbody:∀ (cdv:Value) (A:Around) (outer:List Env) (s:Shared) (H:Hp) (vs:List V) (Q:VK) (E:XK),Room k (A.deeper (envOfC qual (Zaac st) s.heap.objs.size f cdv))->sp vs H Q E ->
   ∃ t,PSs (cxOf CX0 P w K mg base N qual (Zaac st) f cdv A outer s H E).nox (Zaai st) t/\t { nx:=fun _ H'=>Q .non H',rt:=Q } (start N vs) H):FnOk P w K mg base CX0 (k+1) f fd ps sp:=by
 obtain⟨oc,od,kV,doc,pm,an,cdv,ct,osl,rfl,lk,hcd⟩:=F.ex
 refine fn_of lk hcd S len fun A outer s H vs Q E hr hsp=>?_
 obtain⟨t,h,q⟩:=hbody cdv A outer s H vs Q E hr hsp
 exact⟨t,h.nox,q⟩
theorem Fun.binds {x qual : Str} {st : Stmt} {f : Addr} {fd : FuncData} {ps : List Str} (F : Fun K x qual st f fd)
  (h:∀ (kV doc pm:Value) (an:Option Addr) (cdv ct:Value) (us:List Value),us.length=ps.length->bindArgs (PySem.W.fnOf x qual (Zaal st) (Zaai st) (Zaac st) .none kV doc pm an cdv ct) ⟨us,[]⟩=pure (ps.zip us)):Binds K fd ps []:=by
 obtain⟨oc,od,kV,doc,pm,an,cdv,ct,osl,rfl,lk,hcd⟩:=F.ex
 exact .all (h kV doc pm an cdv ct)
theorem Zaaz {x qual : Str} {st : Stmt} {f : Addr} {oc : Value} {od an : Option Addr} {osl : Array (Option Value)} {kV doc pm cdv ct : Value} (l : K.lookup f = some ⟨oc, od, .func (PySem.W.fnOf x qual (Zaal st) (Zaai st) (Zaac st) .none kV doc pm an cdv ct), osl⟩)
  (c:PySem.W.codeIn K cdv qual=true) (k:PySem.W.keepIn K (.ref f)=true):Fun K x qual st f (PySem.W.fnOf x qual (Zaal st) (Zaai st) (Zaac st) .none kV doc pm an cdv ct):=⟨⟨oc,od,kV,doc,pm,an,cdv,ct,osl,rfl,l,c⟩,k⟩
end
theorem hu_of {A:Around}{k:Nat} (hr:Room k A):A.units+1<cLine:=Nat.lt_of_le_of_lt (Nat.add_le_add_left (by decide:1<=64) _) hr.units
theorem Zaap {n:Nat} (h:n<=1000):n<sizeLine:=Nat.lt_of_le_of_lt h (by decide)
section
variable {X:Cx}
theorem pv (i : Nat) {x : Str} {pos : Pos} (hN : X.N[i]? = some x := by rfl) (hv : Vis X.env.scope x := by first | exact Or.inl rfl | exact Or.inr (Or.inl rfl) | exact Or.inr (Or.inr rfl)) (hd : (x == ("__debug__" : Str)) = false := by decide)
  (hcd:(x == ("__classdict__":Str))=false:=by decide):PE X (.Name x pos) (tVar i):=ZakQ hN hv hd hcd
end
theorem iteF {A B:Prop} (h:B):if false=true then A else B:=by
 rw[if_neg Bool.false_ne_true]
 exact h
theorem iteT {A B:Prop} (h:A):if true=true then A else B:=by
 rw[if_pos rfl]
 exact h
theorem ite2 {c A B:Prop} [Decidable c] (h1:c->A) (h2:¬ c->B):if c then A else B:=by
 by_cases h:c
 ·rw[if_pos h]
  exact h1 h
 ·rw[if_neg h]
  exact h2 h
def Same (H H':Hp):Prop:=∀ b o,H b=some o->H' b=some o
theorem Same.refl (H:Hp):Same H H:=fun _ _ h=>h
theorem Same.trans {H H1 H2:Hp} (a:Same H H1) (b:Same H1 H2):Same H H2:=fun c o h=>b c o (a c o h)
theorem Same.free {H H':Hp} (e:Same H H') {l:Addr} (h:H' l=Option.none):H l=Option.none:=by
 cases q:H l with
 | none=>rfl
 | some o=>
  rw[e l o q] at h
  cases h
theorem Same.seq {K:PySem.W.Frag}{H H':Hp}{a:Addr}{xs:List V} (e:Same H H') (h:SqL K H a xs):SqL K H' a xs:=by
 rcases h with (h | ⟨o,h⟩) | h
 ·exact .inl (.inl (e _ _ h))
 ·exact .inl (.inr ⟨o,e _ _ h⟩)
 ·exact .inr h
end L2
set_option maxHeartbeats 4000000
namespace L2
open PySem PySem.Spec PyProof.Rows
def Zack (env:Env):List (Str × NameKind)->List (Str × Addr)->List (Str × Addr)
 | [],cs=>cs
 | (n,k)::r,cs=>Zack env r (if k == .free then (n,(env.cells.lookup n).getD 0)::cs else cs)
abbrev clOf (scope:Scope) (env:Env):List (Str × Addr):=Zack env scope.names []
theorem ZabU {env : Env} : ∀ (names : List (Str × NameKind)) (cs : List (Str × Addr)), (∀ x ∈ names, x.2 = .free → ∃ c, env.cells.lookup x.1 = some c) →
  (forIn names cs fun (x:Str × NameKind) r=>do
   if x.2 == .free then
    let c <- cellOf env x.1
    pure (ForInStep.yield ((x.1,c)::r))
   else pure (ForInStep.yield r):Sem (List (Str × Addr)))=pure (Zack env names cs)
 | [],cs,_=>rfl
 | (n,k)::r,cs,h=>by
  rw[List.forIn_cons]
  have ih:=fun cs'=>ZabU (env:=env) r cs' fun x hx=>h x (List.mem_cons_of_mem _ hx)
  by_cases hk:k=.free
  ·subst hk
   obtain⟨c,hc⟩:=h (n,.free) List.mem_cons_self rfl
   have hc':env.cells.lookup n=some c:=hc
   have ec:cellOf env n=pure c:=by unfold cellOf; rw[hc']
   dsimp only
   rw[if_pos (by rfl),ec]
   show (forIn r ((n,c)::cs) _:Sem _)=_
   rw[ih]
   conv=>rhs; unfold Zack
   rw[if_pos (by rfl),hc']
   rfl
  ·have hb:(k == NameKind.free)=false:=by simpa using hk
   dsimp only
   rw[if_neg (by rw[hb]; decide)]
   show (forIn r cs _:Sem _)=_
   rw[ih]
   conv=>rhs; unfold Zack
   rw[if_neg (by rw[hb]; decide)]
theorem ZabF {scope:Scope}{env:Env} (h:∀ x∈scope.names,x.2=.free->∃ c,env.cells.lookup x.1=some c):closureFor scope env=pure (clOf scope env):=by
 unfold closureFor
 have e:=ZabU (env:=env) scope.names [] h
 simp only[bind_pure]
 exact e
theorem ZaeV {env:Env}{x:Str}{c:Addr}:∀ (names:List (Str × NameKind)) (cs:List (Str × Addr)),(Zack env names cs).lookup x=some c->((x,NameKind.free)∈names/\c=(env.cells.lookup x).getD 0)∨cs.lookup x=some c
 | [],_,h=>.inr h
 | (n,k)::r,cs,h=>by
  unfold Zack at h
  rcases ZaeV r _ h with ⟨h1,h2⟩ | h1
  ·exact .inl ⟨List.mem_cons_of_mem _ h1,h2⟩
  ·by_cases hk:k=.free
   ·subst hk
    rw[if_pos (by rfl),List.lookup_cons] at h1
    cases e:x == n with
    | true=>
     rw[e] at h1
     have en:x=n:=eq_of_beq e
     subst en
     exact .inl ⟨List.mem_cons_self,(Option.some.inj h1).symm⟩
    | false=>rw[e] at h1; exact .inr h1
   ·have hb:(k == NameKind.free)=false:=by simpa using hk
    rw[if_neg (by rw[hb]; decide)] at h1
    exact .inr h1
theorem ZaiO {env:Env}{x:Str}:∀ (names:List (Str × NameKind)) (cs:List (Str × Addr)),(∃ c,cs.lookup x=some c)->∃ c,(Zack env names cs).lookup x=some c
 | [],_,h=>h
 | (n,k)::r,cs,h=>by
  unfold Zack
  refine ZaiO r _ ?_
  split
  ·rw[List.lookup_cons]
   split
   ·exact⟨_,rfl⟩
   ·exact h
  ·exact h
theorem Zaia {env:Env}{x:Str}:∀ (names:List (Str × NameKind)) (cs:List (Str × Addr)),(x,NameKind.free)∈names->∃ c,(Zack env names cs).lookup x=some c
 | [],_,h=>by simp at h
 | (n,k)::r,cs,h=>by
  unfold Zack
  rcases List.mem_cons.mp h with e | h
  ·cases e
   refine ZaiO r _ ?_
   rw[if_pos (by rfl),List.lookup_cons]
   exact⟨(env.cells.lookup x).getD 0,by simp⟩
  ·exact Zaia r _ h
theorem Zaf4 {scope:Scope}{env:Env}{x:Str} (hcell:∀ y∈scope.names,y.2≠.cell) (h:(relabel scope env).names.lookup x=some .cell∨(relabel scope env).names.lookup x=some .free):(x,NameKind.free)∈scope.names:=by
 have hm:∃ k,(x,k)∈(relabel scope env).names/\(k=.cell∨k=.free):=by
  rcases h with h | h
  ·exact⟨_,PySem.mem_of_lookup h,.inl rfl⟩
  ·exact⟨_,PySem.mem_of_lookup h,.inr rfl⟩
 obtain⟨k,hm,hk⟩:=hm
 obtain⟨⟨n,k'⟩,h1,h2⟩:=List.mem_map.mp hm
 dsimp only at h2
 split at h2
 ·rename_i hc
  have:k'=.free:=by
   simp only[Bool.and_eq_true,beq_iff_eq] at hc
   exact hc.1.1
  cases h2
  subst this
  exact h1
 ·cases h2
  rcases hk with rfl | rfl
  ·exact absurd rfl (hcell _ h1)
  ·exact h1
theorem Zabs {env : Env} {x : Str} : ∀ {names : List (Str × NameKind)}, names.lookup x = some .free →
  (names.map fun (n,k)=>if (k == NameKind.free && env.scope.kind == .function && env.kindOf n == some .cell) then (n,NameKind.cell) else (n,k)).lookup x=some .cell ∨
  (names.map fun (n,k)=>if (k == NameKind.free && env.scope.kind == .function && env.kindOf n == some .cell) then (n,NameKind.cell) else (n,k)).lookup x=some .free
 | [],h=>by simp at h
 | (n,k)::r,h=>by
  have ih:=@Zabs env x r
  rw[List.map_cons]
  dsimp only
  cases hx:x == n with
  | true=>
   simp only[List.lookup_cons,hx] at h
   cases h
   split
   ·left; simp[List.lookup_cons,hx]
   ·right; simp[List.lookup_cons,hx]
  | false=>
   simp only[List.lookup_cons,hx] at h
   split
   ·simp only[List.lookup_cons,hx]; exact ih h
   ·simp only[List.lookup_cons,hx]; exact ih h
section
variable {prog:Program}{w:World}{A:Around}{R:Result->Shared->Prop}{s:Shared}
theorem ZabE {elt target iter : Expr} {ifs : List Expr} {scope : Scope} {pos : Pos} {it acc : Value} {env : Env} (I : Nat → Shared → Prop)
  (turn:∀ n s,I n s->wpAny (model prog w) A (pyNext it) (fun r s₁=>match r with
   | none=>R (.ok .next) s₁
   | some v => wpAny (model prog w) A (letOwnedTupleGo target it v) (fun _ s₁' => wpAny (model prog w) A (assign target env v) (fun _ s₂ =>
     wpAny (model prog w) A (forIn ifs true fun c r=>if r=true then do let ok <- isTrue c env (eval c env); pure (ForInStep.yield ok) else pure (ForInStep.yield r)) (fun ok s₃=>
      if ok=true then wpAny (model prog w) A (eval elt env) (fun x s₄=>
       wpAny (model prog w) A (call (.builtin "list.append") [acc,x]) (fun _ s₅=>∃ m,m<n/\I m s₅) (fun _ _=>False) s₄) (fun _ _=>False) s₃
      else ∃ m,m<n/\I m s₃) (fun _ _=>False) s₂) (fun _ _=>False) s₁') (fun _ _=>False) s₁) (fun _ _=>False) s)
  (n:Nat) (h:I n s) :
  codeAny (model prog w) A (.compLoop (.ListComp elt [⟨target,iter,ifs,0⟩] scope pos) 0 it acc env) R s:=by
 refine codeAny_loop rfl I (fun n s hI=>?_) n h
 show wpAny _ A ((compTurn (.ListComp elt [⟨target,iter,ifs,0⟩] scope pos) 0 it acc env).onRaise (fun x=>do noteFrame x env; theTreesLotGoes x)) _ _ s
 refine wpAny_noted ?_
 rw[compTurn_list]
 refine wpAny_bind (wpAny_standAt (wpAny_bind (wpAny_mono (turn n s hI) (fun r s₁ h₁=>?_) fun _ _ h'=>h'.elim)))
 cases r with
 | none=>exact wpAny_pure h₁
 | some v=>
  refine wpAny_bind (wpAny_mono h₁ (fun _ s₁' h₁=>?_) fun _ _ h'=>h'.elim)
  refine wpAny_bind (wpAny_mono h₁ (fun _ s₂ h₂=>wpAny_bind (wpAny_mono h₂ (fun ok s₃ h₃=>?_) fun _ _ h'=>h'.elim)) fun _ _ h'=>h'.elim)
  cases ok with
  | false=>exact wpAny_pure ⟨rfl,h₃⟩
  | true=>
   exact wpAny_bind (wpAny_bind (wpAny_mono h₃ (fun x s₄ h₄=>wpAny_bind (wpAny_mono h₄ (fun _ s₅ h₅=>wpAny_pure (wpAny_pure ⟨rfl,h₅⟩)) fun _ _ h'=>h'.elim)) fun _ _ h'=>h'.elim))
end
def PTs (X:Cx) (ifs:List Expr) (t:TT):Prop :=
 ∀ (pins:List (Addr × Obj)) (s:Shared) (σ:St) (H:Hp) (Q:Bool->Hp->Prop),Inv X pins σ H s->t σ H Q ->
  wpAny (model X.prog X.w) X.A (forIn ifs true fun c r=>if r=true then do let ok <- isTrue c X.env (eval c X.env); pure (ForInStep.yield ok) else pure (ForInStep.yield r)) (TP X pins σ Q) X.xe s
def tTrue:TT:=fun _ H Q=>Q true H
theorem ZaaW {X:Cx}:PTs X [] tTrue:=fun _ _ _ H _ I h=>wpAny_tests_nil ⟨H,I,h⟩
theorem ZakJ {X:Cx}{c:Expr}{t:TT} (h:PT X c t):PTs X [c] t:=fun pins s σ H Q I q=>wpAny_tests_one (h pins s σ H Q I q)
def Cx.blk (X:Cx) (scope:Scope) (own:List Str) (js:List Nat) (s₂:Shared) (H₂:Hp) (C:Addr) (fp:List Addr) (pins:List (Addr × Obj)):Cx where
 prog:=X.prog
 w:=X.w
 K:=X.K
 mg:=X.mg
 base:=X.base
 A:=X.A
 N:=own++js.map fun j=>X.N.getD j Str.empty
 s₀:=s₂
 H₀:=H₂
 env:=compEnvC scope (clOf scope X.env) C X.env
 outer:=X.stack
 stack:=X.stack
 ex:=fp
 fn:=fun _=>false
 calm:=X.calm
 pn:=X.pn++pins
 xe:=fun _ _=>False
def blkσ (own:List Str) (js:List Nat) (σ:St):St:=own.map (fun _=>none)++js.map fun j=>(σ[j]?).join
section
variable {X:Cx}{pins:List (Addr × Obj)}{σ:St}{H H':Hp}{s s':Shared}{scope:Scope}{own:List Str}{js:List Nat}{C:Addr}{fp:List Addr}
structure CompOk (X:Cx) (scope:Scope) (own:List Str) (js:List Nat):Prop where
 kind:scope.kind=.function
 cell:∀ y∈scope.names,y.2≠.cell
 free:∀ y∈scope.names,y.2=.free->X.env.kindOf y.1=some .cell∨X.env.kindOf y.1=some .free
 names:∀ y∈scope.names,y.2=.local -> scope.names.lookup y.1=some .local
 out:∀ j∈js,∃ x,X.N[j]?=some x/\scope.names.lookup x=some .free
theorem CompOk.cl (c:CompOk X scope own js) (I:Inv X pins σ H s):∀ x∈scope.names,x.2=.free->∃ c,X.env.cells.lookup x.1=some c:=fun x hx hf=>I.ok.has x.1 (c.free x hx hf)
theorem CompOk.look (c:CompOk X scope own js) (I:Inv X pins σ H s) {x:Str}{a:Addr} (h:(clOf scope X.env).lookup x=some a):X.env.cells.lookup x=some a:=by
 rcases ZaeV _ _ h with ⟨h1,h2⟩ | h1
 ·obtain⟨c',e⟩:=c.cl I (x,.free) h1 rfl
  have e':X.env.cells.lookup x=some c':=e
  rw[e'] at h2 ⊢
  subst h2
  rfl
 ·simp at h1
theorem ZalD (c:CompOk X scope own js) (I:Inv X pins σ H s) (hC:s.heap.objs.size<=C) (hf:∀ b∈fp,FpOk X pins H b) (ho:∀ b∈fp,∃ o,s.heap.get? b=some o):(X.blk scope own js s H C fp pins).Ok where
 mod:=I.ok.mod
 kind:=c.kind
 glob:=I.ok.glob
 blt:=I.ok.blt
 above:=hC
 inj:=fun x y a h1 h2=>I.ok.inj x y a (c.look I h1) (c.look I h2)
 has:=fun x hx=>Zaia _ _ (Zaf4 c.cell hx)
 cab:=fun x a h=>by cases h
 hd:=I.ok.hd
 frames:=I.ok.frames
 stk:=.inl rfl
 exf:=fun b hb=>by
  obtain⟨o,e⟩:=ho b hb
  exact⟨Nat.ne_of_lt (Nat.lt_of_lt_of_le (Heap.lt_size e) hC),fun x a h=>(hf b hb).2.2.2.2.1 x a (c.look I h)⟩
 bs:=I.bs
 bsz:=Nat.le_trans I.ok.bsz I.sz
 noex:=fun b o e hb=>by
  rcases (hf b hb).2.2.2.1 with z | z
  ·exact I.ok.noex b o e z
  ·exact absurd (Nat.lt_of_lt_of_le (Heap.lt_size e) (Nat.le_trans I.ok.bsz z)) (Nat.lt_irrefl _)
 exfs:=fun b hb hm=>by
  rcases List.mem_cons.mp (I.stkSub b hm) with z | z
  ·exact (hf b hb).2.1 z
  ·exact (hf b hb).2.2.1 z
 funs:=I.stack
 frf:=I.stkFree
theorem ZadE (own:List Str) (js:List Nat) (σ:St) (X:Cx):(blkσ own js σ).length=(own++js.map fun j=>X.N.getD j Str.empty).length:=by
 unfold blkσ
 simp
theorem ZaeZ {acc : Addr} {m : Str → Option Value} {tk : Nat} {h' : Heap} (c : CompOk X scope own js) (I : Inv X pins σ H s) (hC : s.heap.objs.size ≤ C) (hf : ∀ b ∈ fp, FpOk X pins H b) (ho : ∀ b ∈ fp, ∃ o, s.heap.get? b = some o)
  (hn:h'.Ns C m) (k:∀ b u,s.heap.get? b=some u->h'.get? b=some u) (hacc:s.heap.objs.size<=acc) (haC:acc≠C) (hl:h'.get? acc=some { cls:=.type "list",data:=.seq ([]:List Value).toArray 0 }) :
  Inv (X.blk scope own js s H C fp pins) [] (blkσ own js σ) (upd H acc (.lst [])) { s with heap:=h',toks:=tk }:=by
 have ok:=ZalD c I hC hf ho
 have fresh:∀ {a:Addr},s.heap.objs.size<=a->H a=none:=fun h=>I.hok.fresh h
 have neA:∀ b o,s.heap.get? b=some o->b≠acc:=fun b o e=>Nat.ne_of_lt (Nat.lt_of_lt_of_le (Heap.lt_size e) hacc)
 refine⟨ok,rfl,I.bare,Un.laid k hacc (fresh hacc),⟨m,hn,fun i x v e1 e2 e3=>?_⟩,fun x a e=>?_,?_,fun x a e=>?_,fun p hp=>?_,I.hok.laid k hacc ⟨Nat.zero_le _,[],0,.nil,hl⟩,ZadE own js σ X⟩
 ·
  have hi:own.length<=i:=by
   refine Nat.le_of_not_lt fun hi=>?_
   unfold blkσ at e2
   rw[List.getElem?_append_left (by simpa using hi),List.getElem?_map] at e2
   cases q:own[i]? with
   | none=>rw[q] at e2; cases e2
   | some z=>rw[q] at e2; cases e2
  have e1':(js.map fun j=>X.N.getD j Str.empty)[i - own.length]?=some x:=by
   have e1:(own++js.map fun j=>X.N.getD j Str.empty)[i]?=some x:=e1
   rwa [List.getElem?_append_right hi] at e1
  have e2':(js.map fun j=>(σ[j]?).join)[i - own.length]?=some (some v):=by
   unfold blkσ at e2
   rw[List.getElem?_append_right (by simpa using hi)] at e2
   simpa using e2
  rw[List.getElem?_map] at e1' e2'
  cases q:js[i - own.length]? with
  | none=>rw[q] at e1'; cases e1'
  | some j=>
   rw[q] at e1' e2'
   obtain⟨x',hx',hfree⟩:=c.out j (List.mem_of_getElem? q)
   have ex:x'=x:=by
    have:X.N.getD j Str.empty=x:=Option.some.inj e1'
    rw[List.getD_eq_getElem?_getD,hx'] at this
    exact this
   subst ex
   have eσ:σ[j]?=some (some v):=by
    have e2'':(σ[j]?).join=some v:=Option.some.inj e2'
    cases r:σ[j]? with
    | none=>rw[r] at e2''; cases e2''
    | some z=>rw[r] at e2''; cases z with
     | none=>cases e2''
     | some y=>cases e2''; rfl
   have hmem:(x',NameKind.free)∈scope.names:=PySem.mem_of_lookup hfree
   have hkX:=c.free _ hmem rfl
   have vis:Vis X.env.scope x':=by
    rcases hkX with z | z
    ·exact .inr (.inl z)
    ·exact .inr (.inr z)
   obtain⟨m0,hn0,hl0⟩:=I.loc
   obtain⟨u,r,l⟩:=hl0 j x' v hx' eσ vis
   refine⟨u,r,.inr ⟨Zabs hfree,?_⟩⟩
   obtain⟨a,ha⟩:=Zaia (env:=X.env) scope.names [] hmem
   refine⟨a,ha,?_⟩
   have haX:=c.look I ha
   rcases l with ⟨z,_⟩ | ⟨_,a',ha',⟨o,ho',hd⟩⟩
   ·have z:X.env.kindOf x'=some .local:=z
    rcases hkX with y | y
    ·have y:X.env.kindOf x'=some .cell:=y
     rw[z] at y; cases y
    ·have y:X.env.kindOf x'=some .free:=y
     rw[z] at y; cases y
   ·rw[haX] at ha'; cases ha'
    exact⟨o,k _ o ho',hd⟩
 ·obtain⟨v,o,ho',hd⟩:=I.cell x a (c.look I e)
  exact⟨v,o,k _ o ho',hd⟩
 ·show upd H acc (.lst []) C=none
  rw[Zaaf (Ne.symm haC)]
  exact fresh hC
 ·have e':=c.look I e
  obtain⟨v,o,ho',hd⟩:=I.cell x a e'
  rw[Zaaf (neA a o ho')]
  exact I.freeC x a e'
 ·have hp:p∈X.pn++pins:=by simpa[Cx.blk] using hp
  obtain⟨e,n,ne,nf,d⟩:=I.pin p hp
  refine⟨k _ _ e,by rw[Zaaf (neA _ _ e)]; exact n,Nat.ne_of_lt (Nat.lt_of_lt_of_le (Heap.lt_size e) hC),fun z=>?_,d⟩
  rcases List.mem_cons.mp (I.stkSub _ z) with q | q
  ·exact ne q
  ·exact nf q
theorem ZagX {τ:St}{pl:List (Addr × Obj)} (I:Inv X pins σ H s) (hf:∀ b∈fp,FpOk X pins H b) (J:Inv (X.blk scope own js s H C fp pins) pl τ H' s'):Inv X pins σ H' s' :=
 I.call' J.os J.base J.hok J.bare fun b hb=>⟨(hf b hb).2.2.2.1,(hf b hb).2.1,(hf b hb).2.2.2.2.1,(hf b hb).2.2.2.2.2⟩
theorem Inv.other {h' : Heap} (I : Inv X pins σ H s) (hs : Heap.SameBut C s.heap h') (hn : H C = none) (hL : C ≠ X.env.locals) (h1 : X.s₀.heap.objs.size ≤ C) (h2 : ∀ x c, X.env.cells.lookup x = some c → c ≠ C) (h3 : ∀ p ∈ X.pn ++ pins, p.1 ≠ C) :
  Inv X pins σ H { s with heap:=h' } :=
 I.turned (t':=s.toks) (fun b o hb e=>(hs.2 b hb).trans e) hn hL (.inr h1) h2 h3
end
def GKeep (own:List Str) (g:TG):Prop:=∀ (js:List Nat) (σ:St) (x:V) (H:Hp) (Q:St->Hp->Prop),g x (blkσ own js σ) H Q ->
 g x (blkσ own js σ) H fun τ H'=>(∀ (j:Nat) v,(blkσ own js σ)[j]?=some (some v)->τ[j]?=some (some v))/\Q τ H'
theorem Zabl {own:List Str}{js:List Nat}{σ:St}{i:Nat}{v:V} (hi:i<own.length):(blkσ own js σ)[i]?≠some (some v):=by
 unfold blkσ
 rw[List.getElem?_append_left (by simpa using hi),List.getElem?_map]
 cases own[i]? with
 | none=>intro h; cases h
 | some z=>intro h; cases h
theorem Zaay {own:List Str}{i:Nat} (hi:i<own.length:=by decide):GKeep own (gName i):=fun js σ x H Q h=>⟨fun j v e=>by
 have hj:j≠i:=by rintro rfl; exact Zabl hi e
 rw[List.getElem?_set_ne (Ne.symm hj)]
 exact e,h⟩
theorem ZaeM {K:PySem.W.Frag}{own:List Str}{i k:Nat} (hi:i<own.length:=by decide) (hk:k<own.length:=by decide):GKeep own (gTup K 2 (gCons (gName i) (gCons (gName k) gNil))):=fun js σ x H Q h=>by
 obtain⟨a,xs,rfl,hq,hl,v,r,rfl,w,r',rfl,e,h⟩:=h
 refine⟨a,_,rfl,hq,hl,v,_,rfl,w,r',rfl,e,fun j z e=>?_,h⟩
 have hj:j≠i:=by rintro rfl; exact Zabl hi e
 have hj':j≠k:=by rintro rfl; exact Zabl hk e
 rw[List.getElem?_set_ne (Ne.symm hj'),List.getElem?_set_ne (Ne.symm hj)]
 exact e
def ZacK (own:List Str) (js:List Nat) (g:TG) (tt:TT) (te:TE) (σ:St) (J:It) (H1:Hp) (Q:VK):Prop :=
 ∀ acc,H1 acc=none->∃ (W:Nat->Hp->Prop) (n:Nat),W 0 (upd H1 acc (.lst []))/\∀ i H2,W i H2 ->
  (J.stop i H2/\Q (.ref acc) H2)∨(i<n/\J.go i H2/\∀ x H3,J.yld i H2 x H3->g x (blkσ own js σ) H3 fun τ H4=>tt τ H4 fun c H5=>
   if c=true then te τ H5 fun y H6=>∃ ys,H6 acc=some (.lst ys)/\ys.length<sizeLine/\W (i+1) (upd H6 acc (.lst (ys++[y]))) else W (i+1) H5)
def tComp (own:List Str) (js:List Nat) (wi:TI) (g:TG) (tt:TT) (te:TE):TE:=fun σ H Q=>wi σ H fun J H1=>ZacK own js g tt te σ J H1 Q
section
variable {X:Cx}{scope:Scope}{own:List Str}{js:List Nat}{elt iter target:Expr}{ifs:List Expr}{wi:TI}{g:TG}{tt:TT}{te:TE}{pos:Pos}
theorem ZaiP {pins : List (Addr × Obj)} {σ : St} {H2 : Hp} {s₂ : Shared} {it : Addr} {fp : List Addr} {tn : Nat → Heap → Prop} {J : It} {Q : VK} {E : Value → Shared → Prop} {RR : Value → Addr → Result → Shared → Prop}
  (c:CompOk X scope own js) (hc:X.calm=true) (hgk:GKeep own g)
  (hg:∀ s H C fp pins,PG (X.blk scope own js s H C fp pins) target g) (ht:∀ s H C fp pins,PTs (X.blk scope own js s H C fp pins) ifs tt) (he:∀ s H C fp pins,PE (X.blk scope own js s H C fp pins) elt te)
  (I:Inv X pins σ H2 s₂) (T:Turn X.prog X.w X.K target J fp it tn) (st:tn 0 s₂.heap) (hf:∀ b∈fp,FpOk X pins H2 b) (h:ZacK own js g tt te σ J H2 Q)
  (hRR:∀ acc C H' s' m,s₂.heap.objs.size<=C->H' C=none->Inv X pins σ H' s'->s'.heap.Ns C m->Q (.ref acc) H'->RR (.ref acc) C (.ok .next) s') :
  wpAny (model X.prog X.w) X.A (newList []) (fun acc s₃=>wpAny (model X.prog X.w) X.A (newFunctionEnv scope X.env.globals (clOf scope X.env) [] X.env.qual none .none (some X.env)) (fun cenv s₄=>
   codeAny (model X.prog X.w) X.A (.compStart (.ListComp elt [⟨target,iter,ifs,0⟩] scope pos) 0 (.ref it) acc { cenv with scope:=relabel scope X.env }) (RR acc cenv.locals) s₄) E s₃) E s₂:=by
 refine wpAny_newObj_type (wpAny_newFunctionEnv c.cell (by intro y hy; simp at hy) (fun h₁ hns₁ hsb₁=>?_) c.kind)
 dsimp only at hns₁ hsb₁ ⊢
 generalize hH2:s₂.heap.push { cls:=.type "list",dict:=none,data:=.seq ([]:List Value).toArray }=G2 at hns₁ hsb₁ ⊢
 have hC:G2.objs.size=s₂.heap.objs.size+1:=by rw[<- hH2,Heap.size_push]
 have hDC:s₂.heap.objs.size≠G2.objs.size:=by rw[hC]; exact Nat.ne_of_lt (Nat.lt_succ_self _)
 have hCle:s₂.heap.objs.size<=G2.objs.size:=by rw[hC]; exact Nat.le_succ _
 have old:∀ b o,s₂.heap.get? b=some o->h₁.get? b=some o:=fun b o e=>hsb₁.extBut b o (Nat.ne_of_lt (Nat.lt_of_lt_of_le (Heap.lt_size e) hCle)) (Heap.get?_push_of_some _ (hH2 ▸ Heap.get?_push_of_some _ e))
 have hacc:h₁.get? s₂.heap.objs.size=some { cls:=.type "list",data:=.seq ([]:List Value).toArray 0 }:=hsb₁.extBut _ _ hDC (Heap.get?_push_of_some _ (hH2 ▸ Heap.get?_push_size _ rfl))
 have ho2:∀ b∈fp,∃ o,s₂.heap.get? b=some o:=fun b hb=>let ⟨o,e,_⟩:=T.obj 0 _ st b hb; ⟨o,e⟩
 have I0:∀ tk,Inv (X.blk scope own js s₂ H2 G2.objs.size fp pins) [] (blkσ own js σ) (upd H2 s₂.heap.objs.size (.lst [])) { s₂ with heap:=h₁,toks:=tk }:=fun tk=>
  ZaeZ c I hCle hf ho2 hns₁ old (Nat.le_refl _) hDC hacc
 obtain⟨W,nn,w0,turn⟩:=h s₂.heap.objs.size (I.hok.fresh (Nat.le_refl _))
 generalize hacc':s₂.heap.objs.size=acc at *
 generalize hGC:G2.objs.size=C at *
 have st1:tn 0 h₁:=T.keep 0 _ _ st fun b _ o e=>old b o e
 have fOk:∀ {H':Hp},(∀ b∈fp,H' b=none)->∀ b∈fp,FpOk (X.blk scope own js s₂ H2 C fp pins) [] H' b:=fun hn b hb=>by
  obtain⟨f0,f1,f2,f3,f4,f5⟩:=hf b hb
  obtain⟨o,e⟩:=ho2 b hb
  refine⟨hn b hb,Nat.ne_of_lt (Nat.lt_of_lt_of_le (Heap.lt_size e) (by rw[<- hacc'] at hCle; exact hCle)),fun z=>?_,.inl hb,fun x a h=>f4 x a (c.look I h),fun p hp=>f5 p (by simpa[Cx.blk] using hp)⟩
  rcases List.mem_cons.mp (I.stkSub b z) with q | q
  ·exact f1 q
  ·exact f2 q
 have loop : ∀ s₃ : Shared, s₃ = { s₂ with heap := h₁, toks := s₂.toks + ([] : List (Str × Value)).length } →
   codeAny (model X.prog X.w) X.A (.compLoop (.ListComp elt [⟨target,iter,ifs,0⟩] scope pos) 0 (.ref it) (.ref acc) (compEnvC scope (clOf scope X.env) C X.env)) (RR (.ref acc) C) s₃:=by
  rintro s₃ rfl
  refine ZabE (fun n s'=>∃ i H',n=nn - i/\Inv (X.blk scope own js s₂ H2 C fp pins) [] (blkσ own js σ) H' s'/\tn i s'.heap/\(∀ b∈fp,H' b=none)/\W i H') ?_ nn ⟨0,_,rfl,I0 _,st1,fun b hb=>?_,w0⟩
  ·rintro n s3 ⟨i,H3,en,I3,st3,fr3,w3⟩
   rcases turn i H3 w3 with ⟨stop,qn⟩ | ⟨hin,go,step⟩
   ·refine thn (T.done (X.blk scope own js s₂ H2 C fp pins) rfl rfl rfl hc i [] s3 _ H3 (fun _ _=>False) I3 (fOk fr3) st3 stop) fun r s4 ⟨hr,I4⟩=>?_
    subst hr
    obtain⟨m,hn,_⟩:=I4.loc
    exact hRR acc C H3 s4 m hCle I4.free (ZagX I hf I4) hn qn
   ·refine thn (T.item (X.blk scope own js s₂ H2 C fp pins) rfl rfl rfl hc i [] s3 _ H3 (fun _ _=>False) I3 (fOk fr3) st3 go) fun r s4 ⟨u,hr,h4⟩=>?_
    subst hr
    refine thn h4 fun _ s5 ⟨x,H5,I5,r5,y5,st5,fr5⟩=>?_
    have I5':=I5.pinned (fOk fr5) (T.obj _ _ st5)
    have again : ∀ {σ7 : St} {H7 : Hp} {s7 : Shared}, Inv (X.blk scope own js s₂ H2 C fp pins) ([] ++ Zadn fp s5.heap) σ7 H7 s7 → (∀ (j : Nat) v, (blkσ own js σ)[j]? = some (some v) → σ7[j]? = some (some v)) → W (i + 1) H7 →
      ∃ m,m<n/\∃ i H',m=nn - i/\Inv (X.blk scope own js s₂ H2 C fp pins) [] (blkσ own js σ) H' s7/\tn i s7.heap/\(∀ b∈fp,H' b=none)/\W i H':=fun {σ7 H7 s7} I7 hw w7=>by
     refine⟨nn - (i+1),by omega,i+1,H7,rfl,(I7.unpinned).weak ((ZadE own js σ X).trans I7.len.symm) hw,T.keep _ _ _ st5 fun b hb o e=>(I7.pin (b,o) (List.mem_append_right _ (List.mem_append_right _ (ZaaG hb e)))).1,fun b hb=>?_,w7⟩
     obtain⟨o,e,d⟩:=T.obj _ _ st5 b hb
     exact (I7.pin (b,o) (List.mem_append_right _ (List.mem_append_right _ (ZaaG hb e)))).2.1
    refine thn (hg s₂ H2 C fp pins _ s5 _ H5 x u _ I5' r5 (hgk _ _ _ _ _ (step x H5 y5))) fun _ s6 ⟨σ6,H6,I6,kp,q6⟩=>?_
    refine thn (ht s₂ H2 C fp pins _ s6 σ6 H6 _ I6 q6) fun ok s7 ⟨H7,I7,q7⟩=>?_
    cases ok with
    | false=>
     exact again I7 kp q7
    | true=>
     refine thn (he s₂ H2 C fp pins _ s7 σ6 H7 _ I7 q7) fun y s8 ⟨v,H8,I8,r8,ys,hl,hz,w8⟩=>?_
     refine thn (ZabC (X:=X.blk scope own js s₂ H2 C fp pins) _ s8 σ6 H8 (.ref acc) [v] (.ref acc) [y] (fun _ H9=>W (i+1) H9) I8 rfl (.cons r8 .nil) ⟨acc,ys,v,rfl,rfl,hl,hz,w8⟩) fun _ s9 ⟨_,H9,I9,_,w9⟩=>?_
     exact again I9 kp w9
  ·rw[Zaaf ?_]
   ·exact (hf b hb).1
   ·obtain⟨o,e⟩:=ho2 b hb
    rw[<- hacc']
    exact Nat.ne_of_lt (Heap.lt_size e)
 exact codeAny_compStart_list (loop _ rfl) (T.self _ 0 _ _ _ st1 (loop _ rfl))
theorem Zaba (c : CompOk X scope own js) (hc : X.calm = true) (hi : PI X target iter wi) (hgk : GKeep own g)
  (hg:∀ s H C fp pins,PG (X.blk scope own js s H C fp pins) target g) (ht:∀ s H C fp pins,PTs (X.blk scope own js s H C fp pins) ifs tt) (he:∀ s H C fp pins,PE (X.blk scope own js s H C fp pins) elt te)
  (hs:∀ x,foldedSetIterable iter X.env x=pure x:=by intro _; rfl):PE X (.ListComp elt [⟨target,iter,ifs,0⟩] scope pos) (tComp own js wi g tt te):=by
 intro pins s σ H Q I h
 rw[eval_ListComp]
 refine wpAny_comprehension_free (use:=none) rfl hs (ZabF (c.cl I)) c.kind c.names (thn (hi pins s σ H _ I h) fun v s1 h1=>thn h1 fun itv s2 h2=>?_)
 obtain⟨it,fp,tn,J,H2,e,I2,T,st2,f2,hw⟩:=h2
 subst e
 refine ZaiP (RR:=fun acc C=>compPost (model X.prog X.w) X.A X.xe none (EP X pins σ Q) acc C) c hc hgk hg ht he I2 T st2 f2 hw ?_
 intro acc C H' s' m hCs hCn I' hn q
 refine⟨m,hn,fun h' hs'=>⟨.ref acc,H',I'.other hs' hCn ?_ ?_ ?_ ?_,rfl,q⟩⟩
 ·exact Nat.ne_of_gt (Nat.lt_of_lt_of_le I2.lt hCs)
 ·exact Nat.le_trans I2.sz hCs
 ·intro x a e z
  obtain⟨v,q⟩:=I2.cell x a e
  exact absurd (Nat.lt_of_lt_of_le q.lt (by rw[z]; exact hCs)) (Nat.lt_irrefl _)
 ·intro p hp z
  exact absurd (Nat.lt_of_lt_of_le (Heap.lt_size (I2.pin p hp).1) (by rw[z]; exact hCs)) (Nat.lt_irrefl _)
theorem ZakL {i : Nat} {y : Str} {py spos : Pos} (hN : X.N.Nodup) (hy : X.N[i]? = some y) (hyl : X.env.scope.names.lookup y = some .local) (c : CompOk X scope own js) (hc : X.calm = true) (hi : PI X target iter wi) (hgk : GKeep own g)
  (hg:∀ s H C fp pins,PG (X.blk scope own js s H C fp pins) target g) (ht:∀ s H C fp pins,PTs (X.blk scope own js s H C fp pins) ifs tt) (he:∀ s H C fp pins,PE (X.blk scope own js s H C fp pins) elt te)
  (hsw:swapsWith (.ListComp elt [⟨target,iter,ifs,0⟩] scope pos) (some (.Name y py)) spos.line X.env=pure true:=by rfl)
  (hs:∀ x,foldedSetIterable iter X.env x=pure x:=by intro _; rfl):PS X (.Assign [.Name y py] (.ListComp elt [⟨target,iter,ifs,0⟩] scope pos) spos) (tAsg (tComp own js wi g tt te) (gName i)):=by
 intro pins s σ H D I h
 rw[exec_Assign_Name_used _ _ _ _ hsw]
 refine wpAny_bind (wpAny_standAt (wpAny_bind ?_))
 show wpAny _ X.A (do let _ <- comprehension (.ListComp elt [⟨target,iter,ifs,0⟩] scope pos) scope X.env _ (newList []) false (eval iter X.env) (some (assign (.Name y py) X.env))) _ _ s
 refine wpAny_bind (wpAny_mono (wpAny_comprehension_free (use:=some (assign (.Name y py) X.env)) (Q:=fun _ s'=>SP X pins D .next s') rfl hs (ZabF (c.cl I)) c.kind c.names
  (thn (hi pins s σ H _ I h) fun v s1 h1=>thn h1 fun itv s2 h2=>?_)) (fun _ s' hq=>wpAny_pure (wpAny_pure hq)) fun _ _ e=>e)
 obtain⟨it,fp,tn,J,H2,e,I2,T,st2,f2,hw⟩:=h2
 subst e
 refine ZaiP (Q:=fun x H1=>gName i x σ H1 D.nx) (RR:=fun acc C=>compPost (model X.prog X.w) X.A X.xe (some (assign (.Name y py) X.env)) (fun _ s'=>SP X pins D .next s') acc C) c hc hgk hg ht he I2 T st2 f2 hw ?_
 intro acc C H' s' m hCs hCn I' hn q
 have hL:C≠X.env.locals:=Nat.ne_of_gt (Nat.lt_of_lt_of_le I2.lt hCs)
 have hcell:∀ x a,X.env.cells.lookup x=some a->a≠C:=by
  intro x a e z
  obtain⟨v,q⟩:=I2.cell x a e
  exact absurd (Nat.lt_of_lt_of_le q.lt (by rw[z]; exact hCs)) (Nat.lt_irrefl _)
 refine wpAny_assign_Name (ZacL I' hN hy (.inl hyl) (v:=.ref acc) rfl (fun s2 I'' hch=>?_) (.inr hyl))
 obtain⟨a,sb,ha⟩:=hch
 have hCa:C≠a:=by
  rcases ha with rfl | ha
  ·exact hL
  ·exact Ne.symm (hcell _ _ ha)
 refine⟨m,hn.sameBut sb hCa,fun h' hs'=>⟨_,H',I''.other hs' hCn hL (Nat.le_trans I2.sz hCs) hcell ?_,q⟩⟩
 intro p hp z
 exact absurd (Nat.lt_of_lt_of_le (Heap.lt_size (I2.pin p hp).1) (by rw[z]; exact hCs)) (Nat.lt_irrefl _)
end
section
variable {K:PySem.W.Frag}{own:List Str}{js:List Nat}{g:TG}{tt:TT}{te:TE}{σ:St}{H1:Hp}{Q:VK}
theorem Zac3 {a : Addr} {xs : List V} (Pv : Addr → Nat → Hp → Prop) (h0 : ∀ acc, H1 acc = none → Pv acc 0 (upd H1 acc (.lst []))) (hl : ∀ acc i H, H1 acc = none → i ≤ xs.length → Pv acc i H → SqL K H a xs)
  (hs:∀ acc i x H,H1 acc=none->xs[i]?=some x->Pv acc i H->g x (blkσ own js σ) H fun τ H4=>tt τ H4 fun c H5=>
   if c=true then te τ H5 fun y H6=>∃ ys,H6 acc=some (.lst ys)/\ys.length<sizeLine/\(i+1<=xs.length/\Pv acc (i+1) (upd H6 acc (.lst (ys++[y])))) else (i+1<=xs.length/\Pv acc (i+1) H5))
  (hd:∀ acc H,H1 acc=none->Pv acc xs.length H->Q (.ref acc) H):ZacK own js g tt te σ (Itl K a) H1 Q:=by
 intro acc hacc
 refine⟨fun i H=>i<=xs.length/\Pv acc i H,xs.length,⟨Nat.zero_le _,h0 acc hacc⟩,?_⟩
 rintro i H ⟨hi,p⟩
 have q:=hl acc i H hacc hi p
 by_cases hlt:i<xs.length
 ·refine .inr ⟨hlt,⟨xs,xs[i],q,by simp[hlt]⟩,fun x H' y=>?_⟩
  obtain⟨e,y⟩:=y
  subst e
  exact hs acc i x _ hacc (y xs q) p
 ·have e:i=xs.length:=by omega
  subst e
  exact .inl ⟨⟨xs,q,Nat.le_refl _⟩,hd acc H hacc p⟩
theorem ZagN {lo : Int} {n : Nat} (Pv : Addr → Nat → Hp → Prop) (h0 : ∀ acc, H1 acc = none → Pv acc 0 (upd H1 acc (.lst [])))
  (hs:∀ acc i H,H1 acc=none->i<n->Pv acc i H->g (.int (lo+i)) (blkσ own js σ) H fun τ H4=>tt τ H4 fun c H5=>
   if c=true then te τ H5 fun y H6=>∃ ys,H6 acc=some (.lst ys)/\ys.length<sizeLine/\(i+1<=n/\Pv acc (i+1) (upd H6 acc (.lst (ys++[y])))) else (i+1<=n/\Pv acc (i+1) H5))
  (hd:∀ acc H,H1 acc=none->Pv acc n H->Q (.ref acc) H):ZacK own js g tt te σ (Itr lo n) H1 Q:=by
 intro acc hacc
 refine⟨fun i H=>i<=n/\Pv acc i H,n,⟨Nat.zero_le _,h0 acc hacc⟩,?_⟩
 rintro i H ⟨hi,p⟩
 by_cases hlt:i<n
 ·refine .inr ⟨hlt,hlt,fun x H' y=>?_⟩
  obtain⟨e,y⟩:=y
  subst e y
  exact hs acc i _ hacc hlt p
 ·have e:i=n:=by omega
  subst e
  exact .inl ⟨Nat.le_refl _,hd acc H hacc p⟩
end
def ZaiL (scope sc:Scope) (js:List Nat) (N:List Str):Bool :=
 (scope.kind == .function) && (scope.names.all fun y=>(y.2 != .cell) && ((y.2 != .free) || (sc.names.lookup y.1 == some .cell) || (sc.names.lookup y.1 == some .free)) && ((y.2 != .local) || (scope.names.lookup y.1 == some .local))) &&
 (js.all fun j=>match N[j]? with | some x=>scope.names.lookup x == some .free | none=>false)
theorem CompOk.by {X:Cx}{scope sc:Scope}{own N:List Str}{js:List Nat} (hX:X.env.scope=sc) (hN:X.N=N) (h:ZaiL scope sc js N=true):CompOk X scope own js:=by
 unfold ZaiL at h
 simp only[Bool.and_eq_true,beq_iff_eq,List.all_eq_true,Bool.or_eq_true,bne_iff_ne,ne_eq] at h
 obtain⟨⟨h1,h2⟩,h3⟩:=h
 refine⟨h1,fun y hy=>(h2 y hy).1.1,fun y hy hf=>?_,fun y hy hl=>?_,fun j hj=>?_⟩
 ·show X.env.scope.names.lookup y.1=_∨X.env.scope.names.lookup y.1=_
  rw[hX]
  rcases (h2 y hy).1.2 with (z | z) | z
  ·exact absurd hf z
  ·exact .inl z
  ·exact .inr z
 ·rcases (h2 y hy).2 with z | z
  ·exact absurd hl z
  ·exact z
 ·have:=h3 j hj
  rw[hN]
  cases e:N[j]? with
  | none=>rw[e] at this; cases this
  | some x=>rw[e] at this; exact⟨x,rfl,by simpa using this⟩
end L2
namespace L2
open PySem PySem.Spec PyProof.Rows PySem.SeqAt
section
variable {X:Cx}
theorem Vals.bl_get {bs:List Bool}{us:List Value} (r:Vals (bs.map V.bl) us) {i:Nat}{v:Value} (e:us[i]?=some v):∃ b,bs[i]?=some b/\v=.bool b:=by
 cases q:(bs.map V.bl)[i]? with
 | none=>
  have:=r.none_of q
  rw[e] at this; cases this
 | some x=>
  obtain⟨u,h1,h2⟩:=r.get q
  rw[e] at h1; cases h1
  rw[List.getElem?_map] at q
  cases z:bs[i]? with
  | none=>rw[z] at q; cases q
  | some b=>rw[z] at q; cases q; exact⟨b,rfl,h2⟩
theorem Zahh {bs:List Bool}:(List.range bs.length).all (fun i=>bs.getD i true)=bs.all id:=by
 rw[Bool.eq_iff_iff,List.all_eq_true,List.all_eq_true]
 constructor
 ·intro h b hb
  obtain⟨i,hi,e⟩:=List.getElem_of_mem hb
  have:=h i (List.mem_range.mpr hi)
  simpa[List.getD_eq_getElem?_getD,hi,e] using this
 ·intro h i hi
  have hi':=List.mem_range.mp hi
  have:=h bs[i] (List.getElem_mem hi')
  simpa[List.getD_eq_getElem?_getD,hi'] using this
theorem Zaj7 (hc:X.calm=true):CallR X (.builtin "all") (fun xs H Q=>∃ (a:Addr) (bs:List Bool),xs=[.ref a]/\SqL X.K H a (bs.map V.bl)/\Q (.bl (bs.all id)) H):=by
 intro pins s σ H xs us Q I r h
 obtain⟨a,bs,rfl,hq,q⟩:=h
 obtain⟨u,rfl,r1⟩:=vals1 r
 cases r1
 obtain⟨its,rv,p,hz⟩:=I.list hq
 refine call_all_walk (wpAny_pyIter_list p.isList ?_)
 have hlt:=(let ⟨o,n,e,_⟩:=p; Heap.lt_size e:a<s.heap.objs.size)
 have hne:a≠s.heap.objs.size:=Nat.ne_of_lt hlt
 have hlen:its.toArray.size=bs.length:=by rw[List.size_toArray,<- rv.length,List.length_map]
 refine⟨s.heap.objs.size,_,_,_,_,_,fun i=>bs.getD i true,rfl,Walks.list (A:=X.A.in1) (I.ok.hd hc) _ a hne its.toArray,⟨⟨_,Heap.get?_push_size _ rfl,rfl,rfl⟩,?_⟩,?_,?_⟩
 ·obtain⟨o,n,e,c,_,d⟩:=p
  exact⟨o,Heap.get?_push_of_some _ e,c,n,d⟩
 ·intro i v s' Q' E' hP hQ
  have hP':its[i]?=some v:=by simpa using hP
  obtain⟨b,hb,rfl⟩:=rv.bl_get hP'
  refine wpAny_truthy_bool ?_
  dsimp only at hQ
  rw[List.getD_eq_getElem?_getD,hb] at hQ
  exact hQ
 ·intro h' tk k
  rw[hlen,Zahh]
  refine⟨.bl (bs.all id),H,I.kept (h':=h') (t':=tk) fun b o e=>k b o ?_ (Heap.get?_push_of_some _ e),rfl,q⟩
  intro hm
  have:b=s.heap.objs.size:=by simpa using hm
  rw[this] at e
  exact absurd (Heap.lt_size e) (Nat.lt_irrefl _)
theorem Vals.int_at {ns:List Int}{us:List Value} (r:Vals (ns.map V.int) us) {i:Nat} (h:i<ns.length):∃ t,us[i]?=some (.int ns[i] t):=by
 have q:(ns.map V.int)[i]?=some (V.int ns[i]):=by rw[List.getElem?_map,List.getElem?_eq_getElem h]; rfl
 obtain⟨u,h1,t,rfl⟩:=r.get q
 exact⟨t,h1⟩
theorem Zaji:∀ {ns ms:List Int},ns.length=ms.length->((List.range ns.length).all fun i=>ns.getD i 0 == ms.getD i 0)=decide (ns=ms):=fun {ns ms} h=>by
 rw[Bool.eq_iff_iff,List.all_eq_true,decide_eq_true_iff]
 constructor
 ·intro q
  refine List.ext_getElem h fun i h1 h2=>?_
  have:=q i (List.mem_range.mpr h1)
  simpa[List.getD_eq_getElem?_getD,h1,h2] using this
 ·rintro rfl i hi
  simp
theorem ZaeL {ns:List Int}{its:List Value} (r:Vals (ns.map V.int) its) {j:Nat} (h:j<its.toArray.size):∃ t,its.toArray[j]=.int (ns.getD j 0) t:=by
 have hj:j<ns.length:=by rw[List.size_toArray,<- r.length,List.length_map] at h; exact h
 obtain⟨t,q⟩:=r.int_at hj
 obtain⟨_,q'⟩:=List.getElem?_eq_some_iff.mp q
 exact⟨t,by simpa[List.getD_eq_getElem?_getD,hj] using q'⟩
end
end L2
namespace L2
open PySem PySem.Spec PyProof.Rows PySem.SeqAt
section
variable {prog:Program}{w:World}{A:Around}{R:Result->Shared->Prop}{I:Addr}{fp wr:List Addr}{n:Nat}{P:Nat->Value->Prop}{St:Nat->Heap->Prop}
end
section
variable {X:Cx}
end
end L2
namespace L2
open PySem PySem.Spec PyProof.Rows PySem.SeqAt
def Ite (K:PySem.W.Frag) (a:Addr):It :=
 ⟨fun i H=>∃ xs x,SqL K H a xs/\xs[i]?=some x,fun i H y H'=>∃ p x,H p=none/\y=.ref p/\H'=upd H p (.tup [.int i,x])/\∀ xs,SqL K H a xs->xs[i]?=some x,fun i H=>∃ xs,SqL K H a xs/\xs.length<=i⟩
theorem Zag6 {P:Program}{w:World}{K:PySem.W.Frag}{es:List Expr}{x1}{pos:Pos} (a it e:Addr) (hne:e≠it):Turn P w K (.Tuple es x1 pos) (Ite K a) [e,it] e (fun i h=>(∃ old,IsEnum h e it (i:Nat) old)/\h.IsListIter it a i) where
 mem:=by simp
 obj:=fun i h st b hb=>by
  obtain⟨⟨old,s1⟩,s2⟩:=st
  rcases List.mem_cons.mp hb with z | z
  ·subst z
   exact⟨_,s1,fun v z=>nomatch z⟩
  ·have z:b=it:=by simpa using z
   subst z
   obtain⟨o,e,c,d⟩:=s2
   exact⟨o,e,fun v z=>by rw[d] at z; cases z⟩
 keep:=fun i h h' st k=>by
  obtain⟨⟨old,s1⟩,s2⟩:=st
  exact⟨⟨old,k e (by simp) _ s1⟩,s2.at fun o q=>k it (by simp) o q⟩
 item:=by
  intro X hP hw hK hc i pins s σ H E I hf st hg
  subst hP hw hK
  obtain⟨xs,x,hq,hx⟩:=hg
  obtain⟨its,rv,p,hz⟩:=I.list hq
  obtain⟨u,hu,ru⟩:=rv.get hx
  obtain⟨⟨old,s1⟩,s2⟩:=st
  refine wpAny_pyNext_enum_item s1 s2 p.isList (x:=u) (by simpa using hu) hne fun h' ho hit ht hsz hk=>?_
  refine⟨_,rfl,?_⟩
  refine wpAny_letOwnedTupleGo_enum ho fun h'' he hs=>?_
  have fresh:H s.heap.objs.size=none:=I.hok.fresh (Nat.le_refl _)
  have k:∀ b o,b ∉ [e,it]->s.heap.get? b=some o->h''.get? b=some o:=fun b o hb q=>by
   have hb':b≠e/\b≠it:=by simpa using hb
   exact (hs.2 b hb'.1).trans (hk b o hb'.1 hb'.2 q)
  have nE:∀ b∈[e,it],H b=none:=fun b hb=>(hf b hb).1
  have nit:∀ b u,H b=some u->b ∉ [e,it]:=fun b u q z=>by rw[nE b z] at q; cases q
  have hpe:s.heap.objs.size≠e:=Nat.ne_of_gt (Heap.lt_size s1)
  have htup:h''.get? s.heap.objs.size=some { cls:=.type "tuple",data:=.seq #[.int i s.toks,u] }:=(hs.2 _ hpe).trans ht
  have newOk:ObjOk X.prog X.w (upd H s.heap.objs.size (.tup [.int i,x])) h'' s.heap.objs.size (.tup [.int i,x]):=by
   refine⟨?_,[.int i s.toks,u],.cons ⟨_,rfl⟩ (.cons ru .nil),⟨_,htup,rfl,rfl,0,rfl⟩⟩
   show 2<=sizeLine
   decide
  have I1:Inv X pins σ (upd H s.heap.objs.size (.tup [.int i,x])) { s with heap:=h'',toks:=s.toks+1 }:=by
   refine I.step (g':=s.gens) (d':=s.drawn) (ch:=[e,it]) (fun b hb=>?_) (fun b o _ _ hc q _=>k b o hc q) (fun b o _ _ hc q _=>⟨o.slots,k b o hc q⟩) (fun b o _ q n=>?_) (fun b o hc q=>⟨o,k b o hc q⟩)
    (fun b xs q=>by rw[Zaaf (Zaad q fresh)]; exact q) (fun b o xs q=>by rw[Zaaf (Zaad q fresh)]; exact q) (fun b ps q=>⟨#[],by rw[Zaaf (Zaad q fresh),q]; simp⟩) (fun m hm=>?_) (fun b ob q=>?_) I.bare
   ·obtain⟨f0,f1,f2,f3,f4,f5⟩:=hf b hb
    exact⟨f3,f1,f4,f5⟩
   ·rw[Zaaf (Nat.ne_of_lt (Heap.lt_size q))]
    exact n
   ·obtain⟨o,es,ep,ho,r⟩:=hm
    refine⟨o,es,ep,k _ o (fun z=>?_) ho,r⟩
    exact (hf _ z).2.1 rfl
   ·by_cases hb:b=s.heap.objs.size
    ·subst hb
     rw[Zaab] at q; cases q
     exact newOk
    ·rw[Zaaf hb] at q
     refine (I.hok b ob q).stay (fun c v hc r=>k c v ?_ r) (fun c r=>by rw[Zaaf (Zaad r fresh)]; exact r) fun c xs r=>by rw[Zaaf (Zaad r fresh)]; exact r
     rcases hc with z | z
     ·rw[z]; exact nit b ob q
     ·exact nit c _ z
  refine⟨.ref s.heap.objs.size,_,I1,rfl,⟨s.heap.objs.size,x,fresh,rfl,rfl,fun ys hy=>by rw[I.list_inj hy hq]; exact hx⟩,⟨⟨u,?_⟩,?_⟩,fun b hb=>?_⟩
  ·have he:IsEnum h'' e it ((i:Int)+1) u:=he
   show IsEnum h'' e it ((i+1:Nat):Int) u
   rw[show ((i+1:Nat):Int)=(i:Int)+1 by omega]
   exact he
  ·exact hit.extBut hs.extBut (Ne.symm hne)
  ·have lt : b < s.heap.objs.size := by
    rcases List.mem_cons.mp hb with z | z
    ·rw[z]; exact Heap.lt_size s1
    ·have z:b=it:=by simpa using z
     rw[z]
     obtain⟨o,q,_⟩:=s2
     exact Heap.lt_size q
   rw[Zaaf (Nat.ne_of_lt lt)]
   exact nE b hb
 done:=by
  intro X hP hw hK hc i pins s σ H E I hf st hg
  subst hP hw hK
  obtain⟨xs,hq,hx⟩:=hg
  obtain⟨its,rv,p,hz⟩:=I.list hq
  obtain⟨⟨old,s1⟩,s2⟩:=st
  obtain⟨f0,f1,f2,f3,f4,f5⟩:=hf it (by simp)
  have hl:=rv.length
  exact wpAny_pyNext_enum_end (I.ok.hd hc) s1 s2 p.isList (by simp; omega) fun h' eb=>⟨rfl,I.turned (t':=s.toks) (fun b o hb q=>eb b o hb q) f0 f1 f3 f4 f5⟩
 self:=fun _ _ _ _ _ st h=>by
  obtain⟨⟨old,s1⟩,_⟩:=st
  exact wpAny_pyIter_enum s1 h
section
variable {X:Cx}
theorem ZaaJ:CallR X (.builtin "isinstance") (fun xs H Q=>∃ x T t b,xs=[x,.ty T]/\TyOf X.K H x t/\PySem.W.kitOne X.K t (.type T)=some b/\Q (.bl b) H):=by
 intro pins s σ H xs us Q I r h
 obtain⟨x,T,t,b,rfl,ty,e,q⟩:=h
 obtain⟨u,u2,rfl,r1,r2⟩:=vals2 r
 cases r2
 exact ZahR I r1 ty e fun tk=>⟨.bl b,H,I.tok _,rfl,q⟩
end
end L2
namespace L2
open PySem PySem.Spec PyProof.Rows
section
variable {κ:Type} [DecidableEq κ]
def valV (kvs:List (κ × V)) (k:κ):Option V:=(kvs.find? fun kv=>decide (kv.1=k)).map (·.2)
def putK (kvs:List (κ × V)) (k:κ) (v:V):List (κ × V) :=
 if (kvs.any fun kv=>decide (kv.1=k))=true then kvs.map (fun kv=>if kv.1=k then (kv.1,v) else kv) else kvs++[(k,v)]
theorem ZaaR {p:κ × V}{r:List (κ × V)}{k:κ} (e:p.1=k):valV (p::r) k=some p.2:=by simp[valV,List.find?_cons,e]
theorem ZaaS {p:κ × V}{r:List (κ × V)}{k:κ} (e:¬ p.1=k):valV (p::r) k=valV r k:=by simp[valV,List.find?_cons,e]
theorem ZabK (k:κ):∀ kvs:List (κ × V),(kvs.any fun kv=>decide (kv.1=k))=(valV kvs k).isSome
 | []=>rfl
 | p::r=>by
  rw[List.any_cons]
  by_cases e:p.1=k
  ·simp only[ZaaR e,decide_eq_true e,Bool.true_or,Option.isSome_some]
  ·rw[ZaaS e,decide_eq_false e,Bool.false_or]; exact ZabK k r
theorem ZafA (k j:κ) (y:V):∀ kvs:List (κ × V),valV (kvs.map fun kv=>if kv.1=k then (kv.1,y) else kv) j=(valV kvs j).map fun x=>if j=k then y else x
 | []=>rfl
 | p::r=>by
  have ih:=ZafA k j y r
  rw[List.map_cons]
  by_cases h:p.1=k
  ·rw[if_pos h]
   by_cases e:p.1=j
   ·rw[ZaaR (p:=(p.1,y)) e,ZaaR e,Option.map_some,if_pos (e.symm.trans h)]
   ·rw[ZaaS (p:=(p.1,y)) e,ZaaS e,ih]
  ·rw[if_neg h]
   by_cases e:p.1=j
   ·rw[ZaaR (p:=p) e,ZaaR e,Option.map_some,if_neg (fun z=>h (e.trans z))]
   ·rw[ZaaS (p:=p) e,ZaaS e,ih]
theorem Zaem (k j:κ) (y:V):∀ kvs:List (κ × V),valV kvs k=none->valV (kvs++[(k,y)]) j=if j=k then some y else valV kvs j
 | [],_=>by
  by_cases e:k=j
  ·rw[if_pos e.symm]; exact ZaaR (p:=(k,y)) e
  ·rw[if_neg (fun z=>e z.symm)]; exact ZaaS (p:=(k,y)) e
 | p::r,hn=>by
  rw[List.cons_append]
  have hk:¬ p.1=k:=fun z=>by rw[ZaaR z] at hn; cases hn
  rw[ZaaS hk] at hn
  have ih:=Zaem k j y r hn
  by_cases e:p.1=j
  ·rw[ZaaR e,ZaaR e,if_neg (fun z=>hk (e.trans z))]
  ·rw[ZaaS e,ZaaS e,ih]
theorem ZaiW (kvs:List (κ × V)) (k j:κ) (y:V):valV (putK kvs k y) j=if j=k then some y else valV kvs j:=by
 unfold putK
 by_cases a:(kvs.any fun kv=>decide (kv.1=k))=true
 ·rw[if_pos a,ZafA]
  rw[ZabK] at a
  by_cases e:j=k
  ·obtain⟨x,hx⟩:=Option.isSome_iff_exists.mp a
   rw[if_pos e,e,hx,Option.map_some,if_pos rfl]
  ·rw[if_neg e]
   cases valV kvs j with
   | none=>rfl
   | some x=>rw[Option.map_some,if_neg e]
 ·rw[if_neg a]
  refine Zaem k j y kvs ?_
  rw[ZabK] at a
  cases q:valV kvs k with
  | none=>rfl
  | some x=>rw[q] at a; exact (a rfl).elim
theorem Zabi (kvs:List (κ × V)) (k:κ) (v:V):(putK kvs k v).length<=kvs.length+1:=by
 unfold putK
 split
 ·rw[List.length_map]; omega
 ·rw[List.length_append,List.length_cons,List.length_nil]; omega
theorem RelO.isSome_eq {o:Option V}{u:Option Value} (r:RelO o u):o.isSome=u.isSome:=by
 cases o with
 | none=>cases u with
  | none=>rfl
  | some _=>exact (show False from r).elim
 | some _=>cases u with
  | none=>exact (show False from r).elim
  | some _=>rfl
theorem RelO.getD {o:Option V}{u:Option Value}{d:V}{d':Value} (r:RelO o u) (rd:RelV d d'):RelV (o.getD d) (u.getD d'):=by
 cases o with
 | none=>cases u with
  | none=>exact rd
  | some _=>exact (show False from r).elim
 | some _=>cases u with
  | none=>exact (show False from r).elim
  | some _=>exact r
theorem KV.val {kvs:List (κ × V)}{vs:List (κ × Value)} (r:KV kvs vs) (k:κ):RelO (valV kvs k) (valueAt vs k):=by
 unfold KV at r
 induction r with
 | nil=>exact True.intro
 | @cons p q ps qs h t ih=>
  obtain⟨h1,h2⟩:=h
  by_cases e:p.1=k
  ·have e':q.1=k:=h1.symm.trans e
   have b:valueAt (q::qs) k=some q.2:=by simp[valueAt,List.find?_cons,e']
   rw[ZaaR e,b]; exact h2
  ·have e':¬ q.1=k:=fun z=>e (h1.trans z)
   have b:valueAt (q::qs) k=valueAt qs k:=by simp[valueAt,List.find?_cons,e']
   rw[ZaaS e,b]; exact ih
theorem KV.any {kvs:List (κ × V)}{vs:List (κ × Value)} (r:KV kvs vs) (k:κ):(kvs.any fun kv=>decide (kv.1=k))=vs.any fun kv=>decide (kv.1=k):=by
 unfold KV at r
 induction r with
 | nil=>rfl
 | cons h t ih=>rw[List.any_cons,List.any_cons,ih,h.1]
theorem KV.repl {kvs : List (κ × V)} {vs : List (κ × Value)} (r : KV kvs vs) (k : κ) {y : V} {u : Value} (ry : RelV y u) :
  KV (kvs.map fun kv=>if kv.1=k then (kv.1,y) else kv) (vs.map fun kv=>if kv.1=k then (kv.1,u) else kv):=by
 unfold KV at r ⊢
 induction r with
 | nil=>exact .nil
 | @cons p q ps qs h t ih=>
  rw[List.map_cons,List.map_cons]
  refine .cons ?_ ih
  obtain⟨h1,h2⟩:=h
  by_cases e:p.1=k
  ·rw[if_pos e,if_pos (h1.symm.trans e)]; exact⟨h1,ry⟩
  ·rw[if_neg e,if_neg (fun z=>e (h1.trans z))]; exact⟨h1,h2⟩
theorem KV.put {kvs:List (κ × V)}{vs:List (κ × Value)} (r:KV kvs vs) (k:κ) {y:V}{u:Value} (ry:RelV y u):KV (putK kvs k y) (stored vs k u):=by
 unfold putK stored
 rw[r.any k]
 by_cases e:(vs.any fun kv=>decide (kv.1=k))=true
 ·rw[if_pos e,if_pos e]; exact r.repl k ry
 ·rw[if_neg e,if_neg e]; exact Paired.snoc r ⟨rfl,ry⟩
theorem KV.length {kvs:List (κ × V)}{vs:List (κ × Value)} (r:KV kvs vs):kvs.length=vs.length:=Paired.length r
end
theorem kV_is {P:Program}{w:World}{k:Key}{u:Value} (r:RelV (kV k) u):(ZaaD P w).is k u=true:=by
 cases k with
 | inl i=>obtain⟨t,e⟩:=(show ∃ t,u=Value.int i t from r); subst e; exact Zafl P w i t
 | inr x=>obtain⟨t,e⟩:=(show ∃ t,u=Value.str x t from r); subst e; exact Zafk P w x t
theorem ZaeJ {P:Program}{w:World}:∀ {ks:List Key}{us:List Value},Vals (ks.map kV) us->ItemsAre (ZaaD P w) ks us
 | [],_,r=>by rw[List.map_nil] at r; cases r; exact .nil
 | k::ks,_,r=>by
  rw[List.map_cons] at r
  cases r with
  | cons h t=>exact .cons (kV_is h) (ZaeJ t)
abbrev KT (H:Hp):List (List Key × V)->List (List Key × Addr × Value)->Prop:=Paired fun p q=>p.1=q.1/\H q.2.1=some (.tup (p.1.map kV))/\RelV p.2 q.2.2
theorem KT.val {H:Hp}{kvs:List (List Key × V)}{xs:List (List Key × Addr × Value)} (r:KT H kvs xs) (k:List Key):RelO (valV kvs k) ((atKey xs k).map (·.2)):=by
 induction r with
 | nil=>exact True.intro
 | @cons p q ps qs h t ih=>
  obtain⟨h1,_,h2⟩:=h
  by_cases e:p.1=k
  ·have e':q.1=k:=h1.symm.trans e
   have b:atKey (q::qs) k=some q.2:=by simp[atKey,List.find?_cons,e']
   rw[ZaaR e,b]; exact h2
  ·have e':¬ q.1=k:=fun z=>e (h1.trans z)
   have b:atKey (q::qs) k=atKey qs k:=by simp[atKey,List.find?_cons,e']
   rw[ZaaS e,b]; exact ih
theorem KT.repl {H : Hp} {kvs : List (List Key × V)} {xs : List (List Key × Addr × Value)} (r : KT H kvs xs) (k : List Key) {y : V} {u : Value} (ry : RelV y u) :
  KT H (kvs.map fun kv=>if kv.1=k then (kv.1,y) else kv) (xs.map (putAt k u)):=by
 induction r with
 | nil=>exact .nil
 | @cons p q ps qs h t ih=>
  rw[List.map_cons,List.map_cons]
  refine .cons ?_ ih
  obtain⟨h1,h2,h3⟩:=h
  unfold putAt
  by_cases e:p.1=k
  ·rw[if_pos e,if_pos (h1.symm.trans e)]; exact⟨h1,h2,ry⟩
  ·rw[if_neg e,if_neg (fun z=>e (h1.trans z))]; exact⟨h1,h2,h3⟩
theorem KT.put {H : Hp} {kvs : List (List Key × V)} {xs : List (List Key × Addr × Value)} (r : KT H kvs xs) (k : List Key) {b : Addr} {y : V} {u : Value} (hb : H b = some (.tup (k.map kV))) (ry : RelV y u) :
  KT H (putK kvs k y) (storedH xs k b u):=by
 have e:(kvs.any fun kv=>decide (kv.1=k))=(atKey xs k).isSome:=by
  rw[ZabK,(r.val k).isSome_eq,Option.isSome_map]
 unfold putK storedH
 rw[e]
 by_cases q:(atKey xs k).isSome=true
 ·rw[if_pos q,if_pos q]; exact r.repl k ry
 ·rw[if_neg q,if_neg q]; exact Paired.snoc r ⟨rfl,hb,ry⟩
theorem KT.keeps {H H':Hp}{kvs:List (List Key × V)}{xs:List (List Key × Addr × Value)} (r:KT H kvs xs) (ht:∀ b ys,H b=some (.tup ys)->H' b=some (.tup ys)):KT H' kvs xs :=
 Paired.mapP r fun _ _ z=>⟨z.1,ht _ _ z.2.1,z.2.2⟩
section
variable {P:Program}{w:World}{H:Hp}{h:Heap}{a:Addr}
theorem rd_of {u:HO} (ok:HOk P w H h) (e:Rd H a u):ObjOk P w H h a u:=e.ok ok
theorem dk_rd {kvs:List (Key × V)} (ok:HOk P w H h) (e:Rd H a (.dK kvs)):kvs.length<=sizeLine/\(a == sysModules)=false/\∃ vs,KV kvs vs/\h.DictOf (ZaaD P w) a vs :=
 show ObjOk P w H h a (.dK kvs) from rd_of ok e
theorem dk_of {kvs:List (Key × V)} (ok:HOk P w H h) (e:H a=some (.dK kvs)):kvs.length<=sizeLine/\(a == sysModules)=false/\∃ vs,KV kvs vs/\h.DictOf (ZaaD P w) a vs:=dk_rd ok (.inl e)
theorem ZahO {ks:List Key} (ok:HOk P w H h) (e:H a=some (.tup (ks.map kV))):(tupleKind (ZaaD P w)).is h ks a:=by
 obtain⟨_,its,r,o,h1,h2,_,n,h3⟩:=(show ObjOk P w H h a (.tup (ks.map kV)) from ok a _ e)
 exact⟨o,its.toArray,n,h1,h2,h3,by simpa using ZaeJ r⟩
theorem dt_rd {kvs : List (List Key × V)} (ok : HOk P w H h) (e : Rd H a (.dT kvs)) : kvs.length ≤ sizeLine ∧ (a == sysModules) = false ∧
  ∃ xs,KT H kvs xs/\h.DictOfH (tupleKind (ZaaD P w)) a xs:=by
 obtain⟨z,y,xs,r,o,es,ep,h1,h2,h3,h4,h5⟩:=(show ObjOk P w H h a (.dT kvs) from rd_of ok e)
 refine⟨z,y,xs,r,o,es,ep,h1,h2,h3,h4,fun x hx=>?_,h5⟩
 have all:∀ {l:List (List Key × V)}{m:List (List Key × Addr × Value)},KT H l m->∀ x∈m,(tupleKind (ZaaD P w)).is h x.1 x.2.1:=by
  intro l m q
  induction q with
  | nil=>intro x hx; exact nomatch hx
  | @cons p q ps qs hq t ih=>
   intro x hx
   rcases List.mem_cons.mp hx with e | hx
   ·subst e
    exact ZahO ok (by rw[<- hq.1]; exact hq.2.1)
   ·exact ih x hx
 exact all r x hx
theorem dt_of {kvs : List (List Key × V)} (ok : HOk P w H h) (e : H a = some (.dT kvs)) : kvs.length ≤ sizeLine ∧ (a == sysModules) = false ∧
  ∃ xs,KT H kvs xs/\h.DictOfH (tupleKind (ZaaD P w)) a xs:=dt_rd ok (.inl e)
end
def DGet (H:Hp) (a:Addr) (y:V) (r:Option V):Prop :=
 (∃ kvs k,Rd H a (.dK kvs)/\y=kV k/\r=valV kvs k)∨∃ kvs k b,Rd H a (.dT kvs)/\y=.ref b/\H b=some (.tup (k.map kV))/\r=valV kvs k
def DPut (H:Hp) (a:Addr) (y v:V) (H':Hp):Prop :=
 (∃ kvs k,H a=some (.dK kvs)/\y=kV k/\kvs.length<sizeLine/\H'=upd H a (.dK (putK kvs k v))) ∨
 ∃ kvs k b,H a=some (.dT kvs)/\y=.ref b/\H b=some (.tup (k.map kV))/\kvs.length<sizeLine/\H'=upd H a (.dT (putK kvs k v))
theorem DGet.k {H:Hp}{a:Addr}{kvs:List (Key × V)}{k:Key} (e:H a=some (.dK kvs)):DGet H a (kV k) (valV kvs k):=.inl ⟨kvs,k,.inl e,rfl,rfl⟩
theorem DPut.k {H:Hp}{a:Addr}{kvs:List (Key × V)}{k:Key}{v:V} (e:H a=some (.dK kvs)) (hl:kvs.length<sizeLine):DPut H a (kV k) v (upd H a (.dK (putK kvs k v))):=.inl ⟨kvs,k,e,rfl,hl,rfl⟩
section
variable {X:Cx}{pins:List (Addr × Obj)}{σ:St}{H:Hp}{s:Shared}{a:Addr}{y v:V}{u r:Value}{o:Option V}{A:Around}{E:Value->Shared->Prop}
theorem Inv.big (I:Inv X pins σ H s):sysModules<s.heap.objs.size:=by
 have h:mainGlobals<s.heap.objs.size:=(I.mod.glob.keeps I.bk).lt
 exact Nat.lt_trans (by decide) h
theorem Zah5 {Q : Value → Shared → Prop} (hu : A.units + 1 < cLine) (I : Inv X pins σ H s) (g : DGet H a y (some v)) (ry : RelV y u) (h : ∀ w' s', Inv X pins σ H s' → RelV v w' → Q w' s') :
  wpAny (model X.prog X.w) A (getItem (.ref a) u) Q E s:=by
 rcases g with ⟨kvs,k,e,ey,l⟩ | ⟨kvs,k,b,e,ey,eb,l⟩
 ·subst ey
  obtain⟨z,hd,vs,rel,dd⟩:=dk_rd I.hok e
  obtain⟨w',hw,rw'⟩:=RelO.some_of (v:=v) (o:=valueAt vs k) (by rw[l]; exact rel.val k)
  exact wpAny_getItem_of (kV_is ry) dd.mapOf hw (h w' _ (I.tok _) rw')
 ·subst ey
  cases (show u=Value.ref b from ry)
  obtain⟨z,hd,xs,rel,dd⟩:=dt_rd I.hok e
  obtain⟨w',hw,rw'⟩:=RelO.some_of (v:=v) (o:=(atKey xs k).map (·.2)) (by rw[l]; exact rel.val k)
  obtain⟨p,hp,hp2⟩:=Option.map_eq_some_iff.mp hw
  refine wpAny_getItem_heap (tupleKind_room_in1 hu) (ZahO I.hok eb) dd hp ?_
  rw[hp2]
  exact h w' _ (I.tok _) rw'
theorem ZaeT {h' : Heap} {t' : Nat} {ob : HO} (I : Inv X pins σ H s) (mu : Mut (H a)) (hs : Heap.SameBut a s.heap h') (he : ∃ q, h'.get? a = some q) (new : ObjOk X.prog X.w (upd H a ob) h' a ob) :
  Inv X pins σ (upd H a ob) { s with heap:=h',toks:=t' } :=
 I.write (x:=a) (e:=a) mu (.inl rfl) (fun b q hb z=>(hs.2 b hb).trans z) he new
theorem Zah3 {P : Program} {w : World} {H' : Hp} {h' : Heap} {kvs : List (Key × V)} {vs : List (Key × Value)} (z : kvs.length ≤ sizeLine) (hd : (a == sysModules) = false) (rel : KV kvs vs) (dd : h'.DictOf (ZaaD P w) a vs) :
  ObjOk P w H' h' a (.dK kvs):=⟨z,hd,vs,rel,dd⟩
theorem Zah4 {H' : Hp} {Q : Unit → Shared → Prop} (hu : A.units + 1 < cLine) (I : Inv X pins σ H s) (g : DPut H a y v H') (ry : RelV y u) (rv : RelV v r) (h : ∀ s', Inv X pins σ H' s' → Q () s') :
  wpAny (model X.prog X.w) A (setItem (.ref a) u r) Q E s:=by
 rcases g with ⟨kvs,k,e,ey,l,eH⟩ | ⟨kvs,k,b,e,ey,eb,l,eH⟩
 ·subst ey eH
  obtain⟨z,hd,vs,rel,dd⟩:=dk_of I.hok e
  have hz:vs.length<=sizeLine:=by rw[<- rel.length]; exact z
  have hl:(putK kvs k v).length<=sizeLine:=by have:=Zabi kvs k v; omega
  refine wpAny_setItem_pairs (hsz:=hz) (kV_is ry) dd fun h' dd' hs=>h _ ?_
  have he:∃ q,h'.get? a=some q:=let ⟨q,_,_,hq,_⟩:=dd'; ⟨q,hq⟩
  exact ZaeT I (by rw[e]; exact True.intro) hs he (Zah3 hl hd (rel.put k rv) dd')
 ·subst ey eH
  cases (show u=Value.ref b from ry)
  obtain⟨z,hd,xs,rel,dd⟩:=dt_of I.hok e
  have hz:xs.length<=sizeLine:=by rw[<- Paired.length rel]; exact z
  have hl:(putK kvs k v).length<=sizeLine:=by have:=Zabi kvs k v; omega
  refine wpAny_setItem_heap (hsz:=hz) (tupleKind_room_in1 hu) (ZahO I.hok eb) dd fun h' dd' hs=>h _ ?_
  obtain⟨q,es,ep,hq,h2,h3,h4,_,h5⟩:=dd'
  refine ZaeT I (by rw[e]; exact True.intro) hs ⟨q,hq⟩ ⟨hl,hd,_,(rel.put k eb rv).keeps fun c ys ec=>?_,q,es,ep,hq,h2,h3,h4,h5⟩
  rw[Zaaf (ne_of ec e (fun z=>nomatch z))]
  exact ec
end
section
variable {X:Cx}{pins:List (Addr × Obj)}{σ:St}{H:Hp}{s:Shared}{a:Addr}{kvs:List (Key × V)}{k:Key}{u:Value}{A:Around}{E:Value->Shared->Prop}
end
def NoSl (i:Expr):Prop:=∀ ov iv,subscripted i false ov iv=operate [ov,iv] (getItem ov iv)
theorem Zakq {prog : Program} {w : World} {A : Around} {E : Value → Shared → Prop} {s : Shared} {env : Env} {value slice : Expr} {pos : Pos} {T id : String} {Q : Value → Shared → Prop}
  (hl:typeLookup (.type T) "__getitem__"=pure (some (.builtin id))) (hs:NoSl slice)
  (h:wpAny (model prog w) A (eval value env) (fun o s₁=>wpAny (model prog w) A (eval slice env) (fun i s₂=>s₂.TypeIs o T/\wpAny (model prog w) A (getItem o i) Q E s₂) E s₁) E s) :
  wpAny (model prog w) A (eval (.Subscript value slice pos) env) Q E s:=by
 refine Subscript_ (wpAny_mono h (fun o s₁ h₁=>wpAny_mono h₁ (fun i s₂ h₂=>?_) fun _ _ x=>x) fun _ _ x=>x)
 obtain⟨hT,h₂⟩:=h₂
 unfold subscriptTail
 refine wpAny_bind ?_
 rw[getitemInPython_of_ne hT.not_modules]
 refine wpAny_bind (wpAny_specialOf hT hl ?_)
 have fin:wpAny (model prog w) A (subscripted slice false o i) (fun r s₃=>wpAny (model prog w) A (letTemporaryGo value o r >>= fun _=>pure r) Q E s₃) E s₂:=by
  rw[hs o i]
  exact wpAny_operating (wpAny_mono h₂ (fun r s₃ h₃=>wpAny_bind (wpAny_letTemporaryGo (wpAny_pure h₃))) fun _ _ x=>x)
 first
  | exact wpAny_pure (wpAny_bind fin)
  | exact wpAny_bind (wpAny_pure (wpAny_bind fin))
  | exact wpAny_bind fin
theorem Zafp {X:Cx}{pins:List (Addr × Obj)}{σ:St}{H:Hp}{s:Shared}{a:Addr}{y:V}{o:Option V} (I:Inv X pins σ H s) (g:DGet H a y o):s.TypeIs (.ref a) "dict":=by
 rcases g with ⟨kvs,k,e,_,_⟩ | ⟨kvs,k,b,e,_,_,_⟩
 ·obtain⟨_,_,vs,_,dd⟩:=dk_rd I.hok e
  exact dd.typeIs
 ·obtain⟨_,_,xs,_,dd⟩:=dt_rd I.hok e
  exact dd.typeIs
def tDGet (td ty:TE):TE:=fun σ H Q=>td σ H fun x H1=>ty σ H1 fun y H2=>∃ a v,x=.ref a/\DGet H2 a y (some v)/\Q v H2
def sDPut (td ty tv:TE):TS:=fun D σ H=>tv σ H fun v H1=>td σ H1 fun x H2=>ty σ H2 fun y H3=>∃ a H4,x=.ref a/\DPut H3 a y v H4/\D.nx σ H4
section
variable {X:Cx}{o i e value:Expr}{pos pos' tpos:Pos}{td ty tv:TE}
theorem ZaeD (hu:X.A.units+1<cLine) (ho:PE X o td) (hi:PE X i ty) (hs:NoSl i):PE X (.Subscript o i pos) (tDGet td ty):=by
 intro pins s σ H Q I h
 refine Zakq PySem.F.slot_dict_getitem.lookup hs (thn (ho pins s σ H _ I h) fun u s1 ⟨x,H1,I1,rx,q1⟩=>thn (hi pins s1 σ H1 _ I1 q1) fun iv s2 ⟨y,H2,I2,ry,a,v,ex,g,q2⟩=>?_)
 subst ex
 obtain rfl:u=Value.ref a:=rx
 exact⟨Zafp I2 g,Zah5 hu I2 g ry fun w' s3 I3 rw'=>⟨v,H2,I3,rw',q2⟩⟩
theorem Zaf7 (hu : X.A.units + 1 < cLine) (ho : PE X o td) (hi : PE X i ty) (hv : PE X value tv) (hs : swapsWith value (some (.Subscript o i pos')) pos.line X.env = pure false) :
  PS X (.Assign [.Subscript o i pos'] value pos) (sDPut td ty tv):=by
 intro pins s σ H D I h
 refine wpAny_Assign_Subscript (thn (hv pins s σ H _ I h) fun r s1 ⟨v,H1,I1,rv,q1⟩=>thn (ho pins s1 σ H1 _ I1 q1) fun u s2 ⟨x,H2,I2,rx,q2⟩=>thn (hi pins s2 σ H2 _ I2 q2) fun iv s3 ⟨y,H3,I3,ry,a,H4,ex,g,q3⟩=>?_) hs
 subst ex
 obtain rfl:u=Value.ref a:=rx
 exact Zah4 hu I3 g ry rv fun s4 I4=>⟨σ,H4,I4,q3⟩
end
theorem Zaeb {P:Program}{w:World}{H:Hp} (h:Heap) (hb:sysModules<h.objs.size):ObjOk P w H (h.push { cls:=.type "dict",data:=.dict #[] }) h.objs.size (.dK []) :=
 ⟨Nat.zero_le _,beq_eq_false_iff_ne.mpr (Ne.symm (Nat.ne_of_lt hb)),[],.nil,Heap.DictOf.new h⟩
def ZalQ:TE:=fun _ H Q=>∀ p,H p=none->Q (.ref p) (upd H p (.dK []))
section
variable {X:Cx}{pos:Pos}
theorem Zacd:PE X (.Dict [] [] pos) ZalQ:=fun pins s σ H Q I h=>
 wpAny_Dict_empty ⟨.ref s.heap.objs.size,_,I.laid (a:=s.heap.objs.size) (o:=.dK []) (t':=s.toks) (fun _ _ q=>Heap.get?_push_of_some _ q) (Nat.le_refl _) (Zaeb s.heap I.big),rfl,h _ (I.hok.fresh (Nat.le_refl _))⟩
end
def Zai0:List (TE × TE)->St->Hp->(List (V × V)->Hp->Prop)->Prop
 | [],_,H,Q=>Q [] H
 | (tk,tv)::r,σ,H,Q=>tk σ H fun x H1=>tv σ H1 fun y H2=>Zai0 r σ H2 fun ps H3=>Q ((x,y)::ps) H3
abbrev VV:List (V × V)->List (Value × Value)->Prop:=Paired fun p q=>RelV p.1 q.1/\RelV p.2 q.2
def PPs (X:Cx) (pos:Pos) (keys:List (Option Expr)) (values:List Expr) (trs:List (TE × TE)):Prop :=
 ∀ (pins:List (Addr × Obj)) (s:Shared) (σ:St) (H:Hp) (Q:List (V × V)->Hp->Prop),Inv X pins σ H s->Zai0 trs σ H Q ->
  wpAny (model X.prog X.w) X.A (evalPairs (pairTrees keys values X.env pos)) (fun vs s'=>∃ ps H',Inv X pins σ H' s'/\VV ps vs/\Q ps H') X.xe s
theorem ZakO {X:Cx}{pos:Pos}:PPs X pos [] [] []:=fun pins s σ H Q I h=>pairTrees_nil_walk ⟨[],H,I,.nil,h⟩
theorem Zajm {X : Cx} {pos : Pos} {k v : Expr} {ks : List (Option Expr)} {vs : List Expr} {tk tv : TE} {trs : List (TE × TE)} (hk : PE X k tk) (hv : PE X v tv) (hr : PPs X pos ks vs trs) :
  PPs X pos (some k::ks) (v::vs) ((tk,tv)::trs):=fun pins s σ H Q I h=>
 pairTrees_cons_walk (thn (hk pins s σ H _ I h) fun u s1 ⟨x,H1,I1,rx,q1⟩=>thn (hv pins s1 σ H1 _ I1 q1) fun w2 s2 ⟨y,H2,I2,ry,q2⟩=>
  thn (hr pins s2 σ H2 _ I2 q2) fun ws s3 ⟨ps,H3,I3,rel,q3⟩=>⟨(x,y)::ps,H3,I3,.cons ⟨rx,ry⟩ rel,q3⟩)
def Zace (kvs more:List (Key × V)):List (Key × V):=more.foldl (fun acc kv=>putK acc kv.1 kv.2) kvs
theorem KV.merge:∀ {more:List (Key × V)}{rs:List (Key × Value)}{kvs:List (Key × V)}{vs:List (Key × Value)},KV more rs->KV kvs vs->KV (Zace kvs more) (merged vs rs):=by
 intro more rs kvs vs r
 unfold KV at r
 induction r generalizing kvs vs with
 | nil=>intro q; exact q
 | @cons p q ps qs h t ih=>
  intro r0
  have e:KV (putK kvs p.1 p.2) (stored vs q.1 q.2):=by
   have:=r0.put p.1 h.2
   rw[<- h.1]; exact this
  exact ih e
theorem ZabT:∀ (more kvs:List (Key × V)),(Zace kvs more).length<=kvs.length+more.length
 | [],kvs=>by show kvs.length<=kvs.length+0; omega
 | p::r,kvs=>by
  have h1:=ZabT r (putK kvs p.1 p.2)
  have h2:=Zabi kvs p.1 p.2
  show (Zace (putK kvs p.1 p.2) r).length<=_
  rw[List.length_cons]; omega
theorem ZadA {P:Program}{w:World}:∀ {kvs:List (Key × V)}{ws:List (Value × Value)},VV (kvs.map fun kv=>(kV kv.1,kv.2)) ws->∃ rs,Carries (ZaaD P w) ws rs/\KV kvs rs
 | [],_,r=>by rw[List.map_nil] at r; cases r; exact⟨[],True.intro,.nil⟩
 | p::kvs,_,r=>by
  rw[List.map_cons] at r
  cases r with
  | @cons a b as bs h t=>
   obtain⟨rs,c,q⟩:=ZadA (P:=P) (w:=w) t
   obtain⟨b1,b2⟩:=b
   exact⟨(p.1,b2)::rs,⟨kV_is h.1,rfl,c⟩,.cons ⟨rfl,h.2⟩ q⟩
def tDisp (trs:List (TE × TE)):TE:=fun σ H Q=>∀ p,H p=none->Zai0 trs σ (upd H p (.dK [])) fun ps H2=>H2 p=some (.dK [])/\∃ kvs:List (Key × V),ps=kvs.map (fun kv=>(kV kv.1,kv.2))/\kvs.length<=15/\Q (.ref p) (upd H2 p (.dK (Zace [] kvs)))
theorem ZakU {X : Cx} {pos : Pos} {keys : List (Option Expr)} {values : List Expr} {trs : List (TE × TE)} (h : PPs X pos keys values trs) (hall : keys.all (·.isSome) = true) (hl : keys.length = values.length) (h0 : keys ≠ [])
  (h15:keys.length<=15):PE X (.Dict keys values pos) (tDisp trs):=by
 intro pins s σ H Q I q
 have hn:=I.hok.fresh (Nat.le_refl s.heap.objs.size)
 have I1:=I.laid (a:=s.heap.objs.size) (o:=.dK []) (h':=s.heap.push { cls:=.type "dict",data:=.dict #[] }) (t':=s.toks) (fun _ _ q=>Heap.get?_push_of_some _ q) (Nat.le_refl _) (Zaeb s.heap I.big)
 refine wpAny_Dict_walk (knd:=ZaaD X.prog X.w) hall hl h0 h15 (thn (h pins _ σ _ _ I1 (q _ hn)) fun ws s2 ⟨ps,H2,I2,rel,e,kvs,ep,lk,q2⟩=>?_)
 subst ep
 obtain⟨rs,c,rk⟩:=ZadA (P:=X.prog) (w:=X.w) rel
 obtain⟨z,hd,vs0,r0,dd⟩:=dk_of I2.hok e
 cases r0
 refine⟨rs,c,dd,fun h' dd' hs=>⟨.ref s.heap.objs.size,_,?_,rfl,q2⟩⟩
 have hz:(Zace [] kvs).length<=sizeLine:=by
  have h1:=ZabT kvs []
  rw[List.length_nil] at h1
  rw[sizeLine_eq]; omega
 have he:∃ q,h'.get? s.heap.objs.size=some q:=let ⟨q,_,_,hq,_⟩:=dd'; ⟨q,hq⟩
 exact ZaeT I2 (by rw[e]; exact True.intro) hs he (Zah3 hz hd (rk.merge .nil) dd')
structure M1 (X:Cx) (o:Expr) (m:Str) (apos:Pos) (e:Expr) (cpos:Pos):Prop where
 base:attributeBase o m X.env (eval o X.env)=eval o X.env
 few:((backTo cpos (starEach [e] X.env)).all (fun x=>!x.1) && (backToKw cpos (keywordEach [] X.env)).all (fun x=>x.1.isSome)
  && decide (([e]:List Expr).length+([]:List Keyword).length+(if ([]:List Keyword).isEmpty then 0 else 1)<30))=true
 line:(apos.endLine == cpos.line)=true
 trees:backTo cpos (starEach [e] X.env)=[(false,eval e X.env)]
structure M2 (X:Cx) (o:Expr) (m:Str) (apos:Pos) (e f:Expr) (cpos:Pos):Prop where
 base:attributeBase o m X.env (eval o X.env)=eval o X.env
 few:((backTo cpos (starEach [e,f] X.env)).all (fun x=>!x.1) && (backToKw cpos (keywordEach [] X.env)).all (fun x=>x.1.isSome)
  && decide (([e,f]:List Expr).length+([]:List Keyword).length+(if ([]:List Keyword).isEmpty then 0 else 1)<30))=true
 line:(apos.endLine == cpos.line)=true
 trees:backTo cpos (starEach [e,f] X.env)=[(false,eval e X.env),(false,eval f X.env)]
def IsD (H:Hp) (a:Addr):Prop:=(∃ kvs,Rd H a (.dK kvs))∨∃ kvs,Rd H a (.dT kvs)
theorem Zalm {X : Cx} {pins : List (Addr × Obj)} {σ : St} {H : Hp} {s : Shared} {a : Addr} (I : Inv X pins σ H s) (d : IsD H a) :
  s.TypeIs (.ref a) "dict"/\(∀ b,Value.ref a=.ref b->∃ ob,s.heap.get? b=some ob/\ob.dict=none)/\(a == sysModules)=false:=by
 rcases d with ⟨kvs,e⟩ | ⟨kvs,e⟩
 ·obtain⟨_,hd,vs,_,dd⟩:=dk_rd I.hok e
  refine⟨dd.typeIs,fun b q=>?_,hd⟩
  cases q
  obtain⟨ob,_,_,h1,h2,_⟩:=dd
  exact⟨ob,h1,h2.2.1⟩
 ·obtain⟨_,hd,xs,_,dd⟩:=dt_rd I.hok e
  refine⟨dd.typeIs,fun b q=>?_,hd⟩
  cases q
  obtain⟨ob,_,_,h1,h2,_⟩:=dd
  exact⟨ob,h1,h2.2.1⟩
section
variable {X:Cx}{pins:List (Addr × Obj)}{σ:St}{H:Hp}{s:Shared}{a:Addr}{y d:V}{u r:Value}{o:Option V}{A:Around}{E:Value->Shared->Prop}
theorem Zamt {Q : Value → Shared → Prop} (hu : A.units + 1 < cLine) (I : Inv X pins σ H s) (g : DGet H a y o) (ry : RelV y u) (rd : RelV d r) (h : ∀ w' s', Inv X pins σ H s' → RelV (o.getD d) w' → Q w' s') :
  wpAny (model X.prog X.w) A (call (.builtin "dict.get") [.ref a,u,r]) Q E s:=by
 rcases g with ⟨kvs,k,e,ey,l⟩ | ⟨kvs,k,b,e,ey,eb,l⟩
 ·subst ey
  obtain⟨z,hd,vs,rel,dd⟩:=dk_rd I.hok e
  refine call_meetsIn PySem.F.slot_dict_get dd.typeIs PySem.F.entry_dict_get (PySem.F.args_dict_get_3 _ _ _) (meets_dict_get_default (ZaaD X.prog X.w) a (kV_is ry) hd r) ⟨_,dd.mapOf,h _ _ (I.tok _) ?_⟩
  rw[l]
  exact (rel.val k).getD rd
 ·subst ey
  cases (show u=Value.ref b from ry)
  obtain⟨z,hd,xs,rel,dd⟩:=dt_rd I.hok e
  refine call_meetsIn PySem.F.slot_dict_get dd.typeIs PySem.F.entry_dict_get (PySem.F.args_dict_get_3 _ _ _) (meetsH_dict_get_default (tupleKind (ZaaD X.prog X.w)) a b hd r) ⟨tupleKind_room_in1 hu,k,xs,ZahO I.hok eb,dd,h _ _ (I.tok _) ?_⟩
  rw[l]
  exact (rel.val k).getD rd
end
def ZalR (td ty tx:TE):TE:=fun σ H Q=>td σ H fun x H1=>∃ a,x=.ref a/\IsD H1 a/\ty σ H1 fun y H2=>tx σ H2 fun z H3=>∃ o,DGet H3 a y o/\Q (o.getD z) H3
section
variable {X:Cx}{o e f:Expr}{apos cpos:Pos}{td ty tx:TE}
theorem Zad1 (hu:X.A.units+1<cLine) (ho:PE X o td) (he:PE X e ty) (hf:PE X f tx) (m:M2 X o "get" apos e f cpos):PE X (.Call (.Attribute o "get" apos) [e,f] [] cpos) (ZalR td ty tx):=by
 intro pins s σ H Q I h
 refine wpAny_Call_method m.base m.few m.line PySem.F.plainAttrs_dict PySem.F.slot_dict_get PySem.F.type_dict_get (thn (ho pins s σ H _ I h) fun u s1 ⟨x,H1,I1,rx,a,ex,d,q1⟩=>?_)
 subst ex
 obtain rfl:u=Value.ref a:=rx
 obtain⟨t1,t2,_⟩:=Zalm I1 d
 refine⟨t1,t2,?_⟩
 rw[m.trees]
 refine Calls.callWith_builtin rfl (Calls.evalArgs_plain (Calls.spliced_cons (thn (he pins s1 σ H1 _ I1 q1) fun iv s2 ⟨y,H2,I2,ry,q2⟩=>
  Calls.spliced_cons (thn (hf pins s2 σ H2 _ I2 q2) fun fv s3 ⟨z,H3,I3,rz,ov,g,q3⟩=>Calls.spliced_nil ?_))))
 exact Zamt hu I3 g ry rz fun w' s4 I4 rw'=>⟨_,H3,I4,rw',q3⟩
end
section
variable {X:Cx}{pins:List (Addr × Obj)}{σ:St}{H:Hp}{s:Shared}{a:Addr}{kvs:List (Key × V)}{A:Around}{E:Value->Shared->Prop}
theorem Zaj4 {Q:Value->Shared->Prop} (I:Inv X pins σ H s) (e:Rd H a (.dK kvs)) (h:∀ p s',H p=none->Inv X pins σ (upd H p (.dK kvs)) s'->Q (.ref p) s'):wpAny (model X.prog X.w) A (call (.type "dict") [.ref a]) Q E s:=by
 obtain⟨z,hd,vs,rel,dd⟩:=dk_rd I.hok e
 refine kt_call_dict hd dd (by rw[<- rel.length]; exact z) fun h' dd' hs=>?_
 refine h _ _ (I.hok.fresh (Nat.le_refl _)) (I.laid (a:=s.heap.objs.size) (o:=.dK kvs) (t':=s.toks) (fun b q hq=>?_) (Nat.le_refl _) (Zah3 z (beq_eq_false_iff_ne.mpr (Ne.symm (Nat.ne_of_lt I.big))) rel dd'))
 exact (hs.2 b (Nat.ne_of_lt (Heap.lt_size hq))).trans (Heap.get?_push_of_some _ hq)
end
section
variable {X:Cx}{pins:List (Addr × Obj)}{σ:St}{H:Hp}{s:Shared}{a:Addr}{y:V}{u:Value}{A:Around}{E:Value->Shared->Prop}
end
end L2
namespace L2
open PySem PySem.Spec PyProof.Rows
section
variable {κ:Type} [DecidableEq κ]
theorem ZaiX {kvs:List (κ × V)}{k:κ} (h:valV kvs k=none):¬ k∈kvs.map (·.1):=by
 intro m
 obtain⟨p,hp,e⟩:=List.mem_map.mp m
 have q:(kvs.any fun kv=>decide (kv.1=k))=true:=List.any_eq_true.mpr ⟨p,hp,decide_eq_true e⟩
 rw[ZabK,h] at q
 exact absurd q (by simp)
theorem Zakk {kvs:List (κ × V)}{k:κ}{v:V} (h:valV kvs k=some v):k∈kvs.map (·.1):=by
 have q:(kvs.any fun kv=>decide (kv.1=k))=true:=by
  rw[ZabK,h]
  all_goals rfl
 obtain⟨p,hp,e⟩:=List.any_eq_true.mp q
 exact List.mem_map.mpr ⟨p,hp,of_decide_eq_true e⟩
theorem Zaiy:∀ {l:List κ}{k:κ},l.Nodup->¬ k∈l->(l++[k]).Nodup
 | [],k,_,_=>by simp
 | a::r,k,h,hk=>by
  obtain⟨h1,h2⟩:=List.nodup_cons.mp h
  show (a::(r++[k])).Nodup
  refine List.nodup_cons.mpr ⟨fun m=>?_,Zaiy h2 fun m=>hk (List.mem_cons.mpr (Or.inr m))⟩
  rcases List.mem_append.mp m with q | q
  ·exact h1 q
  ·exact hk (List.mem_cons.mpr (Or.inl (List.mem_singleton.mp q).symm))
end
end L2
namespace L2
open PySem PySem.Spec PyProof.Rows PySem.SeqAt
section
variable {prog:Program}{w:World}{A:Around}{E:Value->Shared->Prop}{s:Shared}
theorem Zadq {it t : Addr} {i : Nat} {items : Array Value} {x : Value} {Q : Value → Shared → Prop} (hit : s.heap.IsTupleIter it t i) (ht : s.heap.IsTuple t items) (hx : items[i]? = some x)
  (hQ:∀ h',h'.IsTupleIter it t (i+1)->Heap.SameBut it s.heap h'->Q x { s with heap:=h' }):wpAny (model prog w) A (Builtin.SmallTypes.nextOf (.ref it)) Q E s:=by
 obtain⟨o,ho,hc,hd⟩:=id hit
 obtain⟨ol,hol,_,nl,hdl⟩:=ht
 unfold Builtin.SmallTypes.nextOf
 refine wpAny_bind (wpAny_callSpecial?_slot (name:=Str.ofString "__next__") hit.typeIs F.slot_tuple_iterator_next (wpAny_call_entry F.slot_tuple_iterator_next hit.typeIs F.entry_tuple_iterator_next ?_ (F.args_tuple_iterator_next_1 _)))
 show wpAny _ _ (field (.ref it) 0 >>= _) _ _ s
 refine wpAny_bind (wpAny_field ho hd (x:=.ref t) rfl ?_)
 show wpAny _ _ (if (Value.ref t == Value.none)=true then _ else _) _ _ s
 rw[if_neg (show ¬ ((Value.ref t == Value.none)=true) from Bool.false_ne_true)]
 show wpAny _ _ (field (.ref it) 1 >>= _) _ _ s
 refine wpAny_bind (wpAny_field ho hd (x:=.int i 0) rfl ?_)
 show wpAny _ _ (seqItems? (.ref t) >>= _) _ _ s
 refine wpAny_bind (wpAny_seqItems hol hdl ?_)
 simp only[Int.toNat_natCast,hx]
 refine wpAny_bind (wpAny_setField ho hd (by simp) (wpAny_pure ⟨x,rfl,wpAny_pure (hQ _ ?_ (Heap.SameBut.update ..))⟩))
 exact⟨_,Heap.get?_update_self _ ho (Obj.isFreed_of_fields (Obj.data_mapFields hd _)),(Obj.cls_mapFields ..).trans hc,by rw[Obj.data_mapFields hd]; simp[rawInt]⟩
theorem Zaa6 {it t : Addr} {i : Nat} {items : Array Value} {Q : Value → Shared → Prop} (hh : A.handled = none) (hit : s.heap.IsTupleIter it t i) (ht : s.heap.IsTuple t items) (hx : items[i]? = none)
  (hE:∀ h' e,Heap.ExtBut it s.heap h'->(∃ o,h'.get? e=some o/\o.cls=.type "StopIteration")->E (.ref e) { s with heap:=h' }):wpAny (model prog w) A (Builtin.SmallTypes.nextOf (.ref it)) Q E s:=by
 obtain⟨o,ho,hc,hd⟩:=id hit
 obtain⟨ol,hol,_,nl,hdl⟩:=ht
 unfold Builtin.SmallTypes.nextOf
 refine wpAny_bind (wpAny_callSpecial?_slot (name:=Str.ofString "__next__") hit.typeIs F.slot_tuple_iterator_next (wpAny_call_entry F.slot_tuple_iterator_next hit.typeIs F.entry_tuple_iterator_next ?_ (F.args_tuple_iterator_next_1 _)))
 show wpAny _ _ (field (.ref it) 0 >>= _) _ _ s
 refine wpAny_bind (wpAny_field ho hd (x:=.ref t) rfl ?_)
 show wpAny _ _ (if (Value.ref t == Value.none)=true then _ else _) _ _ s
 rw[if_neg (show ¬ ((Value.ref t == Value.none)=true) from Bool.false_ne_true)]
 show wpAny _ _ (field (.ref it) 1 >>= _) _ _ s
 refine wpAny_bind (wpAny_field ho hd (x:=.int i 0) rfl ?_)
 show wpAny _ _ (seqItems? (.ref t) >>= _) _ _ s
 refine wpAny_bind (wpAny_seqItems hol hdl ?_)
 simp only[Int.toNat_natCast,hx]
 refine wpAny_bind (wpAny_rule (wpAny_bind (wpAny_setField ho hd (by simp) ?_)))
 show wpAny _ _ (newExc (.type "StopIteration") [] >>= _) _ _ _
 refine wpAny_bind ?_
 simp only[newExc,newTuple]
 refine wpAny_bind (wpAny_newObj_type ?_ (by size_fits))
 refine wpAny_bind (m:=firstArgMember _ _) (wpAny_of_eq (a:=Value.none) (by first | rfl | (simp only[firstArgMember]; rfl)) ?_)
 refine wpAny_newObj_type ?_ (by size_fits)
 simp only[raiseNew]
 refine wpAny_bind (wpAny_handled ?_)
 first | rw[show A.in1.handled=none from hh] | rw[hh]
 refine wpAny_bind (wpAny_pure (wpAny_throw ?_))
 exact hE _ _ (((Heap.SameBut.update ..).extBut.push _).push _) ⟨_,Heap.get?_push_size _ rfl,rfl⟩
theorem Zah1 (hh:A.handled=none) (it l:Addr) (hne:l≠it) (items:Array Value):Draws prog w A it [it,l] items.size (fun i v=>items[i]?=some v) (fun i h=>h.IsTupleIter it l i/\h.IsTuple l items) where
 live:=fun _ _ st=>let ⟨o,ho,_⟩:=st.1; ⟨o,ho⟩
 frame:=fun _ _ _ st hk=>⟨st.1.at fun o e=>hk it (by simp) o e,let ⟨o,e,c⟩:=st.2; ⟨o,hk l (by simp) o e,c⟩⟩
 item:=fun i s Q E hi st hQ=>by
  refine Zadq st.1 st.2 (x:=items[i]) (by simp[hi]) fun h' hit' hs'=>?_
  exact hQ _ h' s.toks (by simp[hi]) ⟨hit',let ⟨o,e,c⟩:=st.2; ⟨o,(hs'.2 l hne).trans e,c⟩⟩ hs'
 done:=fun s Q E st hE=>Zaa6 hh st.1 st.2 (by simp) hE
end
theorem Zad9 (l : Addr) (items : Array Value) (n : Nat) (dct : Option Addr) (sl : Array (Option Value)) :
  Meets (Builtin.«enumerate.__new__» ⟨[.type "enumerate",.ref l],[]⟩) (fun _ R s=>s.heap.get? l=some { cls:=.type "tuple",dict:=dct,data:=.seq items n,slots:=sl } /\
   R (.ok (.ret (.ref (s.heap.push { cls:=.type "tuple_iterator",data:=.fields #[.ref l,.int 0 0] }).objs.size)))
    { s with heap:=(s.heap.push { cls:=.type "tuple_iterator",data:=.fields #[.ref l,.int 0 0] }).push { cls:=.type "enumerate",data:=.fields #[.none,.bool false,.ref s.heap.objs.size,rawInt 0,.none,.none] } }) :=
 .of_wp fun prog w A R s h=>by
  obtain⟨hp,g,d,tk,os⟩:=s; obtain⟨hl,h⟩:=h
  have hsub:=sub_enumerate
  have hL:Heap.IsTuple (Shared.heap ⟨hp,g,d,tk,os⟩) l items:=⟨_,hl,rfl,n,rfl⟩
  wp_walk using AutoSeq1.wpAny_loadPart' hl
  refine wpAny_stack_any fun st=>wpAny_pure ?_
  split
  ·rename_i c _ _ _ _ _
   cases (c == Value.type "enumerate")
   ·wp_walk using AutoSeq1.wpAny_loadPart' hl,wpAny_pyIter_tuple hL
    exact⟨_,rfl,h⟩
   ·wp_walk using AutoSeq1.wpAny_loadPart' hl,wpAny_pyIter_tuple hL
    exact⟨_,rfl,h⟩
  ·wp_walk using AutoSeq1.wpAny_loadPart' hl,wpAny_pyIter_tuple hL
   exact⟨_,rfl,h⟩
section
variable {prog:Program}{w:World}{A:Around}{E:Value->Shared->Prop}{s:Shared}
theorem Zad8 {e it l : Addr} {i : Nat} {items : Array Value} {old : Value} {Q : Option Value → Shared → Prop} (hh : A.handled = none) (he : IsEnum s.heap e it i old) (hit : s.heap.IsTupleIter it l i) (hl : s.heap.IsTuple l items) (hx : items[i]? = none)
  (hQ:∀ h',Heap.ExtBut it s.heap h'->Q none { s with heap:=h' }):wpAny (model prog w) A (pyNext (.ref e)) Q E s:=by
 have hT:s.TypeIs (.ref e) "enumerate":=⟨_,he,rfl⟩
 unfold pyNext
 refine wpAny_bind (wpAny_attempt (wpAny_callSpecial?_slot (name:=Str.ofString "__next__") hT F.slot_enumerate_next (wpAny_call_entry F.slot_enumerate_next hT F.entry_enumerate_next ?_ (F.args_enumerate_next_1 _))))
 show wpAny _ _ (field (.ref e) 2 >>= _) _ _ _
 refine wpAny_bind (wpAny_field he rfl (x:=.ref it) rfl ?_)
 refine wpAny_bind (Zaa6 hh hit hl hx fun h' x he' hx'=>?_)
 obtain⟨o,ho,hc⟩:=hx'
 refine wpAny_bind (wpAny_isInstance (T:="StopIteration") (b:=true) ⟨o,ho,hc⟩ isSubtype_stop ?_)
 exact wpAny_pure (hQ _ he')
theorem ZadD {l : Addr} {items : Array Value} {Q : Value → Shared → Prop} (hL : s.heap.IsTuple l items)
  (h:∀ h',IsEnum h' (s.heap.objs.size+1) s.heap.objs.size 0 .none->h'.IsTupleIter s.heap.objs.size l 0->(∀ b o,s.heap.get? b=some o->h'.get? b=some o)->Q (.ref (s.heap.objs.size+1)) { s with heap:=h' }) :
  wpAny (model prog w) A (call (.type "enumerate") [.ref l]) Q E s:=by
 obtain⟨⟨c,dct,dt,sl⟩,hl,hc,n,hd⟩:=hL
 replace hc:c=.type "tuple":=hc
 replace hd:dt=.seq items n:=hd
 subst hc hd
 refine callType_new F.called_enumerate (by decide) (F.typeCall_enumerate_1 _) (F.newCall_enumerate_1 _) (fun obj=>F.args_object_init_2 obj _) F.entry_enumerate_new (Zad9 l items n dct sl) ⟨hl,?_⟩
 have hz:(s.heap.push { cls:=.type "tuple_iterator",data:=.fields #[.ref l,.int 0 0] }).objs.size=s.heap.objs.size+1:=Heap.size_push ..
 show _/\_
 rw[hz]
 have he:IsEnum ((s.heap.push { cls:=.type "tuple_iterator",data:=.fields #[.ref l,.int 0 0] }).push { cls:=.type "enumerate",data:=.fields #[.none,.bool false,.ref s.heap.objs.size,rawInt 0,.none,.none] }) (s.heap.objs.size+1) s.heap.objs.size 0 .none:=by
  have:=Heap.get?_push_size (s.heap.push { cls:=.type "tuple_iterator",data:=.fields #[.ref l,.int 0 0] }) (o:={ cls:=.type "enumerate",data:=.fields #[.none,.bool false,.ref s.heap.objs.size,rawInt 0,.none,.none] }) rfl
  rw[hz] at this
  exact this
 exact⟨⟨_,he,rfl⟩,h _ he ⟨_,Heap.get?_push_of_some _ (Heap.get?_push_size _ rfl),rfl,rfl⟩ fun b o x=>Heap.get?_push_of_some _ (Heap.get?_push_of_some _ x)⟩
end
def IteT (K:PySem.W.Frag) (a:Addr):It :=
 ⟨fun i H=>∃ xs x,SqT K H a xs/\xs[i]?=some x,fun i H y H'=>∃ p x,H p=none/\y=.ref p/\H'=upd H p (.tup [.int i,x])/\∀ xs,SqT K H a xs->xs[i]?=some x,fun i H=>∃ xs,SqT K H a xs/\xs.length<=i⟩
theorem ZafE {P:Program}{w:World}{K:PySem.W.Frag}{es:List Expr}{x1}{pos:Pos} (a it e:Addr) (hne:e≠it):Turn P w K (.Tuple es x1 pos) (IteT K a) [e,it] e (fun i h=>(∃ old,IsEnum h e it (i:Nat) old)/\h.IsTupleIter it a i) where
 mem:=by simp
 obj:=fun i h st b hb=>by
  obtain⟨⟨old,s1⟩,s2⟩:=st
  rcases List.mem_cons.mp hb with z | z
  ·subst z
   exact⟨_,s1,fun v z=>nomatch z⟩
  ·have z:b=it:=by simpa using z
   subst z
   obtain⟨o,e,c,d⟩:=s2
   exact⟨o,e,fun v z=>by rw[d] at z; cases z⟩
 keep:=fun i h h' st k=>by
  obtain⟨⟨old,s1⟩,s2⟩:=st
  exact⟨⟨old,k e (by simp) _ s1⟩,s2.at fun o q=>k it (by simp) o q⟩
 item:=by
  intro X hP hw hK hc i pins s σ H E I hf st hg
  subst hP hw hK
  obtain⟨xs,x,hq,hx⟩:=hg
  obtain⟨its,rv,p,hz⟩:=I.tuple hq
  obtain⟨u,hu,ru⟩:=rv.get hx
  obtain⟨⟨old,s1⟩,s2⟩:=st
  have hlt:(i:Nat)<its.toArray.size:=by
   have:=(List.getElem?_eq_some_iff.mp hu).1
   simpa using this
  have nea:a≠it:=by
   rintro rfl
   obtain⟨o1,q1,c1,_⟩:=p
   obtain⟨o2,q2,c2,_⟩:=id s2
   rw[q1] at q2; cases q2
   rw[c1] at c2
   injection c2 with z
   exact absurd z (by decide)
  have nee:a≠e:=by
   rintro rfl
   obtain⟨o1,q1,c1,_⟩:=p
   have s1':s.heap.get? a=some _:=s1
   rw[q1] at s1'
   cases s1'
   injection c1 with z
   exact absurd z (by decide)
  have it2:s.heap.IsTuple a its.toArray:=p
  refine wpAny_pyNext_enum_itemD (Zah1 (A:=X.A.in1) (I.ok.hd hc) it a nea its.toArray) s1 ⟨s2,it2⟩ hlt hne (by simp[hne,Ne.symm nee]) fun u' h' tk' hu' ho hst ht hsz hk=>?_
  have eu:u'=u:=by
   have:its.toArray[i]?=some u:=by simpa using hu
   rw[this] at hu'
   exact (Option.some.inj hu').symm
  subst eu
  have hit:=hst.1
  refine⟨_,rfl,?_⟩
  refine wpAny_letOwnedTupleGo_enum ho fun h'' he hs=>?_
  have fresh:H s.heap.objs.size=none:=I.hok.fresh (Nat.le_refl _)
  have k:∀ b o,b ∉ [e,it]->s.heap.get? b=some o->h''.get? b=some o:=fun b o hb q=>by
   have hb':b≠e/\b≠it:=by simpa using hb
   exact (hs.2 b hb'.1).trans (hk b o hb'.1 hb'.2 q)
  have nE:∀ b∈[e,it],H b=none:=fun b hb=>(hf b hb).1
  have nit:∀ b u,H b=some u->b ∉ [e,it]:=fun b u q z=>by rw[nE b z] at q; cases q
  have hpe:s.heap.objs.size≠e:=Nat.ne_of_gt (Heap.lt_size s1)
  have htup:h''.get? s.heap.objs.size=some { cls:=.type "tuple",data:=.seq #[.int i tk',u'] }:=(hs.2 _ hpe).trans ht
  have newOk:ObjOk X.prog X.w (upd H s.heap.objs.size (.tup [.int i,x])) h'' s.heap.objs.size (.tup [.int i,x]):=by
   refine⟨?_,[.int i tk',u'],.cons ⟨_,rfl⟩ (.cons ru .nil),⟨_,htup,rfl,rfl,0,rfl⟩⟩
   show 2<=sizeLine
   decide
  have I1:Inv X pins σ (upd H s.heap.objs.size (.tup [.int i,x])) { s with heap:=h'',toks:=tk'+1 }:=by
   refine I.step (g':=s.gens) (d':=s.drawn) (ch:=[e,it]) (fun b hb=>?_) (fun b o _ _ hc q _=>k b o hc q) (fun b o _ _ hc q _=>⟨o.slots,k b o hc q⟩) (fun b o _ q n=>?_) (fun b o hc q=>⟨o,k b o hc q⟩)
    (fun b xs q=>by rw[Zaaf (Zaad q fresh)]; exact q) (fun b o xs q=>by rw[Zaaf (Zaad q fresh)]; exact q) (fun b ps q=>⟨#[],by rw[Zaaf (Zaad q fresh),q]; simp⟩) (fun m hm=>?_) (fun b ob q=>?_) I.bare
   ·obtain⟨f0,f1,f2,f3,f4,f5⟩:=hf b hb
    exact⟨f3,f1,f4,f5⟩
   ·rw[Zaaf (Nat.ne_of_lt (Heap.lt_size q))]
    exact n
   ·obtain⟨o,es,ep,ho,r⟩:=hm
    refine⟨o,es,ep,k _ o (fun z=>?_) ho,r⟩
    exact (hf _ z).2.1 rfl
   ·by_cases hb:b=s.heap.objs.size
    ·subst hb
     rw[Zaab] at q; cases q
     exact newOk
    ·rw[Zaaf hb] at q
     refine (I.hok b ob q).stay (fun c v hc r=>k c v ?_ r) (fun c r=>by rw[Zaaf (Zaad r fresh)]; exact r) fun c xs r=>by rw[Zaaf (Zaad r fresh)]; exact r
     rcases hc with z | z
     ·rw[z]; exact nit b ob q
     ·exact nit c _ z
  refine⟨.ref s.heap.objs.size,_,I1,rfl,⟨s.heap.objs.size,x,fresh,rfl,rfl,fun ys hy=>by rw[I.tuple_inj hy hq]; exact hx⟩,⟨⟨u',?_⟩,?_⟩,fun b hb=>?_⟩
  ·have he:IsEnum h'' e it ((i:Int)+1) u':=he
   show IsEnum h'' e it ((i+1:Nat):Int) u'
   rw[show ((i+1:Nat):Int)=(i:Int)+1 by omega]
   exact he
  ·exact hit.extBut hs.extBut (Ne.symm hne)
  ·have lt : b < s.heap.objs.size := by
    rcases List.mem_cons.mp hb with z | z
    ·rw[z]; exact Heap.lt_size s1
    ·have z:b=it:=by simpa using z
     rw[z]
     obtain⟨o,q,_⟩:=s2
     exact Heap.lt_size q
   rw[Zaaf (Nat.ne_of_lt lt)]
   exact nE b hb
 done:=by
  intro X hP hw hK hc i pins s σ H E I hf st hg
  subst hP hw hK
  obtain⟨xs,hq,hx⟩:=hg
  obtain⟨its,rv,p,hz⟩:=I.tuple hq
  obtain⟨⟨old,s1⟩,s2⟩:=st
  obtain⟨f0,f1,f2,f3,f4,f5⟩:=hf it (by simp)
  have hl:=rv.length
  exact Zad8 (I.ok.hd hc) s1 s2 (show s.heap.IsTuple a its.toArray from p) (by simp; omega) fun h' eb=>⟨rfl,I.turned (t':=s.toks) (fun b o hb q=>eb b o hb q) f0 f1 f3 f4 f5⟩
 self:=fun _ _ _ _ _ st h=>by
  obtain⟨⟨old,s1⟩,_⟩:=st
  exact wpAny_pyIter_enum s1 h
def SqB (b:Bool) (K:PySem.W.Frag) (H:Hp) (a:Addr) (xs:List V):Prop:=match b with | true=>SqL K H a xs | false=>SqT K H a xs
def IteB (b:Bool) (K:PySem.W.Frag) (a:Addr):It:=match b with | true=>Ite K a | false=>IteT K a
def Zalq (K:PySem.W.Frag) (ta:TA):TI:=fun σ H R=>ta σ H fun vs H1=>∃ a b,vs=[.ref a]/\(∃ xs,SqB b K H1 a xs)/\R (IteB b K a) H1
theorem Zagc {X : Cx} {es : List Expr} {x1} {tpos : Pos} {e : Expr} {ta : TA} {p pos : Pos} (hg : Gl X "enumerate") (hm : X.mg "enumerate" = none) (ha : PA X [e] ta) (hs : starEach [e] X.env = [(false, eval e X.env)] := by rfl) :
  PI X (.Tuple es x1 tpos) (.Call (.Name "enumerate" p) [e] [] pos) (Zalq X.K ta):=by
 intro pins s σ H R I h
 refine Call_ (Zad5 I hg hm (show bootBuiltins "enumerate"=some (.type "enumerate") by decide +kernel) (PyProof.Rows.callWith_type1 (thn (ha pos pins s σ H _ I h) fun us s1 ⟨vs,H1,I1,r1,q1⟩=>?_) hs rfl))
 obtain⟨a,b,e1,⟨xs,hq⟩,q⟩:=q1
 subst e1
 obtain⟨u,rfl,r⟩:=vals1 r1
 cases r
 have fp:∀ b∈[s1.heap.objs.size+1,s1.heap.objs.size],FpOk X pins H1 b:=fun b hb=>by
  have ge:s1.heap.objs.size<=b:=by
   rcases List.mem_cons.mp hb with z | z
   ·rw[z]; exact Nat.le_succ _
   ·have z:b=s1.heap.objs.size:=by simpa using z
    rw[z]
    exact Nat.le_refl _
  exact I1.fpOk ge (I1.hok.fresh ge)
 cases b with
 | true=>
  obtain⟨its,rv,pl,hz⟩:=I1.list hq
  refine call_enumerate_list pl.isList fun h' he hi hsz k=>wpAny_pyIter_enum he ?_
  exact⟨s1.heap.objs.size+1,[s1.heap.objs.size+1,s1.heap.objs.size],_,_,H1,rfl,I1.kept (t':=s1.toks) k,Zag6 a s1.heap.objs.size _ (Nat.ne_of_gt (Nat.lt_succ_self _)),⟨⟨.none,he⟩,hi⟩,fp,q⟩
 | false=>
  obtain⟨its,rv,pl,hz⟩:=I1.tuple hq
  refine ZadD (show s1.heap.IsTuple a its.toArray from pl) fun h' he hi k=>wpAny_pyIter_enum he ?_
  exact⟨s1.heap.objs.size+1,[s1.heap.objs.size+1,s1.heap.objs.size],_,_,H1,rfl,I1.kept (t':=s1.toks) k,ZafE a s1.heap.objs.size _ (Nat.ne_of_gt (Nat.lt_succ_self _)),⟨⟨.none,he⟩,hi⟩,fp,q⟩
end L2
namespace L2
open PySem PySem.Spec PyProof.Rows PySem.SeqAt
section
variable {X:Cx}
theorem ZabN (ns:List Int):∀ k,k<=ns.length->preSum (fun i=>ns.getD i 0) k=(ns.take k).sum
 | 0,_=>by simp[preSum]
 | k+1,h=>by
  have hk:k<ns.length:=by omega
  rw[List.take_succ_eq_append_getElem hk,List.sum_append,<- ZabN ns k (by omega)]
  simp[preSum,List.getD_eq_getElem?_getD,hk]
theorem ZaeW (hc:X.calm=true):CallR X (.builtin "sum") (fun xs H Q=>∃ (a:Addr) (ns:List Int),xs=[.ref a]/\SqL X.K H a (ns.map V.int)/\Q (.int ns.sum) H):=by
 intro pins s σ H xs us Q I r h
 obtain⟨a,ns,rfl,hq,q⟩:=h
 obtain⟨u,rfl,r1⟩:=vals1 r
 cases r1
 obtain⟨its,rv,p,hz⟩:=I.list hq
 refine call_sum_walkG (wpAny_pyIter_list p.isList ?_)
 have hlt:=(let ⟨o,n,e,_⟩:=p; Heap.lt_size e:a<s.heap.objs.size)
 have hne:a≠s.heap.objs.size:=Nat.ne_of_lt hlt
 have hlen:its.toArray.size=ns.length:=by rw[List.size_toArray,<- rv.length,List.length_map]
 refine⟨s.heap.objs.size,_,_,_,_,_,fun i=>ns.getD i 0,rfl,Walks.list (A:=X.A.in1) (I.ok.hd hc) _ a hne its.toArray,⟨⟨_,Heap.get?_push_size _ rfl,rfl,rfl⟩,?_⟩,?_,?_,?_⟩
 ·obtain⟨o,n,e,c,_,d⟩:=p
  exact⟨o,Heap.get?_push_of_some _ e,c,n,d⟩
 ·intro b hb
  rcases List.mem_cons.mp hb with z | z
  ·rw[z,Heap.size_push]; exact Nat.lt_succ_self _
  ·have z:b=a:=by simpa using z
   rw[z,Heap.size_push]
   exact Nat.lt_succ_of_lt hlt
 ·intro i v e
  have hi:i<its.toArray.size:=(Array.getElem?_eq_some_iff.mp e).1
  obtain⟨t,q⟩:=ZaeL rv hi
  rw[Array.getElem?_eq_getElem hi] at e
  have e':=Option.some.inj e
  rw[q] at e'
  exact⟨t,e'.symm⟩
 ·intro h' tk t' k
  refine⟨.int ns.sum,H,I.kept (h':=h') (t':=tk) fun b o e=>k b o ?_ (Heap.get?_push_of_some _ e),⟨t',?_⟩,q⟩
  ·intro hm
   have:b=s.heap.objs.size:=by simpa using hm
   rw[this] at e
   exact absurd (Heap.lt_size e) (Nat.lt_irrefl _)
  ·rw[hlen,ZabN ns _ (Nat.le_refl _),List.take_length]
end
end L2
namespace L2
open PySem PySem.Spec PyProof.Rows PySem.SeqAt
section
variable {X:Cx}
theorem ZadH {ns:List Int}:∀ {us:List Value},IntsAre us ns->Vals (ns.map V.int) us:=by
 intro us h
 induction h with
 | nil=>exact .nil
 | cons=>rename_i ih; exact .cons ⟨_,rfl⟩ ih
end
end L2
namespace L2
open PySem PySem.Spec PyProof.Rows PySem.SeqAt
theorem Inv.pairOut {X : Cx} {pins : List (Addr × Obj)} {σ : St} {H : Hp} {s : Shared} {h' : Heap} {fp : List Addr} {x y : V} {u v : Value} {tk : Nat} (I : Inv X pins σ H s) (hf : ∀ b ∈ fp, FpOk X pins H b)
  (k:∀ b o,b ∉ fp->s.heap.get? b=some o->h'.get? b=some o) (ht:IsPair h' s.heap.objs.size u v) (hlf:∀ b∈fp,b<s.heap.objs.size) (hth:∀ b∈fp,∃ o,h'.get? b=some o) (rx:RelV x u) (ry:RelV y v) :
  Inv X pins σ (upd H s.heap.objs.size (.tup [x,y])) { s with heap:=h',toks:=tk }:=by
 have fresh:H s.heap.objs.size=none:=I.hok.fresh (Nat.le_refl _)
 have nit:∀ b o,H b=some o->b ∉ fp:=fun b o q z=>by rw[(hf b z).1] at q; cases q
 have newOk:ObjOk X.prog X.w (upd H s.heap.objs.size (.tup [x,y])) h' s.heap.objs.size (.tup [x,y]):=by
  refine⟨?_,[u,v],.cons rx (.cons ry .nil),⟨_,ht,rfl,rfl,0,rfl⟩⟩
  show 2<=sizeLine
  decide
 refine I.step (g':=s.gens) (d':=s.drawn) (ch:=fp) (fun b hb=>?_) (fun b o _ _ hc q _=>k b o hc q) (fun b o _ _ hc q _=>⟨o.slots,k b o hc q⟩) (fun b o _ q n=>?_) (fun b o hc q=>⟨o,k b o hc q⟩)
  (fun b xs q=>by rw[Zaaf (Zaad q fresh)]; exact q) (fun b o xs q=>by rw[Zaaf (Zaad q fresh)]; exact q) (fun b ps q=>⟨#[],by rw[Zaaf (Zaad q fresh),q]; simp⟩) (fun m hm=>?_) (fun b ob q=>?_) I.bare
 ·obtain⟨f0,f1,f2,f3,f4,f5⟩:=hf b hb
  exact⟨f3,f1,f4,f5⟩
 ·rw[Zaaf (Nat.ne_of_lt (Heap.lt_size q))]
  exact n
 ·obtain⟨o,es,ep,ho,r⟩:=hm
  exact⟨o,es,ep,k _ o (fun z=>(hf _ z).2.1 rfl) ho,r⟩
 ·by_cases hb:b=s.heap.objs.size
  ·subst hb
   rw[Zaab] at q; cases q
   exact newOk
  ·rw[Zaaf hb] at q
   refine (I.hok b ob q).stay (fun c v hc r=>k c v ?_ r) (fun c r=>by rw[Zaaf (Zaad r fresh)]; exact r) fun c xs r=>by rw[Zaaf (Zaad r fresh)]; exact r
   rcases hc with z | z
   ·rw[z]; exact nit b ob q
   ·exact nit c _ z
theorem Inv.turnedAll {X : Cx} {pins : List (Addr × Obj)} {σ : St} {H : Hp} {s : Shared} {h' : Heap} {fp : List Addr} {tk : Nat} (I : Inv X pins σ H s) (hf : ∀ b ∈ fp, FpOk X pins H b) (k : ∀ b o, b ∉ fp → s.heap.get? b = some o → h'.get? b = some o) :
  Inv X pins σ H { s with heap:=h',toks:=tk }:=by
 have nit:∀ b o,H b=some o->b ∉ fp:=fun b o q z=>by rw[(hf b z).1] at q; cases q
 refine I.step (g':=s.gens) (d':=s.drawn) (ch:=fp) (fun b hb=>?_) (fun b o _ _ hc q _=>k b o hc q) (fun b o _ _ hc q _=>⟨o.slots,k b o hc q⟩) (fun b o _ q n=>n) (fun b o hc q=>⟨o,k b o hc q⟩) (fun _ _ q=>q) (fun _ _ _ q=>q) (fun b ps q=>⟨#[],by rw[q]; simp⟩) (fun m hm=>?_) (fun b ob q=>?_) I.bare
 ·obtain⟨f0,f1,f2,f3,f4,f5⟩:=hf b hb
  exact⟨f3,f1,f4,f5⟩
 ·obtain⟨o,es,ep,ho,r⟩:=hm
  exact⟨o,es,ep,k _ o (fun z=>(hf _ z).2.1 rfl) ho,r⟩
 ·refine (I.hok b ob q).stay (fun c v hc r=>k c v ?_ r) (fun _ q=>q) fun _ _ q=>q
  rcases hc with z | z
  ·rw[z]; exact nit b ob q
  ·exact nit c _ z
end L2
namespace L2
open PySem PySem.Spec PyProof.Rows PySem.SeqAt
section
variable {X:Cx}
theorem Zajw:OpR X (binaryOp .FloorDiv) (rI (fun _ j=>0<j/\Builtin.Int.intBits j<=8000) fun i j=>.int (i / j)):=opI fun i j _ _ _ _ _ hc q=>by
 have h1:(0:Int)<j:=hc.1
 have h2:j.natAbs<2 ^ 8000:=intBits_le_iff.mp hc.2
 refine floordiv_int (by omega) (by rw[Int.fdiv_eq_ediv_of_nonneg i (by omega)]; exact q) (.inl (PyProof.noPylong_of_log2 ?_))
 have h3:j.natAbs.log2<8000:=(Nat.log2_lt (by omega)).mpr h2
 omega
theorem Zahg {ns ms:List Int}:(((List.range (min ns.length ms.length)).all fun i=>ns.getD i 0 == ms.getD i 0) && (ns.length == ms.length))=decide (ns=ms):=by
 by_cases h:ns.length=ms.length
 ·rw[<- h,Nat.min_self,Zaji h]
  simp
 ·rw[decide_eq_false (fun z=>h (by rw[z]))]
  simp[h]
def rNeT (K:PySem.W.Frag):R2:=fun x y H Q=>∃ (a b:Addr) (ns ms:List Int),x=.ref a/\y=.ref b/\SqT K H a (ns.map V.int)/\SqT K H b (ms.map V.int)/\Q (.bl (!decide (ns=ms))) H
theorem Zal6 (hu:X.A.units<cLine):OpR X (compareOp .NotEq) (rNeT X.K):=by
 intro pins s σ H x y v u Q I rx ry h
 obtain⟨a,b,ns,ms,rfl,rfl,ha,hb,q⟩:=h
 cases rx
 cases ry
 obtain⟨its,r1,p1,_⟩:=I.tuple ha
 obtain⟨its2,r2,p2,_⟩:=I.tuple hb
 have l1:its.toArray.size=ns.length:=by rw[List.size_toArray,<- r1.length,List.length_map]
 have l2:its2.toArray.size=ms.length:=by rw[List.size_toArray,<- r2.length,List.length_map]
 refine RcNeAt.tuples (e:=fun i=>ns.getD i 0 == ms.getD i 0) (show s.heap.IsTuple a its.toArray from p1) (show s.heap.IsTuple b its2.toArray from p2) hu (fun j h1 h2=>?_) _ _ _ _ ?_
 ·obtain⟨t1,e1⟩:=ZaeL r1 h1
  obtain⟨t2,e2⟩:=ZaeL r2 h2
  rw[e1,e2]
  exact EqAt.int_int _ _ _ _
 ·rw[l1,l2,Zahg]
  exact⟨.bl _,H,I,rfl,q⟩
theorem Zac4 (hc:X.calm=true):CallR X (.builtin "sum") (fun xs H Q=>∃ (a:Addr) (ns:List Int),xs=[.ref a]/\SqT X.K H a (ns.map V.int)/\Q (.int ns.sum) H):=by
 intro pins s σ H xs us Q I r h
 obtain⟨a,ns,rfl,hq,q⟩:=h
 obtain⟨u,rfl,r1⟩:=vals1 r
 cases r1
 obtain⟨its,rv,p0,hz⟩:=I.tuple hq
 have p:s.heap.IsTuple a its.toArray:=p0
 refine call_sum_walkG (wpAny_pyIter_tuple p ?_)
 have hlt:a<s.heap.objs.size:=by obtain⟨o,e,_⟩:=p; exact Heap.lt_size e
 have hne:a≠s.heap.objs.size:=Nat.ne_of_lt hlt
 have hlen:its.toArray.size=ns.length:=by rw[List.size_toArray,<- rv.length,List.length_map]
 refine⟨s.heap.objs.size,_,_,_,_,_,fun i=>ns.getD i 0,rfl,Walks.tuple (A:=X.A.in1) (I.ok.hd hc) _ a hne its.toArray,⟨⟨_,Heap.get?_push_size _ rfl,rfl,rfl⟩,?_⟩,?_,?_,?_⟩
 ·obtain⟨o,e,c,d⟩:=p
  exact⟨o,Heap.get?_push_of_some _ e,c,d⟩
 ·intro b hb
  rcases List.mem_cons.mp hb with z | z
  ·rw[z,Heap.size_push]; exact Nat.lt_succ_self _
  ·have z:b=a:=by simpa using z
   rw[z,Heap.size_push]
   exact Nat.lt_succ_of_lt hlt
 ·intro i v e
  have hi:i<its.toArray.size:=(Array.getElem?_eq_some_iff.mp e).1
  obtain⟨t,q⟩:=ZaeL rv hi
  rw[Array.getElem?_eq_getElem hi] at e
  have e':=Option.some.inj e
  rw[q] at e'
  exact⟨t,e'.symm⟩
 ·intro h' tk t' k
  refine⟨.int ns.sum,H,I.kept (h':=h') (t':=tk) fun b o e=>k b o ?_ (Heap.get?_push_of_some _ e),⟨t',?_⟩,q⟩
  ·intro hm
   have:b=s.heap.objs.size:=by simpa using hm
   rw[this] at e
   exact absurd (Heap.lt_size e) (Nat.lt_irrefl _)
  ·rw[hlen,ZabN ns _ (Nat.le_refl _),List.take_length]
end
section
variable {prog:Program}{w:World}{A:Around}{E:Value->Shared->Prop}{s:Shared}
end
section
variable {X:Cx}
end
theorem Zac1 {K : PySem.W.Frag} {own : List Str} {js : List Nat} {g : TG} {tt : TT} {te : TE} {σ : St} {H1 : Hp} {Q : VK} {a : Addr} {xs : List V} (Pv : Addr → Nat → Hp → Prop) (h0 : ∀ acc, H1 acc = none → Pv acc 0 (upd H1 acc (.lst []))) (hl : ∀ acc i H, H1 acc = none → i ≤ xs.length → Pv acc i H → SqT K H a xs)
  (hs:∀ acc i x H,H1 acc=none->xs[i]?=some x->Pv acc i H->g x (blkσ own js σ) H fun τ H4=>tt τ H4 fun c H5=>
   if c=true then te τ H5 fun y H6=>∃ ys,H6 acc=some (.lst ys)/\ys.length<sizeLine/\(i+1<=xs.length/\Pv acc (i+1) (upd H6 acc (.lst (ys++[y])))) else (i+1<=xs.length/\Pv acc (i+1) H5))
  (hd:∀ acc H,H1 acc=none->Pv acc xs.length H->Q (.ref acc) H):ZacK own js g tt te σ (Itt K a) H1 Q:=by
 intro acc hacc
 refine⟨fun i H=>i<=xs.length/\Pv acc i H,xs.length,⟨Nat.zero_le _,h0 acc hacc⟩,?_⟩
 rintro i H ⟨hi,p⟩
 have q:=hl acc i H hacc hi p
 by_cases hlt:i<xs.length
 ·refine .inr ⟨hlt,⟨xs,xs[i],q,by simp[hlt]⟩,fun x H' y=>?_⟩
  obtain⟨e,y⟩:=y
  subst e
  exact hs acc i x _ hacc (y xs q) p
 ·have e:i=xs.length:=by omega
  subst e
  exact .inl ⟨⟨xs,q,Nat.le_refl _⟩,hd acc H hacc p⟩
end L2
namespace Lv
open PySem L2
theorem pe_ty {X:Cx}{x:Str}{T:String}{pos:Pos} (hg:Gl X x) (hm:X.mg x=none) (hv:bootBuiltins x=some (.type T)) (hn:x≠"__name__":=by decide) (hd:(x == ("__debug__":Str))=false:=by decide):PE X (.Name x pos) (tC (.ty T)) :=
 ZakW hg hm hv rfl hn hd
theorem Zaa8 {X:Cx}{x:Str}{i:Int}{t:Tok}{pos:Pos} (hg:Gl X x) (hm:X.mg x=some (.int i t)) (hd:(x == ("__debug__":Str))=false:=by decide):PE X (.Name x pos) (tC (.int i)) :=
 Zagd hg hm ⟨t,rfl⟩ hd
structure Txt (mg:Str->Option Value):Prop where
 isinstance:mg "isinstance"=none
 int:mg "int"=none
 bool:mg "bool"=none
 list:mg "list"=none
 tuple:mg "tuple"=none
 min:mg "min"=none
 max:mg "max"=none
 len:mg "len"=none
 range:mg "range"=none
 all:mg "all"=none
 sum:mg "sum"=none
 sorted:mg "sorted"=none
 zip:mg "zip"=none
theorem Zaas:bootBuiltins "isinstance"=some (.builtin "isinstance"):=by decide +kernel
theorem b_int:bootBuiltins "int"=some (.type "int"):=by decide +kernel
theorem Zaka:bootBuiltins "bool"=some (.type "bool"):=by decide +kernel
theorem Zabc:bootBuiltins "tuple"=some (.type "tuple"):=by decide +kernel
theorem b_min:bootBuiltins "min"=some (.builtin "min"):=by decide +kernel
theorem b_max:bootBuiltins "max"=some (.builtin "max"):=by decide +kernel
theorem b_all:bootBuiltins "all"=some (.builtin "all"):=by decide +kernel
theorem b_sum:bootBuiltins "sum"=some (.builtin "sum"):=by decide +kernel
theorem Zaeh:bootBuiltins "sorted"=some (.builtin "sorted"):=by decide +kernel
theorem Zafn {K:PySem.W.Frag}:PySem.W.kitOne K (.type "int") (.type "int")=some true:=by rfl
theorem Zad6 {K:PySem.W.Frag}:PySem.W.kitOne K (.type "int") (.type "bool")=some false:=by with_unfolding_all rfl
theorem Zaa0 {K:PySem.W.Frag}:PySem.W.kitOne K (.type "tuple") (.type "tuple")=some true:=by rfl
structure Cal (P:Program) (w:World) (K:PySem.W.Frag) (mg:Str->Option Value) (base:Heap) (k:Nat) (x:Str) (ps:List Str) (sp:Sp) (f:Addr) (fd:FuncData):Prop where
 ok:FnOk P w K mg base CX0 k f fd ps sp
 mg:mg x=some (.ref f)
 kp:PySem.W.keepIn K (.ref f)=true
 bd:Binds K fd ps []
theorem Zaat {X : Cx} {k : Nat} {x : Str} {ps : List Str} {sp : Sp} {f : Addr} {fd : FuncData} {e : Expr} {es : List Expr} {t : TA} {p pos : Pos} (C : Cal X.prog X.w X.K X.mg X.base k x ps sp f fd) (hr : Room k X.A) (hg : Gl X x) (ha : PA X (e :: es) t)
  (hdb:(x == ("__debug__":Str))=false:=by decide) (he:starEach (e::es) X.env=(false,eval e X.env)::starEach es X.env:=by rfl) (hpl:(backTo pos (starEach es X.env)).any (·.1)=false:=by rfl) :
  PE X (.Call (.Name x p) (e::es) [] pos) (tCall sp [] E0 t):=Zagf C.ok hr hg C.mg C.kp C.bd .nil pass0 ha hdb he hpl
theorem Zalk (K:PySem.W.Frag) {X:Cx} (hK:X.K=K:=by rfl):IxR X (rIxT K):=by subst hK; exact Zabd
theorem Zacy {xs:List Int}{i:Nat}{x:V} (h:(xs.map V.int)[i]?=some x):∃ p,xs[i]?=some p/\x=.int p:=by
 rw[List.getElem?_map] at h
 cases e:xs[i]? with
 | none=>rw[e] at h; cases h
 | some p=>rw[e] at h; exact⟨p,rfl,(Option.some.inj h).symm⟩
theorem _root_.L2.Same.new {q:Addr}{H:Hp}{o:HO} (h:H q=none):Same H (upd H q o):=fun b u e=>by rw[Zaaf (Zaad e h)]; exact e
theorem _root_.L2.Same.put {q:Addr}{H H':Hp}{o:HO} (s:Same H H') (h:H q=none):Same H (upd H' q o):=fun b u e=>by rw[Zaaf (Zaad e h)]; exact s b u e
theorem _root_.L2.Same.tup {K:PySem.W.Frag}{H H':Hp}{a:Addr}{xs:List V} (e:Same H H') (h:SqT K H a xs):SqT K H' a xs:=by
 rcases h with (h | ⟨o,h⟩) | h
 ·exact .inl (.inl (e _ _ h))
 ·exact .inl (.inr ⟨o,e _ _ h⟩)
 ·exact .inr h
theorem Zaml {n:Nat}{x:Int} (h0:0<=x) (h1:x<n):ixN n x=some x.toNat:=by
 unfold ixN
 rw[if_pos h0,if_pos h1]
theorem ZalE {fs:List Int}{x:Int} (h0:0<=x) (h1:x<fs.length):atI (fs.map V.int) x=some (.int (fs.getD x.toNat 0)):=by
 unfold atI
 have hx:x.toNat<fs.length:=by omega
 rw[List.length_map,Zaml h0 h1]
 show (fs.map V.int)[x.toNat]?=_
 rw[List.getElem?_map,List.getElem?_eq_getElem hx,List.getD_eq_getElem?_getD,List.getElem?_eq_getElem hx]
 rfl
theorem Zaej {c0:Int}{cr:List Int}:atI ((c0::cr).map V.int) 0=some (.int c0):=ZabG (j:=0) rfl
theorem cut1 {a R:TS}{D:Ends}{σ:St}{H:Hp} (M:St->Hp->Prop) (h1:∀ R':TS,(∀ σ' H',M σ' H'->R' D σ' H')->tSeq a R' D σ H) (h2:∀ σ' H',M σ' H'->R D σ' H'):tSeq a R D σ H:=h1 R h2
theorem cutG {i:Nat}{x:V}{a R:TS}{D:Ends}{σ:St}{H:Hp} (M:St->Hp->Prop) (h1:∀ R':TS,(∀ σ' H',M σ' H'->R' D σ' H')->gName i x σ H (tSeq a R' D)) (h2:∀ σ' H',M σ' H'->R D σ' H'):gName i x σ H (tSeq a R D):=h1 R h2
def Pool (H:Hp) (p:Addr):Prop:=∃ a b:Int,H p=some (.lst [.int a,.int b])
def Sm (p:Addr) (H H':Hp):Prop:=∀ b o,H b=some o->b≠p->H' b=some o
theorem Sm.trans {p:Addr}{H H1 H2:Hp} (a:Sm p H H1) (b:Sm p H1 H2):Sm p H H2:=fun c o h n=>b c o (a c o h n) n
theorem Sm.refl (p:Addr) (H:Hp):Sm p H H:=fun _ _ h _=>h
theorem Sm.of {p:Addr}{H H':Hp} (h:Same H H'):Sm p H H':=fun b o e _=>h b o e
theorem Sm.put {p:Addr}{H:Hp}{o:HO}:Sm p H (upd H p o):=fun b u e n=>by rw[Zaaf n]; exact e
theorem Sm.after {p:Addr}{H H1 H2:Hp} (s:Same H H1) (m:Sm p H1 H2) (h:H p=none):Same H H2:=fun b o e=>m b o (s b o e) (Zaad e h)
theorem Pool.put {H:Hp}{p q:Addr}{o:HO} (h:Pool H p) (hq:H q=none):Pool (upd H q o) p:=by
 obtain⟨a,b,e⟩:=h
 exact⟨a,b,by rw[Zaaf (Zaad e hq)]; exact e⟩
theorem Pool.ne {H:Hp}{p q:Addr} (h:Pool H p) (hq:H q=none):q≠p:=by
 obtain⟨a,b,e⟩:=h
 exact Ne.symm (Zaad e hq)
theorem Pool.same {H H':Hp}{p:Addr} (h:Pool H p) (s:Same H H'):Pool H' p:=by
 obtain⟨a,b,e⟩:=h
 exact⟨a,b,s p _ e⟩
def Zai5 (K:PySem.W.Frag):Sp:=fun vs H Q _=>∃ (a:Addr) (ns:List Int) (k:Int),vs=[.ref a,.int k]/\SqL K H a (ns.map V.int)/\0<=k/\k<=1000/\∀ p H',H p=none->Pool H' p->Same H H'->Q (.ref p) H'
def Zaha:Sp:=fun vs H Q _=>∃ p m,vs=[.ref p,.int m]/\Pool H p/\0<m/\Builtin.Int.intBits m<=8000/\∀ d H',0<=d->d<m->Pool H' p->Sm p H H'->Q (.int d) H'
def Zacp:Sp:=fun vs H Q _=>∃ i,vs=[.int i]/\Q (.bl true) H
def nextC (c:List Int):List Int:=(c.tail.map (c.getD 0 0+·))++[c.getD 0 0]
def ZacZ (p:Nat):List Int:=1::List.replicate (p - 1) 0
def cnt (p:Nat):Nat->List Int
 | 0=>ZacZ p
 | n+1=>nextC (cnt p n)
theorem ZahD {c:List Int} (h:c≠[]):(nextC c).length=c.length:=by
 cases c with
 | nil=>exact absurd rfl h
 | cons x r=>simp[nextC]
theorem Zadx {p:Nat} (hp:1<=p):∀ n,(cnt p n).length=p
 | 0=>by simp[cnt,ZacZ]; omega
 | n+1=>by
  have:=Zadx hp n
  show (nextC (cnt p n)).length=p
  rw[ZahD (by intro z; rw[z] at this; simp at this; omega),this]
def Down (c:List Int):Prop:=c.Pairwise (· ≥ ·)/\∀ x∈c,0<=x
theorem Zah2 {c:List Int} (h:Down c):Down (nextC c):=by
 cases c with
 | nil=>exact⟨by simp[nextC],by intro x hx; simp[nextC] at hx; omega⟩
 | cons a r=>
  obtain⟨h1,h2⟩:=h
  have h3:=List.pairwise_cons.mp h1
  have h0:0<=a:=h2 a (by simp)
  refine⟨?_,?_⟩
  ·show ((r.map (a+·))++[a]).Pairwise (· ≥ ·)
   rw[List.pairwise_append]
   refine⟨?_,by simp,?_⟩
   ·rw[List.pairwise_map]
    exact h3.2.imp fun h=>by omega
   ·intro x hx y hy
    obtain⟨z,hz,rfl⟩:=List.mem_map.mp hx
    have:=h2 z (by simp[hz])
    have:y=a:=by simpa using hy
    omega
  ·show ∀ x∈(r.map (a+·))++[a],0<=x
   intro x hx
   rcases List.mem_append.mp hx with hx | hx
   ·obtain⟨z,hz,rfl⟩:=List.mem_map.mp hx
    have:=h2 z (by simp[hz])
    omega
   ·have:x=a:=by simpa using hx
    omega
theorem Zaea (p:Nat):∀ n,Down (cnt p n)
 | 0=>by
  refine⟨?_,?_⟩
  ·show (1::List.replicate (p - 1) (0:Int)).Pairwise (· ≥ ·)
   rw[List.pairwise_cons]
   refine⟨fun y hy=>?_,?_⟩
   ·have:=(List.mem_replicate.mp hy).2
    omega
   ·rw[List.pairwise_replicate]
    exact .inr (Int.le_refl _)
  ·intro x hx
   rcases List.mem_cons.mp hx with rfl | hx
   ·decide
   ·have:=(List.mem_replicate.mp hx).2
    omega
 | n+1=>Zah2 (Zaea p n)
def ZafN:Sp:=fun vs H Q _=>∃ i,vs=[.int i]/\2<=i/\i<=7/\Q .non H
def ZafR:Sp:=fun vs H Q _=>∃ p:Nat,vs=[.int p]/\2<=p/\p<=7/\∀ l H',H l=none->H' l=some (.tup ((ZacZ p).map V.int))->Same H H'->Q (.ref l) H'
def Zai6 (K:PySem.W.Frag):Sp:=fun vs H Q _=>∃ (a:Addr) (c:List Int),vs=[.ref a]/\SqT K H a (c.map V.int)/\2<=c.length/\c.length<=7/\∀ l H',H l=none->H' l=some (.tup ((nextC c).map V.int))->Same H H'->Q (.ref l) H'
def ZabM:Sp:=fun vs H Q _=>∃ p n:Nat,vs=[.int p,.int n]/\2<=p/\p<=7/\n<=300/\∀ l H',H l=none->H' l=some (.tup ((cnt p n).map V.int))->Same H H'->Q (.ref l) H'
def Zadf:Sp:=fun vs H Q _=>∃ p n:Nat,vs=[.int p,.int n]/\2<=p/\p<=7/\n<=300/\∀ H',Same H H'->Q (.int (cnt p n).sum) H'
def spLaw (K:PySem.W.Frag):Sp:=fun vs H Q _=>∃ (a:Addr) (ns:List Int),vs=[.ref a]/\SqL K H a (ns.map V.int)/\ns.length<=63/\∀ H',Q (.bl true) H'
end Lv
namespace Lv
open PySem L2
def hd (p n:Nat):Int:=(cnt p n).getD 0 0
def tot (p n:Nat):Int:=(cnt p n).sum
theorem ZagO {p:Nat} (hp:2<=p) (n:Nat):∃ a b r,cnt p n=a::b::r/\r.length=p - 2:=by
 have h:=Zadx (p:=p) (by omega) n
 match hc:cnt p n with
 | []=>rw[hc] at h; simp at h; omega
 | [x]=>rw[hc] at h; simp at h; omega
 | a::b::r=>rw[hc] at h; exact⟨a,b,r,rfl,by simp at h; omega⟩
theorem ZajZ {p:Nat} (hp:2<=p):∀ n,1<=hd p n
 | 0=>by simp[hd,cnt,ZacZ]
 | n+1=>by
  obtain⟨a,b,r,e,_⟩:=ZagO hp n
  have ih:=ZajZ hp n
  have nn:=(Zaea p n).2 b (by rw[e]; simp)
  unfold hd at ih ⊢
  show 1<=(nextC (cnt p n)).getD 0 0
  rw[e] at ih ⊢
  simp[nextC] at ih ⊢
  omega
theorem Zaik (c:Int):∀ r:List Int,(r.map (c+·)).sum=r.length*c+r.sum
 | []=>by simp
 | x::r=>by
  rw[List.map_cons,List.sum_cons,Zaik c r,List.sum_cons,List.length_cons,Int.natCast_succ,Int.add_mul]
  omega
theorem Zai1 (a:Int) (r:List Int):(nextC (a::r)).sum=(a::r).sum+r.length*a:=by
 show ((r.map (a+·))++[a]).sum=_
 rw[List.sum_append,Zaik,List.sum_cons,List.sum_cons,List.sum_nil]
 omega
theorem ZaiY {p:Nat} (hp:2<=p) (n:Nat):tot p (n+1)=tot p n+(p - 1:Nat)*hd p n:=by
 obtain⟨a,b,r,e,hr⟩:=ZagO hp n
 unfold tot hd
 show (nextC (cnt p n)).sum=_
 rw[e,Zai1]
 have:(b::r).length=p - 1:=by simp; omega
 rw[this]
 rfl
theorem ZalL {p:Nat} (hp:2<=p) (n:Nat):tot p n+1<=tot p (n+1):=by
 rw[ZaiY hp]
 have h1:=ZajZ hp n
 have h2:((1:Nat):Int)*1<=((p - 1:Nat):Int)*hd p n:=Int.mul_le_mul (by omega) h1 (by decide) (by omega)
 omega
theorem ZafH {p:Nat} (hp:2<=p) {m n:Nat} (h:m<=n):tot p m<=tot p n:=by
  induction n with
  | zero => have : m = 0 := by omega
            subst this; exact Int.le_refl _
  | succ n ih=>
    by_cases e:m=n+1
    · subst e; exact Int.le_refl _
    · have:=ih (by omega)
      have:=ZalL hp n
      omega
end Lv
namespace L2
open PySem PySem.Spec PyProof.Rows PySem.SeqAt
def HIt (b:Bool) (h:Heap) (it l:Addr) (i:Nat):Prop:=match b with | true=>h.IsListIter it l i | false=>h.IsTupleIter it l i
def HSq (b:Bool) (h:Heap) (l:Addr) (xs:Array Value):Prop:=match b with | true=>h.IsList l xs | false=>h.IsTuple l xs
theorem HIt.at {b:Bool}{h h':Heap}{it l:Addr}{i:Nat} (x:HIt b h it l i) (e:∀ o,h.get? it=some o->h'.get? it=some o):HIt b h' it l i:=by
 cases b
 ·exact Heap.IsTupleIter.at x e
 ·exact Heap.IsListIter.at x e
theorem HIt.ext {b:Bool}{h h':Heap}{it l c:Addr}{i:Nat} (x:HIt b h it l i) (hs:Heap.ExtBut c h h') (n:it≠c):HIt b h' it l i:=x.at fun o e=>hs _ _ n e
theorem HIt.obj {b:Bool}{h:Heap}{it l:Addr}{i:Nat} (x:HIt b h it l i):∃ o,h.get? it=some o/\∀ v:Option Value,o.data≠.cell v:=by
 cases b
 ·obtain⟨o,e,_,d⟩:=x
  exact⟨o,e,fun v q=>by rw[d] at q; cases q⟩
 ·obtain⟨o,e,_,d⟩:=x
  exact⟨o,e,fun v q=>by rw[d] at q; cases q⟩
theorem HSq.ext {b:Bool}{h h':Heap}{l c:Addr}{xs:Array Value} (x:HSq b h l xs) (hs:Heap.ExtBut c h h') (n:l≠c):HSq b h' l xs:=by
 cases b
 ·exact Heap.IsTuple.extBut x hs n
 ·exact Heap.IsList.extBut x hs n
section
variable {prog:Program}{w:World}{A:Around}{E:Value->Shared->Prop}{s:Shared}
theorem nextB {b : Bool} {it l : Addr} {i : Nat} {items : Array Value} {x : Value} {Q : Value → Shared → Prop} (hit : HIt b s.heap it l i) (hl : HSq b s.heap l items) (hx : items[i]? = some x) (hQ : ∀ h', HIt b h' it l (i + 1) → Heap.SameBut it s.heap h' → Q x { s with heap := h' }) :
  wpAny (model prog w) A (Builtin.SmallTypes.nextOf (.ref it)) Q E s:=by
 cases b
 ·exact Zadq hit hl hx hQ
 ·exact wpAny_nextOf_list_item hit hl hx hQ
theorem ZaeF {b : Bool} {it l : Addr} {i : Nat} {items : Array Value} {Q : Value → Shared → Prop} (hh : A.handled = none) (hit : HIt b s.heap it l i) (hl : HSq b s.heap l items) (hx : items[i]? = none)
  (hE:∀ h' e,Heap.ExtBut it s.heap h'->(∃ o,h'.get? e=some o/\o.cls=.type "StopIteration")->E (.ref e) { s with heap:=h' }):wpAny (model prog w) A (Builtin.SmallTypes.nextOf (.ref it)) Q E s:=by
 cases b
 ·exact Zaa6 hh hit hl hx hE
 ·exact wpAny_nextOf_list_end hh hit hl hx hE
theorem Zag0 {b1 b2 : Bool} {z TI TO i1 i2 l1 l2 : Addr} {k1 k2 : Nat} {xs ys : Array Value} {x y a b : Value} {Q : Value → Shared → Prop} (D : ZipApart z TI TO i1 i2 l1 l2) (hz : IsZip s.heap z TI TO .none) (hTI : IsPair s.heap TI (.ref i1) (.ref i2)) (hTO : IsPair s.heap TO a b)
  (h1:HIt b1 s.heap i1 l1 k1) (h2:HIt b2 s.heap i2 l2 k2) (hl1:HSq b1 s.heap l1 xs) (hl2:HSq b2 s.heap l2 ys) (hx:xs[k1]?=some x) (hy:ys[k2]?=some y)
  (hQ:∀ h',IsZip h' z TI TO (rawInt s.heap.objs.size)->IsPair h' TO x y->HIt b1 h' i1 l1 (k1+1)->HIt b2 h' i2 l2 (k2+1)->IsPair h' s.heap.objs.size x y->h'.objs.size=s.heap.objs.size+1 ->
   (∀ c o,c≠z->c≠TO->c≠i1->c≠i2->s.heap.get? c=some o->h'.get? c=some o)->Q (.ref s.heap.objs.size) { s with heap:=h' }) :
  wpAny (model prog w) A (Builtin.«zip.__next__» ⟨[.ref z],[]⟩) (fun fin s'=>∃ v,fin=.done (.ret v)/\Q v s') E s:=by
 refine wpAny_bind (m:=field (.ref z) 2) (wpAny_field hz rfl (x:=.bool false) rfl ?_)
 refine wpAny_bind (m:=field (.ref z) 3) (wpAny_field hz rfl (x:=.ref TI) rfl (wpAny_bind (wpAny_seqItems hTI rfl ?_)))
 refine wpAny_bind (m:=Builtin.SmallTypes.ownedTupleIsFree (.ref z)) ?_
 unfold Builtin.SmallTypes.ownedTupleIsFree
 refine wpAny_bind (wpAny_field hz rfl (x:=.none) rfl (wpAny_pure ?_))
 simp only[if_true]
 refine wpAny_bind (wpAny_rule (wpAny_bind (wpAny_field hz rfl (x:=.ref TO) rfl ?_)))
 refine wpAny_bind (wpAny_setField_rec hz (by simp) fun h₁ hz₁ hs₁=>?_)
 replace hz₁:IsZip h₁ z TI TO .ellipsis:=hz₁
 refine wpAny_bind ?_
 simp only[List.zipIdx_cons,List.zipIdx_nil,List.forIn_cons,List.forIn_nil]
 refine wpAny_bind (wpAny_bind (wpAny_onRaise (wpAny_bind (m:=Builtin.SmallTypes.nextOf (.ref i1)) ?_)))
 refine nextB (h1.ext hs₁.extBut D.i1z) (hl1.ext hs₁.extBut D.l1z) hx fun h₂ h1₂ hs₂=>wpAny_pure ?_
 have t2:IsPair h₂ TO a b:=hs₂.extBut _ _ D.TOi1 (hs₁.extBut _ _ D.TOz hTO)
 refine wpAny_bind (wpAny_seqItems t2 rfl (wpAny_bind (wpAny_updateSeq_pair t2 fun h₃ hTO₃ hs₃=>?_)))
 replace hTO₃:IsPair h₃ TO x b:=hTO₃
 refine wpAny_bind (wpAny_letGo (wpAny_pure (wpAny_bind (wpAny_bind (wpAny_onRaise (wpAny_bind (m:=Builtin.SmallTypes.nextOf (.ref i2)) ?_))))))
 refine nextB (((h2.ext hs₁.extBut D.i2z).ext hs₂.extBut D.i12.symm).ext hs₃.extBut D.TOi2.symm) (((hl2.ext hs₁.extBut D.l2z).ext hs₂.extBut D.l2i1).ext hs₃.extBut D.l2TO) hy fun h₄ h2₄ hs₄=>wpAny_pure ?_
 have t4:IsPair h₄ TO x b:=hs₄.extBut _ _ D.TOi2 hTO₃
 refine wpAny_bind (wpAny_seqItems t4 rfl (wpAny_bind (wpAny_updateSeq_pair t4 fun h₅ hTO₅ hs₅=>?_)))
 replace hTO₅:IsPair h₅ TO x y:=hTO₅
 refine wpAny_bind (wpAny_letGo (wpAny_pure (wpAny_pure (wpAny_bind (wpAny_seqItems hTO₅ rfl (wpAny_bind (wpAny_newTuple ?_)))))))
 have hsz:h₅.objs.size=s.heap.objs.size:=by rw[hs₅.1,hs₄.1,hs₃.1,hs₂.1,hs₁.1]
 have hz₅:IsZip h₅ z TI TO .ellipsis:=hs₅.extBut _ _ D.TOz.symm (hs₄.extBut _ _ D.i2z.symm (hs₃.extBut _ _ D.TOz.symm (hs₂.extBut _ _ D.i1z.symm hz₁)))
 have k5:∀ c o,c≠z->c≠TO->c≠i1->c≠i2->s.heap.get? c=some o->h₅.get? c=some o:=fun c o c1 c2 c3 c4 e=>hs₅.extBut _ _ c2 (hs₄.extBut _ _ c4 (hs₃.extBut _ _ c2 (hs₂.extBut _ _ c3 (hs₁.extBut _ _ c1 e))))
 have j1:HIt b1 h₅ i1 l1 (k1+1):=((h1₂.ext hs₃.extBut D.TOi1.symm).ext hs₄.extBut D.i12).ext hs₅.extBut D.TOi1.symm
 have j2:HIt b2 h₅ i2 l2 (k2+1):=h2₄.ext hs₅.extBut D.TOi2.symm
 have zlt:z<h₅.objs.size:=Heap.lt_size hz₅
 refine wpAny_bind (m:=Builtin.SmallTypes.ownedTupleHandOut (.ref z) (.ref h₅.objs.size)) ?_
 unfold Builtin.SmallTypes.ownedTupleHandOut
 have hz₆:IsZip (h₅.push { cls:=.type "tuple",data:=.seq #[x,y] }) z TI TO .ellipsis:=Heap.get?_push_of_some _ hz₅
 refine wpAny_bind (wpAny_setField_rec hz₆ (by simp) fun h₇ hz₇ hs₇=>?_)
 replace hz₇:IsZip h₇ z TI TO (rawInt h₅.objs.size):=hz₇
 refine wpAny_setField_rec hz₇ (by simp) fun h₈ hz₈ hs₈=>?_
 replace hz₈:IsZip h₈ z TI TO (rawInt h₅.objs.size):=hz₈
 have up:∀ c o,c≠z->h₅.get? c=some o->h₈.get? c=some o:=fun c o c1 e=>hs₈.extBut _ _ c1 (hs₇.extBut _ _ c1 (Heap.get?_push_of_some _ e))
 have t8:IsPair h₈ h₅.objs.size x y:=hs₈.extBut _ _ (Nat.ne_of_gt zlt) (hs₇.extBut _ _ (Nat.ne_of_gt zlt) (Heap.get?_push_size _ rfl))
 have z8:h₈.objs.size=h₅.objs.size+1:=by rw[hs₈.1,hs₇.1,Heap.size_push]
 rw[hsz] at hz₈ t8 z8
 refine wpAny_pure ⟨_,rfl,?_⟩
 show Q (.ref h₅.objs.size) _
 rw[hsz]
 exact hQ h₈ hz₈ (up _ _ D.TOz hTO₅) (j1.at fun o e=>up _ o D.i1z e) (j2.at fun o e=>up _ o D.i2z e) t8 z8 fun c o c1 c2 c3 c4 e=>up c o c1 (k5 c o c1 c2 c3 c4 e)
theorem ZaiV {b1 b2 : Bool} {z TI TO i1 i2 l1 l2 : Addr} {k1 k2 : Nat} {xs ys : Array Value} {a b : Value} {Q : Fin → Shared → Prop} (hh : A.handled = none) (D : ZipApart z TI TO i1 i2 l1 l2) (hz : IsZip s.heap z TI TO .none) (hTI : IsPair s.heap TI (.ref i1) (.ref i2)) (hTO : IsPair s.heap TO a b)
  (h1:HIt b1 s.heap i1 l1 k1) (h2:HIt b2 s.heap i2 l2 k2) (hl1:HSq b1 s.heap l1 xs) (hl2:HSq b2 s.heap l2 ys) (hend:xs[k1]?=none∨ys[k2]?=none)
  (hE:∀ h' e,(∀ c o,c≠z->c≠TO->c≠i1->c≠i2->s.heap.get? c=some o->h'.get? c=some o)->(∃ o,h'.get? e=some o/\o.cls=.type "StopIteration")->E (.ref e) { s with heap:=h' }):wpAny (model prog w) A (Builtin.«zip.__next__» ⟨[.ref z],[]⟩) Q E s:=by
 refine wpAny_bind (m:=field (.ref z) 2) (wpAny_field hz rfl (x:=.bool false) rfl ?_)
 refine wpAny_bind (m:=field (.ref z) 3) (wpAny_field hz rfl (x:=.ref TI) rfl (wpAny_bind (wpAny_seqItems hTI rfl ?_)))
 refine wpAny_bind (m:=Builtin.SmallTypes.ownedTupleIsFree (.ref z)) ?_
 unfold Builtin.SmallTypes.ownedTupleIsFree
 refine wpAny_bind (wpAny_field hz rfl (x:=.none) rfl (wpAny_pure ?_))
 simp only[if_true]
 refine wpAny_bind (wpAny_rule (wpAny_bind (wpAny_field hz rfl (x:=.ref TO) rfl ?_)))
 refine wpAny_bind (wpAny_setField_rec hz (by simp) fun h₁ hz₁ hs₁=>?_)
 replace hz₁:IsZip h₁ z TI TO .ellipsis:=hz₁
 refine wpAny_bind ?_
 simp only[List.zipIdx_cons,List.zipIdx_nil,List.forIn_cons,List.forIn_nil]
 refine wpAny_bind (wpAny_bind (wpAny_onRaise (wpAny_bind (m:=Builtin.SmallTypes.nextOf (.ref i1)) ?_)))
 cases hx:xs[k1]? with
 | none=>
  refine ZaeF hh (h1.ext hs₁.extBut D.i1z) (hl1.ext hs₁.extBut D.l1z) hx fun h₂ e hs₂ ⟨oe,hoe,hce⟩=>?_
  have hz₂:IsZip h₂ z TI TO .ellipsis:=hs₂ _ _ D.i1z.symm hz₁
  have ez:e≠z:=fun x=>by subst x; rw[hz₂] at hoe; cases hoe; simp at hce
  exact wpAny_setField_rec hz₂ (by simp) fun h₃ _ hs₃=>hE h₃ e (fun c o c1 _ c3 _ x=>hs₃.extBut _ _ c1 (hs₂ _ _ c3 (hs₁.extBut _ _ c1 x))) ⟨oe,hs₃.extBut _ _ ez hoe,hce⟩
 | some x=>
  have hy:ys[k2]?=none:=hend.resolve_left (by rw[hx]; simp)
  refine nextB (h1.ext hs₁.extBut D.i1z) (hl1.ext hs₁.extBut D.l1z) hx fun h₂ h1₂ hs₂=>wpAny_pure ?_
  have t2:IsPair h₂ TO a b:=hs₂.extBut _ _ D.TOi1 (hs₁.extBut _ _ D.TOz hTO)
  refine wpAny_bind (wpAny_seqItems t2 rfl (wpAny_bind (wpAny_updateSeq_pair t2 fun h₃ hTO₃ hs₃=>?_)))
  refine wpAny_bind (wpAny_letGo (wpAny_pure (wpAny_bind (wpAny_bind (wpAny_onRaise (wpAny_bind (m:=Builtin.SmallTypes.nextOf (.ref i2)) ?_))))))
  refine ZaeF hh (((h2.ext hs₁.extBut D.i2z).ext hs₂.extBut D.i12.symm).ext hs₃.extBut D.TOi2.symm) (((hl2.ext hs₁.extBut D.l2z).ext hs₂.extBut D.l2i1).ext hs₃.extBut D.l2TO) hy fun h₄ e hs₄ ⟨oe,hoe,hce⟩=>?_
  have hz₄:IsZip h₄ z TI TO .ellipsis:=hs₄ _ _ D.i2z.symm (hs₃.extBut _ _ D.TOz.symm (hs₂.extBut _ _ D.i1z.symm hz₁))
  have ez:e≠z:=fun x=>by subst x; rw[hz₄] at hoe; cases hoe; simp at hce
  exact wpAny_setField_rec hz₄ (by simp) fun h₅ _ hs₅=>hE h₅ e (fun c o c1 c2 c3 c4 x=>hs₅.extBut _ _ c1 (hs₄ _ _ c4 (hs₃.extBut _ _ c2 (hs₂.extBut _ _ c3 (hs₁.extBut _ _ c1 x))))) ⟨oe,hs₅.extBut _ _ ez hoe,hce⟩
theorem ZadW {b1 b2 : Bool} {z TI TO i1 i2 l1 l2 : Addr} {k1 k2 : Nat} {xs ys : Array Value} {x y a b : Value} {Q : Option Value → Shared → Prop} (D : ZipApart z TI TO i1 i2 l1 l2) (hz : IsZip s.heap z TI TO .none) (hTI : IsPair s.heap TI (.ref i1) (.ref i2)) (hTO : IsPair s.heap TO a b)
  (h1:HIt b1 s.heap i1 l1 k1) (h2:HIt b2 s.heap i2 l2 k2) (hl1:HSq b1 s.heap l1 xs) (hl2:HSq b2 s.heap l2 ys) (hx:xs[k1]?=some x) (hy:ys[k2]?=some y)
  (hQ:∀ h',IsZip h' z TI TO (rawInt s.heap.objs.size)->IsPair h' TO x y->HIt b1 h' i1 l1 (k1+1)->HIt b2 h' i2 l2 (k2+1)->IsPair h' s.heap.objs.size x y->h'.objs.size=s.heap.objs.size+1 ->
   (∀ c o,c≠z->c≠TO->c≠i1->c≠i2->s.heap.get? c=some o->h'.get? c=some o)->Q (some (.ref s.heap.objs.size)) { s with heap:=h' }):wpAny (model prog w) A (pyNext (.ref z)) Q E s:=by
 have hT:s.TypeIs (.ref z) "zip":=⟨_,hz,rfl⟩
 unfold pyNext
 exact wpAny_bind (wpAny_attempt (wpAny_callSpecial?_slot (name:=Str.ofString "__next__") hT F.slot_zip_next (wpAny_call_entry F.slot_zip_next hT F.entry_zip_next (Zag0 D hz hTI hTO h1 h2 hl1 hl2 hx hy fun h' a1 a2 a3 a4 a5 a6 a7=>wpAny_pure (hQ h' a1 a2 a3 a4 a5 a6 a7)) (F.args_zip_next_1 _))))
theorem Zafh {b1 b2 : Bool} {z TI TO i1 i2 l1 l2 : Addr} {k1 k2 : Nat} {xs ys : Array Value} {a b : Value} {Q : Option Value → Shared → Prop} (hh : A.handled = none) (D : ZipApart z TI TO i1 i2 l1 l2) (hz : IsZip s.heap z TI TO .none) (hTI : IsPair s.heap TI (.ref i1) (.ref i2)) (hTO : IsPair s.heap TO a b)
  (h1:HIt b1 s.heap i1 l1 k1) (h2:HIt b2 s.heap i2 l2 k2) (hl1:HSq b1 s.heap l1 xs) (hl2:HSq b2 s.heap l2 ys) (hend:xs[k1]?=none∨ys[k2]?=none)
  (hQ:∀ h',(∀ c o,c≠z->c≠TO->c≠i1->c≠i2->s.heap.get? c=some o->h'.get? c=some o)->Q none { s with heap:=h' }):wpAny (model prog w) A (pyNext (.ref z)) Q E s:=by
 have hT:s.TypeIs (.ref z) "zip":=⟨_,hz,rfl⟩
 unfold pyNext
 refine wpAny_bind (wpAny_attempt (wpAny_callSpecial?_slot (name:=Str.ofString "__next__") hT F.slot_zip_next (wpAny_call_entry F.slot_zip_next hT F.entry_zip_next (ZaiV hh D hz hTI hTO h1 h2 hl1 hl2 hend fun h' e hk ⟨o,ho,hc⟩=>?_) (F.args_zip_next_1 _))))
 exact wpAny_bind (wpAny_isInstance (T:="StopIteration") (b:=true) ⟨o,ho,hc⟩ isSubtype_stop (wpAny_pure (hQ _ hk)))
def itCls (b:Bool):String:=match b with | true=>"list_iterator" | false=>"tuple_iterator"
def zB1 (b1:Bool) (h:Heap) (l1:Addr):Heap:=h.push { cls:=.type (itCls b1),data:=.fields #[.ref l1,.int 0 0] }
def zB2 (b1 b2:Bool) (h:Heap) (l1 l2:Addr):Heap:=(zB1 b1 h l1).push { cls:=.type (itCls b2),data:=.fields #[.ref l2,.int 0 0] }
def zB3 (b1 b2:Bool) (h:Heap) (l1 l2:Addr):Heap:=(zB2 b1 b2 h l1 l2).push { cls:=.type "tuple",data:=.seq #[.ref h.objs.size,.ref (zB1 b1 h l1).objs.size] }
def zB4 (b1 b2:Bool) (h:Heap) (l1 l2:Addr):Heap:=(zB3 b1 b2 h l1 l2).push { cls:=.type "tuple",data:=.seq #[.none,.none] }
def zB5 (b1 b2:Bool) (h:Heap) (l1 l2:Addr):Heap:=(zB4 b1 b2 h l1 l2).push { cls:=.type "zip",data:=.fields #[.none,.bool false,.bool false,.ref (zB2 b1 b2 h l1 l2).objs.size,.ref (zB3 b1 b2 h l1 l2).objs.size] }
theorem ZaiU (b1 b2 : Bool) (l1 l2 : Addr) (xs ys : Array Value) :
  Meets (Builtin.«zip.__new__» ⟨[.type "zip",.ref l1,.ref l2],[]⟩) (fun _ R s=>HSq b1 s.heap l1 xs/\HSq b2 s.heap l2 ys/\R (.ok (.ret (.ref (zB4 b1 b2 s.heap l1 l2).objs.size))) { s with heap:=zB5 b1 b2 s.heap l1 l2 }) :=
 .of_wp fun prog w A R s h=>by
  obtain⟨hp,g,d,tk,os⟩:=s
  obtain⟨hl1,hl2,h⟩:=h
  have hsub:=sub_zip
  cases b1 <;> cases b2
  ·have p1:Heap.IsTuple (Shared.heap ⟨hp,g,d,tk,os⟩) l1 xs:=hl1
   have p2:Heap.IsTuple (Shared.heap ⟨hp.push { cls:=.type "tuple_iterator",data:=.fields #[.ref l1,.int 0 0] },g,d,tk,os⟩) l2 ys:=Heap.IsTuple.push hl2 _
   wp_walk using wpAny_pyIter_tuple p1,wpAny_pyIter_tuple p2
   exact⟨_,rfl,h⟩
  ·have p1:Heap.IsTuple (Shared.heap ⟨hp,g,d,tk,os⟩) l1 xs:=hl1
   have p2:Heap.IsList (Shared.heap ⟨hp.push { cls:=.type "tuple_iterator",data:=.fields #[.ref l1,.int 0 0] },g,d,tk,os⟩) l2 ys:=Heap.IsList.push hl2 _
   wp_walk using wpAny_pyIter_tuple p1,wpAny_pyIter_list p2
   exact⟨_,rfl,h⟩
  ·have p1:Heap.IsList (Shared.heap ⟨hp,g,d,tk,os⟩) l1 xs:=hl1
   have p2:Heap.IsTuple (Shared.heap ⟨hp.push { cls:=.type "list_iterator",data:=.fields #[.ref l1,.int 0 0] },g,d,tk,os⟩) l2 ys:=Heap.IsTuple.push hl2 _
   wp_walk using wpAny_pyIter_list p1,wpAny_pyIter_tuple p2
   exact⟨_,rfl,h⟩
  ·have p1:Heap.IsList (Shared.heap ⟨hp,g,d,tk,os⟩) l1 xs:=hl1
   have p2:Heap.IsList (Shared.heap ⟨hp.push { cls:=.type "list_iterator",data:=.fields #[.ref l1,.int 0 0] },g,d,tk,os⟩) l2 ys:=Heap.IsList.push hl2 _
   wp_walk using wpAny_pyIter_list p1,wpAny_pyIter_list p2
   exact⟨_,rfl,h⟩
theorem HIt.made {b:Bool}{h:Heap}{it l:Addr} (e:h.get? it=some { cls:=.type (itCls b),data:=.fields #[.ref l,.int 0 0] }):HIt b h it l 0:=by
 cases b
 ·exact⟨_,e,rfl,rfl⟩
 ·exact⟨_,e,rfl,rfl⟩
theorem Zaic {b1 b2 : Bool} {l1 l2 : Addr} {xs ys : Array Value} {Q : Value → Shared → Prop} (hl1 : HSq b1 s.heap l1 xs) (hl2 : HSq b2 s.heap l2 ys)
  (h:∀ h',IsZip h' (s.heap.objs.size+4) (s.heap.objs.size+2) (s.heap.objs.size+3) .none->IsPair h' (s.heap.objs.size+2) (.ref s.heap.objs.size) (.ref (s.heap.objs.size+1))->IsPair h' (s.heap.objs.size+3) .none .none ->
   HIt b1 h' s.heap.objs.size l1 0->HIt b2 h' (s.heap.objs.size+1) l2 0->(∀ c o,s.heap.get? c=some o->h'.get? c=some o)->Q (.ref (s.heap.objs.size+4)) { s with heap:=h' }):wpAny (model prog w) A (call (.type "zip") [.ref l1,.ref l2]) Q E s:=by
 refine callType_new F.called_zip (by decide) (F.typeCall_zip_2 _ _) (F.newCall_zip_2 _ _) (fun obj=>F.args_object_init_3 obj _ _) F.entry_zip_new (ZaiU b1 b2 l1 l2 xs ys) ⟨hl1,hl2,?_⟩
 have z1:(zB1 b1 s.heap l1).objs.size=s.heap.objs.size+1:=Heap.size_push ..
 have z2:(zB2 b1 b2 s.heap l1 l2).objs.size=s.heap.objs.size+2:=by unfold zB2; rw[Heap.size_push,z1]
 have z3:(zB3 b1 b2 s.heap l1 l2).objs.size=s.heap.objs.size+3:=by unfold zB3; rw[Heap.size_push,z2]
 have z4:(zB4 b1 b2 s.heap l1 l2).objs.size=s.heap.objs.size+4:=by unfold zB4; rw[Heap.size_push,z3]
 have g5:(zB5 b1 b2 s.heap l1 l2).get? (zB4 b1 b2 s.heap l1 l2).objs.size=some _:=Heap.get?_push_size _ rfl
 have g4:(zB5 b1 b2 s.heap l1 l2).get? (zB3 b1 b2 s.heap l1 l2).objs.size=some _:=Heap.get?_push_of_some _ (Heap.get?_push_size _ rfl)
 have g3:(zB5 b1 b2 s.heap l1 l2).get? (zB2 b1 b2 s.heap l1 l2).objs.size=some _:=Heap.get?_push_of_some _ (Heap.get?_push_of_some _ (Heap.get?_push_size _ rfl))
 have g2:(zB5 b1 b2 s.heap l1 l2).get? (zB1 b1 s.heap l1).objs.size=some _:=Heap.get?_push_of_some _ (Heap.get?_push_of_some _ (Heap.get?_push_of_some _ (Heap.get?_push_size _ rfl)))
 have g1:(zB5 b1 b2 s.heap l1 l2).get? s.heap.objs.size=some _:=Heap.get?_push_of_some _ (Heap.get?_push_of_some _ (Heap.get?_push_of_some _ (Heap.get?_push_of_some _ (Heap.get?_push_size _ rfl))))
 show _/\_
 rw[z2,z3,z4] at g5
 rw[z1,z2] at g3
 rw[z3] at g4
 rw[z1] at g2
 rw[z4]
 exact⟨⟨_,g5,rfl⟩,h _ g5 g3 g4 (HIt.made g1) (HIt.made g2) fun c o x=>Heap.get?_push_of_some _ (Heap.get?_push_of_some _ (Heap.get?_push_of_some _ (Heap.get?_push_of_some _ (Heap.get?_push_of_some _ x))))⟩
end
theorem SqB.heap {X:Cx}{b:Bool}{pins:List (Addr × Obj)}{σ:St}{H:Hp}{s:Shared}{a:Addr}{xs:List V} (I:Inv X pins σ H s) (h:SqB b X.K H a xs):∃ its:List Value,Vals xs its/\HSq b s.heap a its.toArray:=by
 cases b
 ·obtain⟨its,r,p,_⟩:=I.tuple h
  exact⟨its,r,p⟩
 ·obtain⟨its,r,p,_⟩:=I.list h
  exact⟨its,r,p.isList⟩
theorem HSq.lt {b:Bool}{h:Heap}{l:Addr}{xs:Array Value} (x:HSq b h l xs):l<h.objs.size:=by
 cases b
 ·obtain⟨o,e,_⟩:=x
  exact Heap.lt_size e
 ·obtain⟨o,e,_⟩:=x
  exact Heap.lt_size e
theorem SqB.inj {X:Cx}{b:Bool}{pins:List (Addr × Obj)}{σ:St}{H:Hp}{s:Shared}{a:Addr}{xs ys:List V} (I:Inv X pins σ H s) (h:SqB b X.K H a xs) (g:SqB b X.K H a ys):xs=ys:=by
 cases b
 ·exact I.tuple_inj h g
 ·exact I.list_inj h g
def ItzB (b1 b2:Bool) (K:PySem.W.Frag) (a b:Addr):It :=
  ⟨fun i H=>∃ xs ys x y,SqB b1 K H a xs/\SqB b2 K H b ys/\xs[i]?=some x/\ys[i]?=some y,
   fun i H z H'=>∃ p x y,H p=none/\z=.ref p/\H'=upd H p (.tup [x,y])/\(∀ xs,SqB b1 K H a xs->xs[i]?=some x)/\∀ ys,SqB b2 K H b ys->ys[i]?=some y,
   fun i H=>∃ xs ys,SqB b1 K H a xs/\SqB b2 K H b ys/\(xs.length<=i∨ys.length<=i)⟩
end L2
namespace L2
open PySem PySem.Spec PyProof.Rows PySem.SeqAt
def Zakc (b1 b2:Bool) (z TI TO i1 i2 l1 l2:Addr) (i:Nat) (h:Heap):Prop:=IsZip h z TI TO .none/\IsPair h TI (.ref i1) (.ref i2)/\(∃ a b,IsPair h TO a b)/\HIt b1 h i1 l1 i/\HIt b2 h i2 l2 i
theorem Zag2 {P:Program}{w:World}{K:PySem.W.Frag}{es:List Expr}{x1}{pos:Pos}{b1 b2:Bool}{z TI TO i1 i2 l1 l2:Addr} (D:ZipApart z TI TO i1 i2 l1 l2):Turn P w K (.Tuple es x1 pos) (ItzB b1 b2 K l1 l2) [z,TI,TO,i1,i2] z (Zakc b1 b2 z TI TO i1 i2 l1 l2) where
 mem:=by simp
 obj:=fun i h st b hb=>by
  obtain⟨h1,h2,⟨a,c,h3⟩,h4,h5⟩:=st
  simp only[List.mem_cons,List.not_mem_nil,or_false] at hb
  rcases hb with rfl | rfl | rfl | rfl | rfl
  ·exact⟨_,h1,fun v q=>nomatch q⟩
  ·exact⟨_,h2,fun v q=>nomatch q⟩
  ·exact⟨_,h3,fun v q=>nomatch q⟩
  ·exact h4.obj
  ·exact h5.obj
 keep:=fun i h h' st k=>by
  obtain⟨h1,h2,⟨a,c,h3⟩,h4,h5⟩:=st
  exact⟨k z (by simp) _ h1,k TI (by simp) _ h2,⟨a,c,k TO (by simp) _ h3⟩,h4.at fun o q=>k i1 (by simp) o q,h5.at fun o q=>k i2 (by simp) o q⟩
 item:=by
  intro X hP hw hK hc i pins s σ H E I hf st hg
  subst hP hw hK
  obtain⟨xs,ys,x,y,hq1,hq2,hx,hy⟩:=hg
  obtain⟨its,rv,p⟩:=hq1.heap I
  obtain⟨its2,rv2,p2⟩:=hq2.heap I
  obtain⟨u,hu,ru⟩:=rv.get hx
  obtain⟨u2,hu2,ru2⟩:=rv2.get hy
  obtain⟨s1,s2,⟨a,c,s3⟩,s4,s5⟩:=id st
  refine ZadW D s1 s2 s3 s4 s5 p p2 (x:=u) (y:=u2) (by simpa using hu) (by simpa using hu2) fun h' g1 g2 g3 g4 g5 g6 hk=>?_
  refine⟨_,rfl,?_⟩
  refine wpAny_letOwnedTupleGo_zip g1 fun h'' he hs=>?_
  have live:∀ b∈[z,TI,TO,i1,i2],b<s.heap.objs.size:=fun b hb=>by
   obtain⟨h1,h2,⟨a,c,h3⟩,h4,h5⟩:=st
   obtain⟨o4,e4,_⟩:=h4.obj
   obtain⟨o5,e5,_⟩:=h5.obj
   simp only[List.mem_cons,List.not_mem_nil,or_false] at hb
   rcases hb with rfl | rfl | rfl | rfl | rfl
   ·exact Heap.lt_size h1
   ·exact Heap.lt_size h2
   ·exact Heap.lt_size h3
   ·exact Heap.lt_size e4
   ·exact Heap.lt_size e5
  have hsz:s.heap.objs.size≠z:=Nat.ne_of_gt (live z (by simp))
  have k:∀ b o,b ∉ [z,TI,TO,i1,i2]->s.heap.get? b=some o->h''.get? b=some o:=fun b o hb q=>by
   simp only[List.mem_cons,List.not_mem_nil,or_false,not_or] at hb
   exact (hs.2 b hb.1).trans (hk b o hb.1 hb.2.2.1 hb.2.2.2.1 hb.2.2.2.2 q)
  have st':Zakc b1 b2 z TI TO i1 i2 l1 l2 (i+1) h'':=by
   refine⟨he,(hs.2 TI D.TIz).trans (hk TI _ D.TIz D.TITO D.TIi1 D.TIi2 s2),⟨u,u2,(hs.2 TO D.TOz).trans g2⟩,?_,?_⟩
   ·exact g3.ext hs.extBut D.i1z
   ·exact g4.ext hs.extBut D.i2z
  have th:∀ b∈[z,TI,TO,i1,i2],∃ o,h''.get? b=some o:=fun b hb=>by
   obtain⟨h1,h2,⟨a,c,h3⟩,h4,h5⟩:=st'
   obtain⟨o4,e4,_⟩:=h4.obj
   obtain⟨o5,e5,_⟩:=h5.obj
   simp only[List.mem_cons,List.not_mem_nil,or_false] at hb
   rcases hb with rfl | rfl | rfl | rfl | rfl
   ·exact⟨_,h1⟩
   ·exact⟨_,h2⟩
   ·exact⟨_,h3⟩
   ·exact⟨_,e4⟩
   ·exact⟨_,e5⟩
  have fresh:H s.heap.objs.size=none:=I.hok.fresh (Nat.le_refl _)
  refine⟨.ref s.heap.objs.size,_,I.pairOut (fp:=[z,TI,TO,i1,i2]) (tk:=s.toks) hf k ((hs.2 _ hsz).trans g5) live th ru ru2,rfl,⟨s.heap.objs.size,x,y,fresh,rfl,rfl,fun ys hy=>by rw[hy.inj I hq1]; exact hx,fun zs hz=>by rw[hz.inj I hq2]; exact hy⟩,st',fun b hb=>?_⟩
  rw[Zaaf (Nat.ne_of_lt (live b hb))]
  exact (hf b hb).1
 done:=by
  intro X hP hw hK hc i pins s σ H E I hf st hg
  subst hP hw hK
  obtain⟨xs,ys,hq1,hq2,hx⟩:=hg
  obtain⟨its,rv,p⟩:=hq1.heap I
  obtain⟨its2,rv2,p2⟩:=hq2.heap I
  obtain⟨s1,s2,⟨a,c,s3⟩,s4,s5⟩:=st
  have e1:=rv.length
  have e2:=rv2.length
  refine Zafh (I.ok.hd hc) D s1 s2 s3 s4 s5 p p2 (by rcases hx with q | q; exact .inl (by simp; omega); exact .inr (by simp; omega)) fun h' hk=>⟨rfl,I.turnedAll (fp:=[z,TI,TO,i1,i2]) (tk:=s.toks) hf fun b o hb q=>?_⟩
  simp only[List.mem_cons,List.not_mem_nil,or_false,not_or] at hb
  exact hk b o hb.1 hb.2.2.1 hb.2.2.2.1 hb.2.2.2.2 q
 self:=fun _ _ _ _ _ st h=>wpAny_pyIter_zip st.1 h
def iZipB (K:PySem.W.Frag) (ta:TA):TI:=fun σ H R=>ta σ H fun vs H1=>∃ b1 b2 a b,vs=[.ref a,.ref b]/\(∃ xs,SqB b1 K H1 a xs)/\(∃ ys,SqB b2 K H1 b ys)/\R (ItzB b1 b2 K a b) H1
theorem Zais {X : Cx} {es : List Expr} {x1} {tpos : Pos} {e f : Expr} {ta : TA} {p pos : Pos} (hg : Gl X "zip") (hm : X.mg "zip" = none) (ha : PA X [e, f] ta) (hs : starEach [e, f] X.env = [(false, eval e X.env), (false, eval f X.env)] := by rfl) (hs2 : starEach [f] X.env = [(false, eval f X.env)] := by rfl) :
  PI X (.Tuple es x1 tpos) (.Call (.Name "zip" p) [e,f] [] pos) (iZipB X.K ta):=by
 intro pins s σ H R I h
 refine Call_ (Zad5 I hg hm (show bootBuiltins "zip"=some (.type "zip") by decide +kernel) (PyProof.Rows.callWith_type1 (thn (ha pos pins s σ H _ I h) fun us s1 ⟨vs,H1,I1,r1,q1⟩=>?_) (by rw[hs,hs2]) (by rw[hs2]; rfl)))
 obtain⟨b1,b2,a,b,e1,⟨xs,hq⟩,⟨ys,hq2⟩,q⟩:=q1
 subst e1
 obtain⟨u,u2,rfl,r,r2⟩:=vals2 r1
 cases r
 cases r2
 obtain⟨its,rv,pl⟩:=hq.heap I1
 obtain⟨its2,rv2,pl2⟩:=hq2.heap I1
 have la:=pl.lt
 have lb:=pl2.lt
 have ne:∀ {i j:Nat},i≠j->s1.heap.objs.size+i≠s1.heap.objs.size+j:=fun h z=>h (Nat.add_left_cancel z)
 have nl:∀ {c:Addr} (i:Nat),c<s1.heap.objs.size->c≠s1.heap.objs.size+i:=fun i h=>Nat.ne_of_lt (Nat.lt_of_lt_of_le h (Nat.le_add_right _ _))
 refine Zaic pl pl2 fun h' g1 g2 g3 g4 g5 k=>wpAny_pyIter_zip g1 ?_
 have D:ZipApart (s1.heap.objs.size+4) (s1.heap.objs.size+2) (s1.heap.objs.size+3) (s1.heap.objs.size+0) (s1.heap.objs.size+1) a b :=
  ⟨ne (by decide),ne (by decide),ne (by decide),ne (by decide),ne (by decide),ne (by decide),ne (by decide),ne (by decide),ne (by decide),ne (by decide),nl 4 la,nl 3 la,nl 0 la,nl 1 la,nl 4 lb,nl 3 lb,nl 0 lb,nl 1 lb⟩
 refine⟨s1.heap.objs.size+4,[s1.heap.objs.size+4,s1.heap.objs.size+2,s1.heap.objs.size+3,s1.heap.objs.size+0,s1.heap.objs.size+1],_,_,H1,rfl,I1.kept (t':=s1.toks) k,Zag2 D,⟨g1,g2,⟨_,_,g3⟩,g4,g5⟩,fun c hc=>?_,q⟩
 have ge:s1.heap.objs.size<=c:=by
  simp only[List.mem_cons,List.not_mem_nil,or_false] at hc
  rcases hc with rfl | rfl | rfl | rfl | rfl <;> exact Nat.le_add_right _ _
 exact I1.fpOk ge (I1.hok.fresh ge)
theorem Zaj5 {b1 b2 : Bool} {K : PySem.W.Frag} {own : List Str} {js : List Nat} {g : TG} {tt : TT} {te : TE} {σ : St} {H1 : Hp} {Q : VK} {a b : Addr} {xs ys : List V} (hlen : xs.length ≤ ys.length) (Pv : Addr → Nat → Hp → Prop) (h0 : ∀ acc, H1 acc = none → Pv acc 0 (upd H1 acc (.lst [])))
  (hl:∀ acc i H,H1 acc=none->i<=xs.length->Pv acc i H->SqB b1 K H a xs/\SqB b2 K H b ys)
  (hs:∀ acc i x y p H,H1 acc=none->xs[i]?=some x->ys[i]?=some y->Pv acc i H->H p=none->g (.ref p) (blkσ own js σ) (upd H p (.tup [x,y])) fun τ H4=>tt τ H4 fun c H5=>
   if c=true then te τ H5 fun y H6=>∃ ys,H6 acc=some (.lst ys)/\ys.length<sizeLine/\(i+1<=xs.length/\Pv acc (i+1) (upd H6 acc (.lst (ys++[y])))) else (i+1<=xs.length/\Pv acc (i+1) H5))
  (hd:∀ acc H,H1 acc=none->Pv acc xs.length H->Q (.ref acc) H):ZacK own js g tt te σ (ItzB b1 b2 K a b) H1 Q:=by
 intro acc hacc
 refine⟨fun i H=>i<=xs.length/\Pv acc i H,xs.length,⟨Nat.zero_le _,h0 acc hacc⟩,?_⟩
 rintro i H ⟨hi,p⟩
 obtain⟨q1,q2⟩:=hl acc i H hacc hi p
 by_cases hlt:i<xs.length
 ·have hl2:i<ys.length:=by omega
  refine .inr ⟨hlt,⟨xs,ys,xs[i],ys[i],q1,q2,by simp[hlt],by simp[hl2]⟩,fun x H' y=>?_⟩
  obtain⟨pa,z1,z2,hp,e1,e2,y1,y2⟩:=y
  subst e1 e2
  exact hs acc i z1 z2 pa H hacc (y1 xs q1) (y2 ys q2) p hp
 ·have e:i=xs.length:=by omega
  subst e
  exact .inl ⟨⟨xs,ys,q1,q2,.inl (Nat.le_refl _)⟩,hd acc H hacc p⟩
end L2
namespace Lv
open PySem L2
theorem ZaeC (K:PySem.W.Frag) {X:Cx}{es:List Expr}{k:Nat}{t:TGs}{n:Nat}{pos:Pos} (hc:X.calm=true) (h:PGs X es t) (hK:X.K=K:=by rfl) (hn:(assignEach es X.env).length=n:=by rfl) (hst:(assignEach es X.env).findIdx? (·.1)=none:=by rfl):PG X (.Tuple es k pos) (gTup K n t):=by
 subst hK; exact ZadZ hc h hn hst
end Lv
namespace L2
open PySem PySem.Spec PyProof.Rows PySem.SeqAt
theorem ZacV:fillsNumberSlot (.type "tuple") "mul"=pure false :=
 PySem.fillsNumberSlot_seq (id:="tuple.__mul__") (r:=some (.builtin "tuple.__rmul__")) F.slot_tuple_mul.lookup (by decide +kernel) F.slot_tuple_rmul.lookup (by decide +kernel)
theorem ZakD:seqRepeat? (.type "tuple")=pure (some (.builtin "tuple.__mul__")):=by
 unfold seqRepeat?
 rw[PySem.seqSlot_of (T:="tuple") (name:="__mul__") (id:="tuple.__mul__") F.slot_tuple_mul.lookup (by decide +kernel),PySem.seqSlot_of (T:="tuple") (name:="__rmul__") (id:="tuple.__rmul__") F.slot_tuple_rmul.lookup (by decide +kernel)]
 rfl
theorem ZadV (a : Int) (t : Tok) (l : Addr) (items : Array Value) (n : Nat) (dct : Option Addr) (sl : Array (Option Value)) :
  Meets (Builtin.«int.__rmul__» ⟨[.int a t,.ref l],[]⟩) (fun _ R s=>s.heap.get? l=some { cls:=.type "tuple",dict:=dct,data:=.seq items n,slots:=sl }/\R (.ok (.ret Value.notImplemented)) s) :=
 .of_wp fun prog w A R s h=>by
  obtain⟨hp,g,d,tk,os⟩:=s
  obtain⟨hl,h⟩:=h
  wp_walk
  exact⟨_,rfl,h⟩
theorem ZajO (l : Addr) (items : Array Value) (n : Nat) (dct : Option Addr) (sl : Array (Option Value)) (u : Tok) :
  Meets (Builtin.«tuple.__mul__» ⟨[.ref l,.int 1 u],[]⟩) (fun _ R s=>s.heap.get? l=some { cls:=.type "tuple",dict:=dct,data:=.seq items n,slots:=sl }/\R (.ok (.ret (.ref l))) s) :=
 .of_wp fun prog w A R s h=>by
  obtain⟨hp,g,d,tk,os⟩:=s
  obtain⟨hl,h⟩:=h
  unfold Builtin.«tuple.__mul__»
  wp_walk
  exact⟨_,rfl,h⟩
theorem ZajN (l : Addr) (items : Array Value) (n : Nat) (dct : Option Addr) (sl : Array (Option Value)) (k : Int) (u : Tok) (h0 : ¬ (decide (k < -(2 ^ 63)) || decide (k ≥ 2 ^ 63)) = true) (h1 : ¬ (items.isEmpty || k == 1) = true) (h2 : ¬ (decide (k ≤ 0) || items.isEmpty) = true) (h3 : ¬ items.size * k > (2 ^ 63 - 1) / 8) (h4 : ¬ Builtin.Tuple.tupleTooMany (items.size * k) = true) (h5 : ¬ (List.foldl (fun x1 x2 => x1 ++ x2) #[] (List.replicate k.toNat items)).size > sizeLine) :
  Meets (Builtin.«tuple.__mul__» ⟨[.ref l,.int k u],[]⟩) (fun _ R s=>s.heap.get? l=some { cls:=.type "tuple",dict:=dct,data:=.seq items n,slots:=sl } /\
   R (.ok (.ret (.ref s.heap.objs.size))) { s with heap:=s.heap.push { cls:=.type "tuple",data:=.seq ((List.replicate k.toNat items).foldl (fun x1 x2=>x1++x2) #[]) } }) :=
 .of_wp fun prog w A R s h=>by
  obtain⟨hp,g,d,tk,os⟩:=s
  obtain⟨hl,h⟩:=h
  unfold Builtin.«tuple.__mul__»
  wp_walk
  rw[if_neg h0]
  wp_walk
  rw[if_neg h3]
  wp_walk
  exact⟨_,rfl,h⟩
theorem Zajx (K:PySem.W.Frag) {X:Cx} (hK:X.K=K:=by rfl):OpR X (binaryOp .Add) (rCatT K):=by subst hK; exact Zaiw
theorem Zaef (K:PySem.W.Frag) {X:Cx} (hK:X.K=K:=by rfl):CallR X (.builtin "isinstance") (fun xs H Q=>∃ x T t b,xs=[x,.ty T]/\TyOf K H x t/\PySem.W.kitOne K t (.type T)=some b/\Q (.bl b) H):=by subst hK; exact ZaaJ
theorem Zaie (K:PySem.W.Frag) {X:Cx} (hK:X.K=K:=by rfl):CallR X (.builtin "len") (fun xs H Q=>∃ p ys,xs=[.ref p]/\(SqL K H p ys∨SqT K H p ys)/\Q (.int ys.length) H):=by subst hK; exact ZaaC
theorem CompOk.bare {X:Cx}{scope:Scope}{own:List Str} (h:((scope.kind == .function) && scope.names.all fun y=>(y.2 != .cell) && (y.2 != .free) && ((y.2 != .local) || (scope.names.lookup y.1 == some .local)))=true):CompOk X scope own []:=by
 simp only[Bool.and_eq_true,beq_iff_eq,List.all_eq_true,Bool.or_eq_true,bne_iff_ne,ne_eq] at h
 obtain⟨h1,h2⟩:=h
 refine⟨h1,fun y hy=>(h2 y hy).1.1,fun y hy hf=>absurd hf (h2 y hy).1.2,fun y hy hl=>?_,fun j hj=>by cases hj⟩
 rcases (h2 y hy).2 with z | z
 ·exact absurd hl z
 ·exact z
section
variable {X:Cx}
def rRepT (K:PySem.W.Frag):R2:=fun x y H Q=>∃ (l:Addr) (k:Int) (xs:List V),x=.ref l/\y=.int k/\SqT K H l xs/\xs≠[]/\1<=k/\k<=1000/\xs.length*k.toNat<=1000/\(k=1->Q (.ref l) H)/\(k≠1->∀ p,H p=none->Q (.ref p) (upd H p (.tup (List.replicate k.toNat xs).flatten)))
theorem ZakX:OpR X (binaryOp .Mult) (rRepT X.K):=by
 intro pins s σ H x y v u Q I rx ry h
 obtain⟨l,k,xs,rfl,rfl,hH,hne,k1,k2,hz,q1,q2⟩:=h
 cases rx
 obtain⟨t,rfl⟩:=ry
 obtain⟨its,r,p,_⟩:=I.tuple hH
 obtain⟨⟨c,dct,dt,sl⟩,hl,hc,n,hd⟩:=(show s.heap.IsTuple l its.toArray from p)
 replace hc:c=.type "tuple":=hc
 replace hd:dt=.seq its.toArray n:=hd
 subst hc hd
 have hlen:=r.length
 refine wpAny_binaryOp_repeat_ref (T:="tuple") (U:="int") (by decide) ⟨_,hl,rfl⟩ (fun s'=>typeIs_int s' k t) ZacV F.fills_int_mul F.slot_int_rmul ZakD F.slot_int_index.lookup
  (call_meets F.slot_int_rmul (typeIs_int s k t) F.entry_int_rmul (F.args_int_rmul_2 _ _) (ZadV k t l its.toArray n dct sl) ⟨hl,rfl,⟨_,hl,rfl⟩,?_⟩)
 by_cases e:k=1
 ·subst e
  exact call_meets F.slot_tuple_mul ⟨_,hl,rfl⟩ F.entry_tuple_mul (F.args_tuple_mul_2 _ _) (ZajO l its.toArray n dct sl t) ⟨hl,⟨.ref l,H,I,rfl,q1 rfl⟩⟩
 ·have hpos:0<its.length:=by rw[<- hlen]; exact List.length_pos_iff.mpr hne
  have hne':its.toArray.isEmpty=false:=by
   cases its with
   | nil=>simp at hpos
   | cons=>rfl
  have hm:(its.toArray.size:Int)*k<=1000:=by
   rw[List.size_toArray,<- hlen]
   have:((xs.length*k.toNat:Nat):Int)<=1000:=by omega
   rw[Int.natCast_mul,Int.toNat_of_nonneg (by omega)] at this
   exact this
  have f0:List.foldl (fun x1 x2=>x1++x2) #[] (List.replicate k.toNat its.toArray)=(List.replicate k.toNat its).flatten.toArray:=by
   have:=ZacY its k.toNat []
   rw[List.nil_append] at this
   exact this
  refine call_meets F.slot_tuple_mul ⟨_,hl,rfl⟩ F.entry_tuple_mul (F.args_tuple_mul_2 _ _) (ZajN l its.toArray n dct sl k t ?_ ?_ ?_ ?_ ?_ ?_) ⟨hl,?_⟩
  ·simp; omega
  ·rw[hne']; simp; exact e
  ·rw[hne']; simp; omega
  ·omega
  ·unfold Builtin.Tuple.tupleTooMany
   rw[decide_eq_true_iff,sizeLine_eq]
   omega
  ·rw[f0,List.size_toArray,Zags,Nat.mul_comm,<- hlen]
   exact Nat.not_lt.mpr (Nat.le_of_lt (Zaap hz))
  ·rw[f0]
   refine⟨.ref s.heap.objs.size,_,I.laid (t':=s.toks) (o:=.tup (List.replicate k.toNat xs).flatten) (fun b ob q=>Heap.get?_push_of_some _ q) (Nat.le_refl _) ?_,rfl,q2 e _ (I.hok.fresh (Nat.le_refl _))⟩
   exact⟨by rw[Zags,Nat.mul_comm]; exact Nat.le_of_lt (Zaap hz),_,r.rep k.toNat,IsTupD.new _ _⟩
def LLs (H:Hp) (rs:List Addr) (N:List (List Int)):Prop:=rs.length=N.length/\∀ (j:Nat) r xs,rs[j]?=some r->N[j]?=some xs->H r=some (.lst (xs.map V.int))
def TTs (H:Hp) (rs:List Addr) (N:List (List Int)):Prop:=rs.length=N.length/\∀ (j:Nat) r xs,rs[j]?=some r->N[j]?=some xs->H r=some (.tup (xs.map V.int))
theorem LLs.same {H H':Hp}{rs:List Addr}{N:List (List Int)} (h:LLs H rs N) (s:Same H H'):LLs H' rs N:=⟨h.1,fun j r xs a b=>s _ _ (h.2 j r xs a b)⟩
theorem TTs.same {H H':Hp}{rs:List Addr}{N:List (List Int)} (h:TTs H rs N) (s:Same H H'):TTs H' rs N:=⟨h.1,fun j r xs a b=>s _ _ (h.2 j r xs a b)⟩
theorem TTs.lst {H:Hp}{rs:List Addr}{N:List (List Int)}{acc:Addr}{ys zs:List V} (h:TTs H rs N) (e:H acc=some (.lst zs)):TTs (upd H acc (.lst ys)) rs N:=⟨h.1,fun j r xs a b=>by
 have:=h.2 j r xs a b
 rw[Zaaf (by intro z; subst z; rw[e] at this; cases this)]
 exact this⟩
theorem LLs.lst {H:Hp}{rs:List Addr}{N:List (List Int)}{acc:Addr}{ys:List V} (h:LLs H rs N) (e:acc ∉ rs):LLs (upd H acc (.lst ys)) rs N:=⟨h.1,fun j r xs a b=>by
 rw[Zaaf (by intro z; subst z; exact e (List.mem_of_getElem? a))]
 exact h.2 j r xs a b⟩
theorem ZaaT {α:Type}{xs:List α}{x y:α}{j:Nat} (h:(xs++[x])[j]?=some y):xs[j]?=some y∨(j=xs.length/\y=x):=by
 by_cases hj:j<xs.length
 ·rw[List.getElem?_append_left hj] at h; exact .inl h
 ·rw[List.getElem?_append_right (by omega)] at h
  have:j - xs.length=0:=by
   cases e:j - xs.length with
   | zero=>rfl
   | succ m=>rw[e] at h; simp at h
  rw[this] at h
  exact .inr ⟨by omega,by simpa using h.symm⟩
theorem TTs.snoc {H:Hp}{rs:List Addr}{N:List (List Int)}{r:Addr}{x:List Int} (h:TTs H rs N) (e:H r=some (.tup (x.map V.int))):TTs H (rs++[r]) (N++[x]):=⟨by simp[h.1],fun j r' xs a b=>by
 rcases ZaaT a with a | ⟨a,rfl⟩
 ·rcases ZaaT b with b | ⟨b,_⟩
  ·exact h.2 j r' xs a b
  ·have:=(List.getElem?_eq_some_iff.mp a).1; have:=h.1; omega
 ·rcases ZaaT b with b | ⟨_,rfl⟩
  ·have:=(List.getElem?_eq_some_iff.mp b).1; have:=h.1; omega
  ·exact e⟩
theorem LLs.snoc {H:Hp}{rs:List Addr}{N:List (List Int)}{r:Addr}{x:List Int} (h:LLs H rs N) (e:H r=some (.lst (x.map V.int))):LLs H (rs++[r]) (N++[x]):=⟨by simp[h.1],fun j r' xs a b=>by
 rcases ZaaT a with a | ⟨a,rfl⟩
 ·rcases ZaaT b with b | ⟨b,_⟩
  ·exact h.2 j r' xs a b
  ·have:=(List.getElem?_eq_some_iff.mp a).1; have:=h.1; omega
 ·rcases ZaaT b with b | ⟨_,rfl⟩
  ·have:=(List.getElem?_eq_some_iff.mp b).1; have:=h.1; omega
  ·exact e⟩
theorem Zab1 (n:Nat):((List.range n).all fun _=>true)=true:=by simp
end
end L2
namespace Lv
open PySem L2
def fstN (N:List (List Int)):List Int:=(N.headD []).map (·+1)
def nextN (N:List (List Int)):List (List Int):=(N.tail.map (fstN N++·))++[fstN N]
def num0 (p:Nat):List (List Int):=[0]::List.replicate (p - 1) []
def num (p:Nat):Nat->List (List Int)
 | 0=>num0 p
 | n+1=>nextN (num p n)
def lens (N:List (List Int)):List Int:=N.map fun l=>(l.length:Int)
theorem ZahM (N:List (List Int)):lens (nextN N)=nextC (lens N):=by
 cases N with
 | nil=>simp[lens,nextN,nextC,fstN]
 | cons a r=>
  simp[lens,nextN,nextC,fstN,Function.comp_def]
theorem Zacg (p:Nat):∀ n,lens (num p n)=cnt p n
 | 0=>by simp[lens,num,num0,cnt,ZacZ]
 | n+1=>by
  show lens (nextN (num p n))=nextC (cnt p n)
  rw[ZahM,Zacg p n]
theorem Zabb {p:Nat} (hp:1<=p) (n:Nat):(num p n).length=p:=by
 have:=congrArg List.length (Zacg p n)
 rw[Zadx hp] at this
 simpa[lens] using this
theorem Zamg {c:List Int} (h:∀ x∈c,0<=x) {x:Int} (hx:x∈c):x<=c.sum:=by
 induction c with
 | nil=>cases hx
 | cons a r ih=>
  have nn:∀ l:List Int,(∀ x∈l,0<=x)->0<=l.sum:=by
   intro l
   induction l with
   | nil=>intro _; simp
   | cons x y ih=>
    intro h
    rw[List.sum_cons]
    have:=h x (by simp)
    have:=ih fun z hz=>h z (by simp[hz])
    omega
  rw[List.sum_cons]
  have ha:=h a (by simp)
  have hr:∀ x∈r,0<=x:=fun x hx=>h x (by simp[hx])
  rcases List.mem_cons.mp hx with rfl | hx
  ·have:=nn r hr
   omega
  ·have:=ih hr hx
   omega
theorem Zak8 {p n:Nat}{xs:List Int} (h:xs∈num p n):(xs.length:Int)<=tot p n:=by
 refine Zamg (Zaea p n).2 ?_
 rw[<- Zacg p n]
 exact List.mem_map.mpr ⟨xs,h,rfl⟩
theorem Zagm {p:Nat} (hp:2<=p) (n:Nat):∃ a r,num p n=a::r/\a≠[]/\r.length=p - 1:=by
 have h:=Zabb (p:=p) (by omega) n
 cases e:num p n with
 | nil=>rw[e] at h; simp at h; omega
 | cons a r=>
  rw[e] at h
  refine⟨a,r,rfl,?_,by simp at h; omega⟩
  rintro rfl
  have h1:=ZajZ hp n
  unfold hd at h1
  rw[<- Zacg p n,e] at h1
  simp[lens] at h1
theorem ZaaU {n:Nat} (h:n<=8000):n<sizeLine:=Nat.lt_of_le_of_lt h (by decide)
def ZadK:Sp:=fun vs H Q _=>∃ p n:Nat,vs=[.int p,.int n]/\2<=p/\p<=7/\n<=300/\tot p n<=4000/\∀ H',Same H H'->Q .non H'
def Zaev:Sp:=fun vs H Q _=>∃ (a:Addr) (rs:List Addr) (N:List (List Int)),vs=[.ref a]/\H a=some (.tup (rs.map V.ref))/\TTs H rs N/\2<=N.length/\N.length<=7/\N.headD []≠[]/\(∀ xs∈N,xs.length<=4000) /\
 ∀ l qs H',H l=none->H' l=some (.tup (qs.map V.ref))->TTs H' qs (nextN N)->Same H H'->Q (.ref l) H'
def spNum:Sp:=fun vs H Q _=>∃ p n:Nat,vs=[.int p,.int n]/\2<=p/\p<=7/\n<=300/\tot p n<=4000/\∀ l qs H',H l=none->H' l=some (.tup (qs.map V.ref))->TTs H' qs (num p n)->Same H H'->Q (.ref l) H'
def Zai8:Sp:=fun vs H Q _=>∃ p n:Nat,vs=[.int p,.int n]/\2<=p/\p<=7/\n<=300/\tot p n<=4000/\∀ l qs H',H l=none->H' l=some (.lst (qs.map V.ref))->LLs H' qs (num p n)->Same H H'->Q (.ref l) H'
def Zai9 (K:PySem.W.Frag):Sp:=fun vs H Q _=>∃ (a:Addr) (ns:List Int) (k:Int),vs=[.ref a,.int k]/\SqL K H a (ns.map V.int)/\0<=k/\∀ c:Int,Q (.int c) H
theorem Zaey {α:Type}{n j:Nat}{x y:α} (h:(List.replicate n x)[j]?=some y):y=x:=by
 rw[List.getElem?_replicate] at h
 split at h
 ·exact (Option.some.inj h).symm
 ·cases h
theorem Zaa3 {rs:List Addr}{i:Nat}{x:V} (h:(rs.map V.ref)[i]?=some x):∃ r,rs[i]?=some r/\x=.ref r:=by
 rw[List.getElem?_map] at h
 cases e:rs[i]? with
 | none=>rw[e] at h; cases h
 | some p=>rw[e] at h; exact⟨p,rfl,(Option.some.inj h).symm⟩
def spTot:Sp:=fun vs H Q _=>∃ i,vs=[.int i]/\i<=4000/\Q .non H
def ZadQ:Sp:=fun vs H Q _=>∃ p:Nat,vs=[.int p]/\2<=p/\p<=7/\∀ l qs H',H l=none->H' l=some (.tup (qs.map V.ref))->TTs H' qs (num0 p)->Same H H'->Q (.ref l) H'
def ZafU (fn:Addr):Sp:=fun vs H Q _=>∃ p n:Nat,vs=[.int p,.int n,.ref fn]/\2<=p/\p<=7/\n<=300/\tot p n<=4000/\∀ l qs H',H l=none->H' l=some (.tup (qs.map V.ref))->TTs H' qs (num p n)->Same H H'->Q (.ref l) H'
end Lv
namespace Lv
open PySem L2 PySem.Spec PyProof.Rows
structure FunD (K:PySem.W.Frag) (x qual:Str) (st:Stmt) (f da:Addr) (fd:FuncData):Prop where
 ex:∃ (oc:Value) (od:Option Addr) (kV doc pm:Value) (an:Option Addr) (cdv ct:Value) (osl:Array (Option Value)),
  fd=PySem.W.fnOf x qual (Zaal st) (Zaai st) (Zaac st) (.ref da) kV doc pm an cdv ct/\K.lookup f=some ⟨oc,od,.func fd,osl⟩/\PySem.W.codeIn K cdv qual=true
 kp:PySem.W.keepIn K (.ref f)=true
section
variable {P:Program}{w:World}{K:PySem.W.Frag}{mg:Str->Option Value}{base:Heap}
theorem FunD.ok {x qual : Str} {st : Stmt} {f da : Addr} {fd : FuncData} {N ps : List Str} {k : Nat} {sp : Sp} (F : FunD K x qual st f da fd) (S : FnScope N ps (Zaac st)) (len : ∀ vs H Q E, sp vs H Q E → vs.length = ps.length)
  (hbody:∀ (cdv:Value) (A:Around) (outer:List Env) (s:Shared) (H:Hp) (vs:List V) (Q:VK) (E:XK),Room k (A.deeper (envOfC qual (Zaac st) s.heap.objs.size f cdv))->sp vs H Q E ->
   ∃ t,PSs (cxOf CX0 P w K mg base N qual (Zaac st) f cdv A outer s H E).nox (Zaai st) t/\t { nx:=fun _ H'=>Q .non H',rt:=Q } (start N vs) H):FnOk P w K mg base CX0 (k+1) f fd ps sp:=by
 obtain⟨oc,od,kV,doc,pm,an,cdv,ct,osl,rfl,lk,hcd⟩:=F.ex
 refine fn_of lk hcd S len fun A outer s H vs Q E hr hsp=>?_
 obtain⟨t,h,q⟩:=hbody cdv A outer s H vs Q E hr hsp
 exact⟨t,h.nox,q⟩
theorem FunD.binds {x qual : Str} {st : Stmt} {f da : Addr} {fd : FuncData} {ps : List Str} {o : Obj} {items : Array Value} {n : Nat} (F : FunD K x qual st f da fd) (ho : K.lookup da = some o) (hs : o.data = .seq items n) (ds : List Value) (qs : List Str) (hq : qs.length + ds.length = ps.length)
  (h:∀ (kV doc pm:Value) (an:Option Addr) (cdv ct:Value) (us:List Value),us.length=qs.length ->
   ∃ k:Option (Array Value)->Sem (List (Str × Value)),bindArgs (PySem.W.fnOf x qual (Zaal st) (Zaai st) (Zaac st) (.ref da) kV doc pm an cdv ct) ⟨us,[]⟩=seqItems? (.ref da) >>= k/\k (some items)=pure (ps.zip (us++ds))):Binds K fd ps ds:=by
 obtain⟨oc,od,kV,doc,pm,an,cdv,ct,osl,rfl,lk,hcd⟩:=F.ex
 intro s us X hl
 obtain⟨k,h1,h2⟩:=h kV doc pm an cdv ct us (by rw[List.length_append] at hl; omega)
 exact PySem.W.binds_K X rfl ho hs h1 h2
theorem Zals {x qual : Str} {st : Stmt} {f da : Addr} {oc : Value} {od an : Option Addr} {osl : Array (Option Value)} {kV doc pm cdv ct : Value} (l : K.lookup f = some ⟨oc, od, .func (PySem.W.fnOf x qual (Zaal st) (Zaai st) (Zaac st) (.ref da) kV doc pm an cdv ct), osl⟩)
  (c:PySem.W.codeIn K cdv qual=true) (k:PySem.W.keepIn K (.ref f)=true):FunD K x qual st f da (PySem.W.fnOf x qual (Zaal st) (Zaai st) (Zaac st) (.ref da) kV doc pm an cdv ct):=⟨⟨oc,od,kV,doc,pm,an,cdv,ct,osl,rfl,l,c⟩,k⟩
end
structure CalD (P:Program) (w:World) (K:PySem.W.Frag) (mg:Str->Option Value) (base:Heap) (k:Nat) (x:Str) (ps:List Str) (dvs:List V) (sp:Sp) (f:Addr) (fd:FuncData):Prop where
 ok:FnOk P w K mg base CX0 k f fd ps sp
 mg:mg x=some (.ref f)
 kp:PySem.W.keepIn K (.ref f)=true
 bd:∃ ds,Binds K fd ps ds/\Vals dvs ds
theorem ZakV {X : Cx} {k : Nat} {x : Str} {ps : List Str} {dvs : List V} {sp : Sp} {f : Addr} {fd : FuncData} {e : Expr} {es : List Expr} {t : TA} {p pos : Pos} (C : CalD X.prog X.w X.K X.mg X.base k x ps dvs sp f fd) (hr : Room k X.A) (hg : Gl X x) (ha : PA X (e :: es) t)
  (hdb:(x == ("__debug__":Str))=false:=by decide) (he:starEach (e::es) X.env=(false,eval e X.env)::starEach es X.env:=by rfl) (hpl:(backTo pos (starEach es X.env)).any (·.1)=false:=by rfl) :
  PE X (.Call (.Name x p) (e::es) [] pos) (tCall sp dvs E0 t):=by
 obtain⟨ds,h1,h2⟩:=C.bd
 exact Zagf C.ok hr hg C.mg C.kp h1 h2 pass0 ha hdb he hpl
def ZalV (j:Nat) (f:Addr) (t:TE):TE:=fun σ H Q=>σ[j]?=some (some (.ref f))/\t σ H Q
theorem Zait {X : Cx} {k : Nat} {x y : Str} {ps : List Str} {sp : Sp} {f : Addr} {fd : FuncData} {e : Expr} {es : List Expr} {t : TA} {p pos : Pos} (j : Nat) (C : Cal X.prog X.w X.K X.mg X.base k y ps sp f fd) (hr : Room k X.A) (ha : PA X (e :: es) t) (hN : X.N[j]? = some x := by rfl) (hv : Vis X.env.scope x := by first | exact Or.inl rfl | exact Or.inr (Or.inl rfl) | exact Or.inr (Or.inr rfl))
  (hdb:(x == ("__debug__":Str))=false:=by decide) (hcd:(x == ("__classdict__":Str))=false:=by decide) (he:starEach (e::es) X.env=(false,eval e X.env)::starEach es X.env:=by rfl) (hpl:(backTo pos (starEach es X.env)).any (·.1)=false:=by rfl) :
  PE X (.Call (.Name x p) (e::es) [] pos) (ZalV j f (tCall sp [] E0 t)):=by
 intro pins s σ H Q I h
 obtain⟨h0,h⟩:=h
 refine wpAny_Call_Name_kw ?_
 refine thn (ZakQ hN hv hdb hcd pins s σ H (fun v H1=>v=.ref f/\t σ H1 fun vs H2=>sp (vs++[]) H2 Q E0) I ⟨_,h0,rfl,h⟩) fun u s1 ⟨v,H1,I1,r,ev,q⟩=>?_
 subst ev
 obtain rfl:u=Value.ref f:=r
 refine PySem.W.callWith_K (h₀:=X.base) I.ok.mod.kin C.kp (thn (ha pos pins s1 σ H1 _ I1 q) fun us s2 ⟨vs,H2,I2,r2,q2⟩=>⟨I2.kIn,?_⟩) he hpl
 exact ZakA C.ok hr C.bd .nil pass0 I2 r2 q2
theorem ZakS {X:Cx}{k:Nat}{x:Str}{ps:List Str}{sp:Sp}{f:Addr}{fd:FuncData}{pos:Pos} (C:Cal X.prog X.w X.K X.mg X.base k x ps sp f fd) (hg:Gl X x) (hd:(x == ("__debug__":Str))=false:=by decide):PE X (.Name x pos) (tC (.ref f)) :=
 Zagd hg C.mg rfl hd
def ZadL:Sp:=fun vs H Q _=>∃ i m,vs=[.int i,.int m]/\0<=i/\i<=m/\Q .non H
end Lv
namespace L2
open PySem PySem.Spec PyProof.Rows
def DK (h h':Heap):Prop:=∀ (b:Nat) (o:Obj),h.objs[b]?=some o->∃ o':Obj,h'.objs[b]?=some o'/\o'.dict=o.dict
theorem DK.refl (h:Heap):DK h h:=fun _ o e=>⟨o,e,rfl⟩
theorem DK.trans {a b c:Heap} (x:DK a b) (y:DK b c):DK a c:=fun i o e=>by
 obtain⟨o1,e1,d1⟩:=x i o e
 obtain⟨o2,e2,d2⟩:=y i o1 e1
 exact⟨o2,e2,d2.trans d1⟩
theorem ZakG {h:Heap}{a:Addr}{o:Obj} (e:h.get? a=some o):h.objs[a]?=some o:=(Heap.get?_some_iff.mp e).1
theorem DK.at {h h':Heap}{a:Addr}{o o':Obj} (x:DK h h') (e:h.get? a=some o) (e':h'.get? a=some o'):o'.dict=o.dict:=by
 obtain⟨o2,q1,q2⟩:=x a o (ZakG e)
 rw[ZakG e'] at q1
 cases q1
 exact q2
theorem DK.push (h:Heap) (o:Obj):DK h (h.push o):=fun b ob e=>⟨ob,by
 have hb:b<h.objs.size:=(Array.getElem?_eq_some_iff.mp e).1
 unfold Heap.push
 show (h.objs.push o)[b]?=some ob
 rw[Array.getElem?_push_lt hb]
 exact (Array.getElem?_eq_some_iff.mp e).2 ▸ rfl,rfl⟩
theorem DK.update (h:Heap) (a:Addr) (f:Obj->Obj) (hf:∀ o,(f o).dict=o.dict):DK h (h.update a f):=fun b ob e=>by
 by_cases z:a=b
 ·subst z
  exact⟨f ob,by unfold Heap.update; simp[Array.getElem?_modify,e],hf ob⟩
 ·exact⟨ob,by unfold Heap.update; simp[Array.getElem?_modify,z,e],rfl⟩
def DC {α:Type}:Sem α->Prop
 | .pure _=>True
 | .raise _=>True
 | .unsupported _=>True
 | .rule _ k=>DC (k ())
 | .at _ k=>DC (k ())
 | .load _ _ k=>∀ o,DC (k o)
 | .update _ _ f k=>(∀ o,(f o).dict=o.dict)/\DC (k ())
 | .alloc _ k=>∀ a,DC (k a)
 | .loadIfAlive _ k=>∀ o,DC (k o)
 | .point _ k=>DC (k ())
 | .fresh k=>∀ t,DC (k t)
 | .ask k=>∀ x,DC (k x)
 | .handled _ k=>∀ v,DC (k v)
 | .stack k=>∀ l,DC (k l)
 | _=>False
theorem Zabq {α β:Type}{m:Sem α}{f:α->Sem β} (hm:DC m) (hf:∀ a,DC (f a)):DC (m >>= f):=by
 show DC (m.bind f)
 induction m with
 | pure a=>exact hf a
 | raise e=>trivial
 | unsupported w=>trivial
 | rule t k ih=>exact ih () hm
 | «at» p k ih=>exact ih () hm
 | load a p k ih=>exact fun o=>ih o (hm o)
 | update a p g k ih=>exact⟨hm.1,ih () hm.2⟩
 | alloc o k ih=>exact fun a=>ih a (hm a)
 | loadIfAlive a k ih=>exact fun o=>ih o (hm o)
 | point l k ih=>exact ih () hm
 | fresh k ih=>exact fun a=>ih a (hm a)
 | ask k ih=>exact fun a=>ih a (hm a)
 | handled w k ih=>exact fun a=>ih a (hm a)
 | stack k ih=>exact fun a=>ih a (hm a)
 | finish _=>exact hm.elim
 | register _ _ _=>exact hm.elim
 | choose _ _ _ _=>exact hm.elim
 | os _ _ _ _=>exact hm.elim
 | call _ _ _ _ _ _=>exact hm.elim
 | newGen _ _ _=>exact hm.elim
 | genState _ _ _=>exact hm.elim
 | resume _ _ _ _ _=>exact hm.elim
 | yield _ _ _ _ _=>exact hm.elim
 | fork _ _ _=>exact hm.elim
 | thread _ _=>exact hm.elim
 | await _ _ _ _ _ _=>exact hm.elim
theorem wp_dk {α : Type} (M : Model) (Γ : PySem.Ctx) {t : Sem α} (d : DC t) : ∀ (Q : α → Pos → Shared → Prop) (E : Value → Pos → Shared → Prop) (p : Pos) (s : Shared), Sem.wp M Γ t Q E p s →
  Sem.wp M Γ t (fun a p' s'=>Q a p' s'/\DK s.heap s'.heap) (fun e p' s'=>E e p' s'/\DK s.heap s'.heap) p s:=by
 have up : ∀ {α : Type} {t : Sem α} {Q : α → Pos → Shared → Prop} {E : Value → Pos → Shared → Prop} {p : Pos} {s : Shared} {h0 h1 : Heap}, DK h0 h1 →
   Sem.wp M Γ t (fun a p' s'=>Q a p' s'/\DK h1 s'.heap) (fun e p' s'=>E e p' s'/\DK h1 s'.heap) p s->Sem.wp M Γ t (fun a p' s'=>Q a p' s'/\DK h0 s'.heap) (fun e p' s'=>E e p' s'/\DK h0 s'.heap) p s:=fun k h=>
  Sem.wp_mono M Γ _ (fun _ _ _ z=>⟨z.1,k.trans z.2⟩) (fun _ _ _ z=>⟨z.1,k.trans z.2⟩) _ _ h
 induction t with
 | pure a=>exact fun _ _ _ _ h=>⟨h,.refl _⟩
 | raise e=>exact fun _ _ _ _ h=>⟨h,.refl _⟩
 | unsupported w=>exact fun _ _ _ _ h=>h
 | rule t k ih=>exact fun _ _ _ _ h=>ih () d _ _ _ _ h
 | «at» p k ih=>exact fun _ _ _ _ h=>ih () d _ _ _ _ h
 | load a p k ih=>exact fun _ _ _ _ ⟨o,ho,h⟩=>⟨o,ho,ih o (d o) _ _ _ _ h⟩
 | update a p g k ih=>exact fun _ _ _ _ ⟨ho,h⟩=>⟨ho,up (.update _ _ _ d.1) (ih () d.2 _ _ _ _ h)⟩
 | alloc o k ih=>exact fun _ _ _ _ h=>up (.push _ _) (ih _ (d _) _ _ _ _ h)
 | loadIfAlive a k ih=>exact fun _ _ _ _ h=>ih _ (d _) _ _ _ _ h
 | point l k ih=>exact fun _ _ _ _ h=>ih () d _ _ _ _ h
 | fresh k ih=>exact fun _ _ _ _ h=>ih _ (d _) _ _ _ _ h
 | ask k ih=>exact fun _ _ _ _ h=>ih _ (d _) _ _ _ _ h
 | handled w k ih=>exact fun _ _ _ _ h=>ih _ (d _) _ _ _ _ h
 | stack k ih=>exact fun _ _ _ _ h=>ih _ (d _) _ _ _ _ h
 | finish _=>exact d.elim
 | register _ _ _=>exact d.elim
 | choose _ _ _ _=>exact d.elim
 | os _ _ _ _=>exact d.elim
 | call _ _ _ _ _ _=>exact d.elim
 | newGen _ _ _=>exact d.elim
 | genState _ _ _=>exact d.elim
 | resume _ _ _ _ _=>exact d.elim
 | yield _ _ _ _ _=>exact d.elim
 | fork _ _ _=>exact d.elim
 | thread _ _=>exact d.elim
 | await _ _ _ _ _ _=>exact d.elim
theorem Zab3 {α:Type}{M:Model}{A:Around}{t:Sem α}{Q:α->Shared->Prop}{E:Value->Shared->Prop}{s:Shared} (d:DC t) (h:wpAny M A t (fun a s'=>DK s.heap s'.heap->Q a s') (fun e s'=>DK s.heap s'.heap->E e s') s):wpAny M A t Q E s :=
 fun Γ p hΓ=>Sem.wp_mono M Γ t (fun _ _ _ z=>z.1 z.2) (fun _ _ _ z=>z.1 z.2) p s (wp_dk M Γ d _ _ _ _ (h Γ p hΓ))
theorem ZagL {a:Addr}:DC (load a):=fun _=>trivial
theorem Zaec:DC stack:=fun _=>trivial
theorem ZalA {o:Obj}{f:Array Value->Array Value}:(Obj.mapFields f o).dict=o.dict:=by
 unfold Obj.mapFields
 split <;> rfl
theorem Zaed {v:Value}{i:Nat}:DC (field v i):=by
 unfold field fieldsOf
 repeat (first | trivial | exact ZagL | (refine Zabq ?_ fun _=>?_) | split)
theorem ZacC {v:Value}{i:Nat}{x:Value}:DC (setField v i x):=by
 unfold setField updateField
 repeat (first | trivial | exact ZagL | exact⟨fun _=>ZalA,trivial⟩ | (refine Zabq ?_ fun _=>?_) | split)
theorem Zabw {v:Value}{f:Option Addr}:DC (setFlight v f):=by
 unfold setFlight
 repeat (first | trivial | exact Zaed | exact ZacC | (refine Zabq ?_ fun _=>?_) | split)
theorem ZagK:∀ l:List Env,DC (readyFrames l)
 | []=>trivial
 | env::outer=>by
  unfold readyFrames behindIsImport keptBack underTheClaimsCaller
  repeat (first | trivial | exact ZagL | exact Zaec | exact Zaed | exact ZagK outer | exact⟨fun _=>rfl,trivial⟩ | (refine Zabq ?_ fun _=>?_) | split)
theorem ZagM {env:Env}:DC (PySem.frameOf env):=by
 unfold PySem.frameOf frameEnvs
 refine Zabq (Zabq Zaec fun _=>trivial) fun l=>Zabq ?_ fun o=>?_
 ·generalize (List.dropWhile (fun x=>x.frame != env.frame) l)=m
  cases m with
  | nil=>trivial
  | cons e r=>exact Zabq (ZagK _) fun _=>trivial
 ·split <;> trivial
theorem Zacj {e:Value}{env:Env}:DC (noteFrame e env):=by
 unfold noteFrame EntryCells.newEntry newFields newObj newObjAsIs entryPlaceOf
 repeat (first | trivial | exact Zaed | exact ZacC | exact ZagM | exact Zaec | exact fun _=>trivial | (refine Zabq ?_ fun _=>?_) | split)
theorem Zadw {e:Value}{env:Env}:DC (leaving env e):=Zabq Zacj fun _=>Zabw
end L2
namespace L2
open PySem PySem.Spec PyProof.Rows
theorem ObjOk.there {P:Program}{w:World}{H:Hp}{h:Heap}{a:Addr}{o:HO} (x:ObjOk P w H h a o):∃ ob,h.get? a=some ob:=by
 cases o with
 | lst xs=>obtain⟨_,_,_,_,e⟩:=x; exact⟨_,e⟩
 | tup xs=>obtain⟨_,_,_,o,e,_⟩:=x; exact⟨_,e⟩
 | dK kvs=>obtain⟨_,_,_,_,o,_,_,e,_⟩:=x; exact⟨_,e⟩
 | dT kvs=>obtain⟨_,_,_,_,o,_,_,e,_⟩:=x; exact⟨_,e⟩
 | set S n=>obtain⟨o,_,_,_,e,_⟩:=x; exact⟨_,e⟩
 | ins C dx fs=>obtain⟨_,_,_,e,_⟩:=x; exact⟨_,e⟩
 | own y=>exact x
 | xd fs=>obtain⟨_,⟨_,_,_,e,_⟩,_⟩:=x; exact⟨_,e⟩
 | rng lo hi=>obtain⟨_,_,_,e⟩:=x; exact⟨_,e⟩
 | frz ob u=>obtain⟨e,_⟩:=x; exact⟨_,e⟩
 | tbl ps=>exact⟨_,(show h.get? a=some _ from x)⟩
 | met f y=>exact⟨_,(show h.get? a=some _ from x)⟩
 | ext φ=>obtain⟨_,e,_⟩:=x; exact e
theorem HOk.none_of {P:Program}{w:World}{H:Hp}{h:Heap}{a:Addr} (x:HOk P w H h) (e:h.get? a=none):H a=none:=by
 cases q:H a with
 | none=>rfl
 | some o=>obtain⟨ob,z⟩:=(x a o q).there; rw[e] at z; cases z
def hideL (h:Heap):List Addr->Heap
 | []=>h
 | a::r=>(hideL h r).hide a
theorem ZaaO {h:Heap}:∀ {l:List Addr}{a:Addr},a∈l->(hideL h l).get? a=none
 | b::r,a,m=>by
  by_cases e:a=b
  ·subst e; exact Heap.hide_self _ _
  ·rw[hideL,Heap.hide_ne _ e]
   exact ZaaO ((List.mem_cons.mp m).resolve_left e)
theorem ZabP {h:Heap}:∀ {l:List Addr}{a:Addr},a ∉ l->(hideL h l).get? a=h.get? a
 | [],_,_=>rfl
 | b::r,a,n=>by
  rw[hideL,Heap.hide_ne _ (fun e=>n (by rw[e]; exact List.mem_cons_self))]
  exact ZabP fun z=>n (List.mem_cons_of_mem _ z)
theorem ZabO {h:Heap}{l:List Addr}:(hideL h l).StaysIn h:=fun b o e=>by
 by_cases m:b∈l
 ·rw[ZaaO m] at e; cases e
 ·rwa [ZabP m] at e
theorem Zabj {h base B:Heap}:∀ {l:List Env},h.FunFrames base l->(∀ b∈frs l,B.get? b=none)->h.FunFrames B l
 | [],_,_=>trivial
 | env :: rest, ⟨hk, ⟨L, o, hf, hn, ho, hd⟩, hr⟩, n => ⟨hk, ⟨L, o, hf, n L (by unfold frs; rw [List.filterMap_cons, hf]; exact List.mem_cons_self), ho, hd⟩, Zabj hr fun b hb => n b (by
   unfold frs
   rw[List.filterMap_cons,hf]
   exact List.mem_cons_of_mem _ hb)⟩
theorem Un.hide {fs Z : List Addr} {H H' : Hp} {h h1 h2 : Heap} (u : Un fs [] H H' h h1) (hz : ∀ z ∈ Z, z ∈ fs ∨ h.get? z = none) (k : ∀ b o, h1.get? b = some o → b ∉ Z → h2.get? b = some o)
  (ks:∀ b∈fs,∀ o,h1.get? b=some o->∃ sl,h2.get? b=some { o with slots:=sl }):Un fs [] H H' h h2 where
 keep:=fun b o e n hb hx=>k b o (u.keep b o e n hb hx) fun z=>by
  rcases hz b z with y | y
  ·exact hb y
  ·rw[e] at y; cases y
 slot:=fun b o e n hb hx=>by
  obtain⟨sl,e1⟩:=u.slot b o e n hb hx
  obtain⟨sl',e2⟩:=ks b hb _ e1
  exact⟨sl',e2⟩
 free:=u.free
 there:=fun b o e hx=>by
  obtain⟨o',e1⟩:=u.there b o e hx
  by_cases m:b∈Z
  ·rcases hz b m with y | y
   ·obtain⟨sl,e2⟩:=ks b y _ e1; exact⟨_,e2⟩
   ·rw[e] at y; cases y
  ·exact⟨_,k b _ e1 m⟩
 tups:=u.tups
 frzs:=u.frzs
 tbls:=u.tbls
theorem HOk.hide {P:Program}{w:World}{H:Hp}{h1 h2:Heap}{Z:List Addr} (x:HOk P w H h1) (hz:∀ z∈Z,H z=none) (k:∀ b o,h1.get? b=some o->b ∉ Z->h2.get? b=some o):HOk P w H h2:=fun a o e=>
 (x a o e).stay (fun b u hb hu=>k b u hu fun z=>by
  have:=hz b z
  rcases hb with rfl | hb
  ·rw[e] at this; cases this
  ·rw[hb] at this; cases this) (fun _ z=>z) fun _ _ z=>z
def Fly (H:Hp) (h0 h:Heap) (ea:Addr) (cls:Value) (od:Option Addr) (fl:Value):Prop :=
 ∃ (a0:Value) (T:Addr) (oe oT:Obj) (vs ts:Array Value),(H ea=none/\H T=none/\h0.get? ea=none/\h0.get? T=none) /\
  h.get? ea=some oe/\((oe.cls=cls/\vs[0]?=some a0)/\oe.dict=od)/\oe.data=.fields vs/\vs[1]?=some (.ref T)/\T≠ea/\h.get? T=some oT/\oT.data=.fields ts/\ts[3]?=some fl
def CX1 (P:Program) (w:World):CXT:=fun outer H s E e s'=>∃ (ea:Addr) (cls:Value) (od:Option Addr) (H':Hp),e=.ref ea/\s'.os=s.os/\AllBare s'.gens/\Un (frs outer) [] H H' s.heap s'.heap/\HOk P w H' s'.heap/\Fly H' s.heap s'.heap ea cls od .none/\E cls od H'
theorem Zalv {P : Program} {w : World} {l : List Env} {H : Hp} {h0 h1 h2 base : Heap} {ea : Addr} {cls a0 fl : Value} {od : Option Addr} {Z : List Addr} (hok : HOk P w H h1) (hZ : ∀ z ∈ Z, z ∉ frs l → z ≠ ea → H z = none ∧ h0.get? z = none) (hea : H ea = none) (he0 : h0.get? ea = none)
  (hl:h1.FunFrames base l) (hs:h1.UpToSlots h2) (h01:∀ b o,h0.get? b=some o->∃ o',h1.get? b=some o') (t:h2.TracedAtW (hideL h1 Z) ea cls a0 fl) (hod:∀ o,h2.get? ea=some o->o.dict=od):Fly H h0 h2 ea cls od fl:=by
 obtain⟨oe,vs,T,oT,ts,he,hc,hd,hv1,hnT,hTe,hT,hdT,h3⟩:=t
 refine⟨a0,T,oe,oT,vs,ts,?_,he,⟨hc,hod oe he⟩,hd,hv1,hTe,hT,hdT,h3⟩
 have hTf:T ∉ frs l:=fun m=>by
  obtain⟨_,o,ho,hnf⟩:=hl.mem m
  obtain⟨sl,hs'⟩:=hs T o ho hnf
  rw[hT] at hs'
  cases hs'
  exact hnf ts hdT
 by_cases m:T∈Z
 ·obtain⟨q1,q2⟩:=hZ T m hTf hTe
  exact⟨hea,q1,he0,q2⟩
 ·rw[ZabP m] at hnT
  refine⟨hea,hok.none_of hnT,he0,?_⟩
  cases q:h0.get? T with
  | none=>rfl
  | some o=>obtain⟨o',z⟩:=h01 T o q; rw[hnT] at z; cases z
def Takes (X:Cx) (E:XK):Prop:=∀ (pins:List (Addr × Obj)) (σ:St) (H:Hp) (s:Shared) (ea:Addr) (oe:Obj) (vs:Array Value) (a0:Value),Inv X pins σ H s->H ea=none->X.s₀.heap.get? ea=none->s.heap.get? ea=some oe->oe.data=.fields vs->vs[1]?=some .none->vs[0]?=some a0->E oe.cls oe.dict H->X.xe (.ref ea) s
section
variable {P:Program}{w:World}{K:PySem.W.Frag}{mg:Str->Option Value}{base:Heap}{N:List Str}{qual:Str}{scope:Scope}{f:Addr}{cd:Value}{A:Around}{outer:List Env}{s:Shared}{H:Hp}{E:XK}
theorem Zalg (X:Cx) (hs:X.stack=X.env::X.outer) (hf:X.env.frame=some X.env.locals):frs X.stack=X.env.locals::X.fs:=by
 unfold Cx.fs frs
 rw[hs,List.filterMap_cons,hf]
theorem ZaiZ:Takes (cxOf (CX1 P w) P w K mg base N qual scope f cd A outer s H E) E:=by
 intro pins σ H1 s1 ea oe vs a0 I hea hen he hd h1 h0 hE
 let X:=cxOf (CX1 P w) P w K mg base N qual scope f cd A outer s H E
 have hst:frs X.stack=X.env.locals::X.fs:=Zalg X rfl rfl
 have hfr:X.A.frames=some (X.env::outer):=I.ok.frames
 have hff:s1.heap.FunFrames X.base X.stack:=I.stack
 have hB:∀ b∈frs X.stack,(hideL s1.heap (ea::frs X.stack)).get? b=none:=fun b hb=>ZaaO (List.mem_cons_of_mem _ hb)
 refine Zab3 Zadw (wpAny_leaving_firstW (base:=hideL s1.heap (ea::frs X.stack)) hfr (Zabj hff hB) rfl he ZabO (ZaaO List.mem_cons_self) hd h1 h0 fun h' hL dk=>?_)
 obtain⟨k1,k2,k3,k4⟩:=hL
 have hkeep:∀ b o,s1.heap.get? b=some o->b ∉ (ea::frs X.stack)->h'.get? b=some o:=fun b o e n=>k1 b o (by rw[ZabP n]; exact e)
 have hloc:X.s₀.heap.get? X.env.locals=none:=Heap.get?_none_of_le I.ok.above
 have hzl:∀ z∈ea::frs X.stack,z∈frs outer∨X.s₀.heap.get? z=none:=fun z hz=>by
  rcases List.mem_cons.mp hz with rfl | hz
  ·exact .inr hen
  ·rw[hst] at hz
   rcases List.mem_cons.mp hz with rfl | hz
   ·exact .inr hloc
   ·exact .inl hz
 refine⟨ea,oe.cls,oe.dict,H1,rfl,I.os,I.bare,Un.hide (Z:=ea::frs X.stack) I.base hzl hkeep ?_,I.hok.hide (Z:=ea::frs X.stack) ?_ hkeep,?_,hE⟩
 ·intro b hb o e
  have hm:b∈frs X.stack:=by rw[hst]; exact List.mem_cons_of_mem _ hb
  obtain⟨_,o',ho',hnf⟩:=hff.mem hm
  rw[e] at ho'
  cases ho'
  exact k4 b o e hnf
 ·intro z hz
  rcases List.mem_cons.mp hz with rfl | hz
  ·exact hea
  ·exact I.stkFree z hz
 ·refine Zalv (l:=X.stack) (Z:=ea::frs X.stack) I.hok (fun z hz hf hne=>?_) hea hen hff k4 (fun b o e=>I.base.there b o e (by intro z; cases z)) k3 (fun o q=>dk.at he q)
  rcases List.mem_cons.mp hz with z | z
  ·exact absurd z hne
  ·exact absurd z hf
theorem Zabp:Zafw (CX1 P w) (cxOf (CX1 P w) P w K mg base N qual scope f cd A outer s H E) E:=by
 intro pins σ H1 s1 e s' I hcx
 obtain⟨ea,cls,od,H',rfl,os',bare',un',hok',hfly,hE⟩:=hcx
 let X:=cxOf (CX1 P w) P w K mg base N qual scope f cd A outer s H E
 have J:Inv X pins σ H' s':=I.call' (ch:=[]) os' un' hok' bare' fun b z=>absurd z (by simp)
 obtain⟨a0,T,oe,oT,vs,ts,⟨f1,f2,f3,f4⟩,he,⟨hc,hod⟩,hd,hv1,hTe,hT,hdT,h3⟩:=hfly
 have hst:frs X.stack=X.env.locals::X.fs:=Zalg X rfl rfl
 have hfr:X.A.frames=some (X.env::outer):=J.ok.frames
 have hff:s'.heap.FunFrames X.base X.stack:=J.stack
 have h01:∀ b o,X.s₀.heap.get? b=some o->∃ o',s1.heap.get? b=some o':=fun b o e=>I.base.there b o e (by intro z; cases z)
 have n0:∀ z,s1.heap.get? z=none->X.s₀.heap.get? z=none:=fun z e=>by
  cases q:X.s₀.heap.get? z with
  | none=>rfl
  | some o=>obtain⟨o',y⟩:=h01 z o q; rw[e] at y; cases y
 let Z:=ea::T::frs X.stack
 have hB:∀ b∈frs X.stack,(hideL s'.heap Z).get? b=none:=fun b hb=>ZaaO (List.mem_cons_of_mem _ (List.mem_cons_of_mem _ hb))
 refine Zab3 Zadw (wpAny_leaves_onW (base:=hideL s'.heap Z) hfr rfl ⟨ZabO,ZaaO List.mem_cons_self,Zabj hff hB,⟨oe,vs,T,oT,ts,he,hc,hd,hv1,ZaaO (List.mem_cons_of_mem _ List.mem_cons_self),hTe,hT,hdT,h3⟩⟩ fun h' hL k4 dk=>?_)
 obtain⟨k1,k2,k2',k3⟩:=hL
 have hkeep:∀ b o,s'.heap.get? b=some o->b ∉ Z->h'.get? b=some o:=fun b o e n=>k1 b o (by rw[ZabP n]; exact e)
 have hloc:X.s₀.heap.get? X.env.locals=none:=Heap.get?_none_of_le J.ok.above
 have hzl:∀ z∈Z,z∈frs outer∨X.s₀.heap.get? z=none:=fun z hz=>by
  rcases List.mem_cons.mp hz with rfl | hz
  ·exact .inr (n0 _ f3)
  ·rcases List.mem_cons.mp hz with rfl | hz
   ·exact .inr (n0 _ f4)
   ·rw[hst] at hz
    rcases List.mem_cons.mp hz with rfl | hz
    ·exact .inr hloc
    ·exact .inl hz
 refine⟨ea,cls,od,H',rfl,J.os,J.bare,Un.hide (Z:=Z) J.base hzl hkeep ?_,J.hok.hide (Z:=Z) ?_ hkeep,?_,hE⟩
 ·intro b hb o e
  have hm:b∈frs X.stack:=by rw[hst]; exact List.mem_cons_of_mem _ hb
  obtain⟨_,o',ho',hnf⟩:=hff.mem hm
  rw[e] at ho'
  cases ho'
  exact k4 b o e hnf
 ·intro z hz
  rcases List.mem_cons.mp hz with rfl | hz
  ·exact f1
  ·rcases List.mem_cons.mp hz with rfl | hz
   ·exact f2
   ·exact J.stkFree z hz
 ·refine Zalv (l:=X.stack) (Z:=Z) J.hok (fun z hz hf hne=>?_) f1 (n0 _ f3) hff k4 (fun b o e=>J.base.there b o e (by intro z; cases z)) k3 (fun o q=>(dk.at he q).trans hod)
  rcases List.mem_cons.mp hz with z | z
  ·exact absurd z hne
  ·rcases List.mem_cons.mp z with rfl | z
   ·exact⟨f2,n0 _ f4⟩
   ·exact absurd z hf
end
end L2
namespace L2
open PySem PySem.Spec PyProof.Rows PySem.W
section
variable {prog:Program}{w:World}{A:Around}{E:Value->Shared->Prop}{s:Shared}{K:Frag}{x C D:Addr}{ox:Obj}
theorem Zaj3 {M:Model}{h:Heap}{n:Str}{a g:Value} (X:K.In h) (ha:findIn K (.ref D) n=some (some a)) (hg:specialIn K a "__get__"=some (some g)) (ht:takesIn K a=some true):Looks M h (Builtin.ObjectAttr.find (.ref x) (.ref D) n) (.bind g a):=by
 have L1:=looks_findIn (M:=M) X ha
 have L2:Looks M h (Builtin.ObjectAttr.getOf (some a)) (some g):=looks_specialIn X hg
 have L3:Looks M h (Builtin.ObjectAttr.dataDescriptor? (some a) (some g)) (some (g,a)):=(looks_takesIn X ht).andThen .now
 exact L1.andThen (L2.andThen (L3.andThen (Looks.tag .now)))
theorem Zaly {tp : Value} {R : Result → Shared → Prop} (X : K.In s.heap) (LT : Looks (model prog w) s.heap (typeOf (.ref x)) (.ref C)) (hm : mroIn K C (.type "object") = some true)
  (h:R (.ok (.ret (.ref C))) s):codeAny (model prog w) A (.call (.builtin "getset_descriptor.__get__") ⟨[.builtin "object.__class__",.ref x,tp],[]⟩) R s:=by
 have L1:=looks_mroIn (M:=model prog w) X hm
 obtain⟨hh,g,dr,t,os⟩:=s
 refine codeAny_call_builtin KF.slot_gs.plain KF.entry_gs (KF.slot_gs.check _ _ _ _ _ _ _ _ KF.type_class (KF.args_gs _ _ _) (?_))
 unfold Builtin.«getset_descriptor.__get__»
 unfold Builtin.Getset_descriptor.descrGet
 rw[dga_obj]
 refine wpAny_bind (wpAny_pure ?_)
 unfold Builtin.Getset_descriptor.descrGetter
 unfold Builtin.Getset_descriptor.descrCheckInstance
 unfold Builtin.Getset_descriptor.descrNameAndClass isInstance
 simp only[KF.owner_class]
 repeat lk
 refine⟨Code.quiet_builtin _ (by decide +kernel),(codeAny_builtin KF.entry_class ?_)⟩
 unfold Builtin.«object.__class__»
 unfold shownTypeOf
 repeat lk
 exact h
theorem ZahZ {tk : Tok} {Q : Fin → Shared → Prop} (X : K.In s.heap) (L0 : Looks (model prog w) s.heap (typeOf (.ref x)) (.ref D)) (L1 : Looks (model prog w) s.heap (Builtin.ObjectAttr.find (.ref x) (.ref D) "__class__") (.bind (.builtin "getset_descriptor.__get__") (.builtin "object.__class__"))) (hm : mroIn K D (.type "object") = some true)
  (hq:Q (.done (.ret (.ref D))) s):wpAny (model prog w) A (Builtin.«object.__getattribute__» ⟨[.ref x,.str "__class__" tk],[]⟩) Q E s:=by
 obtain⟨hh,gg,d,t,os⟩:=s
 unfold Builtin.«object.__getattribute__»
 refine wpAny_bind (wpAny_pure (wpAny_bind (wpAny_pure (wpAny_bind (L0.at (wpAny_bind (L1.at ?_)))))))
 dsimp only
 unfold Builtin.ObjectAttr.bindTo
 dsimp only
 refine wpAny_bind (wpAny_holding (wpAny_call (Zaly X L0 hm ?_)))
 exact wpAny_pure hq
theorem Zah0 {Q : Option Value → Shared → Prop} (X : K.In s.heap) (L0 : Looks (model prog w) s.heap (typeOf (.ref x)) (.ref D)) (hga : findIn K (.ref D) "__getattribute__" = some (some (.builtin "BaseException.__getattribute__"))) (hk : findIn K (.ref D) "__getattr__" = some none) (hbx : mroIn K D (.type "BaseException") = some true)
   (hf:Looks (model prog w) s.heap (Builtin.ObjectAttr.find (.ref x) (.ref D) "__class__") (.bind (.builtin "getset_descriptor.__get__") (.builtin "object.__class__"))) (hm:mroIn K D (.type "object")=some true)
   (h:Q (some (.ref D)) { s with toks:=s.toks+1 }):wpAny (model prog w) A (getAttr? (.ref x) "__class__") Q E s:=by
  obtain⟨hh,g,d,t,os⟩:=s
  have L1:=looks_findIn (M:=model prog w) X hga
  have L2:=looks_findIn (M:=model prog w) X hk
  have L3:=looks_mroIn (M:=model prog w) X hbx
  unfold getAttr? getAttrBy? getAttrBy
  refine wpAny_bind (wpAny_mkText (wpAny_bind (wpAny_attempt (wpAny_holding (wpAny_bind (L0.at (wpAny_bind (L1.at (?_)))))))))
  have hx2:(Value.builtin "BaseException.__getattribute__" == Value.builtin "object.__getattribute__")=false:=by decide +kernel
  dsimp only
  rw[hx2,Bool.and_false,if_neg Bool.false_ne_true]
  unfold getAttrByItsOwn hookBefore onTheHeap
  dsimp only
  rw[if_pos rfl]
  refine wpAny_bind (L2.at (wpAny_bind (wpAny_attempt (wpAny_holding ?_))))
  unfold callGetattribute boundAndCalled onTheHeap
  dsimp only
  rw[Bool.and_false,if_neg Bool.false_ne_true]
  have f3:=F.attr_ValueError.ga.bind (.ref x)
  refine wpAny_bind (wpAny_of_eq f3 ?_)
  refine wpAny_call (codeAny_call_builtin F.attr_ValueError.ga.plain F.entry_bexc_ga ?_)
  have hk1:builtinKind "BaseException.__getattribute__"=some .slot:=by decide +kernel
  have hs1:splitId "BaseException.__getattribute__"=some ("BaseException","__getattribute__"):=by decide +kernel
  have ha:=F.args_bexc_ga (.ref x) (.str "__class__" t)
  simp only[checkBuiltinCall,hk1,hs1]
  refine wpAny_bind ?_
  unfold isInstance
  refine wpAny_bind (L0.at ?_)
  refine L3.at ?_
  rw[if_neg (by decide)]
  repeat (first | assumption | refine ZahZ X L0 hf hm ?_ | wp_step)
def ZacB (K:Frag) (C:Addr):Bool:=findIn K (.ref C) "__getattribute__" == some (some (.builtin "BaseException.__getattribute__")) && (findIn K (.ref C) "__getattr__" == some none &&
 (findIn K (.ref C) "__class__" == some (some (.builtin "object.__class__")) && (mroIn K C (.type "object") == some true && (mroIn K C (.type "BaseException") == some true && ((clsIn K C).isSome &&
 (specialIn K (.builtin "object.__class__") "__get__" == some (some (.builtin "getset_descriptor.__get__")) && takesIn K (.builtin "object.__class__") == some true))))))
def excAll (K:Frag) (C:Addr):Bool:=excIn K C [.type "ValueError",.type "Exception",.type "BaseException",.type "object"] "ValueError.__new__" && ZacB K C
theorem excAll.rest {K:Frag}{C:Addr} (z:excAll K C=true):ZacB K C=true:=by
 simp only[excAll,Bool.and_eq_true] at z
 exact z.2
def ExcAt (ea C:Addr) (od:Option Addr) (h:Heap):Prop:=∃ oe,h.get? ea=some oe/\oe.cls=.ref C/\oe.dict=od/\∃ vs,oe.data=.fields vs
theorem Zagw {ea C:Addr}{od:Option Addr} (z:ZacB K C=true):KitX K (.ref ea) (.ref C) (ExcAt ea C od):=by
 simp only[ZacB,Bool.and_eq_true,beq_iff_eq] at z
 obtain⟨z2,z3,z4,z5,z6,z7,z8,z9⟩:=z
 have inst:∀ {M:Model}{h:Heap},ExcAt ea C od h->Looks M h (typeOf (.ref ea)) (.ref C):=fun {M h} p=>by
  obtain⟨oe,e1,e2,_⟩:=p
  rw[<- e2]
  exact (Looks.ld e1).andThen .now
 obtain⟨cd,hcd⟩:=Option.isSome_iff_exists.mp z7
 have lk:∃ o,K.lookup C=some o/\∃ cd,o.data=.cls cd:=by
  unfold clsIn at hcd
  split at hcd
  ·rename_i c' d' cd' sl' ho
   exact⟨_,ho,cd',rfl⟩
  ·cases hcd
 obtain⟨oC,hlk,cdd,hdat⟩:=lk
 refine⟨fun M h X p=>inst p,fun M h X p=>?_,fun h tp dd its n sl X htp=>?_,fun X p k=>Zah0 X (inst p) z2 z3 z6 (Zaj3 X z4 z8 z9) z5 k⟩
 ·intro A' Q' E' s' k q
  unfold isType loadHead
  refine wpAny_bind (wpAny_loadPart (k _ _ (X _ _ hlk)) ?_)
  obtain⟨_,_,dt,_⟩:=oC
  dsimp only at hdat
  subst hdat
  exact wpAny_pure q
 ·refine Bool.eq_false_iff.mpr fun q=>?_
  have e:C=tp:=Value.ref.inj (beq_iff_eq.mp q)
  subst e
  rw[X _ _ hlk] at htp
  cases htp
  cases hdat
end
section
variable {X:Cx}
def isExc (ea C:Addr) (od:Option Addr:=none):HO:=.ext (ExcAt ea C od)
theorem ZagI {H:Hp}{P:Program}{w:World}{h:Heap}{ea C:Addr}{od:Option Addr} (x:HOk P w H h) (e:H ea=some (isExc ea C od)):ExcAt ea C od h:=(show ObjOk P w H h ea (isExc ea C od) from x _ _ e).1
theorem ZadC:CallR X (.builtin "isinstance") (fun xs H Q=>∃ (ea C:Addr) (y:V) (c:Value) (b:Bool),xs=[.ref ea,y]/\(∃ od,H ea=some (isExc ea C od))/\ZacB X.K C=true/\(y=.ty "ValueError"/\c=.type "ValueError"∨∃ D,y=.ref D/\c=.ref D)/\kitOne X.K (.ref C) c=some b/\Q (.bl b) H):=by
 intro pins s σ H xs us Q I r h
 obtain⟨ea,C,y,c,b,rfl,⟨od,he⟩,hz,hy,hk,q⟩:=h
 obtain⟨u,u2,rfl,r1,r2⟩:=vals2 r
 cases r1
 have hc:u2=c:=by
  rcases hy with ⟨rfl,rfl⟩ | ⟨D,rfl,rfl⟩
  ·exact r2
  ·exact r2
 subst hc
 exact kia_one (Zagw hz) I.kIn (ZagI I.hok he) hk (fun z=>nomatch z) fun tk=>⟨.bl b,H,I.tok _,rfl,q⟩
theorem ZaaX:CallR X (.builtin "isinstance") (fun xs H Q=>∃ (ea C:Addr) (y:V) (c:Value) (b:Bool),xs=[.ref ea,y]/\H ea=some (isExc ea C)/\excAll X.K C=true/\(y=.ty "ValueError"/\c=.type "ValueError"∨∃ D,y=.ref D/\c=.ref D)/\kitOne X.K (.ref C) c=some b/\Q (.bl b) H) :=
 fun pins s σ H xs us Q I r ⟨ea,C,y,c,b,ex,he,hz,q⟩=>ZadC pins s σ H xs us Q I r ⟨ea,C,y,c,b,ex,⟨none,he⟩,(excAll.rest hz),q⟩
theorem ZaeQ:∀ {cs:List Addr}{its:List Value},Vals (cs.map V.ref) its->its=cs.map Value.ref
 | [],_,r=>by cases r; rfl
 | c::cs,_,r=>by
  cases r with
  | cons r1 r2=>
   rw[ZaeQ r2]
   cases (show _=Value.ref c from r1)
   rfl
theorem Zac5:CallR X (.builtin "isinstance") (fun xs H Q=>∃ (ea C tp:Addr) (cs:List Addr) (b:Bool),xs=[.ref ea,.ref tp]/\(∃ od,H ea=some (isExc ea C od))/\ZacB X.K C=true/\H tp=some (.tup (cs.map V.ref))/\kitAny X.K (.ref C) (cs.map Value.ref)=some b/\Q (.bl b) H):=by
 intro pins s σ H xs us Q I r h
 obtain⟨ea,C,tp,cs,b,rfl,⟨od,he⟩,hz,htp,hk,q⟩:=h
 obtain⟨u,u2,rfl,r1,r2⟩:=vals2 r
 cases r1
 cases r2
 obtain⟨_,its,rv,⟨oc,od,oa,osl⟩,h1,h2,h3,n,h4⟩:=(show ObjOk X.prog X.w H s.heap tp (.tup (cs.map V.ref)) from I.hok tp _ htp)
 dsimp only at h2 h3 h4
 subst h2; subst h3; subst h4
 rw[ZaeQ rv] at h1
 exact kia_tup (Zagw hz) I.kIn (ZagI I.hok he) h1 hk (fun z=>nomatch z) fun tk=>⟨.bl b,H,I.tok _,rfl,q⟩
theorem ZadB:CallR X (.builtin "isinstance") (fun xs H Q=>∃ (ea C tp:Addr) (cs:List Addr) (b:Bool),xs=[.ref ea,.ref tp]/\H ea=some (isExc ea C)/\excAll X.K C=true/\H tp=some (.tup (cs.map V.ref))/\kitAny X.K (.ref C) (cs.map Value.ref)=some b/\Q (.bl b) H) :=
 fun pins s σ H xs us Q I r ⟨ea,C,tp,cs,b,ex,he,hz,q⟩=>Zac5 pins s σ H xs us Q I r ⟨ea,C,tp,cs,b,ex,⟨none,he⟩,(excAll.rest hz),q⟩
end
end L2
namespace L2
open PySem PySem.Spec PyProof.Rows PySem.W
section
variable {P:Program}{w:World}{K:PySem.W.Frag}{mg:Str->Option Value}{base:Heap}
theorem Fun.okE {x qual : Str} {st : Stmt} {f : Addr} {fd : FuncData} {N ps : List Str} {k : Nat} {sp : Sp} (F : Fun K x qual st f fd) (S : FnScope N ps (Zaac st)) (len : ∀ vs H Q E, sp vs H Q E → vs.length = ps.length)
  (hbody:∀ (cdv:Value) (A:Around) (outer:List Env) (s:Shared) (H:Hp) (vs:List V) (Q:VK) (E:XK),Room k (A.deeper (envOfC qual (Zaac st) s.heap.objs.size f cdv))->sp vs H Q E ->
   ∃ t,PSs (cxOf (CX1 P w) P w K mg base N qual (Zaac st) f cdv A outer s H E) (Zaai st) t/\t { nx:=fun _ H'=>Q .non H',rt:=Q } (start N vs) H):FnOk P w K mg base (CX1 P w) (k+1) f fd ps sp:=by
 obtain⟨oc,od,kV,doc,pm,an,cdv,ct,osl,rfl,lk,hcd⟩:=F.ex
 exact fn_of lk hcd S len fun A outer s H vs Q E hr hsp=>hbody cdv A outer s H vs Q E hr hsp
theorem _root_.Lv.FunD.okE {x qual : Str} {st : Stmt} {f da : Addr} {fd : FuncData} {N ps : List Str} {k : Nat} {sp : Sp} (F : Lv.FunD K x qual st f da fd) (S : FnScope N ps (Zaac st)) (len : ∀ vs H Q E, sp vs H Q E → vs.length = ps.length)
  (hbody:∀ (cdv:Value) (A:Around) (outer:List Env) (s:Shared) (H:Hp) (vs:List V) (Q:VK) (E:XK),Room k (A.deeper (envOfC qual (Zaac st) s.heap.objs.size f cdv))->sp vs H Q E ->
   ∃ t,PSs (cxOf (CX1 P w) P w K mg base N qual (Zaac st) f cdv A outer s H E) (Zaai st) t/\t { nx:=fun _ H'=>Q .non H',rt:=Q } (start N vs) H):FnOk P w K mg base (CX1 P w) (k+1) f fd ps sp:=by
 obtain⟨oc,od,kV,doc,pm,an,cdv,ct,osl,rfl,lk,hcd⟩:=F.ex
 exact fn_of lk hcd S len fun A outer s H vs Q E hr hsp=>hbody cdv A outer s H vs Q E hr hsp
theorem FnOk.toE {k:Nat}{f:Addr}{fd:FuncData}{ps:List Str}{sp:Sp} (F:FnOk P w K mg base CX0 k f fd ps sp):FnOk P w K mg base (CX1 P w) k f fd ps sp :=
 ⟨F.len,fun A outer s H args us vs Q E hr he hb hv hs=>codeAny_mono (F.run A outer s H args us vs Q E hr he hb hv hs) fun r s' q=>by
  cases r with
  | error e=>exact q.elim
  | ok fl=>cases fl <;> exact q⟩
end
structure CalE (P:Program) (w:World) (K:PySem.W.Frag) (mg:Str->Option Value) (base:Heap) (k:Nat) (x:Str) (ps:List Str) (dvs:List V) (sp:Sp) (f:Addr) (fd:FuncData):Prop where
 ok:FnOk P w K mg base (CX1 P w) k f fd ps sp
 mg:mg x=some (.ref f)
 kp:PySem.W.keepIn K (.ref f)=true
 bd:∃ ds,Binds K fd ps ds/\Vals dvs ds
section
variable {X:Cx}
theorem Zabg {k : Nat} {x : Str} {ps : List Str} {dvs : List V} {sp : Sp} {f : Addr} {fd : FuncData} {e : Expr} {es : List Expr} {t : TA} {p pos : Pos} {E : XK} (C : CalE X.prog X.w X.K X.mg X.base k x ps dvs sp f fd) (hr : Room k X.A) (hx : Zafw (CX1 X.prog X.w) X E) (hg : Gl X x) (ha : PA X (e :: es) t)
  (hdb:(x == ("__debug__":Str))=false:=by decide) (he:starEach (e::es) X.env=(false,eval e X.env)::starEach es X.env:=by rfl) (hpl:(backTo pos (starEach es X.env)).any (·.1)=false:=by rfl) :
  PE X (.Call (.Name x p) (e::es) [] pos) (tCall sp dvs E t):=by
 obtain⟨ds,h1,h2⟩:=C.bd
 exact Zagf C.ok hr hg C.mg C.kp h1 h2 hx ha hdb he hpl
inductive FParts (X:Cx):List Expr->List TE->Prop
 | nil:FParts X [] []
 | con {x:Str}{j pos}{es:List Expr}{ts:List TE} (h:x.length<=1000) (r:FParts X es ts):FParts X (.Constant (.str x) j pos::es) ts
 | val {v:Expr}{t:TE}{pos:Pos}{es:List Expr}{ts:List TE} (h:PE X v t) (r:FParts X es ts):FParts X (.FormattedValue v (-1) none pos::es) (t::ts)
def tFs:List TE->TE
 | []=>fun _ H Q=>∀ x:Str,Q (.str x) H
 | t::r=>fun σ H Q=>t σ H fun v H1=>∃ i:Int,v=.int i/\i.natAbs.log2<1920/\(Str.ofString (toString i)).length<=1000/\tFs r σ H1 Q
theorem Zad7 {pins:List (Addr × Obj)}{σ:St}:∀ {es:List Expr}{ts:List TE},FParts X es ts->∀ (acc:Str) (s:Shared) (H:Hp) (Q:VK) (R:Str->Shared->Prop),es.length<=50->acc.length+es.length*1000<=100000->Inv X pins σ H s->tFs ts σ H Q->(∀ x s' H',x.length<=100000->Inv X pins σ H' s'->(∀ y:Str,Q (.str y) H')->R x s')->Joins (model X.prog X.w) X.A X.xe (evalEach es X.env) acc R s
 | _,_,.nil,acc,s,H,Q,R,h50,hl,I,h,k=>k acc s H (by simpa using hl) I h
 | _,_,.con (x:=x) (es:=es) hx r,acc,s,H,Q,R,h50,hl,I,h,k=>by
  have hz:100000<sizeLine:=by decide
  have hl:acc.length+(es.length+1)*1000<=100000:=hl
  have ha:(acc++x).length=acc.length+x.length:=strLen_append ..
  refine Calls.Constant_str ⟨x,_,rfl,by omega,?_⟩
  exact Zad7 r _ _ H Q R (by simpa using Nat.le_of_succ_le h50) (by omega) (I.tok _) h k
 | _,_,.val (v:=v) (t:=t) (es:=es) (ts:=ts) hv r,acc,s,H,Q,R,h50,hl,I,h,k=>by
  have hz:100000<sizeLine:=by decide
  have hl:acc.length+(es.length+1)*1000<=100000:=hl
  refine wpAny_FormattedValue_plain (thn (hv pins s σ H _ I h) fun u s1 ⟨y,H1,I1,r1,q1⟩=>?_)
  obtain⟨i,rfl,hd,hlen,q⟩:=q1
  obtain⟨tk,rfl⟩:=r1
  refine wpAny_formatField_int hd ?_
  have ha:(acc++Str.ofString (toString i)).length=acc.length+(Str.ofString (toString i)).length:=strLen_append ..
  refine⟨_,_,rfl,by omega,?_⟩
  exact Zad7 r _ _ H1 Q R (by simpa using Nat.le_of_succ_le h50) (by omega) ((I1.tok _).tok _) q k
theorem Zage {v1 v2:Expr}{rest:List Expr}{ts:List TE}{pos:Pos} (h:FParts X (v1::v2::rest) ts) (hl:(v1::v2::rest).length<=50:=by decide):PE X (.JoinedStr (v1::v2::rest) pos) (tFs ts):=by
 intro pins s σ H Q I hq
 have hz:100000<sizeLine:=by decide
 have e0:Str.empty.length=0:=rfl
 refine wpAny_JoinedStr (Zad7 h _ _ H Q _ hl (by rw[e0]; omega) I hq fun x s' H' hx I' k=>?_)
 exact⟨by omega,.str x,H',I'.tok _,⟨_,rfl⟩,k x⟩
theorem Zalx {K : Frag} {h : Heap} {C : Addr} {bmB : List Value} {newId : String} (X : K.In h) (q : excIn K C bmB newId = true) : ∃ bm N nm qn bs hd sn sub ab col dd k0 k1 k2 k3 k5 mN,
  h.get? C=some (excClassObj nm qn C N bs bm hd sn sub ab col dd k0 k1 k2 k3 k5 newId)/\h.Ns N mN/\mN "__init__"=none/\OwnTail h bmB bm:=by
 unfold excIn at q
 split at q
 ·rename_i dd cd sl lk
  split at q
  ·rename_i C1 bm k0 k1 k2 k3 n1 k5 e1 e2
   simp only[Bool.and_eq_true,beq_iff_eq,Bool.not_eq_true'] at q
   obtain⟨⟨⟨⟨⟨c1,c2⟩,c3⟩,c4⟩,c5⟩,c6⟩:=q
   obtain⟨nm,bs,mro,ns,qn,hd,sn,sub,ab,col,del⟩:=cd
   obtain⟨ls⟩:=sl
   dsimp only at e1 e2 c3 c5 c6
   subst c1 c2 c3 e1 e2
   refine⟨bm,ns,nm,qn,bs,hd,sn,sub,ab,col,dd,k0,k1,k2,k3,k5,_,X _ _ lk,.of_isNs (isNs_of_in X c5),nsMap_none_of_in X c5 c6,tail_of_in X c4⟩
  ·cases q
 ·cases q
def ZalN (C:Addr) (E:XK) (t:TA):TS:=fun _ σ H=>t σ H fun vs H1=>vs.length<=1000/\E (.ref C) none H1
theorem ZadX {E : XK} {x : Str} {C : Addr} {e0 : Expr} {rest : List Expr} {t : TA} {np cpos pos : Pos} (hT : Takes X E) (hg : Gl X x) (hm : X.mg x = some (.ref C)) (hz : excAll X.K C = true) (ha : PA X (e0 :: rest) t) (hc : X.calm = true := by rfl) (hex : X.ex = [] := by rfl)
  (he:starEach (e0::rest) X.env=(false,eval e0 X.env)::starEach rest X.env:=by rfl) (hpl:(backTo cpos (starEach rest X.env)).any (·.1)=false:=by rfl) (hd:(x == ("__debug__":Str))=false:=by decide) :
  PS X (.Raise (some (.Call (.Name x np) (e0::rest) [] cpos)) none pos) (ZalN C E t):=by
 intro pins s σ H D I h
 have hin:excIn X.K C [.type "ValueError",.type "Exception",.type "BaseException",.type "object"] "ValueError.__new__"=true:=by
  simp only[excAll,Bool.and_eq_true] at hz
  exact hz.1
 obtain⟨bm,N,nm,qn,bs,hd',sn,sub,ab,col,dd,k0,k1,k2,k3,k5,mN,hC,hN,hni,hT2⟩:=Zalx I.ok.mod.kin hin
 refine wpAny_Raise_call_subT (C:=C) (nm:=nm) (q:=qn) (N:=N) (bs:=bs) (bm:=bm) (hdct:=hd') (sn:=sn) (sub:=sub) (ab:=ab) (col:=col) (dd:=dd) (k0:=k0) (k1:=k1) (k2:=k2) (k3:=k3) (k5:=k5) (newId:="ValueError.__new__")
  PySem.F.excBase_ValueError (mN:=mN) (hT2.hasType PySem.F.excBase_ValueError.hasBase) (I.ok.hd hc) (by rw[he]; show (false || (backTo cpos (starEach rest X.env)).any (·.1))=false; rw[hpl]; rfl) hni (ZaeG I hg hm ⟨rfl,?_⟩ hd)
 have hA:=ha cpos pins s σ H _ I h
 rw[he] at hA ⊢
 refine Calls.evalArgs_plain (wpAny_mono hA (fun us s2 h2=>?_) fun _ _ y=>y)
 obtain⟨vs,H1,I1,rv,hlen,hE⟩:=h2
 have hz2:100000<sizeLine:=by decide
 have hus:=rv.length
 refine⟨rfl,by show us.length<=sizeLine; omega,I1.bk _ _ hC,hN.keeps I1.bk,hT2.keeps I1.bk,fun h' e hm=>?_⟩
 obtain⟨tt,ht,_,_⟩:=hm.there
 refine hT pins σ H1 { s2 with heap:=h' } e _ _ _ (I1.kept (t':=s2.toks) hm.keeps) ?_ ?_ ht rfl rfl rfl hE
 ·exact I1.hok.none_of hm.new
 ·cases q:X.s₀.heap.get? e with
  | none=>rfl
  | some o=>
   obtain⟨o',z⟩:=I1.base.there e o q (by rw[hex]; intro y; cases y)
   rw[hm.new] at z
   cases z
end
abbrev Cx.inTry (X:Cx) (pn':List (Addr × Obj)) (xe':Value->Shared->Prop):Cx:={ X with pn:=pn',xe:=xe' }
abbrev Cx.inSuite (X:Cx) (ea:Addr):Cx:={ X with A:=X.A.mark (some (.ref ea)),calm:=false,xe:=fun _ _=>False }
section
variable {X:Cx}{pins:List (Addr × Obj)}{σ:St}{H:Hp}{s:Shared}
theorem Cx.Ok.inTry (ok:X.Ok) (pn':List (Addr × Obj)) (xe':Value->Shared->Prop):(X.inTry pn' xe').Ok :=
 ⟨ok.mod,ok.kind,ok.glob,ok.blt,ok.above,ok.inj,ok.has,ok.cab,ok.hd,ok.frames,ok.stk,ok.exf,ok.bs,ok.bsz,ok.noex,ok.exfs,ok.funs,ok.frf⟩
theorem Cx.Ok.outTry {pn':List (Addr × Obj)}{xe':Value->Shared->Prop} (ok:(X.inTry pn' xe').Ok):X.Ok :=
 ⟨ok.mod,ok.kind,ok.glob,ok.blt,ok.above,ok.inj,ok.has,ok.cab,ok.hd,ok.frames,ok.stk,ok.exf,ok.bs,ok.bsz,ok.noex,ok.exfs,ok.funs,ok.frf⟩
theorem Cx.Ok.inSuite (ok:X.Ok) (ea:Addr):(X.inSuite ea).Ok :=
 ⟨ok.mod,ok.kind,ok.glob,ok.blt,ok.above,ok.inj,ok.has,ok.cab,fun z=>Bool.noConfusion z,ok.frames,ok.stk,ok.exf,ok.bs,ok.bsz,ok.noex,ok.exfs,ok.funs,ok.frf⟩
theorem Inv.inTry (I:Inv X pins σ H s) (xe':Value->Shared->Prop):Inv (X.inTry (X.pn++pins) xe') [] σ H s :=
 ⟨I.ok.inTry _ _,I.os,I.bare,I.base,I.loc,I.cell,I.free,I.freeC,fun p hp=>I.pin p (by simpa using hp),I.hok,I.len⟩
theorem Inv.outTry {xe':Value->Shared->Prop}{q:List (Addr × Obj)} (I:Inv (X.inTry (X.pn++pins) xe') q σ H s):Inv X pins σ H s :=
 ⟨I.ok.outTry,I.os,I.bare,I.base,I.loc,I.cell,I.free,I.freeC,fun p hp=>I.pin p (List.mem_append_left _ hp),I.hok,I.len⟩
theorem Inv.inSuite (I:Inv X pins σ H s) (ea:Addr):Inv (X.inSuite ea) pins σ H s :=
 ⟨I.ok.inSuite _,I.os,I.bare,I.base,I.loc,I.cell,I.free,I.freeC,I.pin,I.hok,I.len⟩
theorem Inv.outSuite {ea:Addr} (ok:X.Ok) (I:Inv (X.inSuite ea) pins σ H s):Inv X pins σ H s :=
 ⟨ok,I.os,I.bare,I.base,I.loc,I.cell,I.free,I.freeC,I.pin,I.hok,I.len⟩
theorem Un.ext {fs ex:List Addr}{H H':Hp}{h h':Heap}{ea:Addr}{o:HO} (u:Un fs ex H H' h h') (h1:H' ea=none) (h2:h.get? ea=none):Un fs ex H (upd H' ea o) h h' where
 keep:=u.keep
 slot:=u.slot
 free:=fun b ob e n hx=>by rw[Zaaf (fun z=>by rw[z,h2] at e; cases e)]; exact u.free b ob e n hx
 there:=u.there
 tups:=fun b xs e=>by rw[Zaaf (Zaad (u.tups b xs e) h1)]; exact u.tups b xs e
 frzs:=fun b ob xs e=>by rw[Zaaf (Zaad (u.frzs b ob xs e) h1)]; exact u.frzs b ob xs e
 tbls:=fun b ps e=>by
  obtain⟨more,q⟩:=u.tbls b ps e
  exact⟨more,by rw[Zaaf (Zaad q h1)]; exact q⟩
theorem HOk.ext {P:Program}{w:World}{H:Hp}{h:Heap}{ea C:Addr}{od:Option Addr} (x:HOk P w H h) (h1:H ea=none) (h2:ExcAt ea C od h):HOk P w (upd H ea (isExc ea C od)) h:=fun a o e=>by
 by_cases ha:a=ea
 ·subst ha
  rw[Zaab] at e
  cases e
  obtain⟨oe,e1,e2⟩:=h2
  exact⟨⟨oe,e1,e2⟩,⟨oe,e1⟩,fun g1 g2 ⟨o1,z1,z2⟩ k=>⟨o1,k _ z1,z2⟩⟩
 ·rw[Zaaf ha] at e
  exact (x a o e).stay (fun _ _ _ z=>z) (fun b z=>by rw[Zaaf (Zaad z h1)]; exact z) fun b xs z=>by rw[Zaaf (Zaad z h1)]; exact z
theorem ZabV {M : Model} {A : Around} {E : Value → Shared → Prop} {i : Nat} {x : Str} {pos : Pos} {Q : Unit → Shared → Prop} (I : Inv X pins σ H s) (hN : X.N.Nodup) (hi : X.N[i]? = some x) (hx : X.env.scope.names.lookup x = some .local)
  (h:∀ s',Inv X pins (σ.set i none) H s'->Q () s'):wpAny M A (do bindName X.env x .none; unbindBehindTheSuite X.env x pos) Q E s:=by
 obtain⟨m,hn,hl⟩:=id I.loc
 have hcls:(X.env.scope.kind == .class || (X.env.scope.kind == .module && X.env.locals != X.env.globals))=false:=by rw[I.ok.kind]; rfl
 have cne:=I.cne
 obtain⟨oL,_,_,hoL,_⟩:=id hn
 refine wpAny_nameGoes_keeps hx hn hcls fun h' v hn' hs=>?_
 have far:∀ {b:Addr}{o:Obj},X.s₀.heap.get? b=some o->b≠X.env.locals:=fun e=>Nat.ne_of_lt (Nat.lt_of_lt_of_le (Heap.lt_size e) I.ok.above)
 refine h _ ⟨I.ok,I.os,I.bare,⟨fun b o e n hb hx=>(hs.2 b (far e)).trans (I.base.keep b o e n hb hx),fun b o e n hb hx=>?_,I.base.free,fun b o e hx=>?_,I.base.tups,I.base.frzs,I.base.tbls⟩,⟨_,hn',fun j y v' e1 e2 e3=>?_⟩,fun y c e=>?_,I.free,I.freeC,fun p hp=>?_,fun b ob e=>?_,by simpa using I.len⟩
 ·obtain⟨sl,q⟩:=I.base.slot b o e n hb hx
  exact⟨sl,(hs.2 b (far e)).trans q⟩
 ·obtain⟨o',q⟩:=I.base.there b o e hx
  exact⟨o',(hs.2 b (far e)).trans q⟩
 ·have hj : j ≠ i := fun z => by
   subst z
   rw[List.getElem?_set] at e2
   split at e2
   ·split at e2 <;> cases e2
   ·exact absurd rfl ‹¬ j=j›
  rw[List.getElem?_set_ne (Ne.symm hj)] at e2
  obtain⟨u',r',q⟩:=hl j y v' e1 e2 e3
  refine⟨u',r',?_⟩
  rcases q with ⟨k,q⟩ | ⟨k,c,q,z⟩
  ·have hy:y≠x:=fun z=>hj (Zad3 hN e1 (z ▸ hi))
   exact .inl ⟨k,by simp[hy,q]⟩
  ·exact .inr ⟨k,c,q,z.sameBut hs (cne y c q)⟩
 ·obtain⟨w',z⟩:=I.cell y c e
  exact⟨w',z.sameBut hs (cne y c e)⟩
 ·obtain⟨e,n,ne,nf,d⟩:=I.pin p hp
  exact⟨(hs.2 p.1 ne).trans e,n,ne,nf,d⟩
 ·refine (I.hok b ob e).stay (fun c w' hc q=>(hs.2 c ?_).trans q) (fun _ q=>q) fun _ _ q=>q
  rintro rfl
  rcases hc with rfl | hc
  ·rw[I.free] at e; cases e
  ·rw[I.free] at hc; cases hc
end
def Ends.without (D:Ends) (i:Nat):Ends:={ nx:=fun σ H=>D.nx (σ.set i none) H,rt:=D.rt,bk:=fun σ H=>D.bk (σ.set i none) H,ct:=fun σ H=>D.ct (σ.set i none) H }
def exTry (K:Frag) (n i:Nat) (c:Value) (ts:TS) (D:Ends):XK:=fun cls od H'=>∃ C:Addr,cls=.ref C/\exmOne K cls c=some true/\∀ ea,H' ea=none->ts (D.without i) ((List.replicate n none).set i (some (.ref ea))) (upd H' ea (isExc ea C od))
def tTry (K:Frag) (n i:Nat) (c:Value) (tb:XK->TS) (ts:TS):TS:=fun D σ H=>tb (exTry K n i c ts D) D σ H
section
variable {X:Cx}
theorem Zal2 {body : List Stmt} {b0 : Stmt} {suite : List Stmt} {cx n : Str} {c : Addr} {np hpos pos : Pos} {i : Nat} {tb : XK → TS} {ts : TS} (hN : X.N.Nodup) (hi : X.N[i]? = some n) (hx : X.env.scope.names.lookup n = some .local) (hg : Gl X cx) (hm : X.mg cx = some (.ref c))
  (hb:∀ (Ex:XK) (pn':List (Addr × Obj)) (xe':Value->Shared->Prop),Zafw (CX1 X.prog X.w) (X.inTry pn' xe') Ex->PSs (X.inTry pn' xe') body (tb Ex)) (hs:∀ ea:Addr,PSs (X.inSuite ea) (b0::suite) ts)
  (hst:X.stack=X.env::X.outer:=by rfl) (hf:X.env.frame=some X.env.locals:=by rfl) (hd:(cx == ("__debug__":Str))=false:=by decide) :
  PS X (.Try body [.ExceptHandler (some (.Name cx np)) (some n) (b0::suite) hpos] [] [] pos) (tTry X.K X.N.length i (.ref c) tb ts):=by
 intro pins s σ H D I h
 refine wpAny_Try_except (wpAny_mono (hb _ (X.pn++pins) _ ?_ [] s σ H D (I.inTry _) h) (fun f s1 q=>?_) fun _ _ z=>z)
 ·intro pins2 σ2 H2 s2 e s2' J hcx
  obtain⟨ea,cls,od,H',rfl,os',bare',un',hok',⟨a0,T,oe,oT,vs,ts',⟨f1,f2,f3,f4⟩,he,⟨hc,hod⟩,hdd,hv1,hTe,hT,hdT,h3⟩,C,rfl,hex,hrd⟩:=hcx
  have J1:Inv (X.inTry (X.pn++pins) _) pins2 σ2 H' s2':=J.call' (ch:=[]) os' un' hok' bare' fun b z=>absurd z (by simp)
  have hfr:X.A.frames=some (X.env::X.outer):=J.ok.frames.trans (by rw[<- hst])
  have hff:s2'.heap.FunFrames X.base X.stack:=J1.stack
  let Z:=ea::T::frs X.stack
  have hB:∀ b∈frs X.stack,(hideL s2'.heap Z).get? b=none:=fun b hb=>ZaaO (List.mem_cons_of_mem _ (List.mem_cons_of_mem _ hb))
  have hff2:s2'.heap.FunFrames (hideL s2'.heap Z) (X.env::X.outer):=by rw[<- hst]; exact Zabj hff hB
  have at_:∀ h':Heap,Heap.FlyingW (hideL s2'.heap Z) (X.env::X.outer) ea (.ref C) a0 h'->s2'.heap.UpToSlots h'->DK s2'.heap h'->Inv (X.inSuite ea) pins (List.replicate X.N.length none) (upd H' ea (isExc ea C od)) { s2' with heap:=h' }:=fun h' hfl up dk=>by
   have hkeep:∀ b o,s2'.heap.get? b=some o->b ∉ Z->h'.get? b=some o:=fun b o e n=>hfl.1 b o (by rw[ZabP n]; exact e)
   have hzl:∀ z∈Z,z∈frs X.stack∨s2.heap.get? z=none:=fun z hz=>by
    rcases List.mem_cons.mp hz with rfl | hz
    ·exact .inr f3
    ·rcases List.mem_cons.mp hz with rfl | hz
     ·exact .inr f4
     ·exact .inl hz
   have hzn:∀ z∈Z,H' z=none:=fun z hz=>by
    rcases List.mem_cons.mp hz with rfl | hz
    ·exact f1
    ·rcases List.mem_cons.mp hz with rfl | hz
     ·exact f2
     ·exact J1.stkFree z hz
   have u2:Un (frs X.stack) [] H2 H' s2.heap h':=un'.hide hzl hkeep fun b hb o e=>by
    obtain⟨_,o',ho',hnf⟩:=hff.mem hb
    rw[e] at ho'
    cases ho'
    exact up b o e hnf
   have hx2:ExcAt ea C od h':=by
    obtain⟨ob,ws,q1,q2,q3,_⟩:=hfl.first
    exact⟨ob,q1,q2,(dk.at he q1).trans hod,ws,q3⟩
   have J2:Inv (X.inTry (X.pn++pins) _) pins2 σ2 (upd H' ea (isExc ea C od)) { s2' with heap:=h' }:=J.call' (ch:=[]) os' (u2.ext f1 f3) ((hok'.hide hzn hkeep).ext f1 hx2) bare' fun b z=>absurd z (by simp)
   have J3:Inv X pins σ2 (upd H' ea (isExc ea C od)) { s2' with heap:=h' }:=J2.outTry
   exact (J3.weak (σ':=List.replicate X.N.length none) (by rw[List.length_replicate]; exact J3.len.symm) fun j v z=>by
    rw[List.getElem?_replicate] at z
    split at z <;> cases z).inSuite ea
  have hX:X.Ok:=I.ok
  refine Zab3 Zacj (wpAny_looks_onW (base:=hideL s2'.heap Z) hfr hf ⟨ZabO,ZaaO List.mem_cons_self,hff2,⟨oe,vs,T,oT,ts',he,hc,hdd,hv1,ZaaO (List.mem_cons_of_mem _ List.mem_cons_self),hTe,hT,hdT,h3⟩⟩ fun h1 held up1 dk1=>?_)
  refine Zab3 Zabw (wpAny_landsW held fun h2 fly2 up2 dk2=>?_)
  have JS:=at_ h2 fly2 (up1.trans up2) (dk1.trans dk2)
  refine wpAny_handleBy_cons (codeAny_handlers_test ?_) (by intro q; cases q)
  refine ZaeG JS hg hm ?_ hd
  have LT:Looks (model X.prog X.w) h2 (typeOf (.ref ea)) (.ref C):=by
   obtain⟨ob,e1,e2⟩:=fly2.there
   rw[<- e2]
   exact (Looks.ld e1).andThen .now
  refine (exm_one JS.kIn LT hex).here ?_
  refine codeAny_handlers_suite_as (Zab3 Zabw (lands_againW fly2 fun h3' fly3 up3 dk3=>?_))
  have JS3:=at_ h3' fly3 ((up1.trans up2).trans up3) ((dk1.trans dk2).trans dk3)
  refine ZacM (X:=X.inSuite ea) JS3 hN hi (.inl hx) (v:=.ref ea) rfl (fun s4 J4=>?_) (.inr hx)
  refine wpAny_mono (hs ea pins s4 _ _ _ J4 (hrd ea f1)) (fun f s5 q=>?_) fun _ _ z=>False.elim z
  cases f with
  | next=>
   obtain⟨σ',H'',I',r⟩:=q
   exact ZabV (I'.outSuite hX) hN hi hx fun s6 I6=>⟨_,_,I6,r⟩
  | brk=>
   obtain⟨σ',H'',I',r⟩:=q
   exact ZabV (I'.outSuite hX) hN hi hx fun s6 I6=>⟨_,_,I6,r⟩
  | cont=>
   obtain⟨σ',H'',I',r⟩:=q
   exact ZabV (I'.outSuite hX) hN hi hx fun s6 I6=>⟨_,_,I6,r⟩
  | ret u=>
   obtain⟨v,σ',H'',I',rv,r⟩:=q
   exact ZabV (I'.outSuite hX) hN hi hx fun s6 I6=>⟨v,_,_,I6,rv,r⟩
 ·cases f with
  | next=>
   obtain⟨σ',H',I',r⟩:=q
   exact wpAny_execs_nil ⟨σ',H',I'.outTry,r⟩
  | brk=>obtain⟨σ',H',I',r⟩:=q; exact⟨σ',H',I'.outTry,r⟩
  | cont=>obtain⟨σ',H',I',r⟩:=q; exact⟨σ',H',I'.outTry,r⟩
  | ret u=>obtain⟨v,σ',H',I',rv,r⟩:=q; exact⟨v,σ',H',I'.outTry,rv,r⟩
end
end L2
namespace L2
open PySem PySem.Spec PyProof.Rows
def Zad2:Expr->Bool
 | .Starred ..=>false
 | _=>true
theorem Zadd {e:Expr}{es:List Expr}{env:Env} (h:Zad2 e=true):starEach (e::es) env=(false,eval e env)::starEach es env:=by
 cases e <;> first | rfl | (cases h)
structure WA (X:Cx) (es:List Expr) (t:TA):Prop where
 out:PA X es t
structure WS (X:Cx) (st:Stmt) (t:TS):Prop where
 out:PS X st t
structure WSs (X:Cx) (sts:List Stmt) (t:TS):Prop where
 out:PSs X sts t
section
variable {X:Cx}{st:Stmt}{rest a b:List Stmt}{t u:TS}{c e:Expr}{tc:TT}{pos:Pos}{es:List Expr}{te:TE}{ta:TA}
theorem Zaag (h1:WS X st t) (h2:WSs X rest u):WSs X (st::rest) (tSeq t u):=⟨Zaam h1.out h2.out⟩
theorem Zaan (h:WS X st t):WSs X [st] t:=⟨Zaar h.out⟩
theorem ZaaQ:WSs X [] tNext:=⟨Zabz⟩
theorem wss {sts:List Stmt} (h:PSs X sts t):WSs X sts t:=⟨h⟩
theorem ws_if (hc:PT X c tc) (ha:WSs X a t) (hb:WSs X b u):WS X (.If c a b pos) (tIfS tc t u):=⟨ps_if hc ha.out hb.out⟩
theorem ws (h:PS X st t):WS X st t:=⟨h⟩
theorem Zab4:WA X [] tNil:=⟨Zaae⟩
theorem Zaau (hn:Zad2 e=true) (ha:PE X e te) (hr:WA X es ta):WA X (e::es) (tCons te ta):=⟨Zaaa ha hr.out (Zadd hn)⟩
end
section
variable {P:Program}{w:World}{K:PySem.W.Frag}{mg:Str->Option Value}{base:Heap}
theorem okW {x qual : Str} {st : Stmt} {f : Addr} {fd : FuncData} {N ps : List Str} {k : Nat} {sp : Sp} (F : Fun K x qual st f fd) (S : FnScope N ps (Zaac st)) (len : ∀ vs H Q E, sp vs H Q E → vs.length = ps.length)
  (hbody:∀ (cdv:Value) (A:Around) (outer:List Env) (s:Shared) (H:Hp) (vs:List V) (Q:VK) (E:XK),Room k (A.deeper (envOfC qual (Zaac st) s.heap.objs.size f cdv))->sp vs H Q E ->
   ∃ t,WSs (cxOf CX0 P w K mg base N qual (Zaac st) f cdv A outer s H E).nox (Zaai st) t/\t { nx:=fun _ H'=>Q .non H',rt:=Q } (start N vs) H):FnOk P w K mg base CX0 (k+1) f fd ps sp :=
 F.ok S len fun cdv A outer s H vs Q E hr hsp=>by
  obtain⟨t,h,q⟩:=hbody cdv A outer s H vs Q E hr hsp
  exact⟨t,h.out,q⟩
end
end L2
namespace L2
open PySem PySem.Spec PyProof.Rows PySem.SeqAt
theorem is_kV {P:Program}{w:World}{k:Key}{u:Value} (h:(ZaaD P w).is k u=true):RelV (kV k) u:=by
 rw[Zago] at h
 rcases ZaaA h with ⟨i,t,rfl,rfl⟩ | ⟨x,t,rfl,rfl⟩
 ·exact⟨t,rfl⟩
 ·exact⟨t,rfl⟩
section
variable {X:Cx}{pins:List (Addr × Obj)}{σ:St}{H:Hp}{s:Shared}{a:Addr}{u v:HO}{kvs:List (Key × V)}
theorem Inv.refit (I : Inv X pins σ H s) (e : H a = some u) (h1 : ∀ xs, u ≠ .tup xs) (h2 : ∀ x, u ≠ .own x) (h3 : ∀ ps, u ≠ .tbl ps)
  (h4:∀ o u',X.H₀ a≠some (.frz o u')) (new:ObjOk X.prog X.w (upd H a v) s.heap a v):Inv X pins σ (upd H a v) s:=by
 have nn:∀ b,H b=none->b≠a:=fun b z q=>by rw[q,e] at z; cases z
 refine⟨I.ok,I.os,I.bare,⟨I.base.keep,I.base.slot,fun b o q n hx=>?_,I.base.there,fun b xs q=>?_,fun b o u' q=>?_,fun b ps q=>?_⟩,I.loc,I.cell,?_,fun x c q=>?_,fun p hp=>?_,fun b ob q=>?_,I.len⟩
 ·have:=I.base.free b o q n hx
  rw[Zaaf (nn b this)]; exact this
 ·have z:=I.base.tups b xs q
  rw[Zaaf (by rintro rfl; rw[e] at z; exact h1 xs (Option.some.inj z))]; exact z
 ·have z:=I.base.frzs b o u' q
  rw[Zaaf (by rintro rfl; exact h4 o u' q)]; exact z
 ·obtain⟨more,z⟩:=I.base.tbls b ps q
  exact⟨more,by rw[Zaaf (by rintro rfl; rw[e] at z; exact h3 _ (Option.some.inj z))]; exact z⟩
 ·rw[Zaaf (nn _ I.free)]; exact I.free
 ·rw[Zaaf (nn _ (I.freeC x c q))]; exact I.freeC x c q
 ·obtain⟨z1,z2,z3⟩:=I.pin p hp
  exact⟨z1,by rw[Zaaf (nn _ z2)]; exact z2,z3⟩
 ·by_cases hb:b=a
  ·subst hb; rw[Zaab] at q; cases q; exact new
  ·rw[Zaaf hb] at q
   refine (I.hok b ob q).stay (fun _ _ _ z=>z) (fun c z=>?_) fun c xs z=>?_
   ·rw[Zaaf (by rintro rfl; rw[e] at z; exact h2 _ (Option.some.inj z))]; exact z
   ·rw[Zaaf (by rintro rfl; rw[e] at z; exact h1 _ (Option.some.inj z))]; exact z
theorem Inv.freeze (I:Inv X pins σ H s) (e:H a=some (.dK kvs)):∃ o,(∀ o u',X.H₀ a≠some (.frz o u'))/\Inv X pins σ (upd H a (.frz o (.dK kvs))) s:=by
 have q:ObjOk X.prog X.w H s.heap a (.dK kvs):=I.hok a _ e
 obtain⟨z,hd,vs,r,o,es,ep,ho,rest⟩:=id q
 have hn:∀ o u',X.H₀ a≠some (.frz o u'):=fun o u' q=>by
  have:=I.base.frzs a o u' q
  rw[e] at this; cases this
 exact⟨o,hn,I.refit e (fun _ z=>nomatch z) (fun _ z=>nomatch z) (fun _ z=>nomatch z) hn ⟨ho,z,hd,vs,r,o,es,ep,ho,rest⟩⟩
theorem Inv.thaw {o:Obj} (I:Inv X pins σ H s) (e:H a=some (.frz o (.dK kvs))) (hn:∀ o u',X.H₀ a≠some (.frz o u')):Inv X pins σ (upd H a (.dK kvs)) s:=by
 obtain⟨_,z,hd,vs,r,q⟩:=(show ObjOk X.prog X.w H s.heap a (.frz o (.dK kvs)) from I.hok a _ e)
 exact I.refit e (fun _ z=>nomatch z) (fun _ z=>nomatch z) (fun _ z=>nomatch z) hn ⟨z,hd,vs,r,q⟩
end
def thawD (a:Addr) (o:Obj) (kvs:List (Key × V)) (D:Ends):Ends where
 nx:=fun σ H=>H a=some (.frz o (.dK kvs))/\D.nx σ (upd H a (.dK kvs))
 rt:=fun v H=>H a=some (.frz o (.dK kvs))/\D.rt v (upd H a (.dK kvs))
 bk:=fun σ H=>H a=some (.frz o (.dK kvs))/\D.bk σ (upd H a (.dK kvs))
 ct:=fun σ H=>H a=some (.frz o (.dK kvs))/\D.ct σ (upd H a (.dK kvs))
def sFrz (t:TS):TS:=fun D σ H=>(∃ a kvs,H a=some (.dK kvs)/\∀ o,t (thawD a o kvs D) σ (upd H a (.frz o (.dK kvs))))∨t D σ H
def tFrz (t:TE):TE:=fun σ H Q=>(∃ a kvs,H a=some (.dK kvs)/\∀ o,t σ (upd H a (.frz o (.dK kvs))) fun v H'=>H' a=some (.frz o (.dK kvs))/\Q v (upd H' a (.dK kvs)))∨t σ H Q
section
variable {X:Cx}
theorem ZakK {st:Stmt}{t:TS} (h:PS X st t):PS X st (sFrz t):=by
 intro pins s σ H D I q
 rcases q with ⟨a,kvs,e,q⟩ | q
 ·obtain⟨o,hn,I1⟩:=I.freeze e
  refine wpAny_mono (h pins s σ _ _ I1 (q o)) (fun f s' z=>?_) fun _ _ z=>z
  cases f with
  | next=>obtain⟨σ',H',I',e',q'⟩:=z; exact⟨σ',_,I'.thaw e' hn,q'⟩
  | brk=>obtain⟨σ',H',I',e',q'⟩:=z; exact⟨σ',_,I'.thaw e' hn,q'⟩
  | cont=>obtain⟨σ',H',I',e',q'⟩:=z; exact⟨σ',_,I'.thaw e' hn,q'⟩
  | ret u=>obtain⟨v,σ',H',I',r,e',q'⟩:=z; exact⟨v,σ',_,I'.thaw e' hn,r,q'⟩
 ·exact h pins s σ H D I q
theorem ZakT {x:Expr}{t:TE} (h:PE X x t):PE X x (tFrz t):=by
 intro pins s σ H Q I q
 rcases q with ⟨a,kvs,e,q⟩ | q
 ·obtain⟨o,hn,I1⟩:=I.freeze e
  refine wpAny_mono (h pins s σ _ _ I1 (q o)) (fun f s' z=>?_) fun _ _ z=>z
  obtain⟨v,H',I',r,e',q'⟩:=z
  exact⟨v,_,I'.thaw e' hn,r,q'⟩
 ·exact h pins s σ H Q I q
end
def VwI (v a:Addr):HO:=.ext fun h=>h.IsItemsView v a
theorem ZalI {P:Program}{w:World}{H:Hp}{h:Heap}{v a:Addr} (x:h.IsItemsView v a):ObjOk P w H h v (VwI v a) :=
 ⟨x,let ⟨o,e,_⟩:=x; ⟨o,e⟩,fun _ _ ⟨o,e,r⟩ k=>⟨o,k o e,r⟩⟩
theorem Zakj {X:Cx}{pins:List (Addr × Obj)}{σ:St}{H:Hp}{s:Shared}{v a:Addr} (I:Inv X pins σ H s) (e:H v=some (VwI v a)):s.heap.IsItemsView v a :=
 (show ObjOk X.prog X.w H s.heap v (VwI v a) from I.hok v _ e).1
def ZalP (to:TE):TE:=fun σ H Q=>to σ H fun x H1=>∃ a kvs,x=.ref a/\Rd H1 a (.dK kvs)/\∀ v,H1 v=none->Q (.ref v) (upd H1 v (VwI v a))
theorem Zad0 {X : Cx} {o : Expr} {to : TE} {apos cpos : Pos} (ho : PE X o to) (hbase : attributeBase o "items" X.env (eval o X.env) = eval o X.env := by rfl) (hline : (apos.endLine == cpos.line) = true := by rfl) :
  PE X (.Call (.Attribute o "items" apos) [] [] cpos) (ZalP to):=by
 intro pins s σ H Q I h
 refine wpAny_Call_method0_late hbase hline (thn (ho pins s σ H _ I h) fun v s1 ⟨x,H1,I1,r1,a,kvs,ex,hd,q1⟩=>?_)
 subst ex
 cases r1
 obtain⟨t1,t2,t3⟩:=Zalm I1 (.inl ⟨kvs,hd⟩)
 obtain⟨_,_,vs,rel,dd⟩:=dk_rd I1.hok hd
 refine⟨"dict","dict.items",PySem.F.plainAttrs_dict,PySem.F.slot_dict_items,PySem.F.type_dict_items,t1,t2,Calls.callWith_builtin rfl (PySem.evalArgs_none ?_)⟩
 refine call_meetsIn PySem.F.slot_dict_items dd.typeIs PySem.F.entry_dict_items (PySem.F.args_dict_items_1 _) (meets_dict_items (ZaaD X.prog X.w) a t3) ⟨⟨vs,dd⟩,?_⟩
 exact⟨.ref s1.heap.objs.size,_,I1.laid (o:=VwI s1.heap.objs.size a) (t':=s1.toks) (fun b o e=>Heap.get?_push_of_some _ e) (Nat.le_refl _) (ZalI ⟨_,Heap.get?_push_size _ rfl,rfl,rfl⟩),rfl,q1 _ (I1.hok.fresh (Nat.le_refl _))⟩
theorem Zafo {X : Cx} {pins : List (Addr × Obj)} {σ : St} {H : Hp} {s : Shared} {a : Addr} {o : Obj} {kvs : List (Key × V)} (I : Inv X pins σ H s) (e : H a = some (.frz o (.dK kvs))) :
  ∃ vs es ep,KV kvs vs/\kvs.length<=sizeLine/\(a == sysModules)=false/\o.data=.dict es ep/\es.size=kvs.length/\s.heap.DictAt (ZaaD X.prog X.w) a vs ep:=by
 obtain⟨ho,z,hd,vs,r,o',es,ep,ho',ex,hdat,hk,hp,hn⟩:=(show ObjOk X.prog X.w H s.heap a (.frz o (.dK kvs)) from I.hok a _ e)
 rw[ho] at ho'; cases ho'
 refine⟨vs,es,ep,r,z,hd,hdat,?_,o,es,ho,ex,hdat,hk,hp,hn⟩
 rw[r.length,<- hp.length]; simp
theorem KV.get {κ:Type}:∀ {kvs:List (κ × V)}{vs:List (κ × Value)}{i:Nat}{k:κ}{v:V},KV kvs vs->kvs[i]?=some (k,v)->∃ u,vs[i]?=some (k,u)/\RelV v u
 | _,_,_,_,_,.nil,e=>by simp at e
 | _,_,0,k,v,.cons (a:=p) (b:=q) r _,e=>by
  simp at e; subst e
  obtain⟨e1,r⟩:=r
  obtain⟨q1,q2⟩:=q
  cases e1
  exact⟨q2,rfl,r⟩
 | _,_,i+1,k,v,.cons _ t,e=>by
  obtain⟨u,h1,h2⟩:=KV.get (i:=i) (k:=k) (v:=v) t (by simpa using e)
  exact⟨u,by simpa using h1,h2⟩
def Itd (o:Obj) (a:Addr):It :=
 ⟨fun i H=>∃ kvs p,H a=some (.frz o (.dK kvs))/\kvs[i]?=some p,fun i H y H'=>∃ p k v,H p=none/\y=.ref p/\H'=upd H p (.tup [kV k,v])/\∀ kvs,H a=some (.frz o (.dK kvs))->kvs[i]?=some (k,v),
  fun i H=>∃ kvs,H a=some (.frz o (.dK kvs))/\kvs.length<=i⟩
def Itk (o:Obj) (a:Addr):It :=
 ⟨fun i H=>∃ kvs p,H a=some (.frz o (.dK kvs))/\kvs[i]?=some p,fun i H y H'=>H'=H/\∃ k v,y=kV k/\∀ kvs,H a=some (.frz o (.dK kvs))->kvs[i]?=some (k,v),
  fun i H=>∃ kvs,H a=some (.frz o (.dK kvs))/\kvs.length<=i⟩
theorem ZaeS {o:Obj}{es es':Array DictEntry}{ep ep':Nat} (h:o.data=.dict es ep) (h':o.data=.dict es' ep'):es=es'/\ep=ep':=by
 rw[h] at h'; cases h'; exact⟨rfl,rfl⟩
theorem ZafD {P : Program} {w : World} {K : PySem.W.Frag} {xs : List Expr} {x1} {pos : Pos} (a it : Addr) (o : Obj) (es : Array DictEntry) (ep : Nat) (hdat : o.data = .dict es ep) :
  Turn P w K (.Tuple xs x1 pos) (Itd o a) [it] it (fun i h=>∃ ok ov,IsItemIter h it a i es.size ep ok ov) where
 mem:=by simp
 obj:=fun i h st b hb=>by
  have e:b=it:=by simpa using hb
  subst e
  obtain⟨ok,ov,st⟩:=st
  exact⟨_,st,fun v z=>nomatch z⟩
 keep:=fun i h h' st k=>by
  obtain⟨ok,ov,st⟩:=st
  exact⟨ok,ov,k it (by simp) _ st⟩
 item:=by
  intro X hP hw hK hc i pins s σ H E I hf st hg
  subst hP hw hK
  obtain⟨ok,ov,st⟩:=st
  obtain⟨kvs,⟨k,v⟩,hq,hx⟩:=hg
  obtain⟨vs,es',ep',r,_,_,hdat',hsz,da⟩:=Zafo I hq
  obtain⟨rfl,rfl⟩:=ZaeS hdat hdat'
  obtain⟨u,hu,ru⟩:=r.get hx
  have st':IsItemIter s.heap it a i vs.length ep ok ov:=by rw[<- r.length,<- hsz]; exact st
  refine wpAny_pyNext_items_item st' da hu fun key h' hkey ho ht hz hk=>?_
  refine⟨_,rfl,wpAny_letOwnedTupleGo_items ho fun h'' he hs=>?_⟩
  have lt:it<s.heap.objs.size:=Heap.lt_size st
  have live:∀ b∈[it],b<s.heap.objs.size:=fun b hb=>by
   have e:b=it:=by simpa using hb
   rw[e]; exact lt
  have hsz':s.heap.objs.size≠it:=Nat.ne_of_gt lt
  have fresh:H s.heap.objs.size=none:=I.hok.fresh (Nat.le_refl _)
  refine⟨.ref s.heap.objs.size,_,I.pairOut (fp:=[it]) (tk:=s.toks) hf (fun b o hb q=>?_) ((hs.2 _ hsz').trans ht) live (fun b hb=>?_) (is_kV hkey) ru,rfl,⟨s.heap.objs.size,k,v,fresh,rfl,rfl,fun kvs' h'=>?_⟩,⟨key,u,?_⟩,fun b hb=>?_⟩
  ·have hb:b≠it:=by simpa using hb
   exact (hs.2 b hb).trans (hk b o hb q)
  ·have e:b=it:=by simpa using hb
   rw[e]; exact⟨_,he⟩
  ·rw[hq] at h'; cases h'; exact hx
  ·rw[hsz,r.length]; exact he
  ·rw[Zaaf (Nat.ne_of_lt (live b hb))]
   exact (hf b hb).1
 done:=by
  intro X hP hw hK hc i pins s σ H E I hf st hg
  subst hP hw hK
  obtain⟨ok,ov,st⟩:=st
  obtain⟨kvs,hq,hx⟩:=hg
  obtain⟨vs,es',ep',r,_,_,hdat',hsz,da⟩:=Zafo I hq
  obtain⟨rfl,rfl⟩:=ZaeS hdat hdat'
  have st':IsItemIter s.heap it a i vs.length ep ok ov:=by rw[<- r.length,<- hsz]; exact st
  obtain⟨f0,f1,f2,f3,f4,f5⟩:=hf it (by simp)
  exact wpAny_pyNext_items_end (I.ok.hd hc) st' da (List.getElem?_eq_none (by rw[<- r.length]; exact hx)) fun h' eb=>⟨rfl,I.turned (t':=s.toks) (fun b o hb q=>eb b o hb q) f0 f1 f3 f4 f5⟩
 self:=fun _ _ _ _ _ st h=>by
  obtain⟨ok,ov,st⟩:=st
  exact PySem.W.kcp_self st h
theorem Zag5 {P : Program} {w : World} {K : PySem.W.Frag} {tg : Expr} (a it : Addr) (o : Obj) (es : Array DictEntry) (ep : Nat) (hdat : o.data = .dict es ep) :
  Turn P w K tg (Itk o a) [it] it (fun i h=>h.IsKeyIter it a i es.size ep) where
 mem:=by simp
 obj:=fun i h st b hb=>by
  have e:b=it:=by simpa using hb
  subst e
  obtain⟨o,e,c,d⟩:=st
  exact⟨o,e,fun v z=>by rw[d] at z; cases z⟩
 keep:=fun i h h' st k=>by
  obtain⟨o,e,c⟩:=st
  exact⟨o,k it (by simp) o e,c⟩
 item:=by
  intro X hP hw hK hc i pins s σ H E I hf st hg
  subst hP hw hK
  obtain⟨kvs,⟨k,v⟩,hq,hx⟩:=hg
  obtain⟨vs,es',ep',r,_,_,hdat',hsz,da⟩:=Zafo I hq
  obtain⟨rfl,rfl⟩:=ZaeS hdat hdat'
  obtain⟨u,hu,ru⟩:=r.get hx
  have st':s.heap.IsKeyIter it a i vs.length ep:=by rw[<- r.length,<- hsz]; exact st
  obtain⟨f0,f1,f2,f3,f4,f5⟩:=hf it (by simp)
  refine wpAny_pyNext_dict_item st' da hu fun key h' hkey hit sb=>?_
  have I1:Inv X pins σ H { s with heap:=h' }:=I.turned (t':=s.toks) (fun b o hb e=>(sb.2 b hb).trans e) f0 f1 f3 f4 f5
  have hit':h'.IsKeyIter it a (i+1) es.size ep:=by rw[hsz,r.length]; exact hit
  obtain⟨oi,e,c,d⟩:=id hit
  exact⟨key,rfl,go_of (s:={ s with heap:=h' }) e c d (by decide) ⟨kV k,H,I1,is_kV hkey,⟨rfl,k,v,rfl,fun kvs' h'=>by rw[hq] at h'; cases h'; exact hx⟩,hit',fun b hb=>(hf b hb).1⟩⟩
 done:=by
  intro X hP hw hK hc i pins s σ H E I hf st hg
  subst hP hw hK
  obtain⟨kvs,hq,hx⟩:=hg
  obtain⟨vs,es',ep',r,_,_,hdat',hsz,da⟩:=Zafo I hq
  obtain⟨rfl,rfl⟩:=ZaeS hdat hdat'
  have st':s.heap.IsKeyIter it a i vs.length ep:=by rw[<- r.length,<- hsz]; exact st
  obtain⟨f0,f1,f2,f3,f4,f5⟩:=hf it (by simp)
  exact wpAny_pyNext_dict_end (I.ok.hd hc) st' da (List.getElem?_eq_none (by rw[<- r.length]; exact hx)) fun h' eb=>⟨rfl,I.turned (t':=s.toks) (fun b o hb q=>eb b o hb q) f0 f1 f3 f4 f5⟩
 self:=fun _ _ _ _ _ st h=>wpAny_pyIter_keyiter st h
section
variable {X:Cx}
def Zamo (tl:TE):TI:=fun σ H R=>tl σ H fun x H1=>∃ v a o kvs,x=.ref v/\H1 v=some (VwI v a)/\H1 a=some (.frz o (.dK kvs))/\R (Itd o a) H1
def iKeys (tl:TE):TI:=fun σ H R=>tl σ H fun x H1=>∃ a o kvs,x=.ref a/\H1 a=some (.frz o (.dK kvs))/\R (Itk o a) H1
theorem Zagb {xs:List Expr}{x1}{tpos:Pos}{l:Expr}{tl:TE} (hl:PE X l tl):PI X (.Tuple xs x1 tpos) l (Zamo tl):=by
 intro pins s σ H R I h
 refine thn (hl pins s σ H _ I h) fun v s1 ⟨x,H1,I1,r1,vw,a,o,kvs,e,hv,hq,q⟩=>?_
 subst e
 cases r1
 obtain⟨vs,es,ep,r,_,_,hdat,hsz,da⟩:=Zafo I1 hq
 refine wpAny_pyIter_items (Zakj I1 hv) da ?_
 refine⟨s1.heap.objs.size,[s1.heap.objs.size],_,_,H1,rfl,I1.kept (t':=s1.toks) fun b o e=>Heap.get?_push_of_some _ e,ZafD a _ o es ep hdat,⟨.none,.none,?_⟩,fun b hb=>?_,q⟩
 ·rw[hsz,r.length]; exact Heap.get?_push_size _ rfl
 ·have e:b=s1.heap.objs.size:=by simpa using hb
  subst e
  exact I1.fpOk (Nat.le_refl _) (I1.hok.fresh (Nat.le_refl _))
theorem Zaga {tg:Expr}{l:Expr}{tl:TE} (hl:PE X l tl):PI X tg l (iKeys tl):=by
 intro pins s σ H R I h
 refine thn (hl pins s σ H _ I h) fun v s1 ⟨x,H1,I1,r1,a,o,kvs,e,hq,q⟩=>?_
 subst e
 cases r1
 obtain⟨vs,es,ep,r,_,hsm,hdat,hsz,da⟩:=Zafo I1 hq
 refine wpAny_pyIter_dict hsm da ?_
 refine⟨s1.heap.objs.size,[s1.heap.objs.size],_,_,H1,rfl,I1.kept (t':=s1.toks) fun b o e=>Heap.get?_push_of_some _ e,Zag5 a _ o es ep hdat,⟨_,Heap.get?_push_size _ rfl,rfl,?_⟩,fun b hb=>?_,q⟩
 ·rw[hsz,r.length]; rfl
 ·have e:b=s1.heap.objs.size:=by simpa using hb
  subst e
  exact I1.fpOk (Nat.le_refl _) (I1.hok.fresh (Nat.le_refl _))
end
theorem ZahW {o : Obj} {a : Addr} {kvs : List (Key × V)} {g : TG} {tb : TS} {D : Ends} {σ : St} {H : Hp} (Pv : Nat → St → Hp → Prop) (h0 : Pv 0 σ H) (hl : ∀ i σ H, i ≤ kvs.length → Pv i σ H → H a = some (.frz o (.dK kvs)))
  (hs:∀ i k v p σ H,kvs[i]?=some (k,v)->Pv i σ H->H p=none->g (.ref p) σ (upd H p (.tup [kV k,v])) fun σ2 H2=>tb { D with nx:=Pv (i+1),ct:=Pv (i+1),bk:=D.nx } σ2 H2) (hd:∀ σ H,Pv kvs.length σ H->D.nx σ H) :
  ∃ W:Nat->Nat->St->Hp->Prop,(∃ m,W 0 m σ H)/\∀ i m σ H,W i m σ H ->
   ((Itd o a).stop i H/\D.nx σ H)∨((Itd o a).go i H/\∃ N:St->Hp->Prop,(∀ σ' H',N σ' H'->∃ m',m'<m/\W (i+1) m' σ' H')/\∀ x H',(Itd o a).yld i H x H'->g x σ H' fun σ2 H2=>tb { D with nx:=N,ct:=N,bk:=D.nx } σ2 H2):=by
 refine⟨fun i m σ H=>m=kvs.length - i/\i<=kvs.length/\Pv i σ H,⟨kvs.length,by simp,Nat.zero_le _,h0⟩,?_⟩
 rintro i m σ H ⟨rfl,hi,p⟩
 have q:=hl i σ H hi p
 by_cases hlt:i<kvs.length
 ·refine .inr ⟨⟨kvs,kvs[i],q,List.getElem?_eq_getElem hlt⟩,Pv (i+1),fun σ' H' z=>⟨kvs.length - (i+1),by omega,rfl,hlt,z⟩,fun x H' y=>?_⟩
  obtain⟨pa,k,v,hp,e1,e2,y⟩:=y
  subst e1 e2
  exact hs i k v pa σ H (y kvs q) p hp
 ·obtain rfl:i=kvs.length:=by omega
  exact .inl ⟨⟨kvs,q,Nat.le_refl _⟩,hd σ H p⟩
theorem ZagF {o : Obj} {a : Addr} {kvs : List (Key × V)} {g : TG} {tb : TS} {D : Ends} {σ : St} {H : Hp} (Pv : Nat → St → Hp → Prop) (h0 : Pv 0 σ H) (hl : ∀ i σ H, i ≤ kvs.length → Pv i σ H → H a = some (.frz o (.dK kvs)))
  (hs:∀ i k v σ H,kvs[i]?=some (k,v)->Pv i σ H->g (kV k) σ H fun σ2 H2=>tb { D with nx:=Pv (i+1),ct:=Pv (i+1),bk:=D.nx } σ2 H2) (hd:∀ σ H,Pv kvs.length σ H->D.nx σ H) :
  ∃ W:Nat->Nat->St->Hp->Prop,(∃ m,W 0 m σ H)/\∀ i m σ H,W i m σ H ->
   ((Itk o a).stop i H/\D.nx σ H)∨((Itk o a).go i H/\∃ N:St->Hp->Prop,(∀ σ' H',N σ' H'->∃ m',m'<m/\W (i+1) m' σ' H')/\∀ x H',(Itk o a).yld i H x H'->g x σ H' fun σ2 H2=>tb { D with nx:=N,ct:=N,bk:=D.nx } σ2 H2):=by
 refine⟨fun i m σ H=>m=kvs.length - i/\i<=kvs.length/\Pv i σ H,⟨kvs.length,by simp,Nat.zero_le _,h0⟩,?_⟩
 rintro i m σ H ⟨rfl,hi,p⟩
 have q:=hl i σ H hi p
 by_cases hlt:i<kvs.length
 ·refine .inr ⟨⟨kvs,kvs[i],q,List.getElem?_eq_getElem hlt⟩,Pv (i+1),fun σ' H' z=>⟨kvs.length - (i+1),by omega,rfl,hlt,z⟩,fun x H' y=>?_⟩
  obtain⟨e2,k,v,e1,y⟩:=y
  subst e1 e2
  exact hs i k v σ _ (y kvs q) p
 ·obtain rfl:i=kvs.length:=by omega
  exact .inl ⟨⟨kvs,q,Nat.le_refl _⟩,hd σ H p⟩
theorem Zah9 {o : Obj} {own : List Str} {js : List Nat} {g : TG} {tt : TT} {te : TE} {σ : St} {H1 : Hp} {Q : VK} {a : Addr} {kvs : List (Key × V)} (Pv : Addr → Nat → Hp → Prop) (h0 : ∀ acc, H1 acc = none → Pv acc 0 (upd H1 acc (.lst []))) (hl : ∀ acc i H, H1 acc = none → i ≤ kvs.length → Pv acc i H → H a = some (.frz o (.dK kvs)))
  (hs:∀ acc i k v H,H1 acc=none->kvs[i]?=some (k,v)->Pv acc i H->g (kV k) (blkσ own js σ) H fun τ H4=>tt τ H4 fun c H5=>
   if c=true then te τ H5 fun y H6=>∃ ys,H6 acc=some (.lst ys)/\ys.length<sizeLine/\(i+1<=kvs.length/\Pv acc (i+1) (upd H6 acc (.lst (ys++[y])))) else (i+1<=kvs.length/\Pv acc (i+1) H5))
  (hd:∀ acc H,H1 acc=none->Pv acc kvs.length H->Q (.ref acc) H):ZacK own js g tt te σ (Itk o a) H1 Q:=by
 intro acc hacc
 refine⟨fun i H=>i<=kvs.length/\Pv acc i H,kvs.length,⟨Nat.zero_le _,h0 acc hacc⟩,?_⟩
 rintro i H ⟨hi,p⟩
 have q:=hl acc i H hacc hi p
 by_cases hlt:i<kvs.length
 ·refine .inr ⟨hlt,⟨kvs,kvs[i],q,List.getElem?_eq_getElem hlt⟩,fun x H' y=>?_⟩
  obtain⟨e2,k,v,e1,y⟩:=y
  subst e1 e2
  exact hs acc i k v _ hacc (y kvs q) p
 ·obtain rfl:i=kvs.length:=by omega
  exact .inl ⟨⟨kvs,q,Nat.le_refl _⟩,hd acc H hacc p⟩
section
variable {prog:Program}{w:World}{A:Around}{R:Result->Shared->Prop}{s:Shared}
theorem Zabx {kx vx target iter : Expr} {ifs : List Expr} {scope : Scope} {pos : Pos} {it : Value} {D : Addr} {env : Env} (I : Nat → Shared → Prop)
  (turn:∀ n s,I n s->wpAny (model prog w) A (pyNext it) (fun r s₁=>match r with
   | none=>R (.ok .next) s₁
   | some v => wpAny (model prog w) A (letOwnedTupleGo target it v) (fun _ s₁' => wpAny (model prog w) A (assign target env v) (fun _ s₂ =>
     wpAny (model prog w) A (forIn ifs true fun c r=>if r=true then do let ok <- isTrue c env (eval c env); pure (ForInStep.yield ok) else pure (ForInStep.yield r)) (fun ok s₃=>
      if ok=true then wpAny (model prog w) A (eval kx env) (fun kv s₄=>wpAny (model prog w) A (eval vx env) (fun vv s₅=>
       wpAny (model prog w) A (dictSet D kv vv) (fun _ s₆=>∃ m,m<n/\I m s₆) (fun _ _=>False) s₅) (fun _ _=>False) s₄) (fun _ _=>False) s₃
      else ∃ m,m<n/\I m s₃) (fun _ _=>False) s₂) (fun _ _=>False) s₁') (fun _ _=>False) s₁) (fun _ _=>False) s)
  (n:Nat) (h:I n s) :
  codeAny (model prog w) A (.compLoop (.DictComp kx vx [⟨target,iter,ifs,0⟩] scope pos) 0 it (.ref D) env) R s:=by
 refine codeAny_loop rfl I (fun n s hI=>?_) n h
 show wpAny _ A ((compTurn (.DictComp kx vx [⟨target,iter,ifs,0⟩] scope pos) 0 it (.ref D) env).onRaise (fun x=>do noteFrame x env; theTreesLotGoes x)) _ _ s
 refine wpAny_noted ?_
 rw[compTurn_dict]
 refine wpAny_bind (wpAny_standAt (wpAny_bind (wpAny_mono (turn n s hI) (fun r s₁ h₁=>?_) fun _ _ h'=>h'.elim)))
 cases r with
 | none=>exact wpAny_pure h₁
 | some v=>
  refine wpAny_bind (wpAny_mono h₁ (fun _ s₁' h₁=>?_) fun _ _ h'=>h'.elim)
  refine wpAny_bind (wpAny_mono h₁ (fun _ s₂ h₂=>wpAny_bind (wpAny_mono h₂ (fun ok s₃ h₃=>?_) fun _ _ h'=>h'.elim)) fun _ _ h'=>h'.elim)
  cases ok with
  | false=>exact wpAny_pure ⟨rfl,h₃⟩
  | true=>
   exact wpAny_bind (wpAny_bind (wpAny_mono h₃ (fun kv s₄ h₄=>wpAny_bind (wpAny_holding (wpAny_mono h₄ (fun vv s₅ h₅=>wpAny_bind (wpAny_standAt (wpAny_holding (wpAny_mono h₅ (fun _ s₆ h₆=>wpAny_pure ⟨rfl,h₆⟩) fun _ _ h'=>h'.elim)))) fun _ _ h'=>h'.elim))) fun _ _ h'=>h'.elim))
end
section
variable {X:Cx}{pins:List (Addr × Obj)}{σ:St}{H H':Hp}{s s':Shared}{scope:Scope}{own:List Str}{js:List Nat}{C:Addr}{fp:List Addr}
theorem ZagW {ob : HO} {acc : Addr} {m : Str → Option Value} {tk : Nat} {h' : Heap} (c : CompOk X scope own js) (I : Inv X pins σ H s) (hC : s.heap.objs.size ≤ C) (hf : ∀ b ∈ fp, FpOk X pins H b) (ho : ∀ b ∈ fp, ∃ o, s.heap.get? b = some o)
  (hn:h'.Ns C m) (k:∀ b u,s.heap.get? b=some u->h'.get? b=some u) (hacc:s.heap.objs.size<=acc) (haC:acc≠C) (new:ObjOk X.prog X.w (upd H acc ob) h' acc ob) :
  Inv (X.blk scope own js s H C fp pins) [] (blkσ own js σ) (upd H acc ob) { s with heap:=h',toks:=tk }:=by
 have ok:=ZalD c I hC hf ho
 have fresh:∀ {a:Addr},s.heap.objs.size<=a->H a=none:=fun h=>I.hok.fresh h
 have neA:∀ b o,s.heap.get? b=some o->b≠acc:=fun b o e=>Nat.ne_of_lt (Nat.lt_of_lt_of_le (Heap.lt_size e) hacc)
 refine⟨ok,rfl,I.bare,Un.laid k hacc (fresh hacc),⟨m,hn,fun i x v e1 e2 e3=>?_⟩,fun x a e=>?_,?_,fun x a e=>?_,fun p hp=>?_,I.hok.laid k hacc new,ZadE own js σ X⟩
 ·
  have hi:own.length<=i:=by
   refine Nat.le_of_not_lt fun hi=>?_
   unfold blkσ at e2
   rw[List.getElem?_append_left (by simpa using hi),List.getElem?_map] at e2
   cases q:own[i]? with
   | none=>rw[q] at e2; cases e2
   | some z=>rw[q] at e2; cases e2
  have e1':(js.map fun j=>X.N.getD j Str.empty)[i - own.length]?=some x:=by
   have e1:(own++js.map fun j=>X.N.getD j Str.empty)[i]?=some x:=e1
   rwa [List.getElem?_append_right hi] at e1
  have e2':(js.map fun j=>(σ[j]?).join)[i - own.length]?=some (some v):=by
   unfold blkσ at e2
   rw[List.getElem?_append_right (by simpa using hi)] at e2
   simpa using e2
  rw[List.getElem?_map] at e1' e2'
  cases q:js[i - own.length]? with
  | none=>rw[q] at e1'; cases e1'
  | some j=>
   rw[q] at e1' e2'
   obtain⟨x',hx',hfree⟩:=c.out j (List.mem_of_getElem? q)
   have ex:x'=x:=by
    have:X.N.getD j Str.empty=x:=Option.some.inj e1'
    rw[List.getD_eq_getElem?_getD,hx'] at this
    exact this
   subst ex
   have eσ:σ[j]?=some (some v):=by
    have e2'':(σ[j]?).join=some v:=Option.some.inj e2'
    cases r:σ[j]? with
    | none=>rw[r] at e2''; cases e2''
    | some z=>rw[r] at e2''; cases z with
     | none=>cases e2''
     | some y=>cases e2''; rfl
   have hmem:(x',NameKind.free)∈scope.names:=PySem.mem_of_lookup hfree
   have hkX:=c.free _ hmem rfl
   have vis:Vis X.env.scope x':=by
    rcases hkX with z | z
    ·exact .inr (.inl z)
    ·exact .inr (.inr z)
   obtain⟨m0,hn0,hl0⟩:=I.loc
   obtain⟨u,r,l⟩:=hl0 j x' v hx' eσ vis
   refine⟨u,r,.inr ⟨Zabs hfree,?_⟩⟩
   obtain⟨a,ha⟩:=Zaia (env:=X.env) scope.names [] hmem
   refine⟨a,ha,?_⟩
   have haX:=c.look I ha
   rcases l with ⟨z,_⟩ | ⟨_,a',ha',⟨o,ho',hd⟩⟩
   ·have z:X.env.kindOf x'=some .local:=z
    rcases hkX with y | y
    ·have y:X.env.kindOf x'=some .cell:=y
     rw[z] at y; cases y
    ·have y:X.env.kindOf x'=some .free:=y
     rw[z] at y; cases y
   ·rw[haX] at ha'; cases ha'
    exact⟨o,k _ o ho',hd⟩
 ·obtain⟨v,o,ho',hd⟩:=I.cell x a (c.look I e)
  exact⟨v,o,k _ o ho',hd⟩
 ·show upd H acc ob C=none
  rw[Zaaf (Ne.symm haC)]
  exact fresh hC
 ·have e':=c.look I e
  obtain⟨v,o,ho',hd⟩:=I.cell x a e'
  rw[Zaaf (neA a o ho')]
  exact I.freeC x a e'
 ·have hp:p∈X.pn++pins:=by simpa[Cx.blk] using hp
  obtain⟨e,n,ne,nf,d⟩:=I.pin p hp
  refine⟨k _ _ e,by rw[Zaaf (neA _ _ e)]; exact n,Nat.ne_of_lt (Nat.lt_of_lt_of_le (Heap.lt_size e) hC),fun z=>?_,d⟩
  rcases List.mem_cons.mp (I.stkSub _ z) with q | q
  ·exact ne q
  ·exact nf q
end
theorem Zah6 {X : Cx} {pins : List (Addr × Obj)} {σ : St} {H : Hp} {s : Shared} {a : Addr} {kvs : List (Key × V)} {k : Key} {v : V} {u r : Value} {A : Around} {E : Value → Shared → Prop} {Q : Unit → Shared → Prop} (I : Inv X pins σ H s) (e : H a = some (.dK kvs)) (l : kvs.length < sizeLine) (ry : RelV (kV k) u) (rv : RelV v r) (h : ∀ s', Inv X pins σ (upd H a (.dK (putK kvs k v))) s' → Q () s') :
  wpAny (model X.prog X.w) A (dictSet a u r) Q E s:=by
 obtain⟨z,hd,vs,rel,dd⟩:=dk_of I.hok e
 have hz:vs.length<=sizeLine:=by rw[<- rel.length]; exact z
 have hl:(putK kvs k v).length<=sizeLine:=by have:=Zabi kvs k v; omega
 refine wpAny_dictSet_pairs (hsz:=hz) (kV_is ry) dd fun h' dd' hs=>h _ ?_
 have he:∃ q,h'.get? a=some q:=let ⟨q,_,_,hq,_⟩:=dd'; ⟨q,hq⟩
 exact ZaeT I (by rw[e]; exact True.intro) hs he (Zah3 hl hd (rel.put k rv) dd')
def ZafI (own:List Str) (js:List Nat) (g:TG) (tt:TT) (tk tv:TE) (σ:St) (J:It) (H1:Hp) (Q:VK):Prop :=
 ∀ acc,H1 acc=none->∃ (W:Nat->Hp->Prop) (n:Nat),W 0 (upd H1 acc (.dK []))/\∀ i H2,W i H2 ->
  (J.stop i H2/\Q (.ref acc) H2)∨(i<n/\J.go i H2/\∀ x H3,J.yld i H2 x H3->g x (blkσ own js σ) H3 fun τ H4=>tt τ H4 fun c H5=>
   if c=true then tk τ H5 fun y H6=>tv τ H6 fun z H7=>∃ k kvs,y=kV k/\H7 acc=some (.dK kvs)/\kvs.length<sizeLine/\W (i+1) (upd H7 acc (.dK (putK kvs k z))) else W (i+1) H5)
def ZalS (own:List Str) (js:List Nat) (wi:TI) (g:TG) (tt:TT) (tk tv:TE):TE:=fun σ H Q=>wi σ H fun J H1=>ZafI own js g tt tk tv σ J H1 Q
section
variable {X:Cx}{scope:Scope}{own:List Str}{js:List Nat}{kx vx iter target:Expr}{ifs:List Expr}{wi:TI}{g:TG}{tt:TT}{tk tv:TE}{pos:Pos}
theorem Zaj8 {pins : List (Addr × Obj)} {σ : St} {H2 : Hp} {s₂ : Shared} {it : Addr} {fp : List Addr} {tn : Nat → Heap → Prop} {J : It} {Q : VK} {E : Value → Shared → Prop} {RR : Value → Addr → Result → Shared → Prop}
  (c:CompOk X scope own js) (hc:X.calm=true) (hgk:GKeep own g)
  (hg:∀ s H C fp pins,PG (X.blk scope own js s H C fp pins) target g) (ht:∀ s H C fp pins,PTs (X.blk scope own js s H C fp pins) ifs tt) (hk:∀ s H C fp pins,PE (X.blk scope own js s H C fp pins) kx tk) (hv:∀ s H C fp pins,PE (X.blk scope own js s H C fp pins) vx tv)
  (I:Inv X pins σ H2 s₂) (T:Turn X.prog X.w X.K target J fp it tn) (st:tn 0 s₂.heap) (hf:∀ b∈fp,FpOk X pins H2 b) (h:ZafI own js g tt tk tv σ J H2 Q)
  (hRR:∀ acc C H' s' m,s₂.heap.objs.size<=C->H' C=none->Inv X pins σ H' s'->s'.heap.Ns C m->Q (.ref acc) H'->RR (.ref acc) C (.ok .next) s') :
  wpAny (model X.prog X.w) X.A newDict (fun acc s₃=>wpAny (model X.prog X.w) X.A (newFunctionEnv scope X.env.globals (clOf scope X.env) [] X.env.qual none .none (some X.env)) (fun cenv s₄=>
   codeAny (model X.prog X.w) X.A (.compStart (.DictComp kx vx [⟨target,iter,ifs,0⟩] scope pos) 0 (.ref it) acc { cenv with scope:=relabel scope X.env }) (RR acc cenv.locals) s₄) E s₃) E s₂:=by
 refine wpAny_newObj_type (wpAny_newFunctionEnv c.cell (by intro y hy; simp at hy) (fun h₁ hns₁ hsb₁=>?_) c.kind)
 dsimp only at hns₁ hsb₁ ⊢
 generalize hH2:s₂.heap.push { cls:=.type "dict",dict:=none,data:=.dict #[] }=G2 at hns₁ hsb₁ ⊢
 have hC:G2.objs.size=s₂.heap.objs.size+1:=by rw[<- hH2,Heap.size_push]
 have hDC:s₂.heap.objs.size≠G2.objs.size:=by rw[hC]; exact Nat.ne_of_lt (Nat.lt_succ_self _)
 have hCle:s₂.heap.objs.size<=G2.objs.size:=by rw[hC]; exact Nat.le_succ _
 have old:∀ b o,s₂.heap.get? b=some o->h₁.get? b=some o:=fun b o e=>hsb₁.extBut b o (Nat.ne_of_lt (Nat.lt_of_lt_of_le (Heap.lt_size e) hCle)) (Heap.get?_push_of_some _ (hH2 ▸ Heap.get?_push_of_some _ e))
 have hacc:ObjOk X.prog X.w (upd H2 s₂.heap.objs.size (.dK [])) h₁ s₂.heap.objs.size (.dK []):=by
  refine (Zaeb (H:=upd H2 s₂.heap.objs.size (.dK [])) s₂.heap I.big).stay (h':=h₁) (fun b u hb e=>?_) (fun _ q=>q) fun _ _ q=>q
  have hb':b≠G2.objs.size:=by
   have:=Heap.lt_size e
   rw[hC]
   rw[Heap.size_push] at this
   exact Nat.ne_of_lt this
  exact hsb₁.extBut _ _ hb' (Heap.get?_push_of_some _ (hH2 ▸ e))
 have ho2:∀ b∈fp,∃ o,s₂.heap.get? b=some o:=fun b hb=>let ⟨o,e,_⟩:=T.obj 0 _ st b hb; ⟨o,e⟩
 have I0:∀ tk,Inv (X.blk scope own js s₂ H2 G2.objs.size fp pins) [] (blkσ own js σ) (upd H2 s₂.heap.objs.size (.dK [])) { s₂ with heap:=h₁,toks:=tk }:=fun tk=>
  ZagW c I hCle hf ho2 hns₁ old (Nat.le_refl _) hDC hacc
 obtain⟨W,nn,w0,turn⟩:=h s₂.heap.objs.size (I.hok.fresh (Nat.le_refl _))
 generalize hacc':s₂.heap.objs.size=acc at *
 generalize hGC:G2.objs.size=C at *
 have st1:tn 0 h₁:=T.keep 0 _ _ st fun b _ o e=>old b o e
 have fOk:∀ {H':Hp},(∀ b∈fp,H' b=none)->∀ b∈fp,FpOk (X.blk scope own js s₂ H2 C fp pins) [] H' b:=fun hn b hb=>by
  obtain⟨f0,f1,f2,f3,f4,f5⟩:=hf b hb
  obtain⟨o,e⟩:=ho2 b hb
  refine⟨hn b hb,Nat.ne_of_lt (Nat.lt_of_lt_of_le (Heap.lt_size e) (by rw[<- hacc'] at hCle; exact hCle)),fun z=>?_,.inl hb,fun x a h=>f4 x a (c.look I h),fun p hp=>f5 p (by simpa[Cx.blk] using hp)⟩
  rcases List.mem_cons.mp (I.stkSub b z) with q | q
  ·exact f1 q
  ·exact f2 q
 have loop : ∀ s₃ : Shared, s₃ = { s₂ with heap := h₁, toks := s₂.toks + ([] : List (Str × Value)).length } →
   codeAny (model X.prog X.w) X.A (.compLoop (.DictComp kx vx [⟨target,iter,ifs,0⟩] scope pos) 0 (.ref it) (.ref acc) (compEnvC scope (clOf scope X.env) C X.env)) (RR (.ref acc) C) s₃:=by
  rintro s₃ rfl
  refine Zabx (fun n s'=>∃ i H',n=nn - i/\Inv (X.blk scope own js s₂ H2 C fp pins) [] (blkσ own js σ) H' s'/\tn i s'.heap/\(∀ b∈fp,H' b=none)/\W i H') ?_ nn ⟨0,_,rfl,I0 _,st1,fun b hb=>?_,w0⟩
  ·rintro n s3 ⟨i,H3,en,I3,st3,fr3,w3⟩
   rcases turn i H3 w3 with ⟨stop,qn⟩ | ⟨hin,go,step⟩
   ·refine thn (T.done (X.blk scope own js s₂ H2 C fp pins) rfl rfl rfl hc i [] s3 _ H3 (fun _ _=>False) I3 (fOk fr3) st3 stop) fun r s4 ⟨hr,I4⟩=>?_
    subst hr
    obtain⟨m,hn,_⟩:=I4.loc
    exact hRR acc C H3 s4 m hCle I4.free (ZagX I hf I4) hn qn
   ·refine thn (T.item (X.blk scope own js s₂ H2 C fp pins) rfl rfl rfl hc i [] s3 _ H3 (fun _ _=>False) I3 (fOk fr3) st3 go) fun r s4 ⟨u,hr,h4⟩=>?_
    subst hr
    refine thn h4 fun _ s5 ⟨x,H5,I5,r5,y5,st5,fr5⟩=>?_
    have I5':=I5.pinned (fOk fr5) (T.obj _ _ st5)
    have again : ∀ {σ7 : St} {H7 : Hp} {s7 : Shared}, Inv (X.blk scope own js s₂ H2 C fp pins) ([] ++ Zadn fp s5.heap) σ7 H7 s7 → (∀ (j : Nat) v, (blkσ own js σ)[j]? = some (some v) → σ7[j]? = some (some v)) → W (i + 1) H7 →
      ∃ m,m<n/\∃ i H',m=nn - i/\Inv (X.blk scope own js s₂ H2 C fp pins) [] (blkσ own js σ) H' s7/\tn i s7.heap/\(∀ b∈fp,H' b=none)/\W i H':=fun {σ7 H7 s7} I7 hw w7=>by
     refine⟨nn - (i+1),by omega,i+1,H7,rfl,(I7.unpinned).weak ((ZadE own js σ X).trans I7.len.symm) hw,T.keep _ _ _ st5 fun b hb o e=>(I7.pin (b,o) (List.mem_append_right _ (List.mem_append_right _ (ZaaG hb e)))).1,fun b hb=>?_,w7⟩
     obtain⟨o,e,d⟩:=T.obj _ _ st5 b hb
     exact (I7.pin (b,o) (List.mem_append_right _ (List.mem_append_right _ (ZaaG hb e)))).2.1
    refine thn (hg s₂ H2 C fp pins _ s5 _ H5 x u _ I5' r5 (hgk _ _ _ _ _ (step x H5 y5))) fun _ s6 ⟨σ6,H6,I6,kp,q6⟩=>?_
    refine thn (ht s₂ H2 C fp pins _ s6 σ6 H6 _ I6 q6) fun ok s7 ⟨H7,I7,q7⟩=>?_
    cases ok with
    | false=>
     exact again I7 kp q7
    | true=>
     refine thn (hk s₂ H2 C fp pins _ s7 σ6 H7 _ I7 q7) fun y s8 ⟨v,H8,I8,r8,q8⟩=>?_
     refine thn (hv s₂ H2 C fp pins _ s8 σ6 H8 _ I8 q8) fun z s9 ⟨zv,H9,I9,r9,k,kvs,ek,hl,hz,w9⟩=>?_
     subst ek
     exact Zah6 (X:=X.blk scope own js s₂ H2 C fp pins) I9 hl hz r8 r9 fun s10 I10=>again I10 kp w9
  ·rw[Zaaf ?_]
   ·exact (hf b hb).1
   ·obtain⟨o,e⟩:=ho2 b hb
    rw[<- hacc']
    exact Nat.ne_of_lt (Heap.lt_size e)
 exact codeAny_compStart_dict (loop _ rfl) (T.self _ 0 _ _ _ st1 (loop _ rfl))
theorem Zajt (c : CompOk X scope own js) (hc : X.calm = true) (hi : PI X target iter wi) (hgk : GKeep own g)
  (hg:∀ s H C fp pins,PG (X.blk scope own js s H C fp pins) target g) (ht:∀ s H C fp pins,PTs (X.blk scope own js s H C fp pins) ifs tt) (hk:∀ s H C fp pins,PE (X.blk scope own js s H C fp pins) kx tk) (hv:∀ s H C fp pins,PE (X.blk scope own js s H C fp pins) vx tv)
  (hs:∀ x,foldedSetIterable iter X.env x=pure x:=by intro _; rfl):PE X (.DictComp kx vx [⟨target,iter,ifs,0⟩] scope pos) (ZalS own js wi g tt tk tv):=by
 intro pins s σ H Q I h
 rw[arm_eval_DictComp]
 refine wpAny_comprehension_free (use:=none) rfl hs (ZabF (c.cl I)) c.kind c.names (thn (hi pins s σ H _ I h) fun v s1 h1=>thn h1 fun itv s2 h2=>?_)
 obtain⟨it,fp,tn,J,H2,e,I2,T,st2,f2,hw⟩:=h2
 subst e
 refine Zaj8 (RR:=fun acc C=>compPost (model X.prog X.w) X.A X.xe none (EP X pins σ Q) acc C) c hc hgk hg ht hk hv I2 T st2 f2 hw ?_
 intro acc C H' s' m hCs hCn I' hn q
 refine⟨m,hn,fun h' hs'=>⟨.ref acc,H',I'.other hs' hCn ?_ ?_ ?_ ?_,rfl,q⟩⟩
 ·exact Nat.ne_of_gt (Nat.lt_of_lt_of_le I2.lt hCs)
 ·exact Nat.le_trans I2.sz hCs
 ·intro x a e z
  obtain⟨v,q⟩:=I2.cell x a e
  exact absurd (Nat.lt_of_lt_of_le q.lt (by rw[z]; exact hCs)) (Nat.lt_irrefl _)
 ·intro p hp z
  exact absurd (Nat.lt_of_lt_of_le (Heap.lt_size (I2.pin p hp).1) (by rw[z]; exact hCs)) (Nat.lt_irrefl _)
end
theorem Zafq {o : Obj} {own : List Str} {js : List Nat} {g : TG} {tt : TT} {tk tv : TE} {σ : St} {H1 : Hp} {Q : VK} {a : Addr} {kvs : List (Key × V)} (Pv : Addr → Nat → Hp → Prop) (h0 : ∀ acc, H1 acc = none → Pv acc 0 (upd H1 acc (.dK []))) (hl : ∀ acc i H, H1 acc = none → i ≤ kvs.length → Pv acc i H → H a = some (.frz o (.dK kvs)))
  (hs:∀ acc i k v p H,H1 acc=none->kvs[i]?=some (k,v)->Pv acc i H->H p=none->g (.ref p) (blkσ own js σ) (upd H p (.tup [kV k,v])) fun τ H4=>tt τ H4 fun c H5=>
   if c=true then tk τ H5 fun y H6=>tv τ H6 fun z H7=>∃ k kvs',y=kV k/\H7 acc=some (.dK kvs')/\kvs'.length<sizeLine/\(i+1<=kvs.length/\Pv acc (i+1) (upd H7 acc (.dK (putK kvs' k z)))) else (i+1<=kvs.length/\Pv acc (i+1) H5))
  (hd:∀ acc H,H1 acc=none->Pv acc kvs.length H->Q (.ref acc) H):ZafI own js g tt tk tv σ (Itd o a) H1 Q:=by
 intro acc hacc
 refine⟨fun i H=>i<=kvs.length/\Pv acc i H,kvs.length,⟨Nat.zero_le _,h0 acc hacc⟩,?_⟩
 rintro i H ⟨hi,p⟩
 have q:=hl acc i H hacc hi p
 by_cases hlt:i<kvs.length
 ·refine .inr ⟨hlt,⟨kvs,kvs[i],q,List.getElem?_eq_getElem hlt⟩,fun x H' y=>?_⟩
  obtain⟨pa,k,v,hp,e1,e2,y⟩:=y
  subst e1 e2
  exact hs acc i k v pa _ hacc (y kvs q) p hp
 ·obtain rfl:i=kvs.length:=by omega
  exact .inl ⟨⟨kvs,q,Nat.le_refl _⟩,hd acc H hacc p⟩
theorem Zafu {X:Cx}:CallR X (.type "dict") (fun xs H Q=>∃ a kvs,xs=[.ref a]/\Rd H a (.dK kvs)/\∀ p,H p=none->Q (.ref p) (upd H p (.dK kvs))):=by
 intro pins s σ H xs us Q I r h
 obtain⟨a,kvs,rfl,e,q⟩:=h
 obtain⟨u,rfl,r1⟩:=vals1 r
 cases r1
 exact Zaj4 I e fun p s' hp I'=>⟨.ref p,_,I',rfl,q p hp⟩
end L2
namespace L2
open PySem PyProof.Rows
structure KO extends KeyOrd where
 ky:Keyed->α
namespace KO
variable {O:KO}{x y z:Keyed}
def le (O:KO) (x y:Keyed):Prop:=O.blt (O.ky y) (O.ky x)=false
theorem le_refl:O.le x x:=O.irrefl _
theorem le_trans (h1:O.le x y) (h2:O.le y z):O.le x z:=KeyOrd.kle_trans (O:=O.toKeyOrd) h1 h2
theorem le_of_lt (h:O.blt (O.ky x) (O.ky y)=true):O.le x y:=KeyOrd.klt_asymm (O:=O.toKeyOrd) h
abbrev Srt (O:KO) (l:List Keyed):Prop:=l.Pairwise O.le
end KO
def ZagC:Bool->Keyed->Array Keyed->Nat->Nat->Nat->StateT SortSt Sem (Option Nat):=sortPriv% PySem.Builtin.gallop
def ZajP:Array Keyed->Array Keyed->StateT SortSt Sem (Array Keyed):=sortPriv% PySem.Builtin.mergeLo
def ZajQ:Array Keyed->Array Keyed->StateT SortSt Sem (Array Keyed):=sortPriv% PySem.Builtin.mergeHi
def Zaf0:Nat->StateT SortSt Sem Unit:=sortPriv% PySem.Builtin.setMinGallop
section
variable {prog:Program}{w:World}{A:Around}{E:Value->Shared->Prop}{s:Shared}{O:KO}{knd:SortKind}{ok:Keyed->Prop}{st:SortSt}
def Asks (prog:Program) (w:World) (A:Around) (s:Shared) (O:KO) (knd:SortKind) (ok:Keyed->Prop):Prop :=
 ∀ x y,ok x->ok y->∀ (E:Value->Shared->Prop) (Q:Bool->Shared->Prop),Q (O.blt (O.ky x) (O.ky y)) s->wpAny (model prog w) A (keyLt' knd x.1 y.1) Q E s
theorem Zafy {x y:Keyed}{Q:Option Bool->SortSt->Prop} (hA:Asks prog w A s O knd ok) (hk:kindOf st=knd) (hx:ok x) (hy:ok y) (h:Q (some (O.blt (O.ky x) (O.ky y))) st):wpS (model prog w) A E s (lt' x y) Q st:=by
 rw[lt'_eq]
 refine wpS_bind (wpS_get ?_)
 rw[hk]
 refine wpS_bind (wpS_lift (wpAny_attempt (hA x y hx hy _ _ ⟨rfl,?_⟩)))
 exact wpS_pure h
theorem Zaao {arr:Array Keyed}{i:Nat}{x:Keyed}{Q:Keyed->SortSt->Prop} (e:arr[i]?=some x) (h:Q x st):wpS (model prog w) A E s (elem' arr i) Q st:=by
 rw[elem'_eq,e]
 exact wpS_pure h
def ZaiQ (left:Bool) (key:Keyed) (arr:Array Keyed) (base i:Nat):StateT SortSt Sem (Option Bool) :=
 elem' arr (base+i) >>= fun x=>if left=true then lt' x key else lt' key x >>= fun r=>pure (r.map (! ·))
theorem Zada {left : Bool} {key : Keyed} {arr : Array Keyed} {base n hint : Nat} {Q : Option Nat → SortSt → Prop} (hA : Asks prog w A s O knd ok) (hk : kindOf st = knd) (hkey : ok key) (B : Nat → Bool)
    (hB:∀ i,i<n->∃ x,arr[base+i]?=some x/\ok x/\B i=if left=true then O.blt (O.ky x) (O.ky key) else !(O.blt (O.ky key) (O.ky x)))
    (mono:∀ i j,i<=j->j<n->B j=true->B i=true) (hh:hint<n)
    (h:∀ k,k<=n->(∀ i,i<k->B i=true)->(∀ i,k<=i->i<n->B i=false)->Q (some k) st):wpS (model prog w) A E s (ZagC left key arr base n hint) Q st:=by
  have bey:∀ i,i<n->∀ {Q':Option Bool->SortSt->Prop},Q' (some (B i)) st->wpS (model prog w) A E s (ZaiQ left key arr base i) Q' st:=by
    intro i hi Q' hq
    obtain⟨x,e,hx,eb⟩:=hB i hi
    refine wpS_bind (Zaao e ?_)
    rw[eb] at hq
    cases left with
    | true=>simp only[if_true] at hq ⊢; exact Zafy hA hk hx hkey hq
    | false=>
      simp only[Bool.false_eq_true,if_false] at hq ⊢
      exact wpS_bind (Zafy hA hk hkey hx (wpS_pure hq))
  have monoF:∀ i j,i<=j->j<n->B i=false->B j=false:=by
    intro i j hij hj hf
    cases e:B j with
    | false=>rfl
    | true=>rw[mono i j hij hj e] at hf; cases hf
  have jp : ∀ lo hi, lo ≤ hi → hi ≤ n → (∀ i, i < lo → B i = true) → (∀ i, hi ≤ i → i < n → B i = false) →
      wpS (model prog w) A E s (forIn [:n] ((none : Option (Option Nat)), lo, hi) fun _ c => if c.2.1 ≥ c.2.2 then pure (ForInStep.done (none, c.2.1, c.2.2)) else ZaiQ left key arr base (c.2.1 + (c.2.2 - c.2.1) / 2) >>= fun x => match x with
          | some more=>if more=true then pure (ForInStep.yield (none,c.2.1+(c.2.2 - c.2.1) / 2+1,c.2.2)) else pure (ForInStep.yield (none,c.2.1,c.2.1+(c.2.2 - c.2.1) / 2))
          | _=>pure (ForInStep.done (some none,c.2.1,c.2.2)))
        (fun c st'=>st'=st/\∃ l k,c=(none,l,k)/\Q (some k) st) st:=by
    intro lo hi hle hin hlo hhi
    refine wpS_forRange (I:=fun x c st'=>st'=st/\∃ l k,c=(none,l,k)/\l<=k/\k<=n/\k - l<=n - x/\(∀ i,i<l->B i=true)/\(∀ i,k<=i->i<n->B i=false)) ?step ?fin ⟨rfl,lo,hi,rfl,hle,hin,by omega,hlo,hhi⟩
    case fin=>
      rintro c st' ⟨rfl,l,k,rfl,h1,h2,h3,h4,h5⟩
      have e:l=k:=by omega
      subst e
      exact⟨rfl,l,l,rfl,h l h2 h4 h5⟩
    case step=>
      rintro x c st' _ hx ⟨rfl,l,k,rfl,h1,h2,h3,h4,h5⟩
      dsimp only
      by_cases hge:l ≥ k
      · rw[if_pos hge]
        have e:l=k:=by omega
        subst e
        exact wpS_pure ⟨rfl,l,l,rfl,h l h2 h4 h5⟩
      · rw[if_neg hge]
        have hm:l+(k - l) / 2<k:=by omega
        refine wpS_bind (bey _ (by omega) ?_)
        cases e:B (l+(k - l) / 2) with
        | true=>
          simp only[if_true]
          exact wpS_pure ⟨rfl,_,_,rfl,by omega,h2,by omega,fun i hi=>mono i _ (by omega) (by omega) e,h5⟩
        | false=>
          simp only[Bool.false_eq_true,if_false]
          exact wpS_pure ⟨rfl,_,_,rfl,by omega,by omega,by omega,h4,fun i h6 h7=>monoF _ i h6 h7 e⟩
  refine wpS_bind (bey hint hh ?_)
  dsimp only
  cases e0:B hint with
  | true=>
    simp only[if_true]
    refine wpS_bind (wpS_mono (wpS_forRange (I:=fun x c st'=>st'=st/\∃ l k,c=((none:Option (Option Nat)),l,k)/\l<k/\x+1<=k/\hint+l<n/\B (hint+l)=true)
      (Q:=fun c st'=>st'=st/\∃ l k,c=((none:Option (Option Nat)),l,k)/\l<k/\hint+l<n/\B (hint+l)=true/\(n - hint<=k∨(hint+k<n/\B (hint+k)=false))) ?step ?fin ⟨rfl,0,1,rfl,by omega,by omega,hh,e0⟩) ?post)
    case fin=>
      rintro c st' ⟨rfl,l,k,rfl,h1,h2,h3,h4⟩
      exact⟨rfl,l,k,rfl,h1,h3,h4,.inl (by omega)⟩
    case step=>
      rintro x c st' _ hx ⟨rfl,l,k,rfl,h1,h2,h3,h4⟩
      dsimp only
      by_cases hge:k ≥ n - hint
      · rw[if_pos hge]
        exact wpS_pure ⟨rfl,l,k,rfl,h1,h3,h4,.inl hge⟩
      · rw[if_neg hge]
        refine wpS_bind (bey (hint+k) (by omega) ?_)
        cases e:B (hint+k) with
        | true=>
          simp only[Bool.not_true,Bool.false_eq_true,if_false]
          exact wpS_pure ⟨rfl,_,_,rfl,by omega,by omega,by omega,e⟩
        | false=>
          simp only[Bool.not_false,if_true]
          exact wpS_pure ⟨rfl,l,k,rfl,h1,h3,h4,.inr ⟨by omega,e⟩⟩
    case post=>
      rintro c st' ⟨rfl,l,k,rfl,h1,h3,h4,h5⟩
      dsimp only
      refine wpS_bind (wpS_mono (jp (hint+l+1) (hint+min k (n - hint)) (by omega) (by omega) (fun i hi=>mono i (hint+l) (by omega) h3 h4) (fun i h6 h7=>?_)) ?_)
      · rcases h5 with h5 | ⟨h5,h8⟩
        · omega
        · exact monoF (hint+k) i (by omega) h7 h8
      · rintro c st' ⟨rfl,l,k,rfl,q⟩
        exact wpS_pure q
  | false=>
    simp only[Bool.false_eq_true,if_false]
    refine wpS_bind (wpS_mono (wpS_forRange (I:=fun x c st'=>st'=st/\∃ l k,c=((none:Option (Option Nat)),l,k)/\l<k/\x+1<=k/\l<=hint/\B (hint - l)=false)
      (Q:=fun c st'=>st'=st/\∃ l k,c=((none:Option (Option Nat)),l,k)/\l<k/\l<=hint/\B (hint - l)=false/\(hint+1<=k∨(k<=hint/\B (hint - k)=true))) ?step ?fin ⟨rfl,0,1,rfl,by omega,by omega,by omega,e0⟩) ?post)
    case fin=>
      rintro c st' ⟨rfl,l,k,rfl,h1,h2,h3,h4⟩
      exact⟨rfl,l,k,rfl,h1,h3,h4,.inl (by omega)⟩
    case step=>
      rintro x c st' _ hx ⟨rfl,l,k,rfl,h1,h2,h3,h4⟩
      dsimp only
      by_cases hge:k ≥ hint+1
      · rw[if_pos hge]
        exact wpS_pure ⟨rfl,l,k,rfl,h1,h3,h4,.inl hge⟩
      · rw[if_neg hge]
        refine wpS_bind (bey (hint - k) (by omega) ?_)
        cases e:B (hint - k) with
        | true=>
          simp only[if_true]
          exact wpS_pure ⟨rfl,l,k,rfl,h1,h3,h4,.inr ⟨by omega,e⟩⟩
        | false=>
          simp only[Bool.false_eq_true,if_false]
          exact wpS_pure ⟨rfl,_,_,rfl,by omega,by omega,by omega,e⟩
    case post=>
      rintro c st' ⟨rfl,l,k,rfl,h1,h3,h4,h5⟩
      dsimp only
      refine wpS_bind (wpS_mono (jp (hint+1 - min k (hint+1)) (hint - l) (by omega) (by omega) (fun i hi=>?_) (fun i h6 h7=>monoF _ i h6 h7 h4)) ?_)
      · rcases h5 with h5 | ⟨h5,h8⟩
        · omega
        · exact mono i (hint - k) (by omega) (by omega) h8
      · rintro c st' ⟨rfl,l,k,rfl,q⟩
        exact wpS_pure q
end
section
variable {O:KO}{a b out:List Keyed}{ia ib:Nat}{x:Keyed}
theorem ZagJ {l:List Keyed}{i:Nat}{x:Keyed} (e:l[i]?=some x):l.drop i=x::l.drop (i+1):=by
 obtain⟨h,rfl⟩:=List.getElem?_eq_some_iff.mp e
 exact List.drop_eq_getElem_cons h
theorem ZahY (a:Array Keyed) (i:Nat):(a.extract i a.size).toList=a.toList.drop i:=by
 rw[Array.toList_extract]
 simp only[List.extract]
 exact List.take_of_length_le (by simp)
theorem ZagG (a:Array Keyed) (i k:Nat):(a.extract i (i+k)).toList=(a.toList.drop i).take k:=by
 rw[Array.toList_extract]
 simp[List.extract]
structure MI (O:KO) (a b out:List Keyed) (ia ib:Nat):Prop where
 perm:(out++(a.drop ia++b.drop ib)).Perm (a++b)
 srt:O.Srt out
 le:∀ x∈out,∀ y∈a.drop ia++b.drop ib,O.le x y
theorem ZafL (h:O.Srt out) (hx:∀ y∈out,O.le y x):O.Srt (out++[x]) :=
 List.pairwise_append.mpr ⟨h,List.pairwise_singleton _ _,fun y hy z hz=>by rw[List.mem_singleton.mp hz]; exact hx y hy⟩
theorem MI.takeA (h:MI O a b out ia ib) (sa:O.Srt a) (e:a[ia]?=some x) (hb:∀ y∈b.drop ib,O.le x y):MI O a b (out++[x]) (ia+1) ib:=by
 have ed:=ZagJ e
 have sd:O.Srt (x::a.drop (ia+1)):=ed ▸ sa.drop
 refine⟨?_,ZafL h.srt fun y hy=>h.le y hy x (by rw[ed]; simp),fun y hy z hz=>?_⟩
 ·have p:=h.perm
  rw[ed] at p
  simpa using p
 ·rcases List.mem_append.mp hy with hy | hy
  ·refine h.le y hy z ?_
   rw[ed]
   rcases List.mem_append.mp hz with hz | hz
   ·exact List.mem_append_left _ (List.mem_cons_of_mem _ hz)
   ·exact List.mem_append_right _ hz
  ·rw[List.mem_singleton.mp hy]
   rcases List.mem_append.mp hz with hz | hz
   ·exact (List.pairwise_cons.mp sd).1 z hz
   ·exact hb z hz
theorem MI.takeB (h:MI O a b out ia ib) (sb:O.Srt b) (e:b[ib]?=some x) (ha:∀ y∈a.drop ia,O.le x y):MI O a b (out++[x]) ia (ib+1):=by
 have ed:=ZagJ e
 have sd:O.Srt (x::b.drop (ib+1)):=ed ▸ sb.drop
 refine⟨?_,ZafL h.srt fun y hy=>h.le y hy x (by rw[ed]; simp),fun y hy z hz=>?_⟩
 ·have p:=h.perm
  rw[ed] at p
  refine List.Perm.trans ?_ p
  rw[List.append_assoc]
  exact List.Perm.append_left _ (show List.Perm (x::(a.drop ia++b.drop (ib+1))) _ from List.perm_middle.symm)
 ·rcases List.mem_append.mp hy with hy | hy
  ·refine h.le y hy z ?_
   rw[ed]
   rcases List.mem_append.mp hz with hz | hz
   ·exact List.mem_append_left _ hz
   ·exact List.mem_append_right _ (List.mem_cons_of_mem _ hz)
  ·rw[List.mem_singleton.mp hy]
   rcases List.mem_append.mp hz with hz | hz
   ·exact ha z hz
   ·exact (List.pairwise_cons.mp sd).1 z hz
theorem ZacJ {l:List Keyed}{i k:Nat}{x:Keyed} (e:l[i+k]?=some x):(l.drop i).take (k+1)=(l.drop i).take k++[x]:=by
 rw[List.take_succ,List.getElem?_drop,e]
 rfl
theorem MI.takeAs (h:MI O a b out ia ib) (sa:O.Srt a):∀ k,ia+k<=a.length->(∀ i z,i<k->a[ia+i]?=some z->∀ y∈b.drop ib,O.le z y)->MI O a b (out++(a.drop ia).take k) (ia+k) ib
 | 0,_,_=>by simpa using h
 | k+1,hl,hz=>by
  have q:=MI.takeAs h sa k (by omega) fun i z hi e=>hz i z (by omega) e
  have e:a[ia+k]?=some a[ia+k]:=List.getElem?_eq_getElem (by omega)
  have r:=q.takeA sa e (hz k _ (by omega) e)
  rw[List.append_assoc,<- ZacJ e] at r
  exact r
theorem MI.takeBs (h:MI O a b out ia ib) (sb:O.Srt b):∀ k,ib+k<=b.length->(∀ i z,i<k->b[ib+i]?=some z->∀ y∈a.drop ia,O.le z y)->MI O a b (out++(b.drop ib).take k) ia (ib+k)
 | 0,_,_=>by simpa using h
 | k+1,hl,hz=>by
  have q:=MI.takeBs h sb k (by omega) fun i z hi e=>hz i z (by omega) e
  have e:b[ib+k]?=some b[ib+k]:=List.getElem?_eq_getElem (by omega)
  have r:=q.takeB sb e (hz k _ (by omega) e)
  rw[List.append_assoc,<- ZacJ e] at r
  exact r
def Mg (O:KO) (a b r:List Keyed):Prop:=r.Perm (a++b)/\O.Srt r
theorem MI.doneA (h:MI O a b out ia ib) (sa:O.Srt a) (e:b.length<=ib):Mg O a b (out++a.drop ia++b.drop ib):=by
 have eb:b.drop ib=[]:=List.drop_eq_nil_of_le e
 refine⟨by rw[List.append_assoc]; exact h.perm,?_⟩
 rw[eb,List.append_nil]
 exact List.pairwise_append.mpr ⟨h.srt,sa.drop,fun x hx y hy=>h.le x hx y (List.mem_append_left _ hy)⟩
theorem MI.doneB (h:MI O a b out ia ib) (sa:O.Srt a) (sb:O.Srt b) (hl:∀ x∈b.drop ib,∀ y∈a.drop ia,O.le x y):Mg O a b (out++b.drop ib++a.drop ia):=by
 refine⟨by rw[List.append_assoc]; exact (List.Perm.append_left _ List.perm_append_comm).trans h.perm,?_⟩
 rw[List.append_assoc]
 refine List.pairwise_append.mpr ⟨h.srt,List.pairwise_append.mpr ⟨sb.drop,sa.drop,hl⟩,fun x hx y hy=>h.le x hx y ?_⟩
 rcases List.mem_append.mp hy with hy | hy
 ·exact List.mem_append_right _ hy
 ·exact List.mem_append_left _ hy
end
section
variable {prog:Program}{w:World}{A:Around}{E:Value->Shared->Prop}{s:Shared}{O:KO}{knd:SortKind}{ok:Keyed->Prop}{st:SortSt}
theorem ZaaF {α:Type}{c:Prop} [Decidable c] {p q:StateT SortSt Sem α}{Q:α->SortSt->Prop} (h1:c->wpS (model prog w) A E s p Q st) (h2:¬ c->wpS (model prog w) A E s q Q st):wpS (model prog w) A E s (if c then p else q) Q st:=by
 by_cases h:c
 ·rw[if_pos h]; exact h1 h
 ·rw[if_neg h]; exact h2 h
def Gal (st st':SortSt):Prop:=kindOf st'=kindOf st/\arrOf st'=arrOf st/\pendingOf st'=pendingOf st/\failedOf st'=failedOf st
theorem Gal.refl:Gal st st:=⟨rfl,rfl,rfl,rfl⟩
theorem ZaaY {g:Nat}{st1:SortSt}{Q:Unit->SortSt->Prop} (hG:Gal st st1) (h:∀ st',Gal st st'->Q () st'):wpS (model prog w) A E s (Zaf0 g) Q st1 :=
 wpS_modify (h _ ⟨hG.1,hG.2.1,hG.2.2.1,hG.2.2.2⟩)
theorem ZabX {l:List Keyed} (sl:O.Srt l) {i j:Nat}{x y:Keyed} (hij:i<=j) (hx:l[i]?=some x) (hy:l[j]?=some y):O.le x y:=by
 obtain⟨h1,rfl⟩:=List.getElem?_eq_some_iff.mp hx
 obtain⟨h2,rfl⟩:=List.getElem?_eq_some_iff.mp hy
 rcases Nat.lt_or_eq_of_le hij with h | h
 ·exact List.pairwise_iff_getElem.mp sl i j h1 h2 h
 ·subst h; exact KO.le_refl
theorem ZaaM {l:List Keyed}{i:Nat}{y:Keyed} (h:y∈l.drop i):∃ j,i<=j/\l[j]?=some y:=by
 obtain⟨j,hj,e⟩:=List.mem_iff_getElem.mp h
 exact⟨i+j,by omega,by rw[<- List.getElem?_drop,List.getElem?_eq_getElem hj,e]⟩
theorem Zacz {l:List Keyed} (sl:O.Srt l) {i:Nat}{x:Keyed} (hx:l[i]?=some x):∀ y∈l.drop i,O.le x y:=fun y hy=>
 let ⟨_,hj,e⟩:=ZaaM hy
 ZabX sl hj hx e
theorem ZaaN {a:Array Keyed}{i:Nat} (h:i<a.size):∃ x,a[i]?=some x/\a.toList[i]?=some x/\x∈a.toList :=
 ⟨a[i],Array.getElem?_eq_getElem h,by rw[Array.getElem?_toList]; exact Array.getElem?_eq_getElem h,by simp⟩
theorem Zafv {a:Array Keyed}{i:Nat}{x:Keyed} (h:a[i]?=some x):a.toList[i]?=some x:=by rw[Array.getElem?_toList]; exact h
theorem ZabI {key : Keyed} {a : Array Keyed} {i n hint : Nat} {Q : Option Nat → SortSt → Prop} (hA : Asks prog w A s O knd ok) (hk : kindOf st = knd) (hkey : ok key) (oka : ∀ x ∈ a.toList, ok x) (hi : i + n ≤ a.size)
  (sa:∀ p q x y,i<=p->p<=q->q<i+n->a[p]?=some x->a[q]?=some y->O.le x y) (hh:hint<n)
  (h:∀ k,k<=n->(∀ j z,j<k->a[i+j]?=some z->O.le z key)->(∀ j z,k<=j->j<n->a[i+j]?=some z->O.blt (O.ky key) (O.ky z)=true)->Q (some k) st):wpS (model prog w) A E s (ZagC false key a i n hint) Q st:=by
 refine Zada hA hk hkey (fun j=>!(O.blt (O.ky key) (O.ky (a.getD (i+j) key)))) ?_ ?_ hh ?_
 ·intro j hj
  obtain⟨x,e1,_,e3⟩:=ZaaN (a:=a) (i:=i+j) (by omega)
  refine⟨x,e1,oka x e3,?_⟩
  have e4:a.getD (i+j) key=x:=by rw[Array.getD_eq_getD_getElem?,e1]; rfl
  simp[e4]
 ·intro p q hpq hq hb
  obtain⟨x,e1,_,_⟩:=ZaaN (a:=a) (i:=i+p) (by omega)
  obtain⟨y,f1,_,_⟩:=ZaaN (a:=a) (i:=i+q) (by omega)
  have e4:a.getD (i+p) key=x:=by rw[Array.getD_eq_getD_getElem?,e1]; rfl
  have f4:a.getD (i+q) key=y:=by rw[Array.getD_eq_getD_getElem?,f1]; rfl
  rw[f4] at hb
  rw[e4]
  have z:O.le x key:=KO.le_trans (sa _ _ x y (by omega) (by omega) (by omega) e1 f1) (show O.blt _ _=false by simpa using hb)
  have z:O.blt (O.ky key) (O.ky x)=false:=z
  simpa using z
 ·intro k hk1 h1 h2
  refine h k hk1 (fun j z hj e=>?_) (fun j z hj hj2 e=>?_)
  ·have e4:a.getD (i+j) key=z:=by rw[Array.getD_eq_getD_getElem?,e]; rfl
   have:=h1 j hj
   rw[e4] at this
   exact (show O.blt _ _=false by simpa using this)
  ·have e4:a.getD (i+j) key=z:=by rw[Array.getD_eq_getD_getElem?,e]; rfl
   have:=h2 j hj hj2
   rw[e4] at this
   simpa using this
theorem Zaa1 {key : Keyed} {a : Array Keyed} {i n hint : Nat} {Q : Option Nat → SortSt → Prop} (hA : Asks prog w A s O knd ok) (hk : kindOf st = knd) (hkey : ok key) (oka : ∀ x ∈ a.toList, ok x) (hi : i + n ≤ a.size)
  (sa:∀ p q x y,i<=p->p<=q->q<i+n->a[p]?=some x->a[q]?=some y->O.le x y) (hh:hint<n)
  (h:∀ k,k<=n->(∀ j z,j<k->a[i+j]?=some z->O.blt (O.ky z) (O.ky key)=true)->(∀ j z,k<=j->j<n->a[i+j]?=some z->O.le key z)->Q (some k) st):wpS (model prog w) A E s (ZagC true key a i n hint) Q st:=by
 refine Zada hA hk hkey (fun j=>O.blt (O.ky (a.getD (i+j) key)) (O.ky key)) ?_ ?_ hh ?_
 ·intro j hj
  obtain⟨x,e1,_,e3⟩:=ZaaN (a:=a) (i:=i+j) (by omega)
  refine⟨x,e1,oka x e3,?_⟩
  have e4:a.getD (i+j) key=x:=by rw[Array.getD_eq_getD_getElem?,e1]; rfl
  simp[e4]
 ·intro p q hpq hq hb
  obtain⟨x,e1,_,_⟩:=ZaaN (a:=a) (i:=i+p) (by omega)
  obtain⟨y,f1,_,_⟩:=ZaaN (a:=a) (i:=i+q) (by omega)
  have e4:a.getD (i+p) key=x:=by rw[Array.getD_eq_getD_getElem?,e1]; rfl
  have f4:a.getD (i+q) key=y:=by rw[Array.getD_eq_getD_getElem?,f1]; rfl
  rw[f4] at hb
  rw[e4]
  exact KeyOrd.klt_of_kle_of_klt (O:=O.toKeyOrd) (sa _ _ x y (by omega) (by omega) (by omega) e1 f1) hb
 ·intro k hk1 h1 h2
  refine h k hk1 (fun j z hj e=>?_) (fun j z hj hj2 e=>?_)
  ·have e4:a.getD (i+j) key=z:=by rw[Array.getD_eq_getD_getElem?,e]; rfl
   have:=h1 j hj
   rw[e4] at this
   exact this
  ·have e4:a.getD (i+j) key=z:=by rw[Array.getD_eq_getD_getElem?,e]; rfl
   have:=h2 j hj hj2
   rw[e4] at this
   exact this
theorem srtA {a:Array Keyed} (sa:O.Srt a.toList) (i n:Nat):∀ p q x y,i<=p->p<=q->q<i+n->a[p]?=some x->a[q]?=some y->O.le x y:=fun p q x y _ h _ e1 e2=>ZabX sa h (Zafv e1) (Zafv e2)
theorem Zae6 {a b : Array Keyed} {Q : Array Keyed → SortSt → Prop} (hA : Asks prog w A s O knd ok) (hk : kindOf st = knd) (oka : ∀ x ∈ a.toList, ok x) (okb : ∀ x ∈ b.toList, ok x) (sa : O.Srt a.toList) (sb : O.Srt b.toList) (ha : 1 ≤ a.size) (hb : 1 ≤ b.size)
  (hfirst:∀ y,b[0]?=some y->∀ x∈a.toList,O.le y x) (hlast:∀ z,a[a.size - 1]?=some z->∀ y∈b.toList,O.blt (O.ky y) (O.ky z)=true)
  (h:∀ r st',Gal st st'->Mg O a.toList b.toList r.toList->Q r st'):wpS (model prog w) A E s (ZajP a b) Q st:=by
 obtain⟨b0,eb0,eb0',_⟩:=ZaaN (a:=b) (i:=0) (by omega)
 have done:∀ {out:Array Keyed}{ia ib:Nat},MI O a.toList b.toList out.toList ia ib->b.size<=ib->Mg O a.toList b.toList (out++a.extract ia a.size++b.extract ib b.size).toList:=by
  intro out ia ib m hl
  rw[Array.toList_append,Array.toList_append,ZahY,ZahY]
  exact m.doneA sa hl
 have last:∀ {out:Array Keyed}{ia ib:Nat},MI O a.toList b.toList out.toList ia ib->ia+1=a.size->Mg O a.toList b.toList (out++b.extract ib b.size++a.extract ia a.size).toList:=by
  intro out ia ib m hl
  rw[Array.toList_append,Array.toList_append,ZahY,ZahY]
  refine m.doneB sa sb fun x hx y hy=>?_
  obtain⟨j,hj,e⟩:=ZaaM hy
  have hj2:j<a.size:=(List.getElem?_eq_some_iff.mp e).1
  have e2:j=a.size - 1:=by omega
  rw[e2] at e
  rw[Array.getElem?_toList] at e
  exact KO.le_of_lt (hlast y e x (List.mem_of_mem_drop hx))
 have pB:∀ {out:Array Keyed}{ia ib:Nat}{y:Keyed},MI O a.toList b.toList out.toList ia ib->b[ib]?=some y->(∀ z∈a.toList.drop ia,O.le y z)->MI O a.toList b.toList (out.push y).toList ia (ib+1):=by
  intro out ia ib y m e hz
  rw[Array.toList_push]
  exact m.takeB sb (Zafv e) hz
 have pA:∀ {out:Array Keyed}{ia ib:Nat}{y:Keyed},MI O a.toList b.toList out.toList ia ib->a[ia]?=some y->(∀ z∈b.toList.drop ib,O.le y z)->MI O a.toList b.toList (out.push y).toList (ia+1) ib:=by
  intro out ia ib y m e hz
  rw[Array.toList_push]
  exact m.takeA sa (Zafv e) hz
 refine wpS_bind (wpS_lift (wpAny_rule ⟨rfl,?_⟩))
 refine wpS_bind (Zaao eb0 ?_)
 have m0:MI O a.toList b.toList #[b0].toList 0 1 :=
  MI.takeB (out:=[]) (ib:=0) ⟨by simp,List.Pairwise.nil,fun x hx=>by cases hx⟩ sb eb0' (by simpa using hfirst b0 eb0)
 dsimp only
 by_cases c1:1=b.size
 ·rw[if_pos (by simpa using c1)]
  exact wpS_pure (h _ _ Gal.refl (done m0 (by omega)))
 rw[if_neg (by simpa using c1)]
 by_cases c2:0+1=a.size
 ·rw[if_pos (by simpa using c2)]
  exact wpS_pure (h _ _ Gal.refl (last m0 (by omega)))
 rw[if_neg (by simpa using c2)]
 refine wpS_bind (wpS_get ?_)
 refine wpS_bind (wpS_mono (wpS_forRange
  (I:=fun x c st'=>Gal st st'/\∃ (out:Array Keyed) (ia ib g:Nat),c=((none:Option (Array Keyed)),out,ia,ib,g)/\MI O a.toList b.toList out.toList ia ib/\ia+1<a.size/\ib<b.size/\x<=ia+ib)
  (Q:=fun c st'=>Gal st st'/\∃ (r out:Array Keyed) (ia ib g:Nat),c=(some r,out,ia,ib,g)/\Mg O a.toList b.toList r.toList) ?step ?fin ⟨Gal.refl,#[b0],0,1,gallopOf st,rfl,m0,by omega,by omega,by omega⟩) ?post)
 case fin=>
  rintro c st' ⟨_,out,ia,ib,g,rfl,_,h1,h2,h3⟩
  omega
 case post=>
  rintro c st' ⟨hG,r,out,ia,ib,g,rfl,hm⟩
  exact wpS_pure (h r st' hG hm)
 case step=>
  rintro x c st1 _ hx ⟨hG1,out,ia,ib,g,rfl,hm,h1,h2,h3⟩
  dsimp only
  have hk1:kindOf st1=knd:=hG1.1.trans hk
  refine wpS_bind (wpS_mono (wpS_forRange
   (I:=fun y c st'=>st'=st1/\∃ (out:Array Keyed) (ia ib p q:Nat),c=((none:Option (Array Keyed)),out,ia,ib,p,q)/\MI O a.toList b.toList out.toList ia ib/\ia+1<a.size/\ib<b.size/\x+y<=ia+ib)
   (Q:=fun c st'=>st'=st1/\((∃ (r out:Array Keyed) (ia ib p q:Nat),c=(some r,out,ia,ib,p,q)/\Mg O a.toList b.toList r.toList) ∨
    (∃ (out:Array Keyed) (ia ib p q:Nat),c=(none,out,ia,ib,p,q)/\MI O a.toList b.toList out.toList ia ib/\ia+1<a.size/\ib<b.size/\x+1<=ia+ib))) ?step1 ?fin1 ⟨rfl,out,ia,ib,0,0,rfl,hm,h1,h2,by omega⟩) ?post1)
  case fin1=>
   rintro c st' ⟨rfl,out,ia,ib,p,q,rfl,hm,h1,h2,h3⟩
   exact⟨rfl,.inr ⟨out,ia,ib,p,q,rfl,hm,h1,h2,by omega⟩⟩
  case step1=>
   rintro y c st' _ hy ⟨rfl,out,ia,ib,p,q,rfl,hm,h1,h2,h3⟩
   dsimp only
   obtain⟨u,eu,eu',mu⟩:=ZaaN (a:=b) h2
   obtain⟨v,ev,ev',mv⟩:=ZaaN (a:=a) (i:=ia) (by omega)
   refine wpS_bind (Zaao eu (wpS_bind (Zaao ev ?_)))
   refine wpS_bind (Zafy hA hk1 (okb u mu) (oka v mv) ?_)
   cases e:O.blt (O.ky u) (O.ky v) with
   | true=>
    simp only[if_true]
    refine wpS_bind (Zaao eu ?_)
    have m2:=pB hm eu fun z hz=>KO.le_trans (KO.le_of_lt e) (Zacz sa ev' z hz)
    by_cases c3:ib+1=b.size
    ·rw[if_pos (by simpa using c3)]
     exact wpS_pure ⟨rfl,.inl ⟨_,_,_,_,_,_,rfl,done m2 (by omega)⟩⟩
    rw[if_neg (by simpa using c3)]
    refine ZaaF (fun _=>?_) (fun _=>?_)
    ·exact wpS_pure ⟨rfl,.inr ⟨_,_,_,_,_,rfl,m2,by omega,by omega,by omega⟩⟩
    ·exact wpS_pure ⟨rfl,_,_,_,_,_,rfl,m2,by omega,by omega,by omega⟩
   | false=>
    simp only[Bool.false_eq_true,if_false]
    refine wpS_bind (Zaao ev ?_)
    have m2:=pA hm ev fun z hz=>KO.le_trans (show O.le v u from e) (Zacz sb eu' z hz)
    by_cases c3:ia+1+1=a.size
    ·rw[if_pos (by simpa using c3)]
     exact wpS_pure ⟨rfl,.inl ⟨_,_,_,_,_,_,rfl,last m2 c3⟩⟩
    rw[if_neg (by simpa using c3)]
    refine ZaaF (fun _=>?_) (fun _=>?_)
    ·exact wpS_pure ⟨rfl,.inr ⟨_,_,_,_,_,rfl,m2,by omega,by omega,by omega⟩⟩
    ·exact wpS_pure ⟨rfl,_,_,_,_,_,rfl,m2,by omega,by omega,by omega⟩
  case post1=>
   rintro c st' ⟨rfl,⟨r,out,ia,ib,p,q,rfl,hr⟩ | ⟨out,ia,ib,p,q,rfl,hm,h1,h2,h3⟩⟩
   ·exact wpS_pure ⟨hG1,_,_,_,_,_,rfl,hr⟩
   dsimp only
   refine wpS_bind (wpS_lift (wpAny_rule ⟨rfl,?_⟩))
   refine wpS_bind (wpS_mono (wpS_forRange
    (I:=fun y c st'=>Gal st st'/\∃ (out:Array Keyed) (ia ib g p q:Nat),c=((none:Option (Array Keyed)),out,ia,ib,g,p,q)/\MI O a.toList b.toList out.toList ia ib/\ia+1<a.size/\ib<b.size/\x+1<=ia+ib)
    (Q:=fun c st'=>Gal st st'/\((∃ (r out:Array Keyed) (ia ib g p q:Nat),c=(some r,out,ia,ib,g,p,q)/\Mg O a.toList b.toList r.toList) ∨
     (∃ (out:Array Keyed) (ia ib g p q:Nat),c=(none,out,ia,ib,g,p,q)/\MI O a.toList b.toList out.toList ia ib/\ia+1<a.size/\ib<b.size/\x+1<=ia+ib))) ?step2 ?fin2 ⟨hG1,out,ia,ib,g+1,p,q,rfl,hm,h1,h2,h3⟩) ?post2)
   case fin2=>
    rintro c st' ⟨hG,out,ia,ib,g,p,q,rfl,hm,h1,h2,h3⟩
    exact⟨hG,.inr ⟨out,ia,ib,g,p,q,rfl,hm,h1,h2,h3⟩⟩
   case post2=>
    rintro c st' ⟨hG,⟨r,out,ia,ib,g,p,q,rfl,hr⟩ | ⟨out,ia,ib,g,p,q,rfl,hm,h1,h2,h3⟩⟩
    ·exact wpS_pure ⟨hG,_,_,_,_,_,rfl,hr⟩
    exact wpS_bind (ZaaY hG fun st2 hG2=>wpS_pure ⟨hG2,_,_,_,_,rfl,hm,h1,h2,h3⟩)
   case step2=>
    rintro y c st' _ hy ⟨hG,out,ia,ib,g,p,q,rfl,hm,h1,h2,h3⟩
    dsimp only
    obtain⟨u,eu,eu',mu⟩:=ZaaN (a:=b) h2
    refine ZaaF (fun cg=>?_) (fun cg=>?_)
    all_goals
     refine wpS_bind (ZaaY hG fun st2 hG2=>wpS_bind (Zaao eu ?_))
     refine wpS_bind (ZabI hA (hG2.1.trans hk) (okb u mu) oka (by omega) (srtA sa _ _) (by omega) fun k hk1 b1 b2=>?_)
     have m3:=hm.takeAs sa k (by simp; omega) fun i z hi e y hy=>KO.le_trans (b1 i z hi (by rw[<- Array.getElem?_toList]; exact e)) (Zacz sb eu' y hy)
     have hu:∀ z∈a.toList.drop (ia+k),O.le u z:=by
      intro z hz
      obtain⟨j,hj,e⟩:=ZaaM hz
      have hj2:j<a.size:=(List.getElem?_eq_some_iff.mp e).1
      refine KO.le_of_lt (b2 (j - ia) z (by omega) (by omega) ?_)
      rw[show ia+(j - ia)=j by omega,<- Array.getElem?_toList]
      exact e
     have hka:ia+k<a.size:=by
      rcases Nat.lt_or_eq_of_le hk1 with z | z
      ·omega
      ·obtain⟨zl,el,_,_⟩:=ZaaN (a:=a) (i:=a.size - 1) (by omega)
       have q1:=hlast zl el u mu
       have q2:=b1 (a.size - 1 - ia) zl (by omega) (by rw[show ia+(a.size - 1 - ia)=a.size - 1 by omega]; exact el)
       rw[show O.blt (O.ky u) (O.ky zl)=false from q2] at q1
       cases q1
     dsimp only
     by_cases ck:k > 0
     ·rw[if_pos ck]
      rw[<- ZagG,<- Array.toList_append] at m3
      by_cases c3:ia+k+1=a.size
      ·rw[if_pos (by simpa using c3)]
       exact wpS_pure ⟨hG2,.inl ⟨_,_,_,_,_,_,_,rfl,last m3 c3⟩⟩
      rw[if_neg (by simpa using c3),if_neg (by simp; omega)]
      refine wpS_bind (Zaao eu ?_)
      have m4:=pB m3 eu hu
      by_cases c4:ib+1=b.size
      ·rw[if_pos (by simpa using c4)]
       exact wpS_pure ⟨hG2,.inl ⟨_,_,_,_,_,_,_,rfl,done m4 (by omega)⟩⟩
      rw[if_neg (by simpa using c4)]
      obtain⟨v,ev,ev',mv⟩:=ZaaN (a:=a) (i:=ia+k) (by omega)
      refine wpS_bind (Zaao ev ?_)
      refine wpS_bind (Zaa1 hA (hG2.1.trans hk) (oka v mv) okb (by omega) (srtA sb _ _) (by omega) fun k2 hk2 d1 d2=>?_)
      have m5:=m4.takeBs sb k2 (by simp; omega) fun i z hi e y hy=>KO.le_trans (KO.le_of_lt (d1 i z hi (by rw[<- Array.getElem?_toList]; exact e))) (Zacz sa ev' y hy)
      have hv:∀ z∈b.toList.drop (ib+1+k2),O.le v z:=by
       intro z hz
       obtain⟨j,hj,e⟩:=ZaaM hz
       have hj2:j<b.size:=(List.getElem?_eq_some_iff.mp e).1
       refine d2 (j - (ib+1)) z (by omega) (by omega) ?_
       rw[show ib+1+(j - (ib+1))=j by omega,<- Array.getElem?_toList]
       exact e
      dsimp only
      by_cases ck2:k2 > 0
      ·rw[if_pos ck2]
       rw[<- ZagG,<- Array.toList_append] at m5
       by_cases c6:ib+1+k2=b.size
       ·rw[if_pos (by simpa using c6)]
        exact wpS_pure ⟨hG2,.inl ⟨_,_,_,_,_,_,_,rfl,done m5 (by omega)⟩⟩
       rw[if_neg (by simpa using c6)]
       refine wpS_bind (Zaao ev ?_)
       have m7:=pA m5 ev hv
       by_cases c7:ia+k+1+1=a.size
       ·rw[if_pos (by simpa using c7)]
        exact wpS_pure ⟨hG2,.inl ⟨_,_,_,_,_,_,_,rfl,last m7 c7⟩⟩
       rw[if_neg (by simpa using c7)]
       refine ZaaF (fun _=>?_) (fun _=>?_)
       ·exact wpS_pure ⟨hG2,.inr ⟨_,_,_,_,_,_,rfl,m7,by omega,by omega,by omega⟩⟩
       ·exact wpS_pure ⟨hG2,_,_,_,_,_,_,rfl,m7,by omega,by omega,by omega⟩
      ·rw[if_neg ck2]
       have k0:k2=0:=by omega
       subst k0
       rw[List.take_zero,List.append_nil] at m5
       refine wpS_bind (Zaao ev ?_)
       have m7:=pA m5 ev hv
       by_cases c7:ia+k+1+1=a.size
       ·rw[if_pos (by simpa using c7)]
        exact wpS_pure ⟨hG2,.inl ⟨_,_,_,_,_,_,_,rfl,last m7 c7⟩⟩
       rw[if_neg (by simpa using c7)]
       refine ZaaF (fun _=>?_) (fun _=>?_)
       ·exact wpS_pure ⟨hG2,.inr ⟨_,_,_,_,_,_,rfl,m7,by omega,by omega,by omega⟩⟩
       ·exact wpS_pure ⟨hG2,_,_,_,_,_,_,rfl,m7,by omega,by omega,by omega⟩
     ·rw[if_neg ck]
      have k0:k=0:=by omega
      subst k0
      rw[List.take_zero,List.append_nil] at m3
      refine wpS_bind (Zaao eu ?_)
      have m4:=pB m3 eu hu
      by_cases c4:ib+1=b.size
      ·rw[if_pos (by simpa using c4)]
       exact wpS_pure ⟨hG2,.inl ⟨_,_,_,_,_,_,_,rfl,done m4 (by omega)⟩⟩
      rw[if_neg (by simpa using c4)]
      obtain⟨v,ev,ev',mv⟩:=ZaaN (a:=a) (i:=ia+0) (by omega)
      refine wpS_bind (Zaao ev ?_)
      refine wpS_bind (Zaa1 hA (hG2.1.trans hk) (oka v mv) okb (by omega) (srtA sb _ _) (by omega) fun k2 hk2 d1 d2=>?_)
      have m5:=m4.takeBs sb k2 (by simp; omega) fun i z hi e y hy=>KO.le_trans (KO.le_of_lt (d1 i z hi (by rw[<- Array.getElem?_toList]; exact e))) (Zacz sa ev' y hy)
      have hv:∀ z∈b.toList.drop (ib+1+k2),O.le v z:=by
       intro z hz
       obtain⟨j,hj,e⟩:=ZaaM hz
       have hj2:j<b.size:=(List.getElem?_eq_some_iff.mp e).1
       refine d2 (j - (ib+1)) z (by omega) (by omega) ?_
       rw[show ib+1+(j - (ib+1))=j by omega,<- Array.getElem?_toList]
       exact e
      dsimp only
      by_cases ck2:k2 > 0
      ·rw[if_pos ck2]
       rw[<- ZagG,<- Array.toList_append] at m5
       by_cases c6:ib+1+k2=b.size
       ·rw[if_pos (by simpa using c6)]
        exact wpS_pure ⟨hG2,.inl ⟨_,_,_,_,_,_,_,rfl,done m5 (by omega)⟩⟩
       rw[if_neg (by simpa using c6)]
       refine wpS_bind (Zaao ev ?_)
       have m7:=pA m5 ev hv
       by_cases c7:ia+0+1+1=a.size
       ·rw[if_pos (by simpa using c7)]
        exact wpS_pure ⟨hG2,.inl ⟨_,_,_,_,_,_,_,rfl,last m7 c7⟩⟩
       rw[if_neg (by simpa using c7)]
       refine ZaaF (fun _=>?_) (fun _=>?_)
       ·exact wpS_pure ⟨hG2,.inr ⟨_,_,_,_,_,_,rfl,m7,by omega,by omega,by omega⟩⟩
       ·exact wpS_pure ⟨hG2,_,_,_,_,_,_,rfl,m7,by omega,by omega,by omega⟩
      ·rw[if_neg ck2]
       have k0:k2=0:=by omega
       subst k0
       rw[List.take_zero,List.append_nil] at m5
       refine wpS_bind (Zaao ev ?_)
       have m7:=pA m5 ev hv
       by_cases c7:ia+0+1+1=a.size
       ·rw[if_pos (by simpa using c7)]
        exact wpS_pure ⟨hG2,.inl ⟨_,_,_,_,_,_,_,rfl,last m7 c7⟩⟩
       rw[if_neg (by simpa using c7)]
       refine ZaaF (fun _=>?_) (fun _=>?_)
       ·exact wpS_pure ⟨hG2,.inr ⟨_,_,_,_,_,_,rfl,m7,by omega,by omega,by omega⟩⟩
       ·exact wpS_pure ⟨hG2,_,_,_,_,_,_,rfl,m7,by omega,by omega,by omega⟩
end
section
variable {O:KO}{a b out:List Keyed}{na nb:Nat}{x:Keyed}
structure MH (O:KO) (a b out:List Keyed) (na nb:Nat):Prop where
 perm:(a.take na++b.take nb++out.reverse).Perm (a++b)
 srt:O.Srt out.reverse
 le:∀ x∈a.take na++b.take nb,∀ y∈out,O.le x y
theorem Zaih {l:List Keyed}{i:Nat}{x:Keyed} (e:l[i]?=some x):l.take (i+1)=l.take i++[x]:=by
 rw[List.take_succ,e]; rfl
theorem MH.takeA (h:MH O a b out (na+1) nb) (sa:O.Srt a) (e:a[na]?=some x) (hb:∀ y∈b.take nb,O.le y x):MH O a b (out++[x]) na nb:=by
 have ed:=Zaih e
 have sd:O.Srt (a.take na++[x]):=ed ▸ sa.take
 have hx:x∈a.take (na+1)++b.take nb:=by rw[ed]; simp
 refine⟨?_,?_,fun y hy z hz=>?_⟩
 ·have p:=h.perm
  rw[ed] at p
  refine List.Perm.trans ?_ p
  rw[List.reverse_append]
  simp only[List.reverse_cons,List.reverse_nil,List.nil_append,List.append_assoc,List.singleton_append]
  refine List.Perm.append_left _ ?_
  exact (List.perm_middle (a:=x) (l₁:=b.take nb) (l₂:=out.reverse))
 ·rw[List.reverse_append]
  exact List.pairwise_cons.mpr ⟨fun y hy=>h.le x hx y (List.mem_reverse.mp hy),h.srt⟩
 ·rcases List.mem_append.mp hz with hz | hz
  ·refine h.le y ?_ z hz
   rw[ed]
   rcases List.mem_append.mp hy with hy | hy
   ·exact List.mem_append_left _ (List.mem_append_left _ hy)
   ·exact List.mem_append_right _ hy
  ·rw[List.mem_singleton.mp hz]
   rcases List.mem_append.mp hy with hy | hy
   ·exact (List.pairwise_append.mp sd).2.2 y hy x (by simp)
   ·exact hb y hy
theorem MH.takeB (h:MH O a b out na (nb+1)) (sb:O.Srt b) (e:b[nb]?=some x) (ha:∀ y∈a.take na,O.le y x):MH O a b (out++[x]) na nb:=by
 have ed:=Zaih e
 have sd:O.Srt (b.take nb++[x]):=ed ▸ sb.take
 have hx:x∈a.take na++b.take (nb+1):=by rw[ed]; simp
 refine⟨?_,?_,fun y hy z hz=>?_⟩
 ·have p:=h.perm
  rw[ed] at p
  rw[List.reverse_append]
  simpa using p
 ·rw[List.reverse_append]
  exact List.pairwise_cons.mpr ⟨fun y hy=>h.le x hx y (List.mem_reverse.mp hy),h.srt⟩
 ·rcases List.mem_append.mp hz with hz | hz
  ·refine h.le y ?_ z hz
   rw[ed]
   rcases List.mem_append.mp hy with hy | hy
   ·exact List.mem_append_left _ hy
   ·exact List.mem_append_right _ (List.mem_append_left _ hy)
  ·rw[List.mem_singleton.mp hz]
   rcases List.mem_append.mp hy with hy | hy
   ·exact ha y hy
   ·exact (List.pairwise_append.mp sd).2.2 y hy x (by simp)
theorem Zaf1 {l:List Keyed}{i d:Nat}{x:Keyed} (e:l[i]?=some x):(l.drop i).take (d+1)=x::(l.drop (i+1)).take d:=by
 rw[ZagJ e]; rfl
theorem MH.takeAs (h:MH O a b out na nb) (sa:O.Srt a) (hn:na<=a.length):∀ d,d<=na->(∀ i z,na - d<=i->i<na->a[i]?=some z->∀ y∈b.take nb,O.le y z)->MH O a b (out++((a.drop (na - d)).take d).reverse) (na - d) nb
 | 0,_,_=>by simpa using h
 | d+1,hl,hz=>by
  have q:=MH.takeAs h sa hn d (by omega) fun i z h1 h2 e=>hz i z (by omega) h2 e
  have e:a[na - (d+1)]?=some a[na - (d+1)]:=List.getElem?_eq_getElem (by omega)
  rw[show na - d=na - (d+1)+1 by omega] at q
  have r:=q.takeA sa e (hz _ _ (by omega) (by omega) e)
  rw[List.append_assoc,<- List.reverse_cons,<- Zaf1 e] at r
  exact r
theorem MH.takeBs (h:MH O a b out na nb) (sb:O.Srt b) (hn:nb<=b.length):∀ d,d<=nb->(∀ i z,nb - d<=i->i<nb->b[i]?=some z->∀ y∈a.take na,O.le y z)->MH O a b (out++((b.drop (nb - d)).take d).reverse) na (nb - d)
 | 0,_,_=>by simpa using h
 | d+1,hl,hz=>by
  have q:=MH.takeBs h sb hn d (by omega) fun i z h1 h2 e=>hz i z (by omega) h2 e
  have e:b[nb - (d+1)]?=some b[nb - (d+1)]:=List.getElem?_eq_getElem (by omega)
  rw[show nb - d=nb - (d+1)+1 by omega] at q
  have r:=q.takeB sb e (hz _ _ (by omega) (by omega) e)
  rw[List.append_assoc,<- List.reverse_cons,<- Zaf1 e] at r
  exact r
theorem MH.doneA (h:MH O a b out 0 nb) (sb:O.Srt b):Mg O a b (a.take 0++b.take nb++out.reverse):=by
 refine⟨h.perm,?_⟩
 rw[List.take_zero,List.nil_append]
 exact List.pairwise_append.mpr ⟨sb.take,h.srt,fun x hx y hy=>h.le x (List.mem_append_right _ hx) y (List.mem_reverse.mp hy)⟩
theorem MH.doneB (h:MH O a b out na nb) (sa:O.Srt a) (sb:O.Srt b) (hl:∀ x∈b.take nb,∀ y∈a.take na,O.le x y):Mg O a b (b.take nb++a.take na++out.reverse):=by
 refine⟨(List.Perm.append_right _ List.perm_append_comm).trans h.perm,?_⟩
 refine List.pairwise_append.mpr ⟨List.pairwise_append.mpr ⟨sb.take,sa.take,hl⟩,h.srt,fun x hx y hy=>h.le x ?_ y (List.mem_reverse.mp hy)⟩
 rcases List.mem_append.mp hx with hx | hx
 ·exact List.mem_append_right _ hx
 ·exact List.mem_append_left _ hx
theorem ZaaL {l:List Keyed}{i:Nat}{y:Keyed} (h:y∈l.take i):∃ j,j<i/\l[j]?=some y:=by
 obtain⟨j,hj,e⟩:=List.mem_iff_getElem.mp h
 rw[List.length_take] at hj
 refine⟨j,by omega,?_⟩
 rw[List.getElem_take] at e
 rw[List.getElem?_eq_getElem (by omega),e]
theorem ZaiA {l:List Keyed} (sl:O.Srt l) {i:Nat}{x:Keyed} (hx:l[i]?=some x):∀ y∈l.take (i+1),O.le y x:=fun y hy=>
 let ⟨_,hj,e⟩:=ZaaL hy
 ZabX sl (by omega) e hx
theorem ZaeP (a:Array Keyed) (i:Nat):(a.extract 0 i).toList=a.toList.take i:=by
 rw[Array.toList_extract]
 simp[List.extract]
theorem ZaeO (a:Array Keyed) (i n:Nat):(a.extract i n).toList=(a.toList.drop i).take (n - i):=by
 rw[Array.toList_extract]
end
section
variable {prog:Program}{w:World}{A:Around}{E:Value->Shared->Prop}{s:Shared}{O:KO}{knd:SortKind}{ok:Keyed->Prop}{st:SortSt}
theorem Zae7 {a b : Array Keyed} {Q : Array Keyed → SortSt → Prop} (hA : Asks prog w A s O knd ok) (hk : kindOf st = knd) (oka : ∀ x ∈ a.toList, ok x) (okb : ∀ x ∈ b.toList, ok x) (sa : O.Srt a.toList) (sb : O.Srt b.toList) (ha : 1 ≤ a.size) (hb : 1 ≤ b.size)
  (hfirst:∀ y,b[0]?=some y->∀ x∈a.toList,O.blt (O.ky y) (O.ky x)=true) (hlast:∀ z,a[a.size - 1]?=some z->∀ y∈b.toList,O.le y z)
  (h:∀ r st',Gal st st'->Mg O a.toList b.toList r.toList->Q r st'):wpS (model prog w) A E s (ZajQ a b) Q st:=by
 obtain⟨a0,ea0,ea0',_⟩:=ZaaN (a:=a) (i:=a.size - 1) (by omega)
 have done:∀ {out:Array Keyed}{nb:Nat},MH O a.toList b.toList out.toList 0 nb->Mg O a.toList b.toList (a.extract 0 0++b.extract 0 nb++out.reverse).toList:=by
  intro out nb m
  rw[Array.toList_append,Array.toList_append,ZaeP,ZaeP,Array.toList_reverse]
  exact m.doneA sb
 have first:∀ {out:Array Keyed}{na:Nat},MH O a.toList b.toList out.toList na 1->Mg O a.toList b.toList (b.extract 0 1++a.extract 0 na++out.reverse).toList:=by
  intro out na m
  rw[Array.toList_append,Array.toList_append,ZaeP,ZaeP,Array.toList_reverse]
  refine m.doneB sa sb fun x hx y hy=>?_
  obtain⟨j,hj,e⟩:=ZaaL hx
  have e2:j=0:=by omega
  rw[e2,Array.getElem?_toList] at e
  exact KO.le_of_lt (hfirst x e y (List.mem_of_mem_take hy))
 have pB:∀ {out:Array Keyed}{na nb:Nat}{y:Keyed},1<=nb->MH O a.toList b.toList out.toList na nb->b[nb - 1]?=some y->(∀ z∈a.toList.take na,O.le z y)->MH O a.toList b.toList (out.push y).toList na (nb - 1):=by
  intro out na nb y hn m e hz
  rw[Array.toList_push]
  exact MH.takeB (by rw[show nb - 1+1=nb by omega]; exact m) sb (Zafv e) hz
 have pA:∀ {out:Array Keyed}{na nb:Nat}{y:Keyed},1<=na->MH O a.toList b.toList out.toList na nb->a[na - 1]?=some y->(∀ z∈b.toList.take nb,O.le z y)->MH O a.toList b.toList (out.push y).toList (na - 1) nb:=by
  intro out na nb y hn m e hz
  rw[Array.toList_push]
  exact MH.takeA (by rw[show na - 1+1=na by omega]; exact m) sa (Zafv e) hz
 have leT:∀ {l:List Keyed}{i:Nat}{x:Keyed},O.Srt l->1<=i->l[i - 1]?=some x->∀ y∈l.take i,O.le y x:=by
  intro l i x sl hi e y hy
  exact ZaiA sl e y (by rw[show i - 1+1=i by omega]; exact hy)
 refine wpS_bind (wpS_lift (wpAny_rule ⟨rfl,?_⟩))
 refine wpS_bind (Zaao ea0 ?_)
 have m0:MH O a.toList b.toList #[a0].toList (a.size - 1) b.size:=by
  refine MH.takeA (out:=[]) (na:=a.size - 1) (nb:=b.size) ⟨?_,List.Pairwise.nil,fun x hx y hy=>by cases hy⟩ sa ea0' fun y hy=>hlast a0 ea0 y (List.mem_of_mem_take hy)
  rw[show a.size - 1+1=a.size by omega,List.take_of_length_le (by simp),List.take_of_length_le (by simp)]
  simp
 dsimp only
 by_cases c1:a.size - 1=0
 ·rw[if_pos (by simpa using c1)]
  rw[c1] at m0 ⊢
  exact wpS_pure (h _ _ Gal.refl (done m0))
 rw[if_neg (by simpa using c1)]
 by_cases c2:b.size=1
 ·rw[if_pos (by simpa using c2)]
  rw[c2] at m0
  rw[c2]
  exact wpS_pure (h _ _ Gal.refl (first m0))
 rw[if_neg (by simpa using c2)]
 refine wpS_bind (wpS_get ?_)
 refine wpS_bind (wpS_mono (wpS_forRange
  (I:=fun x c st'=>Gal st st'/\∃ (out:Array Keyed) (na nb g:Nat),c=((none:Option (Array Keyed)),na,nb,out,g)/\MH O a.toList b.toList out.toList na nb/\1<=na/\na<=a.size/\2<=nb/\nb<=b.size/\x+na+nb<=a.size+b.size)
  (Q:=fun c st'=>Gal st st'/\∃ (r out:Array Keyed) (na nb g:Nat),c=(some r,na,nb,out,g)/\Mg O a.toList b.toList r.toList) ?step ?fin ⟨Gal.refl,#[a0],a.size - 1,b.size,gallopOf st,rfl,m0,by omega,by omega,by omega,by omega,show 0+(a.size - 1)+b.size<=_ by omega⟩) ?post)
 case fin=>
  rintro c st' ⟨_,out,na,nb,g,rfl,_,h1,h1',h2,h2',h3⟩
  omega
 case post=>
  rintro c st' ⟨hG,r,out,na,nb,g,rfl,hm⟩
  exact wpS_pure (h r st' hG hm)
 case step=>
  rintro x c st1 _ hx ⟨hG1,out,na,nb,g,rfl,hm,h1,h1',h2,h2',h3⟩
  dsimp only
  have hk1:kindOf st1=knd:=hG1.1.trans hk
  refine wpS_bind (wpS_mono (wpS_forRange
   (I:=fun y c st'=>st'=st1/\∃ (out:Array Keyed) (na nb p q:Nat),c=((none:Option (Array Keyed)),na,nb,out,p,q)/\MH O a.toList b.toList out.toList na nb/\1<=na/\na<=a.size/\2<=nb/\nb<=b.size/\x+y+na+nb<=a.size+b.size)
   (Q:=fun c st'=>st'=st1/\((∃ (r out:Array Keyed) (na nb p q:Nat),c=(some r,na,nb,out,p,q)/\Mg O a.toList b.toList r.toList) ∨
    (∃ (out:Array Keyed) (na nb p q:Nat),c=(none,na,nb,out,p,q)/\MH O a.toList b.toList out.toList na nb/\1<=na/\na<=a.size/\2<=nb/\nb<=b.size/\x+1+na+nb<=a.size+b.size))) ?step1 ?fin1 ⟨rfl,out,na,nb,0,0,rfl,hm,h1,h1',h2,h2',by omega⟩) ?post1)
  case fin1=>
   rintro c st' ⟨rfl,out,na,nb,p,q,rfl,hm,h1,h1',h2,h2',h3⟩
   exact⟨rfl,.inr ⟨out,na,nb,p,q,rfl,hm,h1,h1',h2,h2',by omega⟩⟩
  case step1=>
   rintro y c st' _ hy ⟨rfl,out,na,nb,p,q,rfl,hm,h1,h1',h2,h2',h3⟩
   dsimp only
   obtain⟨u,eu,eu',mu⟩:=ZaaN (a:=b) (i:=nb - 1) (by omega)
   obtain⟨v,ev,ev',mv⟩:=ZaaN (a:=a) (i:=na - 1) (by omega)
   refine wpS_bind (Zaao eu (wpS_bind (Zaao ev ?_)))
   refine wpS_bind (Zafy hA hk1 (okb u mu) (oka v mv) ?_)
   cases e:O.blt (O.ky u) (O.ky v) with
   | true=>
    simp only[if_true]
    refine wpS_bind (Zaao ev ?_)
    have m2:=pA h1 hm ev fun z hz=>KO.le_trans (leT sb (by omega) eu' z hz) (KO.le_of_lt e)
    by_cases c3:na - 1=0
    ·rw[if_pos (by simpa using c3)]
     rw[c3] at m2 ⊢
     exact wpS_pure ⟨rfl,.inl ⟨_,_,_,_,_,_,rfl,done m2⟩⟩
    rw[if_neg (by simpa using c3)]
    refine ZaaF (fun _=>?_) (fun _=>?_)
    ·exact wpS_pure ⟨rfl,.inr ⟨_,_,_,_,_,rfl,m2,by omega,by omega,by omega,by omega,by omega⟩⟩
    ·exact wpS_pure ⟨rfl,_,_,_,_,_,rfl,m2,by omega,by omega,by omega,by omega,by omega⟩
   | false=>
    simp only[Bool.false_eq_true,if_false]
    refine wpS_bind (Zaao eu ?_)
    have m2:=pB (by omega) hm eu fun z hz=>KO.le_trans (leT sa (by omega) ev' z hz) (show O.le v u from e)
    by_cases c3:nb - 1=1
    ·rw[if_pos (by simpa using c3)]
     rw[c3] at m2 ⊢
     exact wpS_pure ⟨rfl,.inl ⟨_,_,_,_,_,_,rfl,first m2⟩⟩
    rw[if_neg (by simpa using c3)]
    refine ZaaF (fun _=>?_) (fun _=>?_)
    ·exact wpS_pure ⟨rfl,.inr ⟨_,_,_,_,_,rfl,m2,by omega,by omega,by omega,by omega,by omega⟩⟩
    ·exact wpS_pure ⟨rfl,_,_,_,_,_,rfl,m2,by omega,by omega,by omega,by omega,by omega⟩
  case post1=>
   rintro c st' ⟨rfl,⟨r,out,na,nb,p,q,rfl,hr⟩ | ⟨out,na,nb,p,q,rfl,hm,h1,h1',h2,h2',h3⟩⟩
   ·exact wpS_pure ⟨hG1,_,_,_,_,_,rfl,hr⟩
   dsimp only
   refine wpS_bind (wpS_lift (wpAny_rule ⟨rfl,?_⟩))
   refine wpS_bind (wpS_mono (wpS_forRange
    (I:=fun y c st'=>Gal st st'/\∃ (out:Array Keyed) (na nb g p q:Nat),c=((none:Option (Array Keyed)),na,nb,out,g,p,q)/\MH O a.toList b.toList out.toList na nb/\1<=na/\na<=a.size/\2<=nb/\nb<=b.size/\x+1+na+nb<=a.size+b.size)
    (Q:=fun c st'=>Gal st st'/\((∃ (r out:Array Keyed) (na nb g p q:Nat),c=(some r,na,nb,out,g,p,q)/\Mg O a.toList b.toList r.toList) ∨
     (∃ (out:Array Keyed) (na nb g p q:Nat),c=(none,na,nb,out,g,p,q)/\MH O a.toList b.toList out.toList na nb/\1<=na/\na<=a.size/\2<=nb/\nb<=b.size/\x+1+na+nb<=a.size+b.size))) ?step2 ?fin2 ⟨hG1,out,na,nb,g+1,p,q,rfl,hm,h1,h1',h2,h2',h3⟩) ?post2)
   case fin2=>
    rintro c st' ⟨hG,out,na,nb,g,p,q,rfl,hm,h1,h1',h2,h2',h3⟩
    exact⟨hG,.inr ⟨out,na,nb,g,p,q,rfl,hm,h1,h1',h2,h2',h3⟩⟩
   case post2=>
    rintro c st' ⟨hG,⟨r,out,na,nb,g,p,q,rfl,hr⟩ | ⟨out,na,nb,g,p,q,rfl,hm,h1,h1',h2,h2',h3⟩⟩
    ·exact wpS_pure ⟨hG,_,_,_,_,_,rfl,hr⟩
    exact wpS_bind (ZaaY hG fun st2 hG2=>wpS_pure ⟨hG2,_,_,_,_,rfl,hm,h1,h1',h2,h2',h3⟩)
   case step2=>
    rintro y c st' _ hy ⟨hG,out,na,nb,g,p,q,rfl,hm,h1,h1',h2,h2',h3⟩
    dsimp only
    obtain⟨u,eu,eu',mu⟩:=ZaaN (a:=b) (i:=nb - 1) (by omega)
    refine ZaaF (fun cg=>?_) (fun cg=>?_)
    all_goals
     refine wpS_bind (ZaaY hG fun st2 hG2=>wpS_bind (Zaao eu ?_))
     refine wpS_bind (ZabI hA (hG2.1.trans hk) (okb u mu) oka (by omega) (srtA sa _ _) (by omega) fun k hk1 b1 b2=>?_)
     have m3:=hm.takeAs sa (by simp; omega) (na - k) (by omega) fun i z h6 h7 e y hy=>KO.le_trans (leT sb (by omega) eu' y hy) (KO.le_of_lt (b2 i z (by omega) (by omega) (by rw[Nat.zero_add,<- Array.getElem?_toList]; exact e)))
     rw[show na - (na - k)=k by omega] at m3
     have hu:∀ z∈a.toList.take k,O.le z u:=by
      intro z hz
      obtain⟨j,hj,e⟩:=ZaaL hz
      refine b1 j z hj ?_
      rw[Nat.zero_add,<- Array.getElem?_toList]
      exact e
     dsimp only
     by_cases ck:na - k > 0
     ·rw[if_pos ck]
      rw[<- ZaeO,<- Array.toList_reverse,<- Array.toList_append] at m3
      by_cases c3:k=0
      ·rw[if_pos (by simpa using c3)]
       rw[c3] at m3 ⊢
       exact wpS_pure ⟨hG2,.inl ⟨_,_,_,_,_,_,_,rfl,done m3⟩⟩
      rw[if_neg (by simpa using c3)]
      refine wpS_bind (Zaao eu ?_)
      have m4:=pB (by omega) m3 eu hu
      by_cases c4:nb - 1=1
      ·rw[if_pos (by simpa using c4)]
       rw[c4] at m4 ⊢
       exact wpS_pure ⟨hG2,.inl ⟨_,_,_,_,_,_,_,rfl,first m4⟩⟩
      rw[if_neg (by simpa using c4)]
      obtain⟨v,ev,ev',mv⟩:=ZaaN (a:=a) (i:=k - 1) (by omega)
      refine wpS_bind (Zaao ev ?_)
      refine wpS_bind (Zaa1 hA (hG2.1.trans hk) (oka v mv) okb (by omega) (srtA sb _ _) (by omega) fun k2 hk2 d1 d2=>?_)
      have hk20:1<=k2:=by
       rcases Nat.eq_zero_or_pos k2 with z | z
       ·obtain⟨zl,el,_,_⟩:=ZaaN (a:=b) (i:=0) (by omega)
        have q1:=hfirst zl el v mv
        have q2:=d2 0 zl (by omega) (by omega) (by rw[Nat.zero_add]; exact el)
        rw[show O.blt (O.ky zl) (O.ky v)=false from q2] at q1
        cases q1
       ·exact z
      have m5:=m4.takeBs sb (by simp; omega) (nb - 1 - k2) (by omega) fun i z h6 h7 e y hy=>KO.le_trans (leT sa (by omega) ev' y hy) (d2 i z (by omega) (by omega) (by rw[Nat.zero_add,<- Array.getElem?_toList]; exact e))
      rw[show nb - 1 - (nb - 1 - k2)=k2 by omega] at m5
      have hv:∀ z∈b.toList.take k2,O.le z v:=by
       intro z hz
       obtain⟨j,hj,e⟩:=ZaaL hz
       refine KO.le_of_lt (d1 j z hj ?_)
       rw[Nat.zero_add,<- Array.getElem?_toList]
       exact e
      dsimp only
      by_cases ck2:nb - 1 - k2 > 0
      ·rw[if_pos ck2]
       rw[<- ZaeO,<- Array.toList_reverse,<- Array.toList_append] at m5
       by_cases c6:k2=1
       ·rw[if_pos (by simpa using c6)]
        rw[c6] at m5 ⊢
        exact wpS_pure ⟨hG2,.inl ⟨_,_,_,_,_,_,_,rfl,first m5⟩⟩
       rw[if_neg (by simpa using c6),if_neg (by simp; omega)]
       obtain⟨v2,ev2,ev2',mv2⟩:=ZaaN (a:=a) (i:=k - 1) (by omega)
       refine wpS_bind (Zaao ev2 ?_)
       have ee:v2=v:=Option.some.inj (ev2.symm.trans ev)
       subst ee
       have m7:=pA (by omega) m5 ev2 hv
       by_cases c7:k - 1=0
       ·rw[if_pos (by simpa using c7)]
        rw[c7] at m7 ⊢
        exact wpS_pure ⟨hG2,.inl ⟨_,_,_,_,_,_,_,rfl,done m7⟩⟩
       rw[if_neg (by simpa using c7)]
       refine ZaaF (fun _=>?_) (fun _=>?_)
       ·exact wpS_pure ⟨hG2,.inr ⟨_,_,_,_,_,_,rfl,m7,by omega,by omega,by omega,by omega,by omega⟩⟩
       ·exact wpS_pure ⟨hG2,_,_,_,_,_,_,rfl,m7,by omega,by omega,by omega,by omega,by omega⟩
      ·rw[if_neg ck2]
       have k0:nb - 1=k2:=by omega
       rw[show nb - 1 - k2=0 by omega,List.take_zero,List.reverse_nil,List.append_nil] at m5
       rw[k0]
       obtain⟨v2,ev2,ev2',mv2⟩:=ZaaN (a:=a) (i:=k - 1) (by omega)
       refine wpS_bind (Zaao ev2 ?_)
       have ee:v2=v:=Option.some.inj (ev2.symm.trans ev)
       subst ee
       have m7:=pA (by omega) m5 ev2 hv
       by_cases c7:k - 1=0
       ·rw[if_pos (by simpa using c7)]
        rw[c7] at m7 ⊢
        exact wpS_pure ⟨hG2,.inl ⟨_,_,_,_,_,_,_,rfl,done m7⟩⟩
       rw[if_neg (by simpa using c7)]
       refine ZaaF (fun _=>?_) (fun _=>?_)
       ·exact wpS_pure ⟨hG2,.inr ⟨_,_,_,_,_,_,rfl,m7,by omega,by omega,by omega,by omega,by omega⟩⟩
       ·exact wpS_pure ⟨hG2,_,_,_,_,_,_,rfl,m7,by omega,by omega,by omega,by omega,by omega⟩
     ·rw[if_neg ck]
      have k0:na=k:=by omega
      rw[show na - k=0 by omega,List.take_zero,List.reverse_nil,List.append_nil] at m3
      rw[k0]
      refine wpS_bind (Zaao eu ?_)
      have m4:=pB (by omega) m3 eu hu
      by_cases c4:nb - 1=1
      ·rw[if_pos (by simpa using c4)]
       rw[c4] at m4 ⊢
       exact wpS_pure ⟨hG2,.inl ⟨_,_,_,_,_,_,_,rfl,first m4⟩⟩
      rw[if_neg (by simpa using c4)]
      obtain⟨v,ev,ev',mv⟩:=ZaaN (a:=a) (i:=k - 1) (by omega)
      refine wpS_bind (Zaao ev ?_)
      refine wpS_bind (Zaa1 hA (hG2.1.trans hk) (oka v mv) okb (by omega) (srtA sb _ _) (by omega) fun k2 hk2 d1 d2=>?_)
      have hk20:1<=k2:=by
       rcases Nat.eq_zero_or_pos k2 with z | z
       ·obtain⟨zl,el,_,_⟩:=ZaaN (a:=b) (i:=0) (by omega)
        have q1:=hfirst zl el v mv
        have q2:=d2 0 zl (by omega) (by omega) (by rw[Nat.zero_add]; exact el)
        rw[show O.blt (O.ky zl) (O.ky v)=false from q2] at q1
        cases q1
       ·exact z
      have m5:=m4.takeBs sb (by simp; omega) (nb - 1 - k2) (by omega) fun i z h6 h7 e y hy=>KO.le_trans (leT sa (by omega) ev' y hy) (d2 i z (by omega) (by omega) (by rw[Nat.zero_add,<- Array.getElem?_toList]; exact e))
      rw[show nb - 1 - (nb - 1 - k2)=k2 by omega] at m5
      have hv:∀ z∈b.toList.take k2,O.le z v:=by
       intro z hz
       obtain⟨j,hj,e⟩:=ZaaL hz
       refine KO.le_of_lt (d1 j z hj ?_)
       rw[Nat.zero_add,<- Array.getElem?_toList]
       exact e
      dsimp only
      by_cases ck2:nb - 1 - k2 > 0
      ·rw[if_pos ck2]
       rw[<- ZaeO,<- Array.toList_reverse,<- Array.toList_append] at m5
       by_cases c6:k2=1
       ·rw[if_pos (by simpa using c6)]
        rw[c6] at m5 ⊢
        exact wpS_pure ⟨hG2,.inl ⟨_,_,_,_,_,_,_,rfl,first m5⟩⟩
       rw[if_neg (by simpa using c6),if_neg (by simp; omega)]
       obtain⟨v2,ev2,ev2',mv2⟩:=ZaaN (a:=a) (i:=k - 1) (by omega)
       refine wpS_bind (Zaao ev2 ?_)
       have ee:v2=v:=Option.some.inj (ev2.symm.trans ev)
       subst ee
       have m7:=pA (by omega) m5 ev2 hv
       by_cases c7:k - 1=0
       ·rw[if_pos (by simpa using c7)]
        rw[c7] at m7 ⊢
        exact wpS_pure ⟨hG2,.inl ⟨_,_,_,_,_,_,_,rfl,done m7⟩⟩
       rw[if_neg (by simpa using c7)]
       refine ZaaF (fun _=>?_) (fun _=>?_)
       ·exact wpS_pure ⟨hG2,.inr ⟨_,_,_,_,_,_,rfl,m7,by omega,by omega,by omega,by omega,by omega⟩⟩
       ·exact wpS_pure ⟨hG2,_,_,_,_,_,_,rfl,m7,by omega,by omega,by omega,by omega,by omega⟩
      ·rw[if_neg ck2]
       have k0:nb - 1=k2:=by omega
       rw[show nb - 1 - k2=0 by omega,List.take_zero,List.reverse_nil,List.append_nil] at m5
       rw[k0]
       obtain⟨v2,ev2,ev2',mv2⟩:=ZaaN (a:=a) (i:=k - 1) (by omega)
       refine wpS_bind (Zaao ev2 ?_)
       have ee:v2=v:=Option.some.inj (ev2.symm.trans ev)
       subst ee
       have m7:=pA (by omega) m5 ev2 hv
       by_cases c7:k - 1=0
       ·rw[if_pos (by simpa using c7)]
        rw[c7] at m7 ⊢
        exact wpS_pure ⟨hG2,.inl ⟨_,_,_,_,_,_,_,rfl,done m7⟩⟩
       rw[if_neg (by simpa using c7)]
       refine ZaaF (fun _=>?_) (fun _=>?_)
       ·exact wpS_pure ⟨hG2,.inr ⟨_,_,_,_,_,_,rfl,m7,by omega,by omega,by omega,by omega,by omega⟩⟩
       ·exact wpS_pure ⟨hG2,_,_,_,_,_,_,rfl,m7,by omega,by omega,by omega,by omega,by omega⟩
def ka (O:KO) (xs:Array Keyed) (i:Nat):O.α:=O.ky ((xs[i]?).getD (.none,.none))
def Up (O:KO) (lo n:Nat) (xs:Array Keyed):Prop:=∀ i j,i<=j->j<n->O.kle (ka O xs (lo+i)) (ka O xs (lo+j))
def Dn (O:KO) (lo n:Nat) (xs:Array Keyed):Prop:=∀ i j,i<=j->j<n->O.kle (ka O xs (lo+j)) (ka O xs (lo+i))
structure FB (knd:SortKind) (b₀:Array Keyed) (p₀:Array (Nat × Nat × Nat)) (lo:Nat) (st:SortSt):Prop where
 perm:(arrOf st).Perm b₀
 keep:∀ i,i<lo->(arrOf st)[i]?=b₀[i]?
 kind:kindOf st=knd
 failed:failedOf st=none
 pend:pendingOf st=p₀
section
variable {b₀:Array Keyed}{p₀:Array (Nat × Nat × Nat)}{lo:Nat}
theorem FB.size (h:FB knd b₀ p₀ lo st):(arrOf st).size=b₀.size:=h.perm.size_eq
theorem FB.put {xs:Array Keyed} (h:FB knd b₀ p₀ lo st) (hp:xs.Perm (arrOf st)) (hx:∀ i,i<lo->xs[i]?=(arrOf st)[i]?):FB knd b₀ p₀ lo (setArr st xs) :=
 ⟨hp.trans h.perm,fun i hi=>(hx i hi).trans (h.keep i hi),h.kind,h.failed,h.pend⟩
theorem FB.mir (h:FB knd b₀ p₀ lo st) {i j:Nat} (hi:lo<=i) (hj:j<=b₀.size):FB knd b₀ p₀ lo (setArr st (mirror (arrOf st) i j ((j - i) / 2))) :=
 h.put (mirror_perm _ _ _ _) fun k hk=>by rw[getElem?_mirror_all (by rw[h.size]; exact hj),if_neg (by omega)]
theorem Zaci {xs ys:Array Keyed}{i j:Nat} (h:xs[i]?=ys[j]?):ka O xs i=ka O ys j:=by unfold ka; rw[h]
theorem ZajV {xs:Array Keyed}{i j:Nat} (hj:j<=xs.size) (k:Nat):ka O (mirror xs i j ((j - i) / 2)) k=if i<=k/\k<j then ka O xs (i+j - 1 - k) else ka O xs k:=by
 have e:=getElem?_mirror_all (i:=i) hj k
 split
 ·rename_i c; rw[if_pos c] at e; exact Zaci e
 ·rename_i c; rw[if_neg c] at e; exact Zaci e
theorem Zach {xs:Array Keyed}{i j:Nat} (hj:j<=xs.size) (he:∀ k,i<=k->k<j->ka O xs k=ka O xs (j - 1)) (k:Nat):ka O (mirror xs i j ((j - i) / 2)) k=ka O xs k:=by
 rw[ZajV hj]
 split
 ·rw[he _ (by omega) (by omega),he k (by omega) (by omega)]
 ·rfl
theorem Zalj {xs:Array Keyed}{src d:Nat} (hs:src<xs.size) (hd:d<=src) (k:Nat):ka O (bubble xs src d) k=if k=src - d then ka O xs src else if src - d<k/\k<=src then ka O xs (k - 1) else ka O xs k:=by
 have e:=getElem?_bubble hs d hd k
 split
 ·rename_i c; rw[if_pos c] at e; exact Zaci e
 ·rename_i c
  rw[if_neg c] at e
  split
  ·rename_i c2; rw[if_pos c2] at e; exact Zaci e
  ·rename_i c2; rw[if_neg c2] at e; exact Zaci e
theorem Zac9 {i j:Nat}{Q:Option Bool->SortSt->Prop} (hA:Asks prog w A s O knd ok) (h0:∀ x∈b₀.toList,ok x) (hF:FB knd b₀ p₀ lo st) (hi:i<b₀.size) (hj:j<b₀.size) (h:Q (some (O.blt (ka O (arrOf st) i) (ka O (arrOf st) j))) st):wpS (model prog w) A E s (ltAt' i j) Q st:=by
 obtain⟨x,ex,_,mx⟩:=ZaaN (a:=arrOf st) (i:=i) (by rw[hF.size]; exact hi)
 obtain⟨y,ey,_,my⟩:=ZaaN (a:=arrOf st) (i:=j) (by rw[hF.size]; exact hj)
 have pm:=Array.perm_iff_toList_perm.mp hF.perm
 rw[ltAt'_eq]
 refine wpS_bind (wpS_get ?_)
 refine wpS_bind (Zaao ex (wpS_bind (Zaao ey ?_)))
 refine Zafy hA hF.kind (h0 x (pm.mem_iff.mp mx)) (h0 y (pm.mem_iff.mp my)) ?_
 unfold ka at h
 rw[ex,ey] at h
 exact h
theorem ZabQ {i j:Nat}{Q:Unit->SortSt->Prop} (h:Q () (setArr st (mirror (arrOf st) i j ((j - i) / 2)))):wpS (model prog w) A E s (reverseSlice' i j) Q st:=by
 rw[reverseSlice'_eq]; exact wpS_modify h
def ascL (lo a nrem:Nat):StateT SortSt Sem (Option (Option Nat) × Nat) :=
 forIn [a:nrem] ((none,a):Option (Option Nat) × Nat) fun _ c=>ltAt' (lo+c.2) (lo+c.2 - 1) >>= fun x=>match x with
  | some sm=>if sm=true then pure (ForInStep.done (none,c.2)) else pure (ForInStep.yield (none,c.2+1))
  | _=>pure (ForInStep.done (some none,c.2))
theorem Zab2 {a nrem : Nat} {Q : Option (Option Nat) × Nat → SortSt → Prop} (hA : Asks prog w A s O knd ok) (h0 : ∀ x ∈ b₀.toList, ok x) (hF : FB knd b₀ p₀ lo st) (hn : lo + nrem ≤ b₀.size) (ha : 1 ≤ a) (hl : a ≤ nrem) (hu : Up O lo a (arrOf st))
  (h:∀ n,a<=n->n<=nrem->Up O lo n (arrOf st)->(n=nrem∨O.klt (ka O (arrOf st) (lo+n)) (ka O (arrOf st) (lo+n - 1)))->Q (none,n) st):wpS (model prog w) A E s (ascL lo a nrem) Q st:=by
 unfold ascL
 refine wpS_forRange (I:=fun n c τ=>τ=st/\c=((none:Option (Option Nat)),n)/\Up O lo n (arrOf st)) ?go ?out ⟨rfl,rfl,hu⟩
 case out=>
  rintro c τ ⟨rfl,rfl,u⟩
  rw[Nat.max_eq_right hl] at u ⊢
  exact h nrem hl (Nat.le_refl _) u (.inl rfl)
 case go=>
  rintro n c τ h1 h2 ⟨rfl,rfl,u⟩
  refine wpS_bind (Zac9 hA h0 hF (by dsimp only; omega) (by dsimp only; omega) ?_)
  dsimp only
  cases e:O.blt (ka O (arrOf τ) (lo+n)) (ka O (arrOf τ) (lo+n - 1)) with
  | true=>
   simp only[if_true]
   exact wpS_pure (h n h1 (by omega) u (.inr e))
  | false=>
   simp only[Bool.false_eq_true,if_false]
   refine wpS_pure ⟨rfl,rfl,fun i j hij hj=>?_⟩
   rcases Nat.lt_or_ge j n with z | z
   ·exact u i j hij z
   ·obtain rfl:j=n:=by omega
    rcases Nat.lt_or_ge i j with y | y
    ·exact KeyOrd.kle_trans (u i (j - 1) (by omega) (by omega)) (by rw[show lo+(j - 1)=lo+j - 1 by omega]; exact e)
    ·obtain rfl:i=j:=by omega
     exact KeyOrd.kle_refl _
theorem Zag1 {n:Nat}{xs:Array Keyed} (hd:Dn O lo n xs) (hsz:lo+n<=xs.size):Up O lo n (mirror xs lo (lo+n) ((lo+n - lo) / 2)):=by
 intro i j hij hj
 rw[ZajV hsz,ZajV hsz,if_pos (by omega),if_pos (by omega)]
 have q:=hd (n - 1 - j) (n - 1 - i) (by omega) (by omega)
 rw[show lo+(n - 1 - j)=lo+(lo+n) - 1 - (lo+j) by omega,show lo+(n - 1 - i)=lo+(lo+n) - 1 - (lo+i) by omega] at q
 exact q
def dscL (lo n nrem:Nat):StateT SortSt Sem (Option (Option Nat) × Nat × Nat) :=
 forIn [n:nrem] ((none,n,0):Option (Option Nat) × Nat × Nat) fun _ c=>ltAt' (lo+c.2.1) (lo+c.2.1 - 1) >>= fun x=>match x with
  | some sm=>if sm=true then (if c.2.2 > 0 then reverseSlice' (lo+c.2.1 - (c.2.2+1)) (lo+c.2.1) >>= fun _=>pure (ForInStep.yield (none,c.2.1+1,0)) else pure (ForInStep.yield (none,c.2.1+1,0)))
   else ltAt' (lo+c.2.1 - 1) (lo+c.2.1) >>= fun y=>match y with
    | some lg=>if lg=true then pure (ForInStep.done (none,c.2.1,c.2.2)) else pure (ForInStep.yield (none,c.2.1+1,c.2.2+1))
    | _=>pure (ForInStep.done (some none,c.2.1,c.2.2))
  | _=>pure (ForInStep.done (some none,c.2.1,c.2.2))
theorem Zafz {n nrem : Nat} {Q : Option (Option Nat) × Nat × Nat → SortSt → Prop} (hA : Asks prog w A s O knd ok) (h0 : ∀ x ∈ b₀.toList, ok x) (hF : FB knd b₀ p₀ lo st) (hn : lo + nrem ≤ b₀.size) (h1 : 1 ≤ n) (hl : n ≤ nrem) (hd : Dn O lo n (arrOf st))
  (h:∀ m e τ,FB knd b₀ p₀ lo τ->n<=m->m<=nrem->Dn O lo m (arrOf τ)->e+1<=m->(∀ i,m - (e+1)<=i->i<m->ka O (arrOf τ) (lo+i)=ka O (arrOf τ) (lo+m - 1))->Q (none,m,e) τ):wpS (model prog w) A E s (dscL lo n nrem) Q st:=by
 unfold dscL
 refine wpS_forRange (I:=fun m c τ=>∃ e,c=((none:Option (Option Nat)),m,e)/\FB knd b₀ p₀ lo τ/\Dn O lo m (arrOf τ)/\e+1<=m/\∀ i,m - (e+1)<=i->i<m->ka O (arrOf τ) (lo+i)=ka O (arrOf τ) (lo+m - 1)) ?go ?out
  ⟨0,rfl,hF,hd,by omega,fun i h2 h3=>by congr 1; omega⟩
 case out=>
  rintro c τ ⟨e,rfl,hT,d,q,he⟩
  rw[Nat.max_eq_right hl] at d q he ⊢
  exact h nrem e τ hT hl (Nat.le_refl _) d q he
 case go=>
  rintro m c τ h2 h3 ⟨e,rfl,hT,d,q,he⟩
  have hsz:lo+m<=(arrOf τ).size:=by rw[hT.size]; omega
  have more:∀ xs:Array Keyed,(∀ k,ka O xs k=ka O (arrOf τ) k)->O.kle (ka O (arrOf τ) (lo+m)) (ka O (arrOf τ) (lo+m - 1))->Dn O lo (m+1) xs:=by
   intro xs hk hle i j hij hj
   rw[hk,hk]
   rcases Nat.lt_or_ge j m with z | z
   ·exact d i j hij z
   ·obtain rfl:j=m:=by omega
    rcases Nat.lt_or_ge i j with y | y
    ·exact KeyOrd.kle_trans hle (by rw[show lo+j - 1=lo+(j - 1) by omega]; exact d i (j - 1) (by omega) (by omega))
    ·obtain rfl:i=j:=by omega
     exact KeyOrd.kle_refl _
  have eq1:∀ k,lo+m - (e+1)<=k->k<lo+m->ka O (arrOf τ) k=ka O (arrOf τ) (lo+m - 1):=fun k k1 k2=>by
   have:=he (k - lo) (by omega) (by omega)
   rwa [show lo+(k - lo)=k by omega] at this
  refine wpS_bind (Zac9 hA h0 hT (by dsimp only; omega) (by dsimp only; omega) ?_)
  dsimp only
  cases ew:O.blt (ka O (arrOf τ) (lo+m)) (ka O (arrOf τ) (lo+m - 1)) with
  | true=>
   simp only[if_true]
   refine ZaaF (fun _=>?_) (fun _=>?_)
   ·exact wpS_bind (ZabQ (wpS_pure ⟨0,rfl,hT.mir (by omega) (by omega),more _ (Zach hsz eq1) (KeyOrd.kle_of_klt ew),by omega,fun i h2 h3=>by congr 1; omega⟩))
   ·exact wpS_pure ⟨0,rfl,hT,more _ (fun _=>rfl) (KeyOrd.kle_of_klt ew),by omega,fun i h2 h3=>by congr 1; omega⟩
  | false=>
   simp only[Bool.false_eq_true,if_false]
   refine wpS_bind (Zac9 hA h0 hT (by omega) (by omega) ?_)
   dsimp only
   cases eg:O.blt (ka O (arrOf τ) (lo+m - 1)) (ka O (arrOf τ) (lo+m)) with
   | true=>
    simp only[if_true]
    exact wpS_pure (h m e τ hT h2 (by omega) d q he)
   | false=>
    simp only[Bool.false_eq_true,if_false]
    have hx:ka O (arrOf τ) (lo+m)=ka O (arrOf τ) (lo+m - 1):=KeyOrd.kle_antisymm (O:=O.toKeyOrd) eg ew
    refine wpS_pure ⟨e+1,rfl,hT,more _ (fun _=>rfl) eg,by omega,fun i i1 i2=>?_⟩
    rw[show lo+(m+1) - 1=lo+m by omega]
    rcases Nat.lt_or_ge i m with z | z
    ·rw[hx]; exact he i (by omega) z
    ·obtain rfl:i=m:=by omega
     rfl
theorem Zakf {nrem : Nat} {Q : Option Nat → SortSt → Prop} (hA : Asks prog w A s O knd ok) (h0 : ∀ x ∈ b₀.toList, ok x) (hF : FB knd b₀ p₀ lo st) (hn : lo + nrem ≤ b₀.size) (h1 : 1 ≤ nrem)
  (h:∀ m τ,FB knd b₀ p₀ lo τ->1<=m->m<=nrem->Up O lo m (arrOf τ)->Q (some m) τ):wpS (model prog w) A E s (countRun' lo nrem) Q st:=by
 refine wpS_bind (Zab2 (a:=1) hA h0 hF hn (Nat.le_refl 1) h1 (fun i j hij hj=>?_) fun n n1 n2 u hor=>?_)
 ·obtain rfl:i=j:=by omega
  exact KeyOrd.kle_refl _
 dsimp only
 by_cases c:n=nrem
 ·rw[if_pos (by simpa using c)]
  exact wpS_pure (h n st hF n1 n2 u)
 rw[if_neg (by simpa using c)]
 have hlt:=hor.resolve_left c
 have hsz:lo+n<=(arrOf st).size:=by rw[hF.size]; omega
 by_cases cg:n > 1
 ·rw[if_pos cg]
  refine wpS_bind (Zac9 hA h0 hF (by omega) (by omega) ?_)
  cases e:O.blt (ka O (arrOf st) lo) (ka O (arrOf st) (lo+n - 1)) with
  | true=>
   simp only[if_true]
   exact wpS_pure (h n st hF n1 n2 u)
  | false=>
   simp only[Bool.false_eq_true,if_false]
   have all:∀ k,lo<=k->k<lo+n->ka O (arrOf st) k=ka O (arrOf st) (lo+n - 1):=by
    intro k k1 k2
    have a1:=u 0 (k - lo) (by omega) (by omega)
    have a2:=u (k - lo) (n - 1) (by omega) (by omega)
    rw[show lo+(k - lo)=k by omega] at a1 a2
    rw[show lo+(n - 1)=lo+n - 1 by omega] at a2
    exact KeyOrd.kle_antisymm a2 (KeyOrd.kle_trans (O:=O.toKeyOrd) e a1)
   refine wpS_bind (ZabQ ?_)
   have hF7:=FB.mir hF (i:=lo) (j:=lo+n) (Nat.le_refl _) (by omega)
   have d7:Dn O lo (n+1) (arrOf (setArr st (mirror (arrOf st) lo (lo+n) ((lo+n - lo) / 2)))):=by
    intro i j hij hj
    show O.kle (ka O (mirror (arrOf st) _ _ _) _) (ka O (mirror (arrOf st) _ _ _) _)
    rw[Zach hsz all,Zach hsz all]
    rcases Nat.lt_or_ge j n with z | z
    ·rw[all _ (by omega) (show lo+j<lo+n by omega),all _ (by omega) (show lo+i<lo+n by omega)]; exact KeyOrd.kle_refl _
    ·obtain rfl:j=n:=by omega
     rcases Nat.lt_or_ge i j with y | y
     ·rw[all _ (by omega) (show lo+i<lo+j by omega)]; exact KeyOrd.kle_of_klt hlt
     ·obtain rfl:i=j:=by omega
      exact KeyOrd.kle_refl _
   refine wpS_bind (wpS_lift (wpAny_rule ⟨rfl,?_⟩))
   refine wpS_bind (Zafz hA h0 hF7 hn (by omega) (by omega) d7 fun m e τ hT m1 m2 d q he=>?_)
   dsimp only
   have hsz:lo+m<=(arrOf τ).size:=by rw[hT.size]; omega
   have eq1:∀ k,lo+m - (e+1)<=k->k<lo+m->ka O (arrOf τ) k=ka O (arrOf τ) (lo+m - 1):=fun k k1 k2=>by
    have:=he (k - lo) (by omega) (by omega)
    rwa [show lo+(k - lo)=k by omega] at this
   refine ZaaF (fun _=>?_) (fun _=>?_)
   ·refine wpS_bind (ZabQ ?_)
    have hF8:=FB.mir hT (i:=lo+m - (e+1)) (j:=lo+m) (by omega) (by omega)
    have d8:Dn O lo m (arrOf (setArr τ (mirror (arrOf τ) (lo+m - (e+1)) (lo+m) ((lo+m - (lo+m - (e+1))) / 2)))):=by
     intro i j hij hj
     show O.kle (ka O (mirror (arrOf τ) _ _ _) _) (ka O (mirror (arrOf τ) _ _ _) _)
     rw[Zach hsz eq1,Zach hsz eq1]
     exact d i j hij hj
    refine wpS_bind (ZabQ ?_)
    have hF9:=FB.mir hF8 (i:=lo) (j:=lo+m) (Nat.le_refl _) (by omega)
    refine wpS_bind (Zab2 hA h0 hF9 hn (by omega) m2 (Zag1 d8 (by rw[FB.size hF8]; omega)) fun m' m1' m2' u' _=>wpS_pure (h m' _ hF9 (by omega) m2' u'))
   ·
    refine wpS_bind (ZabQ ?_)
    have hF9:=FB.mir hT (i:=lo) (j:=lo+m) (Nat.le_refl _) (by omega)
    refine wpS_bind (Zab2 hA h0 hF9 hn (by omega) m2 (Zag1 d (by rw[FB.size hT]; omega)) fun m' m1' m2' u' _=>wpS_pure (h m' _ hF9 (by omega) m2' u'))
 ·rw[if_neg cg]
  obtain rfl:n=1:=by omega
  have d7:Dn O lo (1+1) (arrOf st):=by
   intro i j hij hj
   rcases Nat.lt_or_ge i j with y | y
   ·obtain rfl:i=0:=by omega
    obtain rfl:j=1:=by omega
    exact KeyOrd.kle_of_klt hlt
   ·obtain rfl:i=j:=by omega
    exact KeyOrd.kle_refl _
  refine wpS_bind (wpS_lift (wpAny_rule ⟨rfl,?_⟩))
  refine wpS_bind (Zafz hA h0 hF hn (by omega) (by omega) d7 fun m e τ hT m1 m2 d q he=>?_)
  dsimp only
  have hsz:lo+m<=(arrOf τ).size:=by rw[hT.size]; omega
  have eq1:∀ k,lo+m - (e+1)<=k->k<lo+m->ka O (arrOf τ) k=ka O (arrOf τ) (lo+m - 1):=fun k k1 k2=>by
   have:=he (k - lo) (by omega) (by omega)
   rwa [show lo+(k - lo)=k by omega] at this
  refine ZaaF (fun _=>?_) (fun _=>?_)
  ·refine wpS_bind (ZabQ ?_)
   have hF8:=FB.mir hT (i:=lo+m - (e+1)) (j:=lo+m) (by omega) (by omega)
   have d8:Dn O lo m (arrOf (setArr τ (mirror (arrOf τ) (lo+m - (e+1)) (lo+m) ((lo+m - (lo+m - (e+1))) / 2)))):=by
    intro i j hij hj
    show O.kle (ka O (mirror (arrOf τ) _ _ _) _) (ka O (mirror (arrOf τ) _ _ _) _)
    rw[Zach hsz eq1,Zach hsz eq1]
    exact d i j hij hj
   refine wpS_bind (ZabQ ?_)
   have hF9:=FB.mir hF8 (i:=lo) (j:=lo+m) (Nat.le_refl _) (by omega)
   refine wpS_bind (Zab2 hA h0 hF9 hn (by omega) m2 (Zag1 d8 (by rw[FB.size hF8]; omega)) fun m' m1' m2' u' _=>wpS_pure (h m' _ hF9 (by omega) m2' u'))
  ·
   refine wpS_bind (ZabQ ?_)
   have hF9:=FB.mir hT (i:=lo) (j:=lo+m) (Nat.le_refl _) (by omega)
   refine wpS_bind (Zab2 hA h0 hF9 hn (by omega) m2 (Zag1 d (by rw[FB.size hT]; omega)) fun m' m1' m2' u' _=>wpS_pure (h m' _ hF9 (by omega) m2' u'))
end
end
end L2
namespace L2
open PySem PyProof.Rows
section
variable {prog:Program}{w:World}{A:Around}{E:Value->Shared->Prop}{s:Shared}{O:KO}{knd:SortKind}{ok:Keyed->Prop}{st:SortSt}{b₀:Array Keyed}{p₀:Array (Nat × Nat × Nat)}{lo:Nat}
theorem Zamf {l r:Nat} (h:l<r):l<=(l+r) / 2/\(l+r) / 2<r:=by omega
theorem mid_a {l r k x N:Nat} (m1:l<=(l+r) / 2) (m2:(l+r) / 2<r) (hx:x<N) (e2:r<=k) (e3:r - l<=k - x):(l+r) / 2 - l<=k - (x+1):=by omega
theorem mid_b {l r k x N:Nat} (m1:l<=(l+r) / 2) (m2:(l+r) / 2<r) (hx:x<N) (e2:r<=k) (e3:r - l<=k - x):r - ((l+r) / 2+1)<=k - (x+1):=by omega
theorem Zakg {n m : Nat} {Q : Bool → SortSt → Prop} (hA : Asks prog w A s O knd ok) (h0 : ∀ x ∈ b₀.toList, ok x) (hF : FB knd b₀ p₀ lo st) (hn : lo + n ≤ b₀.size) (h1 : 1 ≤ m) (hm : m ≤ n) (hu : Up O lo m (arrOf st))
  (h:∀ τ,FB knd b₀ p₀ lo τ->Up O lo n (arrOf τ)->Q true τ):wpS (model prog w) A E s (binarySort' lo n m) Q st:=by
 rw[binarySort'_eq,Nat.max_eq_left h1]
 refine wpS_bind (wpS_mono (wpS_forRange (I:=fun k c τ=>c=(none,())/\FB knd b₀ p₀ lo τ/\Up O lo k (arrOf τ))
  (Q:=fun c τ=>c=(none,())/\FB knd b₀ p₀ lo τ/\Up O lo n (arrOf τ)) ?go ?out ⟨rfl,hF,hu⟩) ?fin)
 case fin=>
  rintro c τ ⟨rfl,hT,u⟩
  exact wpS_pure (h τ hT u)
 case out=>
  rintro c τ ⟨hc,hT,u⟩
  rw[Nat.max_eq_right hm] at u
  exact⟨hc,hT,u⟩
 case go=>
  rintro k c τ k1 k2 ⟨rfl,hT,u⟩
  refine wpS_bind (wpS_mono (wpS_forRange (I := fun x c τ' => τ' = τ ∧ ∃ l r, c = (none, l, r) ∧ l ≤ r ∧ r ≤ k ∧ r - l ≤ k - x ∧
    (∀ i,i<l->O.kle (ka O (arrOf τ) (lo+i)) (ka O (arrOf τ) (lo+k)))/\∀ i,r<=i->i<k->O.klt (ka O (arrOf τ) (lo+k)) (ka O (arrOf τ) (lo+i)))
   (Q:=fun c τ'=>τ'=τ/\∃ l,c=(none,l,l)/\l<=k/\(∀ i,i<l->O.kle (ka O (arrOf τ) (lo+i)) (ka O (arrOf τ) (lo+k)))/\∀ i,l<=i->i<k->O.klt (ka O (arrOf τ) (lo+k)) (ka O (arrOf τ) (lo+i))) ?go2 ?out2
   ⟨rfl,0,k,rfl,Nat.zero_le _,Nat.le_refl _,Nat.le_refl _,fun i hi=>absurd hi (Nat.not_lt_zero _),fun i i1 i2=>absurd i2 (Nat.not_lt.mpr i1)⟩) ?fin2)
  case out2=>
   rintro c τ' ⟨rfl,l,r,rfl,e1,e2,e3,e4,e5⟩
   obtain rfl:l=r:=by omega
   exact⟨rfl,l,rfl,e2,e4,e5⟩
  case go2=>
   rintro x c τ' _ hx ⟨rfl,l,r,rfl,e1,e2,e3,e4,e5⟩
   dsimp only
   by_cases hge:l ≥ r
   ·rw[if_pos hge]
    obtain rfl:l=r:=by omega
    exact wpS_pure ⟨rfl,l,rfl,e2,e4,e5⟩
   rw[if_neg hge]
   obtain⟨m1,m2⟩:=Zamf (Nat.lt_of_not_le hge)
   have mk:(l+r) / 2<k:=Nat.lt_of_lt_of_le m2 e2
   have kn:lo+k<b₀.size:=Nat.lt_of_lt_of_le (Nat.add_lt_add_left k2 lo) hn
   refine wpS_bind (Zac9 hA h0 hT kn (Nat.lt_trans (Nat.add_lt_add_left mk lo) kn) ?_)
   cases e:O.blt (ka O (arrOf τ') (lo+k)) (ka O (arrOf τ') (lo+(l+r) / 2)) with
   | true=>
    simp only[if_true]
    exact wpS_pure ⟨rfl,l,(l+r) / 2,rfl,m1,Nat.le_of_lt mk,mid_a m1 m2 hx e2 e3,e4,fun i i1 i2=>KeyOrd.klt_of_klt_of_kle e (u _ _ i1 i2)⟩
   | false=>
    simp only[Bool.false_eq_true,if_false]
    exact wpS_pure ⟨rfl,(l+r) / 2+1,r,rfl,m2,e2,mid_b m1 m2 hx e2 e3,fun i i1=>KeyOrd.kle_trans (u i ((l+r) / 2) (Nat.le_of_lt_succ i1) mk) e,e5⟩
  case fin2=>
   rintro c τ' ⟨rfl,l,rfl,e2,e4,e5⟩
   dsimp only
   rw[moveDown'_eq]
   have hks:lo+k<(arrOf τ').size:=by rw[hT.size]; omega
   refine wpS_bind (wpS_modify (wpS_pure ⟨rfl,hT.put (bubble_perm _ _ _) (fun i hi=>?_),?_⟩))
   ·rw[getElem?_bubble hks _ (by omega),if_neg (by omega),if_neg (by omega)]
   ·intro i j hij hj
    show O.kle (ka O (bubble (arrOf τ') (lo+k) (lo+k - (lo+l))) _) (ka O (bubble (arrOf τ') (lo+k) (lo+k - (lo+l))) _)
    rw[Zalj hks (by omega),Zalj hks (by omega),show lo+k - (lo+k - (lo+l))=lo+l by omega]
    repeat' split
    all_goals first
     | (exfalso; omega)
     | exact KeyOrd.kle_refl _
     | exact e4 _ (by omega)
     | (rw[show lo+j - 1=lo+(j - 1) by omega]; exact KeyOrd.kle_of_klt (e5 _ (by omega) (by omega)))
     | exact KeyOrd.kle_of_klt (e5 _ (by omega) (by omega))
     | (rw[show lo+i - 1=lo+(i - 1) by omega,show lo+j - 1=lo+(j - 1) by omega]; exact u _ _ (by omega) (by omega))
     | (rw[show lo+j - 1=lo+(j - 1) by omega]; exact u _ _ (by omega) (by omega))
     | exact u _ _ (by omega) (by omega)
def pos:Nat->List (List Keyed)->List (Nat × Nat)
 | _,[]=>[]
 | o,r::rs=>(o,r.length)::pos (o+r.length) rs
theorem ZabA:∀ (o:Nat) (xs ys:List (List Keyed)),pos o (xs++ys)=pos o xs++pos (o+xs.flatten.length) ys
 | o,[],ys=>by simp[pos]
 | o,r::rs,ys=>by
  simp only[List.cons_append,pos,ZabA,List.flatten_cons,List.length_append]
  rw[Nat.add_assoc]
theorem Zaca:∀ (o:Nat) (xs:List (List Keyed)),(pos o xs).length=xs.length
 | _,[]=>rfl
 | o,r::rs=>by simp only[pos,List.length_cons,Zaca]
def pr (p:Nat × Nat × Nat):Nat × Nat:=(p.1,p.2.1)
structure RI (O:KO) (knd:SortKind) (a₀:List Keyed) (runs:List (List Keyed)) (rest:List Keyed) (st:SortSt):Prop where
 arr:(arrOf st).toList=runs.flatten++rest
 perm:(arrOf st).toList.Perm a₀
 srt:∀ r∈runs,O.Srt r
 ne:∀ r∈runs,1<=r.length
 kind:kindOf st=knd
 failed:failedOf st=none
 pend:(pendingOf st).toList.map pr=pos 0 runs
theorem Zac8 : ∀ (l : List Keyed) (n sa : Nat) (xs : Array Keyed) (P M S : List Keyed), xs.toList = P ++ M ++ S → M.length = l.length → P.length = sa + n →
  ((l.zipIdx n).foldl (fun a (q:Keyed × Nat)=>a.setIfInBounds (sa+q.2) q.1) xs).toList=P++l++S
 | [],n,sa,xs,P,M,S,e,h1,h2=>by
  have:M=[]:=List.length_eq_zero_iff.mp h1
  subst this
  simpa using e
 | x::l,n,sa,xs,P,[],S,e,h1,h2=>by cases h1
 | x::l,n,sa,xs,P,y::M,S,e,h1,h2=>by
  rw[List.zipIdx_cons,List.foldl_cons]
  have q:=Zac8 l (n+1) sa (xs.setIfInBounds (sa+n) x) (P++[x]) M S ?_ (by simpa using h1) (by simp; omega)
  ·rw[q]; simp
  ·rw[Array.toList_setIfInBounds,e,<- h2]
   simp
theorem ZahH {α β:Type}{f:α->β}{l:List α}{X Z:List β}{x y:β} (h:l.map f=X++x::y::Z):∃ P p q S,l=P++p::q::S/\P.map f=X/\f p=x/\f q=y/\S.map f=Z:=by
 obtain⟨P,l2,e1,e2,e3⟩:=List.map_eq_append_iff.mp h
 obtain⟨p,l3,e4,e5,e6⟩:=List.map_eq_cons_iff.mp e3
 obtain⟨q,S,e7,e8,e9⟩:=List.map_eq_cons_iff.mp e6
 exact⟨P,p,q,S,by rw[e1,e4,e7],e2,e5,e8,e9⟩
theorem ZadF {α:Type}{pre m post:List α}{l:List α}{i:Nat} (e:l=pre++m++post) (hi:i<m.length):l[pre.length+i]?=m[i]?:=by
 rw[e,List.append_assoc,List.getElem?_append_right (by omega),Nat.add_sub_cancel_left,List.getElem?_append_left hi]
theorem Zaku {xs:Array Keyed}{pre m post:List Keyed} (e:xs.toList=pre++m++post) (sm:O.Srt m):∀ p q x y,pre.length<=p->p<=q->q<pre.length+m.length->xs[p]?=some x->xs[q]?=some y->O.le x y:=by
 intro p q x y h1 h2 h3 e1 e2
 have f1:=ZadF (i:=p - pre.length) e (by omega)
 have f2:=ZadF (i:=q - pre.length) e (by omega)
 rw[show pre.length+(p - pre.length)=p by omega,Array.getElem?_toList,e1] at f1
 rw[show pre.length+(q - pre.length)=q by omega,Array.getElem?_toList,e2] at f2
 exact ZabX sm (by omega) f1.symm f2.symm
theorem ZaiF {xs:Array Keyed}{P M S:List Keyed}{i j:Nat} (e:xs.toList=P++M++S) (hi:i=P.length) (hj:j=P.length+M.length):(xs.extract i j).toList=M:=by
 rw[ZaeO,e,hi,hj,List.append_assoc,List.drop_left,Nat.add_sub_cancel_left,List.take_left]
theorem srt3 {x y z:List Keyed} (hx:O.Srt x) (hy:O.Srt y) (hz:O.Srt z) (xy:∀ p∈x,∀ q∈y,O.le p q) (yz:∀ p∈y,∀ q∈z,O.le p q) (xz:∀ p∈x,∀ q∈z,O.le p q):O.Srt (x++y++z):=by
 refine List.pairwise_append.mpr ⟨List.pairwise_append.mpr ⟨hx,hy,xy⟩,hz,fun p hp q hq=>?_⟩
 rcases List.mem_append.mp hp with hp | hp
 ·exact xz p hp q hq
 ·exact yz p hp q hq
theorem Zake {M:Model}{σ:Type}{x y:σ}{Q:PUnit->σ->Prop} (h:Q ⟨⟩ x):wpS M A E s (set x:StateT σ Sem PUnit) Q y:=by
 unfold wpS; rw[StateT.run_set]; exact wpAny_pure ⟨rfl,h⟩
theorem ZabH {a₀ rest : List Keyed} {R1 R2 : List (List Keyed)} {a b : List Keyed} {i : Nat} {Q : Bool → SortSt → Prop} (hA : Asks prog w A s O knd ok) (h0 : ∀ x ∈ a₀, ok x) (hR : RI O knd a₀ (R1 ++ a :: b :: R2) rest st) (hi : R1.length = i)
  (h:∀ m τ,m.Perm (a++b)->RI O knd a₀ (R1++m::R2) rest τ->Q true τ):wpS (model prog w) A E s (mergeAt' i) Q st:=by
 have hp:=hR.pend
 rw[ZabA] at hp
 obtain⟨P,p,q,S,ep,e1,e2,e3,e4⟩:=ZahH hp
 obtain⟨p1,p2,w1⟩:=p
 obtain⟨q1,q2,w2⟩:=q
 simp only[pr,Prod.mk.injEq,Nat.zero_add] at e2 e3
 obtain⟨rfl,rfl⟩:=e2
 obtain⟨rfl,rfl⟩:=e3
 have hP:P.length=i:=by rw[<- hi,<- Zaca 0 R1,<- e1,List.length_map]
 have g1:(pendingOf st)[i]?=some (R1.flatten.length,a.length,w1):=by
  rw[<- Array.getElem?_toList,ep,List.getElem?_append_right (by omega),hP,Nat.sub_self]; rfl
 have g2:(pendingOf st)[i+1]?=some (R1.flatten.length+a.length,b.length,w2):=by
  rw[<- Array.getElem?_toList,ep,List.getElem?_append_right (by omega),hP,Nat.add_sub_cancel_left]; rfl
 have ea:(arrOf st).toList=R1.flatten++a++(b++(R2.flatten++rest)):=by
  rw[hR.arr]; simp
 have eb:(arrOf st).toList=(R1.flatten++a)++b++(R2.flatten++rest):=by
  rw[hR.arr]; simp
 have sa:O.Srt a:=hR.srt a (by simp)
 have sb:O.Srt b:=hR.srt b (by simp)
 have la:1<=a.length:=hR.ne a (by simp)
 have lb:1<=b.length:=hR.ne b (by simp)
 have oks:∀ x∈(arrOf st).toList,ok x:=fun x hx=>h0 x (hR.perm.mem_iff.mp hx)
 have oka:∀ x∈a,ok x:=fun x hx=>oks x (by rw[ea]; simp[hx])
 have okb:∀ x∈b,ok x:=fun x hx=>oks x (by rw[eb]; simp[hx])
 have fin:∀ (τ:SortSt) (m:List Keyed),m.Perm (a++b)->O.Srt m->(arrOf τ).toList=R1.flatten++m++(R2.flatten++rest)->kindOf τ=knd->failedOf τ=none->(pendingOf τ).toList=P++(R1.flatten.length,a.length+b.length,w1)::S->Q true τ:=by
  intro τ m pm sm em k1 k2 k3
  have lm:m.length=a.length+b.length:=by rw[pm.length_eq,List.length_append]
  refine h m τ pm ⟨by rw[em]; simp,?_,?_,?_,k1,k2,?_⟩
  ·refine List.Perm.trans ?_ hR.perm
   rw[em,ea]
   have:=List.Perm.append_left R1.flatten (List.Perm.append_right (R2.flatten++rest) pm)
   simpa using this
  ·intro r hr
   rcases List.mem_append.mp hr with hr | hr
   ·exact hR.srt r (List.mem_append_left _ hr)
   ·rcases List.mem_cons.mp hr with hr | hr
    ·rw[hr]; exact sm
    ·exact hR.srt r (by simp[hr])
  ·intro r hr
   rcases List.mem_append.mp hr with hr | hr
   ·exact hR.ne r (List.mem_append_left _ hr)
   ·rcases List.mem_cons.mp hr with hr | hr
    ·rw[hr]; omega
    ·exact hR.ne r (by simp[hr])
  ·rw[k3,ZabA,List.map_append,e1,List.map_cons,e4,Nat.zero_add]
   simp only[pos,pr,lm,Nat.add_assoc]
 have new:(((pendingOf st).setIfInBounds i (R1.flatten.length,a.length+b.length,w1)).eraseIdxIfInBounds (i+1)).toList=P++(R1.flatten.length,a.length+b.length,w1)::S:=by
  rw[Array.toList_eraseIdxIfInBounds,Array.toList_setIfInBounds,ep,<- hP]
  simp[List.eraseIdx_append_of_length_le]
 refine wpS_bind (wpS_get ?_)
 rw[show (pendingOf st)[i]?=_ from g1,show (pendingOf st)[i+1]?=_ from g2]
 dsimp only
 refine wpS_bind (Zake ?_)
 have eb0:(arrOf st).toList[(R1.flatten++a).length+0]?=b[0]?:=ZadF eb (by omega)
 have hb0:b[0]?=some b[0]:=List.getElem?_eq_getElem lb
 have eb1:(arrOf st)[R1.flatten.length+a.length]?=some b[0]:=by
  rw[<- Array.getElem?_toList,<- hb0,<- eb0,List.length_append,Nat.add_zero]
 have mb0:b[0]∈b:=List.getElem_mem _
 refine wpS_bind (Zaao eb1 ?_)
 have hlen:(arrOf st).size=R1.flatten.length+a.length+b.length+(R2.flatten++rest).length:=by
  rw[<- Array.length_toList,eb]; simp only[List.length_append]
 refine wpS_bind (ZabI hA hR.kind (okb _ mb0) oks (show R1.flatten.length+a.length<=(arrOf st).size by omega) (Zaku ea sa) (by omega) fun k hk1 u1 u2=>?_)
 have ka1:∀ z∈a.take k,O.le z b[0]:=by
  intro z hz
  obtain⟨j,hj,e⟩:=ZaaL hz
  refine u1 j z hj ?_
  rw[<- Array.getElem?_toList,ZadF ea (by omega)]
  exact e
 have ka2:∀ z∈a.drop k,O.blt (O.ky b[0]) (O.ky z)=true:=by
  intro z hz
  obtain⟨j,hj,e⟩:=ZaaM hz
  have hj2:j<a.length:=(List.getElem?_eq_some_iff.mp e).1
  refine u2 j z hj hj2 ?_
  rw[<- Array.getElem?_toList,ZadF ea hj2]
  exact e
 have bb:∀ z∈b,O.le b[0] z:=fun z hz=>Zacz sb hb0 z (by simpa using hz)
 dsimp only
 by_cases ck:a.length - k=0
 ·rw[if_pos (by simpa using ck)]
  have ek:a.take k=a:=List.take_of_length_le (by omega)
  rw[ek] at ka1
  refine wpS_pure (fin _ (a++b) (List.Perm.refl _) (List.pairwise_append.mpr ⟨sa,sb,fun x hx y hy=>KO.le_trans (ka1 x hx) (bb y hy)⟩) ?_ hR.kind hR.failed new)
  show (arrOf st).toList=_
  rw[ea]; simp
 rw[if_neg (by simpa using ck)]
 have hla:a[a.length - 1]?=some a[a.length - 1]:=List.getElem?_eq_getElem (by omega)
 have mla:a[a.length - 1]∈a:=List.getElem_mem _
 have mla2:a[a.length - 1]∈a.drop k:=by
  refine List.mem_iff_getElem?.mpr ⟨a.length - 1 - k,?_⟩
  rw[List.getElem?_drop,show k+(a.length - 1 - k)=a.length - 1 by omega]
  exact hla
 have ela:(arrOf st)[R1.flatten.length+k+(a.length - k) - 1]?=some a[a.length - 1]:=by
  rw[<- Array.getElem?_toList,show R1.flatten.length+k+(a.length - k) - 1=R1.flatten.length+(a.length - 1) by omega,ZadF ea (by omega)]
  exact hla
 refine wpS_bind (Zaao ela ?_)
 refine wpS_bind (Zaa1 hA hR.kind (oka _ mla) oks (show R1.flatten.length+a.length+b.length<=(arrOf st).size by omega) (by rw[<- List.length_append]; exact Zaku eb sb) (by omega) fun n hn1 v1 v2=>?_)
 have kb1:∀ z∈b.take n,O.blt (O.ky z) (O.ky a[a.length - 1])=true:=by
  intro z hz
  obtain⟨j,hj,e⟩:=ZaaL hz
  refine v1 j z hj ?_
  rw[<- Array.getElem?_toList,<- List.length_append,ZadF eb (by omega)]
  exact e
 have kb2:∀ z∈b.drop n,O.le a[a.length - 1] z:=by
  intro z hz
  obtain⟨j,hj,e⟩:=ZaaM hz
  have hj2:j<b.length:=(List.getElem?_eq_some_iff.mp e).1
  refine v2 j z hj hj2 ?_
  rw[<- Array.getElem?_toList,<- List.length_append,ZadF eb hj2]
  exact e
 have hn0:1<=n:=by
  rcases Nat.eq_zero_or_pos n with z | z
  ·subst z
   have q1:=ka2 _ mla2
   rw[show O.blt (O.ky b[0]) (O.ky a[a.length - 1])=false from kb2 b[0] (by simpa using mb0)] at q1
   cases q1
  ·exact z
 have aa:∀ z∈a,O.le z a[a.length - 1]:=fun z hz=>ZaiA sa hla z (by rw[show a.length - 1+1=a.length by omega,List.take_length]; exact hz)
 dsimp only
 rw[if_neg (by simp; omega)]
 have exx:((arrOf st).extract (R1.flatten.length+k) (R1.flatten.length+a.length)).toList=a.drop k :=
  ZaiF (P:=R1.flatten++a.take k) (S:=b++(R2.flatten++rest)) (by rw[ea]; simp[<- List.append_assoc]; simp[List.append_assoc,List.take_append_drop]) (by simp; omega) (by simp; omega)
 have exy:((arrOf st).extract (R1.flatten.length+a.length) (R1.flatten.length+a.length+n)).toList=b.take n :=
  ZaiF (P:=R1.flatten++a) (S:=b.drop n++(R2.flatten++rest)) (by rw[eb]; simp only[List.append_assoc]; rw[<- List.append_assoc (b.take n),List.take_append_drop]) (by simp) (by simp; omega)
 have sx:O.Srt (a.drop k):=sa.drop
 have sy:O.Srt (b.take n):=sb.take
 have after : ∀ (r : Array Keyed) (τ : SortSt), Gal (SortSt.mk' (kindOf st) (arrOf st) (((pendingOf st).setIfInBounds i (R1.flatten.length, a.length + b.length, w1)).eraseIdxIfInBounds (i + 1)) (gallopOf st) (failedOf st)) τ → Mg O (a.drop k) (b.take n) r.toList →
   Q true (SortSt.mk' (kindOf τ) (r.toList.zipIdx.foldl (fun a (q:Keyed × Nat)=>a.setIfInBounds (R1.flatten.length+k+q.2) q.1) (arrOf τ)) (pendingOf τ) (gallopOf τ) (failedOf τ)):=by
  intro r τ hG hM
  have mem:∀ z∈r.toList,z∈a.drop k∨z∈b.take n:=fun z hz=>List.mem_append.mp (hM.1.mem_iff.mp hz)
  refine fin _ (a.take k++r.toList++b.drop n) ?_ (srt3 sa.take hM.2 sb.drop (fun p hp q hq=>?_) (fun p hp q hq=>?_) fun p hp q hq=>?_) ?_ (hG.1.trans hR.kind) (hG.2.2.2.trans hR.failed) (by rw[show pendingOf τ=_ from hG.2.2.1]; exact new)
  ·have p1:(a.take k++r.toList++b.drop n).Perm (a.take k++(a.drop k++b.take n)++b.drop n):=List.Perm.append_right _ (List.Perm.append_left _ hM.1)
   refine p1.trans (List.Perm.of_eq ?_)
   rw[<- List.append_assoc,List.take_append_drop,List.append_assoc,List.take_append_drop]
  ·rcases mem q hq with m | m
   ·refine (List.pairwise_append.mp (show O.Srt (a.take k++a.drop k) from by rw[List.take_append_drop]; exact sa)).2.2 p hp q m
   ·exact KO.le_trans (ka1 p hp) (bb q (List.mem_of_mem_take m))
  ·rcases mem p hp with m | m
   ·exact KO.le_trans (aa p (List.mem_of_mem_drop m)) (kb2 q hq)
   ·refine (List.pairwise_append.mp (show O.Srt (b.take n++b.drop n) from by rw[List.take_append_drop]; exact sb)).2.2 p m q hq
  ·exact KO.le_trans (ka1 p hp) (bb q (List.mem_of_mem_drop hq))
  ·show (List.foldl _ (arrOf τ) _).toList=_
   rw[show arrOf τ=arrOf st from hG.2.1]
   have:=Zac8 r.toList 0 (R1.flatten.length+k) (arrOf st) (R1.flatten++a.take k) (a.drop k++b.take n) (b.drop n++(R2.flatten++rest)) ?_ (by rw[hM.1.length_eq]) (by simp; omega)
   ·rw[this]; simp
   ·rw[eb]
    simp only[List.append_assoc]
    rw[<- List.append_assoc (a.take k),List.take_append_drop,<- List.append_assoc (b.take n),List.take_append_drop]
 have xsz:((arrOf st).extract (R1.flatten.length+k) (R1.flatten.length+a.length)).size=a.length - k:=by
  rw[<- Array.length_toList,exx,List.length_drop]
 have ysz:((arrOf st).extract (R1.flatten.length+a.length) (R1.flatten.length+a.length+n)).size=n:=by
  rw[<- Array.length_toList,exy,List.length_take]; omega
 have y0:∀ y,((arrOf st).extract (R1.flatten.length+a.length) (R1.flatten.length+a.length+n))[0]?=some y->y=b[0]:=by
  intro y e
  rw[<- Array.getElem?_toList,exy,List.getElem?_take_of_lt (by omega),hb0] at e
  exact (Option.some.inj e).symm
 have xl:∀ z,((arrOf st).extract (R1.flatten.length+k) (R1.flatten.length+a.length))[((arrOf st).extract (R1.flatten.length+k) (R1.flatten.length+a.length)).size - 1]?=some z->z=a[a.length - 1]:=by
  intro z e
  rw[xsz,<- Array.getElem?_toList,exx,List.getElem?_drop,show k+(a.length - k - 1)=a.length - 1 by omega,hla] at e
  exact (Option.some.inj e).symm
 have hx1:1<=((arrOf st).extract (R1.flatten.length+k) (R1.flatten.length+a.length)).size:=by rw[xsz]; omega
 have hy1:1<=((arrOf st).extract (R1.flatten.length+a.length) (R1.flatten.length+a.length+n)).size:=by rw[ysz]; omega
 refine ZaaF (fun _=>?_) (fun _=>?_)
 ·refine wpS_bind (Zae6 hA hR.kind (by rw[exx]; exact fun x hx=>oka x (List.mem_of_mem_drop hx)) (by rw[exy]; exact fun x hx=>okb x (List.mem_of_mem_take hx)) (by rw[exx]; exact sx) (by rw[exy]; exact sy) hx1 hy1 ?_ ?_ ?_)
  ·intro y e x hx
   rw[y0 y e]
   rw[exx] at hx
   exact KO.le_of_lt (ka2 x hx)
  ·intro z e y hy
   rw[xl z e]
   rw[exy] at hy
   exact kb1 y hy
  ·intro r τ hG hM
   rw[exx,exy] at hM
   refine wpS_bind (wpS_modify (wpS_bind (wpS_get ?_)))
   have e9:failedOf τ=none:=hG.2.2.2.trans hR.failed
   refine wpS_pure ?_
   show Q (failedOf τ).isNone _
   rw[e9]
   exact after r τ hG hM
 ·refine wpS_bind (Zae7 hA hR.kind (by rw[exx]; exact fun x hx=>oka x (List.mem_of_mem_drop hx)) (by rw[exy]; exact fun x hx=>okb x (List.mem_of_mem_take hx)) (by rw[exx]; exact sx) (by rw[exy]; exact sy) hx1 hy1 ?_ ?_ ?_)
  ·intro y e x hx
   rw[y0 y e]
   rw[exx] at hx
   exact ka2 x hx
  ·intro z e y hy
   rw[xl z e]
   rw[exy] at hy
   exact KO.le_of_lt (kb1 y hy)
  ·intro r τ hG hM
   rw[exx,exy] at hM
   refine wpS_bind (wpS_modify (wpS_bind (wpS_get ?_)))
   have e9:failedOf τ=none:=hG.2.2.2.trans hR.failed
   refine wpS_pure ?_
   show Q (failedOf τ).isNone _
   rw[e9]
   exact after r τ hG hM
end
end L2
namespace L2
open PySem PyProof.Rows
section
variable {prog:Program}{w:World}{A:Around}{E:Value->Shared->Prop}{s:Shared}{O:KO}{knd:SortKind}{ok:Keyed->Prop}{st τ:SortSt}
theorem Zall {c:Prop} [Decidable c] {a b n:Nat} (h1:a<=n) (h2:b<=n):(if c then a else b)<=n:=by split <;> assumption
theorem ZabW {α:Type}:∀ {l:List α}{i:Nat},i+1<l.length->∃ R1 a b R2,l=R1++a::b::R2/\R1.length=i
 | [],_,h=>by simp at h
 | [_],_,h=>by simp at h
 | a::b::l,0,_=>⟨[],a,b,l,rfl,rfl⟩
 | a::b::l,i+1,h=>by
  obtain⟨R1,x,y,R2,e,q⟩:=ZabW (l:=b::l) (i:=i) (by simpa using h)
  exact⟨a::R1,x,y,R2,by rw[e]; rfl,by simp[q]⟩
theorem RI.len {a₀ rest:List Keyed}{runs:List (List Keyed)} (h:RI O knd a₀ runs rest st):(pendingOf st).size=runs.length:=by
 rw[<- Array.length_toList,<- Zaca 0 runs,<- h.pend,List.length_map]
theorem RI.size {a₀ rest:List Keyed}{runs:List (List Keyed)} (h:RI O knd a₀ runs rest st):(arrOf st).size=runs.flatten.length+rest.length:=by
 rw[<- Array.length_toList,h.arr,List.length_append]
theorem RI.size0 {a₀ rest:List Keyed}{runs:List (List Keyed)} (h:RI O knd a₀ runs rest st):(arrOf st).size=a₀.length:=by
 rw[<- Array.length_toList,h.perm.length_eq]
theorem Zaip:∀ {runs:List (List Keyed)},(∀ r∈runs,1<=r.length)->runs.length<=runs.flatten.length
 | [],_=>by simp
 | r::rs,h=>by
  have q:=Zaip (runs:=rs) fun x hx=>h x (by simp[hx])
  have:=h r (by simp)
  simp only[List.length_cons,List.flatten_cons,List.length_append]
  omega
theorem fb_ri {a₀ rest : List Keyed} {runs : List (List Keyed)} {n : Nat} (h : RI O knd a₀ runs rest st) (hF : FB knd (arrOf st) (pendingOf st) runs.flatten.length τ) (hu : Up O runs.flatten.length n (arrOf τ)) (hn : n ≤ rest.length) :
  ∃ r rest',r.length=n/\O.Srt r/\rest.length=n+rest'.length/\RI O knd a₀ runs (r++rest') τ:=by
 have hpm:=Array.perm_iff_toList_perm.mp hF.perm
 have hsz:(arrOf τ).size=runs.flatten.length+rest.length:=by rw[hF.size,h.size]
 have e1:(arrOf τ).toList.take runs.flatten.length=runs.flatten:=by
  have:(arrOf τ).toList.take runs.flatten.length=(arrOf st).toList.take runs.flatten.length:=by
   apply List.ext_getElem?
   intro i
   rcases Nat.lt_or_ge i runs.flatten.length with hi | hi
   ·rw[List.getElem?_take_of_lt hi,List.getElem?_take_of_lt hi,Array.getElem?_toList,Array.getElem?_toList]
    exact hF.keep i hi
   ·rw[List.getElem?_eq_none (by rw[List.length_take]; omega),List.getElem?_eq_none (by rw[List.length_take]; omega)]
  rw[this,h.arr,List.take_left]
 have e2:(arrOf τ).toList=runs.flatten++(arrOf τ).toList.drop runs.flatten.length:=by
  conv=>lhs; rw[<- List.take_append_drop runs.flatten.length (arrOf τ).toList,e1]
 have lr:((arrOf τ).toList.drop runs.flatten.length).length=rest.length:=by
  rw[List.length_drop,Array.length_toList]; omega
 refine⟨((arrOf τ).toList.drop runs.flatten.length).take n,((arrOf τ).toList.drop runs.flatten.length).drop n,by rw[List.length_take]; omega,?_,by rw[List.length_drop]; omega,⟨by rw[List.take_append_drop]; exact e2,hpm.trans h.perm,h.srt,h.ne,hF.kind,hF.failed,by rw[hF.pend]; exact h.pend⟩⟩
 refine List.pairwise_iff_getElem.mpr fun i j hi hj hij=>?_
 rw[List.length_take] at hi hj
 have q:=hu i j (by omega) (by omega)
 rw[List.getElem_take,List.getElem_take,List.getElem_drop,List.getElem_drop]
 have g:∀ k (hk:runs.flatten.length+k<(arrOf τ).toList.length),ka O (arrOf τ) (runs.flatten.length+k)=O.ky ((arrOf τ).toList[runs.flatten.length+k]):=by
  intro k hk
  unfold ka
  rw[<- Array.getElem?_toList,List.getElem?_eq_getElem hk]
  rfl
 have hlt:(arrOf τ).toList.length=runs.flatten.length+rest.length:=by rw[Array.length_toList]; exact hsz
 rw[g i (by omega),g j (by omega)] at q
 exact q
theorem RI.push {a₀ rest r:List Keyed}{runs:List (List Keyed)}{lo n:Nat} (h:RI O knd a₀ runs (r++rest) st) (hs:O.Srt r) (hr:r.length=n) (hn:1<=n) (hl:lo=runs.flatten.length):RI O knd a₀ (runs++[r]) rest (setPending st ((pendingOf st).push (lo,n,0))):=by
 refine⟨?_,h.perm,?_,?_,h.kind,h.failed,?_⟩
 ·show (arrOf st).toList=_
  rw[h.arr]; simp
 ·intro x hx
  rcases List.mem_append.mp hx with hx | hx
  ·exact h.srt x hx
  ·rw[List.mem_singleton.mp hx]; exact hs
 ·intro x hx
  rcases List.mem_append.mp hx with hx | hx
  ·exact h.ne x hx
  ·rw[List.mem_singleton.mp hx]; omega
 ·show ((pendingOf st).push (lo,n,0)).toList.map pr=_
  rw[Array.toList_push,List.map_append,h.pend,ZabA,hl,<- hr]
  simp[pos,pr]
theorem RI.pow {a₀ rest:List Keyed}{runs:List (List Keyed)}{pw:Nat} (h:RI O knd a₀ runs rest st):RI O knd a₀ runs rest (setPending st ((pendingOf st).modify ((pendingOf st).size - 1) fun x=>(x.1,x.2.1,pw))):=by
 refine⟨h.arr,h.perm,h.srt,h.ne,h.kind,h.failed,?_⟩
 show ((pendingOf st).modify _ _).toList.map pr=_
 rw[<- h.pend]
 apply List.ext_getElem?
 intro i
 rw[List.getElem?_map,List.getElem?_map,Array.getElem?_toList,Array.getElem?_toList,Array.getElem?_modify]
 split
 ·cases (pendingOf st)[i]? <;> rfl
 ·rfl
theorem Zae5 {a₀ : Array Keyed} {Q : Unit → SortSt → Prop} (hA : Asks prog w A s O knd ok) (h0 : ∀ x ∈ a₀.toList, ok x) (ha : arrOf st = a₀) (hk : kindOf st = knd) (hf : failedOf st = none) (hp : pendingOf st = #[])
  (h:∀ τ,(arrOf τ).toList.Perm a₀.toList->failedOf τ=none->O.Srt (arrOf τ).toList->Q () τ):wpS (model prog w) A E s sortRuns' Q st:=by
 refine wpS_bind (wpS_get ?_)
 dsimp only
 have hN:(arrOf st).size=a₀.size:=by rw[ha]
 have hN2:a₀.toList.length=a₀.size:=Array.length_toList
 rw[hN]
 refine wpS_bind (wpS_mono (wpS_forRange
  (I:=fun x c τ=>∃ lo runs rest,c=((none:Option Unit),lo)/\RI O knd a₀.toList runs rest τ/\lo=runs.flatten.length/\(x<=lo))
  (Q:=fun c τ=>∃ lo runs,c=((none:Option Unit),lo)/\RI O knd a₀.toList runs [] τ) ?go ?out ⟨0,[],a₀.toList,rfl,⟨by rw[ha]; simp,by rw[ha],(fun r hr=>nomatch hr),(fun r hr=>nomatch hr),hk,hf,by rw[hp]; rfl⟩,rfl,Nat.le_refl 0⟩) ?fin)
 case out=>
  rintro c τ ⟨lo,runs,rest,rfl,hR,e1,e2⟩
  have q1:=hR.size
  have q2:=hR.size0
  have q3:=hN2
  have:rest=[]:=List.length_eq_zero_iff.mp (by
   have q4:max 0 a₀.size<=lo:=e2
   omega)
  subst this
  exact⟨lo,runs,rfl,hR⟩
 case fin=>
  rintro c τ ⟨lo,runs,rfl,hR⟩
  dsimp only
  have q1:=hR.size
  have q2:=Zaip hR.ne
  have q3:=hN2
  have q4:=hR.size0
  refine wpS_bind (wpS_mono (wpS_forRange (I:=fun x c τ'=>c=((none:Option Unit),())/\∃ runs',RI O knd a₀.toList runs' [] τ'/\runs'.length+x<=a₀.size)
   (Q:=fun c τ'=>c=((none:Option Unit),())/\∃ runs',RI O knd a₀.toList runs' [] τ'/\runs'.length<=1) ?g2 ?o2 ⟨rfl,runs,hR,by simp only[List.length_nil] at q1; omega⟩) ?f2)
  case o2=>
   rintro c τ' ⟨hc,runs',hR',e⟩
   have e:runs'.length+max 0 a₀.size<=a₀.size:=e
   exact⟨hc,runs',hR',by omega⟩
  case f2=>
   rintro c τ' ⟨rfl,runs',hR',e⟩
   refine wpS_pure (h τ' hR'.perm hR'.failed ?_)
   rw[hR'.arr,List.append_nil]
   match runs',e,hR' with
   | [],_,_=>exact List.Pairwise.nil
   | [r],_,hR'=>simpa using hR'.srt r (by simp)
  case g2=>
   rintro x c τ' _ _ ⟨rfl,runs',hR',e⟩
   refine wpS_bind (wpS_get ?_)
   by_cases c1:(pendingOf τ').size<=1
   ·rw[if_pos c1]
    exact wpS_pure ⟨rfl,runs',hR',by rw[<- hR'.len]; exact c1⟩
   rw[if_neg c1]
   have key:∀ j,j<=(pendingOf τ').size - 2->wpS (model prog w) A E s (mergeAt' j) (fun b τ3=>b=true/\∃ runs',RI O knd a₀.toList runs' [] τ3/\runs'.length+(x+1)<=a₀.size) τ':=by
    intro j hj
    obtain⟨R1,a,b,R2,e3,e4⟩:=ZabW (l:=runs') (i:=j) (by rw[<- hR'.len]; omega)
    subst e3
    refine ZabH hA h0 hR' e4 fun m τ3 pm hR3=>⟨rfl,_,hR3,?_⟩
    simp only[List.length_append,List.length_cons] at e ⊢
    omega
   refine wpS_bind (wpS_mono (key _ ?_) ?_)
   ·have:=hR'.len
    rw[show (pendingOf τ').size=runs'.length from this]
    exact Zall (by omega) (by omega)
   ·rintro b τ3 ⟨rfl,runs3,hR3,e3⟩
    simp only[Bool.not_true,Bool.false_eq_true,if_false]
    exact wpS_pure ⟨rfl,runs3,hR3,e3⟩
 case go=>
  rintro x c τ _ hx ⟨lo,runs,rest,rfl,hR,e1,e2⟩
  have q1:=hR.size
  have q2:=hR.size0
  have q3:=hN2
  dsimp only
  by_cases c0:lo ≥ a₀.size
  ·rw[if_pos c0]
   have:rest=[]:=List.length_eq_zero_iff.mp (by omega)
   subst this
   exact wpS_pure ⟨lo,runs,rfl,hR⟩
  rw[if_neg c0]
  have oks:∀ x∈(arrOf τ).toList,ok x:=fun x hx=>h0 x (hR.perm.mem_iff.mp hx)
  refine wpS_bind (Zakf (b₀:=arrOf τ) (p₀:=pendingOf τ) (lo:=lo) hA oks ⟨Array.Perm.refl _,fun _ _=>rfl,hR.kind,hR.failed,rfl⟩ (by omega) (by omega) fun m τ1 hF m1 m2 u=>?_)
  dsimp only
  refine ZaaF (fun cm=>?_) (fun cm=>?_)
  ·refine wpS_bind (wpS_lift (wpAny_rule ⟨rfl,?_⟩))
   refine wpS_bind (Zakg hA oks hF (by omega) m1 (by omega) u fun τ2 hF2 u2=>?_)
   simp only[Bool.not_true,Bool.false_eq_true,if_false]
   rw[e1] at hF2 u2
   obtain⟨r,rest',hr,hs,hl,hR2⟩:=fb_ri hR hF2 u2 (by omega)
   rw[<- e1] at hr
   have h1n:1<=r.length:=by omega
   rw[hr] at h1n
   refine wpS_bind (wpS_get ?_)
   cases eb:(pendingOf τ2).back? with
   | none=>
    dsimp only
    exact wpS_bind (wpS_modify (wpS_pure ⟨_,runs++[r],rest',rfl,hR2.push hs hr h1n e1,by simp[hr,e1],by omega⟩))
   | some p=>
    obtain⟨s1,n1,w1⟩:=p
    dsimp only
    refine wpS_bind (wpS_mono (wpS_forRange (I:=fun _ c τ'=>c=((none:Option Unit),())/\∃ runs',RI O knd a₀.toList runs' (r++rest') τ'/\runs'.flatten.length=lo)
     (Q:=fun c τ'=>c=((none:Option Unit),())/\∃ runs',RI O knd a₀.toList runs' (r++rest') τ'/\runs'.flatten.length=lo) ?g2 (fun _ _ z=>z) ⟨rfl,runs,hR2,e1.symm⟩) ?f2)
    case f2=>
     rintro c τ' ⟨rfl,runs',hR',e⟩
     exact wpS_bind (wpS_modify (wpS_bind (wpS_modify (wpS_pure ⟨_,runs'++[r],rest',rfl,hR'.pow.push hs hr h1n e.symm,by simp[hr,e],by omega⟩))))
    case g2=>
     rintro y c τ' _ _ ⟨rfl,runs',hR',e⟩
     refine wpS_bind (wpS_get ?_)
     by_cases c1:(pendingOf τ').size > 1
     ·rw[if_pos c1]
      cases ep:(pendingOf τ')[(pendingOf τ').size - 2]? with
      | none=>exact wpS_pure ⟨rfl,runs',hR',e⟩
      | some p=>
       obtain⟨s3,n3,w3⟩:=p
       dsimp only
       refine ZaaF (fun _=>wpS_pure ⟨rfl,runs',hR',e⟩) (fun _=>?_)
       obtain⟨R1,a,b,R2,e3,e4⟩:=ZabW (l:=runs') (i:=(pendingOf τ').size - 2) (by rw[<- hR'.len]; omega)
       subst e3
       refine wpS_bind (ZabH hA h0 hR' e4 fun m τ3 pm hR3=>?_)
       simp only[Bool.not_true,Bool.false_eq_true,if_false]
       refine wpS_pure ⟨rfl,_,hR3,?_⟩
       rw[<- e]
       have:=pm.length_eq
       simp only[List.flatten_append,List.flatten_cons,List.length_append] at this ⊢
       omega
     ·rw[if_neg c1]
      exact wpS_pure ⟨rfl,runs',hR',e⟩
  ·rw[e1] at hF u
   obtain⟨r,rest',hr,hs,hl,hR2⟩:=fb_ri hR hF u (by omega)
   have h1n:1<=m:=m1
   refine wpS_bind (wpS_get ?_)
   cases eb:(pendingOf τ1).back? with
   | none=>
    dsimp only
    exact wpS_bind (wpS_modify (wpS_pure ⟨_,runs++[r],rest',rfl,hR2.push hs hr h1n e1,by simp[hr,e1],by omega⟩))
   | some p=>
    obtain⟨s1,n1,w1⟩:=p
    dsimp only
    refine wpS_bind (wpS_mono (wpS_forRange (I:=fun _ c τ'=>c=((none:Option Unit),())/\∃ runs',RI O knd a₀.toList runs' (r++rest') τ'/\runs'.flatten.length=lo)
     (Q:=fun c τ'=>c=((none:Option Unit),())/\∃ runs',RI O knd a₀.toList runs' (r++rest') τ'/\runs'.flatten.length=lo) ?g2 (fun _ _ z=>z) ⟨rfl,runs,hR2,e1.symm⟩) ?f2)
    case f2=>
     rintro c τ' ⟨rfl,runs',hR',e⟩
     exact wpS_bind (wpS_modify (wpS_bind (wpS_modify (wpS_pure ⟨_,runs'++[r],rest',rfl,hR'.pow.push hs hr h1n e.symm,by simp[hr,e],by omega⟩))))
    case g2=>
     rintro y c τ' _ _ ⟨rfl,runs',hR',e⟩
     refine wpS_bind (wpS_get ?_)
     by_cases c1:(pendingOf τ').size > 1
     ·rw[if_pos c1]
      cases ep:(pendingOf τ')[(pendingOf τ').size - 2]? with
      | none=>exact wpS_pure ⟨rfl,runs',hR',e⟩
      | some p=>
       obtain⟨s3,n3,w3⟩:=p
       dsimp only
       refine ZaaF (fun _=>wpS_pure ⟨rfl,runs',hR',e⟩) (fun _=>?_)
       obtain⟨R1,a,b,R2,e3,e4⟩:=ZabW (l:=runs') (i:=(pendingOf τ').size - 2) (by rw[<- hR'.len]; omega)
       subst e3
       refine wpS_bind (ZabH hA h0 hR' e4 fun m τ3 pm hR3=>?_)
       simp only[Bool.not_true,Bool.false_eq_true,if_false]
       refine wpS_pure ⟨rfl,_,hR3,?_⟩
       rw[<- e]
       have:=pm.length_eq
       simp only[List.flatten_append,List.flatten_cons,List.length_append] at this ⊢
       omega
     ·rw[if_neg c1]
      exact wpS_pure ⟨rfl,runs',hR',e⟩
end
end L2
namespace L2
open PySem PySem.Spec PyProof.Rows PySem.SeqAt
section
variable {prog:Program}{w:World}{A:Around}{E:Value->Shared->Prop}{s:Shared}
end
section
variable {X:Cx}
end
end L2
namespace L2
open PySem PyProof.Rows
section
variable {prog:Program}{w:World}{A:Around}{E:Value->Shared->Prop}{s:Shared}{O:KO}{knd:SortKind}{ok:Keyed->Prop}
def Ord2 (O:KO) (b:Bool) (us:List Value):Prop:=us.Pairwise fun u v=>if b=true then O.le (v,v) (u,u) else O.le (u,u) (v,v)
theorem Zal4 {vs:List Value}{out:List Keyed} (hp:out.Perm (vs.zip vs)) (hs:O.Srt out) (b:Bool):∃ us:List Value,(if b=true then (out.map (·.2)).reverse else out.map (·.2))=us/\us.Perm vs/\Ord2 O b us:=by
 have hm:∀ p∈out,p=(p.2,p.2):=fun p hp'=>by
  have:=(mem_zip_self (hp.mem_iff.mp hp')).1
  exact Prod.ext this rfl
 have p1:(out.map (·.2)).Perm vs:=by
  have:=hp.map (·.2)
  rwa [List.map_snd_zip (Nat.le_refl _)] at this
 have s1:(out.map (·.2)).Pairwise fun u v=>O.le (u,u) (v,v):=by
  rw[List.pairwise_map]
  refine hs.imp_of_mem fun {x y} hx hy q=>?_
  rw[hm x hx,hm y hy] at q
  exact q
 cases b with
 | false=>exact⟨_,rfl,p1,by simpa[Ord2] using s1⟩
 | true=>exact⟨_,rfl,(List.reverse_perm _).trans p1,by simp only[Ord2,if_true,List.pairwise_reverse]; exact s1⟩
theorem Zahc {a:Addr}{vs:List Value}{n:Nat}{h:Heap} (ho:h.get? a=some (seqObj "list" vs.toArray n)) {b:Addr}{o:Obj} (hb:h.get? b=some o) (hne:b≠a):(((h.update a (Obj.mapSeq fun _=>#[])).push (seqObj "tuple" vs.toArray 0)).push (seqObj "list" #[] 0)).get? b=some o :=
 Heap.get?_push_of_some _ (Heap.get?_push_of_some _ (by rw[Heap.get?_update_ne _ _ _ _ hne]; exact hb))
theorem ZafW {a : Addr} {vs : List Value} {n : Nat} {P : PySem.Fin → Shared → Prop} (ho : s.heap.get? a = some (seqObj "list" vs.toArray n)) (hz : vs.length ≤ sizeLine)
  (hkk:∀ h',(∀ b o,s.heap.get? b=some o->b≠a->h'.get? b=some o)->2<=vs.length->∀ Q:SortKind->Shared->Prop,Q knd { s with heap:=h' }->wpAny (model prog w) A (keyKind' vs.toArray) Q E { s with heap:=h' })
  (hA:∀ h',(∀ b o,s.heap.get? b=some o->b≠a->h'.get? b=some o)->Asks prog w A { s with heap:=h' } O knd ok) (hok:∀ v∈vs,ok (v,v))
  (h:∀ us:List Value,us.Perm vs->Ord2 O false us->P (.done (.ret .none)) { s with heap:=sortedHeap s.heap a vs us.toArray }):wpAny (model prog w) A (Builtin.«list.sort» ⟨[.ref a],[]⟩) P E s:=by
 have ha:a<s.heap.objs.size:=Heap.lt_size ho
 have keep:=fun (b:Addr) (o:Obj) (hb:s.heap.get? b=some o) (hne:b≠a)=>Zahc ho hb hne
 obtain⟨e1,ho1⟩:∃ c,(s.heap.update a (Obj.mapSeq fun _=>#[])).get? a=some (seqObj "list" #[] c):=⟨_,get?_update_seq ho (fun _=>#[])⟩
 have ho6:=Heap.get?_push_of_some (seqObj "list" #[] 0) (Heap.get?_push_of_some (seqObj "tuple" vs.toArray 0) ho1)
 have hsv:vs.toArray.size=vs.length:=List.size_toArray
 have hz1:vs.toArray.size<=sizeLine:=by rw[hsv]; exact hz
 have fin:∀ (τ:SortSt),(arrOf τ).toList.Perm (vs.zip vs)->O.Srt (arrOf τ).toList->P (.done (.ret .none)) { s with heap:=sortedHeap s.heap a vs ((arrOf τ).map (·.2)) }:=by
  intro τ hp hs
  obtain⟨us,e,p1,p2⟩:=Zal4 hp hs false
  have e2:(arrOf τ).map (·.2)=us.toArray:=by rw[<- e]; apply Array.toList_inj.mp; simp
  rw[e2]
  exact h us p1 p2
 have osz:∀ τ:SortSt,(arrOf τ).toList.Perm (vs.zip vs)->((arrOf τ).map (·.2)).size<=sizeLine+1:=by
  intro τ hp
  rw[Array.size_map,<- Array.length_toList,hp.length_eq,List.length_zip]
  omega
 rw[list_sort_plain]
 refine wpAny_bind (listItems_at ho rfl (wpAny_bind (listUpdate_at ho rfl ?_ hz1 (Nat.zero_le _))))
 refine wpAny_bind (seqEpoch_at ho1 rfl (wpAny_bind (wpAny_newTuple ?_ hz)))
 refine wpAny_bind (wpAny_newList ?_ (Nat.zero_le _))
 refine wpAny_holding ?_
 show wpAny (model prog w) A _ P E ({ s with heap:=((s.heap.update a (Obj.mapSeq fun _=>#[])).push (seqObj "tuple" vs.toArray 0)).push (seqObj "list" #[] 0) }:Shared)
 dsimp only
 by_cases h2:vs.toArray.size<2
 ·rw[if_pos h2,if_pos h2]
  refine wpAny_bind (wpAny_pure ?_)
  rw[StateT.run_pure]
  have hp0:(vs.toArray.zip vs.toArray).toList.Perm (vs.zip vs):=by simp
  refine wpAny_bind (wpAny_pure (wpAny_bind (seqEpoch_at ho6 rfl (wpAny_bind (listUpdate_at ho6 rfl ?_ (Nat.zero_le _) (osz (SortSt.mk' general' (vs.toArray.zip vs.toArray) #[] 7 none) hp0))))))
  simp only[bne_self_eq_false,Bool.false_eq_true,if_false]
  refine wpAny_pure (fin (SortSt.mk' general' (vs.toArray.zip vs.toArray) #[] 7 none) hp0 ?_)
  show O.Srt (vs.toArray.zip vs.toArray).toList
  rw[show (vs.toArray.zip vs.toArray).toList=vs.zip vs by simp]
  match vs,h2 with
  | [],_=>exact List.Pairwise.nil
  | [v],_=>exact List.pairwise_singleton _ _
 ·rw[if_neg h2,if_neg h2]
  refine wpAny_bind (hkk _ keep (by omega) _ ?_)
  refine wpAny_bind (wpAny_mono (Zae5 (a₀:=vs.toArray.zip vs.toArray) (st:=SortSt.mk' knd (vs.toArray.zip vs.toArray) #[] 7 none) (Q:=fun _ τ=>(arrOf τ).toList.Perm (vs.zip vs)/\failedOf τ=none/\O.Srt (arrOf τ).toList)
   (hA _ keep) (fun x hx=>?_) rfl rfl rfl rfl fun τ a1 a2 a3=>⟨by simpa using a1,a2,a3⟩) ?_ fun _ _ z=>z)
  ·have hx:x∈vs.zip vs:=by simpa using hx
   have q:=mem_zip_self hx
   rw[show x=(x.1,x.1) from Prod.ext rfl q.1.symm]
   exact hok _ q.2
  ·rintro⟨⟨⟩,τ⟩ s' ⟨rfl,hp,hf,hs⟩
   refine wpAny_bind (seqEpoch_at ho6 rfl (wpAny_bind (listUpdate_at ho6 rfl ?_ (Nat.zero_le _) (osz τ hp))))
   dsimp only
   rw[hf]
   simp only[bne_self_eq_false,Bool.false_eq_true,if_false]
   exact wpAny_pure (fin τ hp hs)
theorem ZafV {l:Addr}{vs:List Value} (h:Heap):∀ b o,h.get? b=some o->(((h.push (seqObj "list" #[] 0)).update h.objs.size (Obj.mapSeq (·++vs.toArray))).push (seqObj "list" vs.toArray 0)).get? b=some o:=by
 intro b o q
 have hlt:b<h.objs.size:=Heap.lt_size q
 refine Heap.get?_push_of_some _ ?_
 rw[Heap.get?_update_ne _ _ _ _ (Nat.ne_of_lt hlt)]
 exact Heap.get?_push_of_some _ q
structure Sortable (prog:Program) (w:World) (s:Shared) (O:KO) (vs:List Value):Prop where
 ex:∃ (knd:SortKind) (ok:Keyed->Prop),(∀ v∈vs,ok (v,v))/\(∀ A h',(∀ b o,s.heap.get? b=some o->h'.get? b=some o)->Asks prog w A { s with heap:=h' } O knd ok) /\
  ∀ (A:Around) (E:Value->Shared->Prop) h',(∀ b o,s.heap.get? b=some o->h'.get? b=some o)->2<=vs.length->∀ Q:SortKind->Shared->Prop,Q knd { s with heap:=h' }->wpAny (model prog w) A (keyKind' vs.toArray) Q E { s with heap:=h' }
theorem Zae9 {l : Addr} {vs : List Value} {Q : Value → Shared → Prop} (hl : s.heap.IsList l vs.toArray) (hz : vs.length ≤ sizeLine) (hS : Sortable prog w s O vs)
  (h:∀ us:List Value,us.Perm vs->Ord2 O false us->Q (.ref (s.heap.objs.size+1)) { s with heap:=sortedAll s.heap vs us.toArray }):wpAny (model prog w) A (call (.builtin "sorted") [.ref l]) Q E s:=by
 obtain⟨knd,ok,h1,h2,h3⟩:=hS.ex
 have zz:((s.heap.push (seqObj "list" #[] 0)).update s.heap.objs.size (Obj.mapSeq (·++vs.toArray))).objs.size=s.heap.objs.size+1:=by rw[Heap.size_update,size_push']
 have at1:(((s.heap.push (seqObj "list" #[] 0)).update s.heap.objs.size (Obj.mapSeq (·++vs.toArray))).push (seqObj "list" vs.toArray 0)).get? (s.heap.objs.size+1)=some (seqObj "list" vs.toArray 0):=by
  have:=Heap.get?_push_size ((s.heap.push (seqObj "list" #[] 0)).update s.heap.objs.size (Obj.mapSeq (·++vs.toArray))) (o:=seqObj "list" vs.toArray 0) rfl
  rwa [zz] at this
 refine Calls.call_function_entry kind_sorted plain_sorted entry_sorted (args_sorted1 _) ?_
 unfold Builtin.«sorted»
 refine wpAny_bind (m:=checkCount "sorted" 1 1 _) (wpAny_pure (wpAny_bind (collect_list hl (wpAny_bind (wpAny_newList ?_ hz)) hz)))
 show wpAny _ _ _ _ _ { s with heap:=((s.heap.push (seqObj "list" #[] 0)).update s.heap.objs.size (Obj.mapSeq (·++vs.toArray))).push (seqObj "list" vs.toArray 0) }
 rw[zz]
 have up:∀ h':Heap,(∀ b o,(((s.heap.push (seqObj "list" #[] 0)).update s.heap.objs.size (Obj.mapSeq (·++vs.toArray))).push (seqObj "list" vs.toArray 0)).get? b=some o->b≠s.heap.objs.size+1->h'.get? b=some o)->∀ b o,s.heap.get? b=some o->h'.get? b=some o:=fun h' k b o q=>
  k b o (ZafV (l:=l) s.heap b o q) (Nat.ne_of_lt (Nat.lt_succ_of_lt (Heap.lt_size q)))
 exact wpAny_bind (wpAny_holding (wpAny_call_entry slot_list_sort ⟨_,at1,rfl⟩ entry_list_sort (ZafW at1 hz (fun h' k hl2 Q' q=>h3 _ _ h' (up h' k) hl2 Q' q) (fun h' k=>h2 _ h' (up h' k)) h1 fun us p1 p2=>⟨_,rfl,wpAny_pure ⟨_,rfl,h us p1 p2⟩⟩) (args_list_sort _)))
def KOi:KO where
 α:=Int
 blt a b:=decide (a<b)
 irrefl a:=by simp
 trans a b c h1 h2:=by simp only[decide_eq_true_eq] at *; omega
 negTrans a b c h:=by simp only[decide_eq_true_eq] at *; omega
 total a b h1 h2:=by simp only[decide_eq_false_iff_not] at *; omega
 ky p:=numOf p.1
theorem Zadh {vs:List Value}{ns:List Int} (hI:IntsAre vs ns):Sortable prog w s KOi vs:=by
 refine⟨oneType',(fun p=>∃ n t,p.1=.int n t),fun v hv=>?_,fun A h' _ x y hx hy E Q q=>?_,fun A E h' _ h2 Q q=>?_⟩
 ·obtain⟨n,t,e⟩:=hI.all v hv
  exact⟨n,t,e⟩
 ·obtain⟨n,t,e1⟩:=hx
  obtain⟨m,u,e2⟩:=hy
  rw[keyLt'_oneType,e1,e2]
  refine oneLt_int ?_
  have q:Q (decide (numOf x.1<numOf y.1)) { s with heap:=h' }:=q
  rw[e1,e2] at q
  exact q
 ·match vs,h2,hI with
  | v1::v2::r,_,hI=>
   rw[keyKind_ints hI]
   exact wpAny_pure q
theorem Zajv {us:List Value}{ms:List Int}{b:Bool} (hI:IntsAre us ms) (h:Ord2 KOi b us):if b=true then ms.Pairwise (· ≥ ·) else ms.Pairwise (·<=·):=by
 have e:=hI.nums
 subst e
 cases b with
 | false=>
  simp only[Bool.false_eq_true,if_false,Ord2] at h ⊢
  rw[List.pairwise_map]
  exact h.imp fun {x y} q=>by
   have q:decide (numOf y<numOf x)=false:=q
   simpa using q
 | true=>
  simp only[if_true,Ord2] at h ⊢
  rw[List.pairwise_map]
  exact h.imp fun {x y} q=>by
   have q:decide (numOf x<numOf y)=false:=q
   simpa using q
theorem ZahT {vs us:List Value}{ns:List Int} (hI:IntsAre vs ns) (hp:us.Perm vs):∃ ms,IntsAre us ms/\ms.Perm ns:=by
 refine⟨us.map numOf,intsAre_map us fun v hv=>hI.all v (hp.mem_iff.mp hv),?_⟩
 rw[<- hI.nums]
 exact hp.map _
def lxB:List Int->List Int->Bool
 | _,[]=>false
 | [],_::_=>true
 | a::as,b::bs=>if a=b then lxB as bs else decide (a<b)
theorem Zadr:∀ a,lxB a a=false
 | []=>rfl
 | a::as=>by rw[lxB,if_pos rfl]; exact Zadr as
theorem ZacW:∀ a b c,lxB a b=true->lxB b c=true->lxB a c=true
 | _,[],_,h,_=>by rw[lxB] at h; cases h
 | _,_::_,[],_,h=>by rw[lxB] at h; cases h
 | [],_::_,_::_,_,_=>rfl
 | a::as,b::bs,c::cs,h1,h2=>by
  rw[lxB] at h1 h2 ⊢
  by_cases e1:a=b
  ·subst e1
   rw[if_pos rfl] at h1
   by_cases e2:a=c
   ·subst e2
    rw[if_pos rfl] at h2 ⊢
    exact ZacW as bs cs h1 h2
   ·rw[if_neg e2] at h2 ⊢
    exact h2
  ·rw[if_neg e1] at h1
   have h1:=of_decide_eq_true h1
   by_cases e2:b=c
   ·subst e2
    rw[if_neg e1]; exact decide_eq_true h1
   ·rw[if_neg e2] at h2
    have h2:=of_decide_eq_true h2
    rw[if_neg (by omega)]; exact decide_eq_true (by omega)
theorem ZabZ:∀ a b,lxB a b=false->lxB b a=false->a=b
 | [],[],_,_=>rfl
 | _::_,[],_,h=>by rw[lxB] at h; cases h
 | [],_::_,h,_=>by rw[lxB] at h; cases h
 | a::as,b::bs,h1,h2=>by
  rw[lxB] at h1 h2
  by_cases e:a=b
  ·subst e
   rw[if_pos rfl] at h1 h2
   rw[ZabZ as bs h1 h2]
  ·rw[if_neg e] at h1
   rw[if_neg (fun z=>e z.symm)] at h2
   have h1:=of_decide_eq_false h1
   have h2:=of_decide_eq_false h2
   omega
theorem Zalc (a b c:List Int) (h:lxB a c=true):lxB a b=true∨lxB b c=true:=by
 cases e1:lxB a b with
 | true=>exact .inl rfl
 | false=>
  right
  cases e2:lxB b a with
  | true=>exact ZacW b a c e2 h
  | false=>rw[<- ZabZ a b e1 e2]; exact h
def KOt (ks:Addr->List Int):KO where
 α:=List Int
 blt:=lxB
 irrefl:=Zadr
 trans:=ZacW
 negTrans:=Zalc
 total:=ZabZ
 ky p:=match p.1 with
  | .ref a=>ks a
  | _=>[]
theorem Zaiz {b : Bool} {Q : Bool → Shared → Prop} {τ : Shared} {fin : Bool} : ∀ {xs ys : List Int} {us vs : List Value} {i : Nat}, IntsAre us xs → IntsAre vs ys → (Q (lxB xs ys) τ) → (fin = decide (xs.length < ys.length)) →
  PySem.W.KatLex prog w A b fin Q (us.zip vs) i τ
 | [],[],_,_,i,.nil,.nil,q,e=>by
  rw[e]; exact PySem.W.kat_nil q
 | [],y::ys,_,_,i,.nil,.cons _ _ _,q,e=>by
  rw[e]; exact PySem.W.kat_nil (by simpa[lxB] using q)
 | x::xs,[],_,_,i,.cons _ _ _,.nil,q,e=>by
  rw[e]; exact PySem.W.kat_nil (by simpa[lxB] using q)
 | x::xs,y::ys,_,_,i,.cons _ t h1,.cons _ u h2,q,e=>by
  rw[List.zip_cons_cons]
  refine PySem.W.kat_cons (wpAny_eqBool_int ?_)
  rw[lxB] at q
  by_cases c:x=y
  ·subst c
   rw[if_pos rfl] at q
   rw[show (x == x)=true by simp]
   exact PySem.W.kat_yes (Zaiz h1 h2 q (by rw[e]; simp))
  ·rw[if_neg c] at q
   rw[show (x == y)=false by simpa using c]
   refine PySem.W.kat_no ?_
   cases b && i == 0 with
   | true=>exact oneLt_int q
   | false=>exact PySem.W.kat_one _ _ (PySem.P.lt_int q)
def TupI (h:Heap) (ks:Addr->List Int) (v:Value):Prop:=∃ a o its n,v=.ref a/\h.get? a=some o/\o.cls=.type "tuple"/\o.data=.seq its n/\IntsAre its.toList (ks a)/\ks a≠[]
theorem Zadu {h:Heap}{ks:Addr->List Int}:∀ {vs:List Value},(∀ v∈vs,TupI h ks v)->∃ fs:List Value,fs.length=vs.length/\PySem.W.KatTups h vs fs/\∀ f∈fs,∃ n t,f=.int n t
 | [],_=>⟨[],rfl,PySem.W.KatTups.nil,fun f hf=>nomatch hf⟩
 | v::vs,hv=>by
  obtain⟨fs,e,k,q⟩:=Zadu (vs:=vs) fun u hu=>hv u (List.mem_cons_of_mem _ hu)
  obtain⟨a,o,its,n,rfl,ho,hc,hd,hI,hne⟩:=hv v (List.mem_cons_self ..)
  obtain⟨l⟩:=its
  have hI:IntsAre l (ks a):=hI
  revert hI hd
  generalize ks a=z at hne ⊢
  intro hd hI
  cases hI with
  | nil=>exact absurd rfl hne
  | cons m t hI => exact ⟨.int m t :: fs, by simp [e], PySem.W.KatTups.cons ho hc hd rfl k, fun f hf => by
    rcases List.mem_cons.mp hf with z | z
    ·exact⟨m,t,z⟩
    ·exact q f z⟩
theorem ZabS {vs:List Value}{ks:Addr->List Int} (hT:∀ v∈vs,TupI s.heap ks v):Sortable prog w s (KOt ks) vs:=by
 refine⟨tuples' (Value.type "int" != Value.type "tuple"),(fun p=>TupI s.heap ks p.1),hT,fun A h' kp x y hx hy E Q q=>?_,fun A E h' kp h2 Q q=>?_⟩
 ·obtain⟨a,o,its,n,e1,ho,hc,hd,hI,hne⟩:=hx
  obtain⟨b,o',its',n',e2,ho',hc',hd',hI',hne'⟩:=hy
  have q:Q (lxB ((KOt ks).ky x) ((KOt ks).ky y)) { s with heap:=h' }:=q
  have k1:(KOt ks).ky x=ks a:=by show (match x.1 with | .ref a=>ks a | _=>[])=_; rw[e1]
  have k2:(KOt ks).ky y=ks b:=by show (match y.1 with | .ref a=>ks a | _=>[])=_; rw[e2]
  rw[k1,k2] at q
  rw[e1,e2]
  refine PySem.W.kat_lt (kp _ _ ho) hd (kp _ _ ho') hd' (Zaiz hI hI' q ?_)
  rw[<- hI.nums,<- hI'.nums,List.length_map,List.length_map,Array.length_toList,Array.length_toList]
 ·obtain ⟨fs, e, k, hi⟩ := Zadu (h := h') (ks := ks) (vs := vs) fun v hv => by
   obtain⟨a,o,its,n,e1,ho,r⟩:=hT v hv
   exact⟨a,o,its,n,e1,kp _ _ ho,r⟩
  refine PySem.W.kat_kind (T:=Value.type "int") k (by omega) (fun v hv=>?_) rfl q
  obtain⟨n,t,rfl⟩:=hi v hv
  exact PySem.W.Looks.now
end
end L2
namespace L2
open PySem PySem.Spec PyProof.Rows PySem.SeqAt
section
variable {X:Cx}
theorem Zaek:∀ {ps:List Addr}{us:List Value},Vals (ps.map V.ref) us->us=ps.map Value.ref
 | [],_,.nil=>rfl
 | p::ps,_,.cons r t=>by
  have e:_=Value.ref p:=r
  rw[Zaek t,e]; rfl
theorem ZacR:∀ (ps:List Addr),Vals (ps.map V.ref) (ps.map Value.ref)
 | []=>.nil
 | p::ps=>.cons rfl (ZacR ps)
def adr:Value->Addr
 | .ref a=>a
 | _=>0
theorem Zaez {ps:List Addr}{us:List Value} (h:us.Perm (ps.map Value.ref)):∃ qs:List Addr,us=qs.map Value.ref/\qs.Perm ps:=by
 refine⟨us.map adr,?_,?_⟩
 ·rw[List.map_map]
  refine (List.map_id us).symm.trans (List.map_congr_left fun v hv=>?_)
  obtain⟨p,_,e⟩:=List.mem_map.mp (h.mem_iff.mp hv)
  rw[<- e]; rfl
 ·have:=h.map adr
  rwa [List.map_map,show (adr ∘ Value.ref)=id from rfl,List.map_id] at this
theorem Zaft:CallR X (.builtin "sorted") (fun xs H Q=>∃ (a:Addr) (ps:List Addr) (ks:Addr->List Int),xs=[.ref a]/\SqL X.K H a (ps.map V.ref)/\(∀ p∈ps,ks p≠[]/\H p=some (.tup ((ks p).map V.int)))/\∀ (l:Addr) (qs:List Addr),H l=none->qs.Perm ps->qs.Pairwise (fun p q=>lxB (ks q) (ks p)=false)->Q (.ref l) (upd H l (.lst (qs.map V.ref)))):=by
 intro pins s σ H xs us Q I r h
 obtain⟨a,ps,ks,rfl,hq,ht,q⟩:=h
 obtain⟨u,rfl,r1⟩:=vals1 r
 cases r1
 obtain⟨its,rv,p,hz⟩:=I.list hq
 have ei:=Zaek rv
 rw[List.length_map] at hz
 have hl:its.length=ps.length:=by rw[ei,List.length_map]
 have hT:∀ v∈its,TupI s.heap ks v:=by
  intro v hv
  rw[ei] at hv
  obtain⟨b,hb,e⟩:=List.mem_map.mp hv
  obtain⟨h1,h2⟩:=ht b hb
  obtain⟨_,ii,rr,o,g1,g2,_,n,g3⟩:=(show ObjOk X.prog X.w H s.heap b (.tup ((ks b).map V.int)) from I.hok b _ h2)
  exact⟨b,o,ii.toArray,n,e.symm,g1,g2,g3,by simpa using Zadv rr,h1⟩
 refine Zae9 p.isList (by rw[hl]; exact hz) (ZabS hT) fun us p1 p2=>?_
 have p1':=p1
 rw[ei] at p1'
 obtain⟨qs,e1,pm⟩:=Zaez p1'
 obtain⟨e,he⟩:=sortedAll_at s.heap its us.toArray
 have hle:s.heap.objs.size<=s.heap.objs.size+1:=Nat.le_succ _
 refine⟨.ref (s.heap.objs.size+1),_,I.laid (a:=s.heap.objs.size+1) (o:=.lst (qs.map V.ref)) (t':=s.toks) (fun b o q=>sortedAll_old q) hle ⟨?_,us,e,?_,he⟩,rfl,q _ qs (I.hok.fresh hle) pm ?_⟩
 ·rw[List.length_map,pm.length_eq]; exact hz
 ·rw[e1]; exact ZacR qs
 ·rw[e1] at p2
  simp only[Ord2,Bool.false_eq_true,if_false] at p2
  exact List.pairwise_map.mp p2
end
end L2
namespace L2
open PySem PySem.Spec PyProof.Rows PySem.SeqAt
section
variable {prog:Program}{w:World}{A:Around}{E:Value->Shared->Prop}{s:Shared}{O:KO}
theorem Zaim {x : Value} {Pv : List Value → Shared → Prop} {Q : Value → Shared → Prop} (hcol : ∀ (R : List Value → Shared → Prop) (E' : Value → Shared → Prop), (∀ vs s1, Pv vs s1 → R vs s1) → wpAny (model prog w) A.in1 (collect x) R E' s)
  (hz:∀ vs s1,Pv vs s1->vs.length<=sizeLine) (hS:∀ vs s1,Pv vs s1->∃ O,Sortable prog w s1 O vs /\
   ∀ us:List Value,us.Perm vs->Ord2 O false us->Q (.ref s1.heap.objs.size) { s1 with heap:=sortedHeap (s1.heap.push (seqObj "list" vs.toArray 0)) s1.heap.objs.size vs us.toArray }):wpAny (model prog w) A (call (.builtin "sorted") [x]) Q E s:=by
 refine Calls.call_function_entry kind_sorted plain_sorted entry_sorted (args_sorted1 _) ?_
 unfold Builtin.«sorted»
 refine wpAny_bind (m:=checkCount "sorted" 1 1 _) (wpAny_pure (wpAny_bind (hcol _ _ fun vs s1 hp=>wpAny_bind (wpAny_newList ?_ (hz vs s1 hp)))))
 obtain⟨O,hS1,h⟩:=hS vs s1 hp
 obtain⟨knd,ok,h1,h2,h3⟩:=hS1.ex
 show wpAny _ _ _ _ _ { s1 with heap:=s1.heap.push (seqObj "list" vs.toArray 0) }
 have at1:(s1.heap.push (seqObj "list" vs.toArray 0)).get? s1.heap.objs.size=some (seqObj "list" vs.toArray 0):=Heap.get?_push_size _ rfl
 have up:∀ h':Heap,(∀ b o,(s1.heap.push (seqObj "list" vs.toArray 0)).get? b=some o->b≠s1.heap.objs.size->h'.get? b=some o)->∀ b o,s1.heap.get? b=some o->h'.get? b=some o:=fun h' k b o q=>
  k b o (Heap.get?_push_of_some _ q) (Nat.ne_of_lt (Heap.lt_size q))
 exact wpAny_bind (wpAny_holding (wpAny_call_entry slot_list_sort ⟨_,at1,rfl⟩ entry_list_sort (ZafW (s:={ s1 with heap:=s1.heap.push (seqObj "list" vs.toArray 0) }) at1 (hz vs s1 hp) (fun h' k hl2 Q' q=>h3 _ _ h' (up h' k) hl2 Q' q) (fun h' k=>h2 _ h' (up h' k)) h1 fun us p1 p2=>⟨_,rfl,wpAny_pure ⟨_,rfl,h us p1 p2⟩⟩) (args_list_sort _)))
end
section
variable {X:Cx}{pins:List (Addr × Obj)}{σ:St}{H:Hp}{s:Shared}{h':Heap}
def ZadI (H:Hp) (as:List Addr) (f:Addr->HO):Hp:=fun b=>if b∈as then some (f b) else H b
theorem ZacF {as:List Addr}{f:Addr->HO}{b:Addr} (h:b∈as):ZadI H as f b=some (f b):=if_pos h
theorem Zaa2 {as:List Addr}{f:Addr->HO}{b:Addr} (h:b ∉ as):ZadI H as f b=H b:=if_neg h
theorem Inv.laidAll {as : List Addr} {f : Addr → HO} {t' : Nat} (I : Inv X pins σ H s) (k : ∀ b u, s.heap.get? b = some u → h'.get? b = some u) (hp : ∀ a ∈ as, s.heap.objs.size ≤ a)
  (new:∀ a∈as,ObjOk X.prog X.w (ZadI H as f) h' a (f a)):Inv X pins σ (ZadI H as f) { s with heap:=h',toks:=t' }:=by
 have nn:∀ b o,H b=some o->b ∉ as:=fun b o q z=>absurd (Nat.lt_of_lt_of_le (I.hok.lt q) (hp b z)) (Nat.lt_irrefl _)
 have kk:∀ b o,H b=some o->ZadI H as f b=some o:=fun b o q=>by rw[Zaa2 (nn b o q)]; exact q
 refine I.un ⟨fun b u q _ _ _=>k b u q,fun b u q _ _ _=>⟨u.slots,k b u q⟩,fun b u q n _=>?_,fun b u q _=>⟨u,k b u q⟩,fun b xs q=>kk b _ q,fun b u xs q=>kk b _ q,fun b ps q=>⟨#[],by rw[kk b _ q]; simp⟩⟩ fun b u q=>?_
 ·rw[Zaa2 fun z=>absurd (Nat.lt_of_lt_of_le (Heap.lt_size q) (hp b z)) (Nat.lt_irrefl _)]; exact n
 ·by_cases hb:b∈as
  ·rw[ZacF hb] at q; cases q; exact new b hb
  ·rw[Zaa2 hb] at q
   exact (I.hok b u q).stay (fun c v _ r=>k c v r) (fun c r=>kk c _ r) fun c xs r=>kk c _ r
end
theorem Zac7 {β:Type}{q:β}:∀ {as:List Addr}{ps:List β}{j:Nat}{a:Addr},as.Pairwise (·<·)->as[j]?=some a->ps[j]?=some q->(as.zip ps).lookup a=some q
 | [],_,_,_,_,h,_=>by simp at h
 | _::_,[],_,_,_,_,h=>by simp at h
 | x::as,y::ps,0,a,hp,h1,h2=>by
  simp at h1 h2
  subst h1 h2
  simp
 | x::as,y::ps,j+1,a,hp,h1,h2=>by
  have hp:=List.pairwise_cons.mp hp
  have h1:as[j]?=some a:=by simpa using h1
  have h2:ps[j]?=some q:=by simpa using h2
  have hne:(a == x)=false:=by
   have:=hp.1 a (List.mem_of_getElem? h1)
   simpa using (Nat.ne_of_gt this)
  rw[List.zip_cons_cons,List.lookup_cons,hne]
  exact Zac7 hp.2 h1 h2
def Zakn (tk tv:TE):TE:=fun σ H Q=>∀ p,H p=none->tk σ (upd H p (.dK [])) fun x H1=>tv σ H1 fun y H2=>H2 p=some (.dK [])/\∃ kvs:List (Key × V),[(x,y)]=kvs.map (fun kv=>(kV kv.1,kv.2))/\kvs.length<=15/\Q (.ref p) (upd H2 p (.dK (Zace [] kvs)))
theorem Zajs {X:Cx}{pos:Pos}{k v:Expr}{tk tv:TE} (hk:PE X k tk) (hv:PE X v tv):PE X (.Dict [some k] [v] pos) (Zakn tk tv):=by
 intro pins s σ H Q I q
 exact ZakU (Zajm hk hv ZakO) rfl rfl (by intro z; cases z) (by show 1<=15; decide) pins s σ H Q I q
abbrev dI (ps:List (Int × Int)):HO:=.dK (ps.map fun q=>(Sum.inl q.1,V.int q.2))
section
variable {X:Cx}
theorem ZagS (hc : X.calm = true) : CallR X (.builtin "sorted") (fun xs H Q => ∃ (v a : Addr) (ps : List (Int × Int)), xs = [.ref v] ∧ H v = some (VwI v a) ∧ Rd H a (dI ps) ∧
  ∀ l qs (ms:List (Int × Int)) H',H l=none->(∀ q∈qs,H q=none)->ms.Perm ps->ms.Pairwise (fun p q=>lxB [q.1,q.2] [p.1,p.2]=false)->H' l=some (.lst (qs.map V.ref))->TTs H' qs (ms.map fun q=>[q.1,q.2])->Same H H'->Q (.ref l) H'):=by
 intro pins s σ H xs us Q I r h
 obtain⟨v,a,ps,rfl,hv,hd,q⟩:=h
 obtain⟨u,rfl,r1⟩:=vals1 r
 cases r1
 obtain⟨hz,hsm,vs,rel,dd⟩:=dk_rd I.hok hd
 obtain⟨ep,da⟩:=dd.dictAt
 have hl:vs.length=ps.length:=by rw[<- rel.length,List.length_map]
 rw[List.length_map] at hz
 refine Zaim (Pv:=fun us s1=>∃ h' tk as,us=as.map Value.ref/\s1={ s with heap:=h',toks:=tk }/\(∀ b o,s.heap.get? b=some o->h'.get? b=some o)/\as.length=vs.length/\PySem.W.KdxG (ZaaD X.prog X.w) vs s.heap.objs.size h' as)
  (fun R E' hR=>PySem.W.kdx_collect (A:=X.A.in1) (I.ok.hd hc) (Zakj I hv) da (by rw[hl]; exact hz) fun h' tk as hk hn hG=>hR _ _ ⟨h',tk,as,rfl,rfl,hk,hn,hG⟩) ?_ ?_
 ·rintro us s1 ⟨h',tk,as,rfl,rfl,hk,hn,hG⟩
  rw[List.length_map,hn,hl]; exact hz
 ·rintro us s1 ⟨h',tk,as,rfl,rfl,hk,hn,hG⟩
  have pr:∀ (j:Nat) (b:Addr),as[j]?=some b->∃ m c t t',ps[j]?=some (m,c)/\h'.get? b=some { cls:=.type "tuple",data:=.seq #[.int m t,.int c t'] }:=fun j b hj=>by
   obtain⟨key,k,x,e1,e2,e3⟩:=hG.pairs j b hj
   have hj':j<ps.length:=by rw[<- hl,<- hn]; exact (List.getElem?_eq_some_iff.mp hj).1
   obtain⟨⟨m,c⟩,hm⟩:∃ q,ps[j]?=some q:=⟨ps[j],List.getElem?_eq_getElem hj'⟩
   obtain⟨u,hu,ru⟩:=rel.get (i:=j) (k:=Sum.inl m) (v:=V.int c) (by rw[List.getElem?_map,hm]; rfl)
   rw[e1] at hu
   cases hu
   obtain⟨t,rfl⟩:=is_kV e2
   obtain⟨t',rfl⟩:=ru
   exact⟨m,c,t,t',hm,e3⟩
  let pq:Addr->Int × Int:=fun b=>((as.zip ps).lookup b).getD (0,0)
  have pqj:∀ (j:Nat) (b:Addr) q,as[j]?=some b->ps[j]?=some q->pq b=q:=fun j b q h1 h2=>by
   show ((as.zip ps).lookup b).getD (0,0)=q
   rw[Zac7 hG.rise h1 h2]; rfl
  let ks:Addr->List Int:=fun b=>[(pq b).1,(pq b).2]
  have at_:∀ b∈as,∃ t t',h'.get? b=some { cls:=.type "tuple",data:=.seq #[.int (pq b).1 t,.int (pq b).2 t'] }:=fun b hb=>by
   obtain⟨j,hj⟩:=List.getElem?_of_mem hb
   obtain⟨m,c,t,t',e1,e2⟩:=pr j b hj
   exact⟨t,t',by rw[pqj j b _ hj e1]; exact e2⟩
  have hT:∀ v∈as.map Value.ref,TupI h' ks v:=fun v hv=>by
   obtain⟨b,hb,rfl⟩:=List.mem_map.mp hv
   obtain⟨t,t',e⟩:=at_ b hb
   exact⟨b,_,_,_,rfl,e,rfl,rfl,.cons _ _ (.cons _ _ .nil),by show [_,_]≠[]; exact fun z=>nomatch z⟩
  refine⟨KOt ks,ZabS (s:={ s with heap:=h',toks:=tk }) hT,fun us p1 p2=>?_⟩
  obtain⟨qs,rfl,pm⟩:=Zaez p1
  have I1:Inv X pins σ (ZadI H as fun b=>.tup ((ks b).map V.int)) { s with heap:=h',toks:=tk }:=by
   refine I.laidAll hk (fun b hb=>Nat.le_of_lt (hG.above b hb)) fun b hb=>?_
   obtain⟨t,t',e⟩:=at_ b hb
   refine⟨?_,[.int (pq b).1 t,.int (pq b).2 t'],.cons ⟨_,rfl⟩ (.cons ⟨_,rfl⟩ .nil),⟨_,e,rfl,rfl,0,rfl⟩⟩
   show 2<=sizeLine
   decide
  have nas:∀ b∈as,H b=none:=fun b hb=>I.hok.fresh (Nat.le_of_lt (hG.above b hb))
  obtain⟨e,he⟩:=sortedHeap_at (h:=h'.push (seqObj "list" (as.map Value.ref).toArray 0)) (a:=h'.objs.size) (vs:=as.map Value.ref) (out:=(qs.map Value.ref).toArray) (Heap.get?_push_size _ rfl)
  have keep:∀ b o,h'.get? b=some o->(sortedHeap (h'.push (seqObj "list" (as.map Value.ref).toArray 0)) h'.objs.size (as.map Value.ref) (qs.map Value.ref).toArray).get? b=some o:=fun b o q=>by
   rw[sortedHeap_old (Nat.ne_of_lt (Heap.lt_size q)) (by rw[Heap.size_push]; exact Nat.lt_succ_of_lt (Heap.lt_size q))]
   exact Heap.get?_push_of_some _ q
  have fl:ZadI H as (fun b=>.tup ((ks b).map V.int)) h'.objs.size=none:=I1.hok.fresh (Nat.le_refl _)
  have hna:h'.objs.size ∉ as:=fun z=>by rw[ZacF z] at fl; cases fl
  have I2:=I1.laid (a:=h'.objs.size) (o:=.lst (qs.map V.ref)) (t':=tk) keep (Nat.le_refl _) ⟨by rw[List.length_map,pm.length_eq,hn,hl]; exact hz,qs.map Value.ref,e,ZacR qs,he⟩
  refine⟨.ref h'.objs.size,_,I2,rfl,q _ qs (qs.map pq) _ ?_ (fun b hb=>nas b (pm.mem_iff.mp hb)) ?_ ?_ Zaab ?_ ?_⟩
  ·rw[Zaa2 hna] at fl; exact fl
  ·have e1 : as.map pq = ps := by
    refine List.ext_getElem? fun j=>?_
    rw[List.getElem?_map]
    cases ej:as[j]? with
    | none=>
     have:as.length<=j:=List.getElem?_eq_none_iff.mp ej
     exact (List.getElem?_eq_none_iff.mpr (by omega)).symm
    | some b=>
     obtain⟨m,c,t,t',e1,e2⟩:=pr j b ej
     rw[e1]
     show some (pq b)=_
     rw[pqj j b _ ej e1]
   rw[<- e1]
   exact pm.map pq
  ·simp only[Ord2,Bool.false_eq_true,if_false] at p2
   exact List.pairwise_map.mpr (List.pairwise_map.mp p2)
  ·refine⟨by simp,fun j b xs h1 h2=>?_⟩
   rw[List.getElem?_map,List.getElem?_map,h1] at h2
   cases h2
   have hb:b∈as:=pm.mem_iff.mp (List.mem_of_getElem? h1)
   rw[Zaaf (fun z=>hna (by rw[<- z]; exact hb)),ZacF hb]
  ·intro b o hb
   have nb:b ∉ as:=fun z=>by rw[nas b z] at hb; cases hb
   have nb2:b≠h'.objs.size:=Nat.ne_of_lt (I1.hok.lt (a:=b) (o:=o) (by rw[Zaa2 nb]; exact hb))
   rw[Zaaf nb2,Zaa2 nb]
   exact hb
theorem ZagR (hc : X.calm = true) : CallR X (.builtin "sorted") (fun xs H Q => ∃ (a : Addr) (ps : List (Int × Int)), xs = [.ref a] ∧ Rd H a (dI ps) ∧
  ∀ l (ms:List Int),H l=none->ms.Perm (ps.map (·.1))->ms.Pairwise (·<=·)->Q (.ref l) (upd H l (.lst (ms.map V.int)))):=by
 intro pins s σ H xs us Q I r h
 obtain⟨a,ps,rfl,hd,q⟩:=h
 obtain⟨u,rfl,r1⟩:=vals1 r
 cases r1
 obtain⟨hz,hsm,vs,rel,dd⟩:=dk_rd I.hok hd
 obtain⟨ep,da⟩:=dd.dictAt
 have hl:vs.length=ps.length:=by rw[<- rel.length,List.length_map]
 rw[List.length_map] at hz
 refine Zaim (Pv:=fun us s1=>∃ h' tk,s1={ s with heap:=h',toks:=tk }/\(∀ b o,s.heap.get? b=some o->h'.get? b=some o)/\IntsAre us (ps.map (·.1)))
  (fun R E' hR=>PySem.W.kdu_collect (A:=X.A.in1) (PySem.W.kdl_dict (kvs:=vs) (ep:=ep) hsm) (I.ok.hd hc) da (by rw[hl]; exact hz) fun h' tk acc hk hn=>hR _ _ ⟨h',tk,rfl,hk,?_⟩) ?_ ?_
 ·have hv : Vals ((ps.map (·.1)).map V.int) acc.toList := by
   have hsz:acc.toList.length=ps.length:=by rw[Array.length_toList,hn.1,hl]
   have go:∀ (ns:List Int) (us:List Value),us.length=ns.length->(∀ (j:Nat) v,us[j]?=some v->∃ n t,ns[j]?=some n/\v=.int n t)->Vals (ns.map V.int) us:=by
    intro ns
    induction ns with
    | nil=>intro us h _; rw[List.length_eq_zero_iff.mp h]; exact .nil
    | cons n ns ih=>
     intro us h hj
     match us,h with
     | u::us,h=>
      obtain⟨n',t,e1,e2⟩:=hj 0 u rfl
      simp at e1
      subst e1 e2
      exact .cons ⟨t,rfl⟩ (ih us (by simpa using h) fun j v e=>by
       obtain⟨n',t,e1,e2⟩:=hj (j+1) v (by simpa using e)
       exact⟨n',t,by simpa using e1,e2⟩)
   refine go _ _ (by rw[hsz,List.length_map]) fun j v e=>?_
   obtain⟨k,x,e1,e2⟩:=hn.2 j v (by rw[<- Array.getElem?_toList]; exact e)
   have hj':j<ps.length:=by rw[<- hsz]; exact (List.getElem?_eq_some_iff.mp e).1
   have hm:ps[j]?=some ps[j]:=List.getElem?_eq_getElem hj'
   obtain⟨u,hu,ru⟩:=rel.get (i:=j) (k:=Sum.inl (ps[j]).1) (v:=V.int (ps[j]).2) (by rw[List.getElem?_map,hm]; rfl)
   rw[e1] at hu
   cases hu
   obtain⟨t,rfl⟩:=is_kV e2
   exact⟨_,t,by rw[List.getElem?_map,hm]; rfl,rfl⟩
  exact Zadv hv
 ·rintro us s1 ⟨h',tk,rfl,hk,hI⟩
  rw[show us.length=ps.length by rw[<- List.length_map (f:=numOf),hI.nums,List.length_map]]; exact hz
 ·rintro us s1 ⟨h',tk,rfl,hk,hI⟩
  refine⟨KOi,Zadh hI,fun us' p1 p2=>?_⟩
  obtain⟨ms,hI',pm⟩:=ZahT hI p1
  have hus:us.length=ps.length:=by rw[<- List.length_map (f:=numOf),hI.nums,List.length_map]
  have I1:Inv X pins σ H { s with heap:=h',toks:=tk }:=I.kept hk
  obtain⟨e,he⟩:=sortedHeap_at (h:=h'.push (seqObj "list" us.toArray 0)) (a:=h'.objs.size) (vs:=us) (out:=us'.toArray) (Heap.get?_push_size _ rfl)
  have keep:∀ b o,h'.get? b=some o->(sortedHeap (h'.push (seqObj "list" us.toArray 0)) h'.objs.size us us'.toArray).get? b=some o:=fun b o q=>by
   rw[sortedHeap_old (Nat.ne_of_lt (Heap.lt_size q)) (by rw[Heap.size_push]; exact Nat.lt_succ_of_lt (Heap.lt_size q))]
   exact Heap.get?_push_of_some _ q
  refine⟨.ref h'.objs.size,_,I1.laid (a:=h'.objs.size) (o:=.lst (ms.map V.int)) (t':=tk) keep (Nat.le_refl _) ⟨?_,us',e,ZadH hI',he⟩,rfl,q _ ms (I1.hok.fresh (Nat.le_refl _)) pm (Zajv hI' p2)⟩
  rw[List.length_map,pm.length_eq,List.length_map]; exact hz
end
end L2
namespace L2
open PySem PySem.Spec PyProof.Rows
structure WE (X:Cx) (e:Expr) (t:TE):Prop where
 out:PE X e t
section
variable {X:Cx}{a b e k v:Expr}{ta tb te tk tv:TE}{pos:Pos}{es:List Expr}{t:TA}
theorem we (h:PE X e te):WE X e te:=⟨h⟩
theorem we_op {op:Operator}{r:R2} (ho:OpR X (binaryOp op) r) (ha:WE X a ta) (hb:WE X b tb):WE X (.BinOp a op b pos) (tOp r ta tb):=⟨pe_op ho ha.out hb.out⟩
theorem we_ix {r:R2} (hr:IxR X r) (ha:WE X a ta) (hb:WE X b tb) (hs:ZaiS b):WE X (.Subscript a b pos) (tOp r ta tb):=⟨pe_ix hr ha.out hb.out hs⟩
theorem ZadG (h1:WE X k tk) (h2:WE X v tv):WE X (.Dict [some k] [v] pos) (Zakn tk tv):=⟨Zajs h1.out h2.out⟩
theorem Zae8 {i:Int}{j}:WE X (.Constant (.int i) j pos) (tC (.int i)):=⟨Zaah⟩
theorem Zadb (h:WA X es t):WE X (.List es pos) (tLst t):=⟨Zabn h.out⟩
theorem Zaki {x1} (h:WA X es t):WE X (.Tuple es x1 pos) (tTup t):=⟨Zacm h.out⟩
theorem ZabJ (hn:Zad2 e=true) (ha:WE X e te) (hr:WA X es t):WA X (e::es) (tCons te t):=⟨Zaaa ha.out hr.out (Zadd hn)⟩
theorem Zae4 (he:WE X e te):WS X (.Return (some e) pos) (tRet te):=⟨Zaax he.out⟩
theorem Zafx {i : Nat} {x : Str} {pos' : Pos} (hN : X.N.Nodup) (hi : X.N[i]? = some x) (hx : Loc X.env.scope x) (he : WE X e te) (hs : swapsWith e (some (.Name x pos')) pos.line X.env = pure false := by rfl) (hf : X.fn x = true ∨ X.env.scope.names.lookup x = some .local := by first | exact .inl rfl | exact .inr rfl | assumption) :
  WS X (.Assign [.Name x pos'] e pos) (tAsg te (gName i)):=⟨Zaaq hN hi hx he.out hs hf⟩
theorem Zakd {st:Stmt}{ts:TS} (h:WS X st ts):WS X st (sFrz ts):=⟨ZakK h.out⟩
theorem ZalH {te:TE} (h:WE X e te):WE X e (tFrz te):=⟨ZakT h.out⟩
end
end L2
namespace Lv
open PySem L2
def oz (c:Int):Option V:=if c=0 then none else some (.int c)
theorem oz1 {c:Int} (h:c≠0):oz c=some (.int c):=if_neg h
def Rep (kvs:List (Key × V)) (f:Int->Int):Prop:=(∀ p∈kvs,∃ m c:Int,p=(Sum.inl m,V.int c))/\(kvs.map (·.1)).Nodup/\∀ m:Int,valV kvs (Sum.inl m)=oz (f m)
theorem Rep.nil:Rep [] (fun _=>0):=⟨(fun p h=>absurd h List.not_mem_nil),List.nodup_nil,(fun m=>rfl)⟩
theorem Rep.congr {kvs:List (Key × V)}{f g:Int->Int} (h:Rep kvs f) (e:∀ m,f m=g m):Rep kvs g:=by
 have:f=g:=funext e
 rw[<- this]; exact h
theorem ZajU {kvs:List (Key × V)}{k:Key}{v:V}:(putK kvs k v).map (·.1)=kvs.map (·.1)∨(k ∉ kvs.map (·.1)/\(putK kvs k v).map (·.1)=kvs.map (·.1)++[k]):=by
 unfold putK
 by_cases h:(kvs.any fun kv=>decide (kv.1=k))=true
 ·rw[if_pos h]
  left
  rw[List.map_map]
  refine List.map_congr_left fun p _=>?_
  show (if p.1=k then (p.1,v) else p).1=p.1
  split <;> rfl
 ·rw[if_neg h]
  right
  refine⟨fun hm=>h ?_,by simp⟩
  obtain⟨p,hp,e⟩:=List.mem_map.mp hm
  exact List.any_eq_true.mpr ⟨p,hp,decide_eq_true e⟩
theorem Zalb {kvs:List (Key × V)}{k:Key}{v:V}{p:Key × V} (h:p∈putK kvs k v):p∈kvs∨p=(k,v):=by
 unfold putK at h
 split at h
 ·obtain⟨q,hq,e⟩:=List.mem_map.mp h
  split at e
  ·rename_i e2
   right
   rw[<- e,e2]
  ·left; rw[<- e]; exact hq
 ·rcases List.mem_append.mp h with h | h
  ·exact .inl h
  ·exact .inr (List.mem_singleton.mp h)
theorem Rep.put {kvs:List (Key × V)}{f:Int->Int}{m c:Int} (h:Rep kvs f) (hc:c≠0):Rep (putK kvs (Sum.inl m) (.int c)) (fun j=>if j=m then c else f j):=by
 obtain⟨h1,h2,h3⟩:=h
 refine⟨fun p hp=>?_,?_,fun j=>?_⟩
 ·rcases Zalb hp with hp | rfl
  ·exact h1 p hp
  ·exact⟨m,c,rfl⟩
 ·rcases ZajU (kvs:=kvs) (k:=Sum.inl m) (v:=.int c) with e | ⟨hn,e⟩
  ·rw[e]; exact h2
  ·rw[e]; exact Zaiy h2 hn
 ·rw[ZaiW]
  by_cases e:j=m
  ·subst e
   rw[if_pos rfl]
   show _=oz (if j=j then c else f j)
   rw[if_pos rfl,oz1 hc]
  ·rw[if_neg (by intro z; exact e (Sum.inl.inj z))]
   show _=oz (if j=m then c else f j)
   rw[if_neg e]; exact h3 j
theorem ZacE {kvs:List (Key × V)}{k:Key}{v:V} (hn:(kvs.map (·.1)).Nodup) (h:(k,v)∈kvs):valV kvs k=some v:=by
 induction kvs with
 | nil=>cases h
 | cons p r ih=>
  rw[List.map_cons,List.nodup_cons] at hn
  rcases List.mem_cons.mp h with rfl | h
  ·exact ZaaR rfl
  ·rw[ZaaS (fun e=>hn.1 (by rw[e]; exact List.mem_map.mpr ⟨_,h,rfl⟩))]
   exact ih hn.2 h
theorem Rep.at {kvs:List (Key × V)}{f:Int->Int}{k:Key}{v:V} (h:Rep kvs f) (hm:(k,v)∈kvs):∃ m:Int,k=Sum.inl m/\v=.int (f m)/\f m≠0:=by
 obtain⟨m,c,e⟩:=h.1 _ hm
 cases e
 have e2:=ZacE h.2.1 hm
 rw[h.2.2 m] at e2
 by_cases hz:f m=0
 ·rw[hz] at e2; cases e2
 ·rw[oz1 hz] at e2
  exact⟨m,rfl,(Option.some.inj e2).symm,hz⟩
theorem Rep.key {kvs:List (Key × V)}{f:Int->Int}{m:Int} (h:Rep kvs f) (hm:f m≠0):(Sum.inl m:Key)∈kvs.map (·.1):=by
 have:=h.2.2 m
 rw[oz1 hm] at this
 exact Zakk this
theorem Rep.nkey {kvs:List (Key × V)}{f:Int->Int}{m:Int} (h:Rep kvs f) (hm:f m=0):(Sum.inl m:Key) ∉ kvs.map (·.1):=by
 have:=h.2.2 m
 rw[hm] at this
 exact ZaiX this
theorem Rep.get {kvs:List (Key × V)}{f:Int->Int} (h:Rep kvs f) (m:Int):(valV kvs (Sum.inl m)).getD (.int 0)=.int (f m):=by
 rw[h.2.2 m]
 by_cases hz:f m=0
 ·rw[hz]; rfl
 ·rw[oz1 hz]; rfl
def dec (p:Key × V):Int × Int:=(match p.1 with | .inl m=>m | .inr _=>0,match p.2 with | .int c=>c | _=>0)
def enc (q:Int × Int):Key × V:=(Sum.inl q.1,V.int q.2)
theorem Rep.dec {kvs:List (Key × V)}{f:Int->Int} (h:Rep kvs f):kvs=(kvs.map Lv.dec).map enc:=by
 rw[List.map_map]
 refine (List.map_id kvs).symm.trans (List.map_congr_left fun p hp=>?_)
 obtain⟨m,c,rfl⟩:=h.1 p hp
 rfl
theorem Rep.nd {kvs:List (Key × V)}{f:Int->Int} (h:Rep kvs f):((kvs.map Lv.dec).map (·.1)).Nodup:=by
 have h2:=h.2.1
 rw[h.dec,List.map_map] at h2
 have h3:((kvs.map Lv.dec).map fun q=>(Sum.inl q.1:Key)).Nodup:=h2
 unfold List.Nodup at h3 ⊢
 rw[List.pairwise_map] at h3 ⊢
 exact h3.imp fun {a b} z e=>z (by rw[e])
theorem Zamc {l:List Int}{B:Nat} (hn:l.Nodup) (hb:∀ x∈l,0<=x/\x<=(B:Int)):l.length<=B+1:=by
 have:∀ (B:Nat) (l:List Int),l.Nodup->(∀ x∈l,0<=x/\x<(B:Int))->l.length<=B:=by
  intro B
  induction B with
  | zero=>
   intro l _ hb
   cases l with
   | nil=>exact Nat.zero_le _
   | cons x r=>have:=hb x (by simp); omega
  | succ B ih=>
   intro l hn hb
   by_cases h:(B:Int)∈l
   ·have h1 := ih (l.erase B) (hn.erase _) fun x hx => by
     have h2:=(List.Nodup.mem_erase_iff hn).mp hx
     have:=hb x h2.2
     have:=h2.1
     omega
    rw[List.length_erase_of_mem h] at h1
    omega
   ·have := ih l hn fun x hx => by
     have h2:=hb x hx
     have:x≠B:=by rintro rfl; exact h hx
     omega
    omega
 exact this (B+1) l hn fun x hx=>by have:=hb x hx; omega
theorem Rep.len {kvs:List (Key × V)}{f:Int->Int}{B:Nat} (h:Rep kvs f) (hb:∀ m,f m≠0->0<=m/\m<=(B:Int)):kvs.length<=B+1:=by
 have:=Zamc (B:=B) h.nd fun x hx=>by
  rw[List.map_map] at hx
  obtain⟨⟨k,v⟩,hp,rfl⟩:=List.mem_map.mp hx
  obtain⟨m,rfl,rfl,hz⟩:=h.at hp
  exact hb m hz
 simpa using this
open Classical in
noncomputable def tkn (g:Int->Int) (ks:List Key) (m:Int):Int:=if (Sum.inl m:Key)∈ks then g m else 0
theorem Zaer (g:Int->Int) (m:Int):tkn g [] m=0:=if_neg List.not_mem_nil
theorem ZabR {g:Int->Int}{ks:List Key}{m:Int} (h:(Sum.inl m:Key) ∉ ks):tkn g ks m=0:=if_neg h
theorem Zag8 {g:Int->Int}{ks:List Key}{m:Int} (h:(Sum.inl m:Key)∈ks):tkn g ks m=g m:=if_pos h
theorem Zaes {g:Int->Int}{kvs:List (Key × V)} (h:Rep kvs g) (m:Int):tkn g (kvs.map (·.1)) m=g m:=by
 by_cases e:g m=0
 ·rw[ZabR (h.nkey e),e]
 ·exact Zag8 (h.key e)
theorem ZacH {g:Int->Int}{ks:List Key}{m:Int} (h:g m=0):tkn g ks m=0:=by
 unfold tkn
 split
 ·exact h
 ·rfl
theorem ZacI {g:Int->Int}{ks:List Key}{m j:Int} (h:(Sum.inl m:Key) ∉ ks):tkn g (ks++[Sum.inl m]) j=if j=m then g m else tkn g ks j:=by
 by_cases e:j=m
 ·subst e
  rw[if_pos rfl,Zag8 (by simp)]
 ·rw[if_neg e]
  by_cases h2:(Sum.inl j:Key)∈ks
  ·rw[Zag8 h2,Zag8 (List.mem_append_left _ h2)]
  ·rw[ZabR h2,ZabR fun z=>?_]
   rcases List.mem_append.mp z with z | z
   ·exact h2 z
   ·have z:(Sum.inl j:Key)=Sum.inl m:=by simpa using z
    exact e (Sum.inl.inj z)
theorem Zab0 {kvs:List (Key × V)}{i:Nat}{k:Key}{v:V} (h:kvs[i]?=some (k,v)):(kvs.take (i+1)).map (·.1)=(kvs.take i).map (·.1)++[k]:=by
 rw[List.take_add_one,h]; simp
theorem ZaeH {kvs:List (Key × V)}{i:Nat}{k:Key}{v:V} (nd:(kvs.map (·.1)).Nodup) (hi:kvs[i]?=some (k,v)):k ∉ (kvs.take i).map (·.1):=fun hm=>by
 obtain⟨q,hq,e⟩:=List.mem_map.mp hm
 obtain⟨j,hj⟩:=List.getElem?_of_mem hq
 have hji:j<i:=by
  have:=(List.getElem?_eq_some_iff.mp hj).1
  rw[List.length_take] at this; omega
 rw[List.getElem?_take_of_lt hji] at hj
 have a1:(kvs.map (·.1))[j]?=some k:=by rw[List.getElem?_map,hj,<- e]; rfl
 have a2:(kvs.map (·.1))[i]?=some k:=by rw[List.getElem?_map,hi]; rfl
 have hj2:=(List.getElem?_eq_some_iff.mp a1).1
 have:=(List.getElem?_inj hj2 nd).mp (a1.trans a2.symm)
 omega
def SprL (L:List (Int × Int)) (f:Int->Int):Prop:=L.Pairwise (fun p q=>p.1<q.1)/\∀ m c,(m,c)∈L↔(c=f m/\c≠0)
theorem ZalX {kvs:List (Key × V)}{f:Int->Int}{ms:List (Int × Int)} (h:Rep kvs f) (hp:ms.Perm (kvs.map Lv.dec)) (hs:ms.Pairwise (fun p q=>lxB [q.1,q.2] [p.1,p.2]=false)):SprL ms f:=by
 have nd:(ms.map (·.1)).Nodup:=(hp.map (·.1)).nodup_iff.mpr h.nd
 unfold List.Nodup at nd
 rw[List.pairwise_map] at nd
 refine⟨(hs.and nd).imp ?_,fun m c=>?_⟩
 ·rintro p q ⟨a,b⟩
  have a:(if q.1=p.1 then lxB [q.2] [p.2] else decide (q.1<p.1))=false:=a
  rw[if_neg (Ne.symm b)] at a
  have:=of_decide_eq_false a
  omega
 ·rw[hp.mem_iff]
  constructor
  ·intro hm
   obtain⟨⟨k,v⟩,hp,e⟩:=List.mem_map.mp hm
   obtain⟨m',rfl,rfl,hz⟩:=h.at hp
   have e1:m'=m:=congrArg Prod.fst e
   have e2:f m'=c:=congrArg Prod.snd e
   subst e1 e2
   exact⟨rfl,hz⟩
  ·rintro⟨rfl,hz⟩
   have hk:=h.key hz
   obtain⟨⟨k,v⟩,hp,e⟩:=List.mem_map.mp hk
   obtain⟨m',rfl,rfl,_⟩:=h.at hp
   have e1:m'=m:=Sum.inl.inj e
   subst e1
   exact List.mem_map.mpr ⟨_,hp,rfl⟩
theorem Zail:∀ {L M:List (Int × Int)},L.Pairwise (fun p q=>p.1<q.1)->M.Pairwise (fun p q=>p.1<q.1)->(∀ x,x∈L↔x∈M)->L=M
 | [],[],_,_,_=>rfl
 | [],b::M,_,_,h=>absurd ((h b).mpr List.mem_cons_self) (by simp)
 | a::L,[],_,_,h=>absurd ((h a).mp List.mem_cons_self) (by simp)
 | a::L,b::M,h1,h2,h=>by
  obtain⟨a1,a2⟩:=List.pairwise_cons.mp h1
  obtain⟨b1,b2⟩:=List.pairwise_cons.mp h2
  have e:a=b:=by
   rcases List.mem_cons.mp ((h a).mp List.mem_cons_self) with e | z
   ·exact e
   ·rcases List.mem_cons.mp ((h b).mpr List.mem_cons_self) with e | y
    ·exact e.symm
    ·have:=b1 a z
     have:=a1 b y
     omega
  subst e
  congr 1
  refine Zail a2 b2 fun x=>?_
  constructor
  ·intro hx
   rcases List.mem_cons.mp ((h x).mp (List.mem_cons_of_mem _ hx)) with e | z
   ·subst e; have:=a1 x hx; omega
   ·exact z
  ·intro hx
   rcases List.mem_cons.mp ((h x).mpr (List.mem_cons_of_mem _ hx)) with e | z
   ·subst e; have:=b1 x hx; omega
   ·exact z
theorem SprL.uniq {L M:List (Int × Int)}{f:Int->Int} (h:SprL L f) (g:SprL M f):L=M:=Zail h.1 g.1 fun ⟨m,c⟩=>by rw[h.2,g.2]
def cn (xs:List Int) (m:Int):Int:=(xs.count m:Int)
theorem Zady (m:Int):cn [] m=0:=by simp[cn]
theorem Zafs (xs:List Int) (m:Int):0<=cn xs m:=by unfold cn; omega
theorem ZagP (xs ys:List Int) (m:Int):cn (xs++ys) m=cn xs m+cn ys m:=by unfold cn; rw[List.count_append]; omega
theorem ZaeU {xs:List Int}{m:Int}:cn xs m=0↔m ∉ xs:=by unfold cn; rw[<- List.count_eq_zero]; omega
theorem cn_ne {xs:List Int}{m:Int}:cn xs m≠0↔m∈xs:=by
 rw[Ne,ZaeU,Classical.not_not]
theorem Zadz (x:Int) (xs:List Int) (m:Int):cn (x::xs) m=(if m=x then 1 else 0)+cn xs m:=by
 unfold cn
 rw[List.count_cons]
 by_cases h:m=x
 ·subst h; simp; omega
 ·have:¬ x=m:=fun z=>h z.symm
  simp[h,this]
theorem Zaee (xs:List Int) (m:Int):cn (xs.map (·+1)) m=cn xs (m - 1):=by
 induction xs with
 | nil=>simp[cn]
 | cons x xs ih=>
  rw[List.map_cons,Zadz,Zadz,ih]
  by_cases h:m=x+1
  ·rw[if_pos h,if_pos (by omega)]
  ·rw[if_neg h,if_neg (by omega)]
def DDs (H:Hp) (rs:List Addr) (N:List (List Int)):Prop:=rs.length=N.length/\∀ (j:Nat) r xs,rs[j]?=some r->N[j]?=some xs->∃ kvs,H r=some (.dK kvs)/\Rep kvs (cn xs)
theorem DDs.same {H H':Hp}{rs:List Addr}{N:List (List Int)} (h:DDs H rs N) (s:Same H H'):DDs H' rs N:=⟨h.1,fun j r xs a b=>let ⟨kvs,e,q⟩:=h.2 j r xs a b; ⟨kvs,s _ _ e,q⟩⟩
theorem DDs.nil {H:Hp}:DDs H [] []:=⟨rfl,fun j r xs a=>by simp at a⟩
theorem DDs.snoc {H:Hp}{rs:List Addr}{N:List (List Int)}{r:Addr}{x:List Int}{kvs:List (Key × V)} (h:DDs H rs N) (e:H r=some (.dK kvs)) (q:Rep kvs (cn x)):DDs H (rs++[r]) (N++[x]):=⟨by simp[h.1],fun j r' xs a b=>by
 rcases Nat.lt_trichotomy j rs.length with z | z | z
 ·rw[List.getElem?_append_left z] at a
  rw[List.getElem?_append_left (by rw[<- h.1]; exact z)] at b
  exact h.2 j r' xs a b
 ·subst z
  rw[List.getElem?_append_right (Nat.le_refl _)] at a
  rw[h.1,List.getElem?_append_right (Nat.le_refl _)] at b
  simp at a b
  subst a b
  exact⟨kvs,e,q⟩
 ·rw[List.getElem?_eq_none (by simp; omega)] at a; cases a⟩
theorem DDs.cons {H:Hp}{rs:List Addr}{N:List (List Int)}{r:Addr}{x:List Int}{kvs:List (Key × V)} (h:DDs H rs N) (e:H r=some (.dK kvs)) (q:Rep kvs (cn x)):DDs H (r::rs) (x::N):=⟨by simp[h.1],fun j r' xs a b=>by
 cases j with
 | zero=>simp at a b; subst a b; exact⟨kvs,e,q⟩
 | succ j=>exact h.2 j r' xs (by simpa using a) (by simpa using b)⟩
theorem DDs.tail {H:Hp}{rs:List Addr}{N:List (List Int)}{r:Addr}{x:List Int} (h:DDs H (r::rs) (x::N)):DDs H rs N:=⟨by simpa using h.1,fun j r' xs a b=>h.2 (j+1) r' xs (by simpa using a) (by simpa using b)⟩
theorem DDs.at {H:Hp}{rs:List Addr}{N:List (List Int)}{j:Nat}{r:Addr} (h:DDs H rs N) (e:rs[j]?=some r):∃ xs kvs,N[j]?=some xs/\H r=some (.dK kvs)/\Rep kvs (cn xs):=by
 have hj:=(List.getElem?_eq_some_iff.mp e).1
 rw[h.1] at hj
 have e2:N[j]?=some N[j]:=List.getElem?_eq_getElem hj
 obtain⟨kvs,a,b⟩:=h.2 j r _ e e2
 exact⟨_,kvs,e2,a,b⟩
def Bd (B:Int) (N:List (List Int)):Prop:=∀ xs∈N,∀ m∈xs,0<=m/\m<=B
theorem Bd.mono {B B':Int}{N:List (List Int)} (h:Bd B N) (hb:B<=B'):Bd B' N:=fun xs a m b=>by have:=h xs a m b; omega
theorem Zaeg (p:Nat):∀ n:Nat,Bd n (num p n)
 | 0=>fun xs a m b=>by
  rcases List.mem_cons.mp (show xs∈[0]::List.replicate (p - 1) [] from a) with rfl | h
  ·have:m=0:=by simpa using b
   omega
  ·rw[(List.mem_replicate.mp h).2] at b; cases b
 | n+1=>fun xs a m b=>by
  have ih:=Zaeg p n
  have hf:∀ m∈fstN (num p n),0<=m/\m<=((n+1:Nat):Int):=fun m hm=>by
   unfold fstN at hm
   obtain⟨y,hy,rfl⟩:=List.mem_map.mp hm
   cases e:num p n with
   | nil=>rw[e] at hy; cases hy
   | cons c r=>
    rw[e] at hy
    have:=ih c (by rw[e]; exact List.mem_cons_self) y hy
    omega
  rcases List.mem_append.mp (show xs∈((num p n).tail.map (fstN (num p n)++·))++[fstN (num p n)] from a) with h | h
  ·obtain⟨y,hy,rfl⟩:=List.mem_map.mp h
   rcases List.mem_append.mp b with b | b
   ·exact hf m b
   ·have:=ih y (List.mem_of_mem_tail hy) m b
    omega
  ·rw[List.mem_singleton.mp h] at b
   exact hf m b
theorem ZagY {B:Int}{N:List (List Int)} (h:Bd B N):∀ m,cn N.flatten m≠0->0<=m/\m<=B:=fun m hm=>by
 obtain⟨xs,a,b⟩:=List.mem_flatten.mp (cn_ne.mp hm)
 exact h xs a m b
def pr2 (q:Int × Int):List Int:=[q.1,q.2]
def ZadP:Sp:=fun vs H Q _=>∃ p:Nat,vs=[.int p]/\2<=p/\p<=7/\∀ l qs H',H l=none->H' l=some (.lst (qs.map V.ref))->DDs H' qs (num0 p)->Same H H'->Q (.ref l) H'
def Zaex:Sp:=fun vs H Q _=>∃ (a b:Addr) (k1 k2:List (Key × V)) (f g:Int->Int),vs=[.ref a,.ref b]/\H a=some (.dK k1)/\H b=some (.dK k2)/\Rep k1 f/\Rep k2 g/\(∀ m,0<=f m)/\(∀ m,0<=g m)/\(∀ m,f m≠0->0<=m/\m<=400)/\(∀ m,g m≠0->0<=m/\m<=400) /\
 ∀ l kvs H',H l=none->H' l=some (.dK kvs)->Rep kvs (fun m=>f m+g m)->Same H H'->Q (.ref l) H'
def Zaeu (nx:List (List Int)->List (List Int)):Sp:=fun vs H Q _=>∃ (a:Addr) (rs:List Addr) (N:List (List Int)),vs=[.ref a]/\H a=some (.lst (rs.map V.ref))/\DDs H rs N/\2<=N.length/\N.length<=7/\Bd 399 N /\
 ∀ l qs H',H l=none->H' l=some (.lst (qs.map V.ref))->DDs H' qs (nx N)->Same H H'->Q (.ref l) H'
def ZafP:Sp:=fun vs H Q _=>∃ (a:Addr) (rs:List Addr) (N:List (List Int)),vs=[.ref a]/\H a=some (.lst (rs.map V.ref))/\DDs H rs N/\N.length<=7/\Bd 400 N /\
 ∀ l qs L H',H l=none->H' l=some (.tup (qs.map V.ref))->TTs H' qs (L.map pr2)->SprL L (cn N.flatten)->Same H H'->Q (.ref l) H'
end Lv
namespace L2
open PySem PySem.Spec PyProof.Rows
mutual
inductive RdN (H:Hp):V->PyData->Prop
 | non:RdN H .non .none
 | bl (b:Bool):RdN H (.bl b) (.bool b)
 | int (i:Int):RdN H (.int i) (.int i)
 | str (x:Str):RdN H (.str x) (.str x)
 | lst {a:Addr}{xs:List V}{ds:List PyData}:H a=some (.lst xs)->RdL H xs ds->RdN H (.ref a) (.list ds)
 | tup {a:Addr}{xs:List V}{ds:List PyData}:H a=some (.tup xs)->RdL H xs ds->RdN H (.ref a) (.tuple ds)
inductive RdL (H:Hp):List V->List PyData->Prop
 | nil:RdL H [] []
 | cons {x:V}{xs:List V}{d:PyData}{ds:List PyData}:RdN H x d->RdL H xs ds->RdL H (x::xs) (d::ds)
end
section
variable {P:Program}{w:World}{H:Hp}{h:Heap}
end
section
variable {X:Cx}
end
end L2
namespace L2
open PySem PySem.Spec PyProof.Rows PySem.SeqAt
section
variable {P:Program}{w:World}{H:Hp}{s:Shared}
theorem RdL.len_eq:∀ {xs ys:List V}{ds:List PyData},RdL H xs ds->RdL H ys ds->xs.length=ys.length
 | _,_,_,.nil,r=>by cases r; rfl
 | _,_,_,.cons _ q,r=>by
  cases r with
  | cons _ q2=>rw[List.length_cons,List.length_cons,RdL.len_eq q q2]
mutual
theorem RdN.eqs (ok:HOk P w H s.heap):∀ {x:V}{d:PyData},RdN H x d->∀ {y:V},RdN H y d->∀ {u v:Value},RelV x u->RelV y v->∀ A:Around,A.units+d.depth<cLine->EqAt A s u v true
 | _,_,.non,y,r,u,v,h1,h2,A,hu=>by
  cases r
  cases (show u=Value.none from h1); cases (show v=Value.none from h2)
  exact EqAt.same _
 | _,_,.bl b,y,r,u,v,h1,h2,A,hu=>by
  cases r
  cases (show u=Value.bool b from h1); cases (show v=Value.bool b from h2)
  exact EqAt.same _
 | _,_,.int i,y,r,u,v,h1,h2,A,hu=>by
  cases r
  obtain⟨t,z⟩:=(show ∃ t,u=Value.int i t from h1); cases z
  obtain⟨t2,z⟩:=(show ∃ t,v=Value.int i t from h2); cases z
  have:=EqAt.int_int (A:=A) (s:=s) i t i t2
  rw[beq_self_eq_true] at this
  exact this
 | _,_,.str x,y,r,u,v,h1,h2,A,hu=>by
  cases r
  obtain⟨t,z⟩:=(show ∃ t,u=Value.str x t from h1); cases z
  obtain⟨t2,z⟩:=(show ∃ t,v=Value.str x t from h2); cases z
  have:=EqAt.str_str (A:=A) (s:=s) x t x t2
  rw[show (x == x)=true from by rw[<- str_beq]; exact beq_self_eq_true _] at this
  exact this
 | _,_,.lst (a:=a) (xs:=xs) (ds:=ds) e q,y,r,u,v,h1,h2,A,hu=>by
  cases r with
  | lst e2 q2=>
   rename_i b ys
   cases (show u=Value.ref a from h1); cases (show v=Value.ref b from h2)
   by_cases hab:a=b
   ·subst hab; exact EqAt.same _
   obtain⟨_,i1,n1,v1,g1⟩:=(show ObjOk P w H s.heap a (.lst xs) from ok a _ e)
   obtain⟨_,i2,n2,v2,g2⟩:=(show ObjOk P w H s.heap b (.lst ys) from ok b _ e2)
   have hd:A.units+(PyData.depthAll ds+1)<cLine:=hu
   have hl:=q.len_eq q2
   refine EqAt.of_refs hab ?_
   have:=RcAt.lists (A:=A) (s:=s) (e:=fun _=>true) (l:=a) (b:=b) (items:=i1.toArray) (items2:=i2.toArray) ⟨_,g1,rfl,n1,rfl⟩ ⟨_,g2,rfl,n2,rfl⟩ (by rw[List.size_toArray,List.size_toArray,<- v1.length,<- v2.length,hl]) (by omega) (fun j h1 h2=>by
    have:=RdL.eqs ok q q2 v1 v2 A.in1 (by show A.units+1+_<_; omega) j (by simpa using h1) (by simpa using h2)
    simpa using this)
   rw[Zab1] at this
   exact this
 | _,_,.tup (a:=a) (xs:=xs) (ds:=ds) e q,y,r,u,v,h1,h2,A,hu=>by
  cases r with
  | tup e2 q2=>
   rename_i b ys
   cases (show u=Value.ref a from h1); cases (show v=Value.ref b from h2)
   by_cases hab:a=b
   ·subst hab; exact EqAt.same _
   obtain⟨_,i1,v1,o1,g1,c1,_,n1,k1⟩:=(show ObjOk P w H s.heap a (.tup xs) from ok a _ e)
   obtain⟨_,i2,v2,o2,g2,c2,_,n2,k2⟩:=(show ObjOk P w H s.heap b (.tup ys) from ok b _ e2)
   have hd:A.units+(PyData.depthAll ds+1)<cLine:=hu
   have hl:=q.len_eq q2
   refine EqAt.of_refs hab ?_
   have:=RcAt.tuples (A:=A) (s:=s) (e:=fun _=>true) (l:=a) (b:=b) (items:=i1.toArray) (items2:=i2.toArray) ⟨o1,g1,c1,n1,k1⟩ ⟨o2,g2,c2,n2,k2⟩ (by omega) (fun j h1 h2=>by
    have:=RdL.eqs ok q q2 v1 v2 A.in1 (by show A.units+1+_<_; omega) j (by simpa using h1) (by simpa using h2)
    simpa using this)
   rw[Zab1,List.size_toArray,List.size_toArray,<- v1.length,<- v2.length,hl,beq_self_eq_true] at this
   exact this
theorem RdL.eqs (ok:HOk P w H s.heap):∀ {xs:List V}{ds:List PyData},RdL H xs ds->∀ {ys:List V},RdL H ys ds->∀ {us vs:List Value},Vals xs us->Vals ys vs->∀ A:Around,A.units+PyData.depthAll ds<cLine->∀ (j:Nat) (h1:j<us.length) (h2:j<vs.length),EqAt A s us[j] vs[j] true
 | _,_,.nil,ys,r,us,vs,v1,v2,A,hu,j,h1,h2=>by
  cases v1
  exact absurd h1 (Nat.not_lt_zero _)
 | _,_,.cons (d:=d) (ds:=ds) p q,ys,r,us,vs,v1,v2,A,hu,j,h1,h2=>by
  cases r with
  | cons p2 q2=>
   cases v1 with
   | cons a1 b1=>
    cases v2 with
    | cons a2 b2=>
     have hm:PyData.depthAll (d::ds)=max d.depth (PyData.depthAll ds):=by rw[PyData.depthAll]
     rw[hm] at hu
     cases j with
     | zero=>exact RdN.eqs ok p p2 a1 a2 A (by omega)
     | succ j=>exact RdL.eqs ok q q2 b1 b2 A (by omega) j (by simpa using h1) (by simpa using h2)
end
end
def rEqR:R2:=fun x y H Q=>∃ (a b:Addr) (d:PyData),x=.ref a/\y=.ref b/\RdN H (.ref a) d/\RdN H (.ref b) d/\d.depth<=10/\Q (.bl true) H
section
variable {X:Cx}
theorem ZakF {P : Program} {w : World} {H : Hp} {s : Shared} {A : Around} {xs ys : List V} {ds : List PyData} {i1 i2 : List Value} (ok : HOk P w H s.heap) (q : RdL H xs ds) (q2 : RdL H ys ds) (v1 : Vals xs i1) (v2 : Vals ys i2) (hu : A.units + 1 + PyData.depthAll ds < cLine) :
  ∀ j (h1:j<i1.toArray.size) (h2:j<i2.toArray.size),EqAt A.in1 s i1.toArray[j] i2.toArray[j] true:=fun j h1 h2=>by
 have:=RdL.eqs ok q q2 v1 v2 A.in1 (by show A.units+1+_<_; omega) j (by simpa using h1) (by simpa using h2)
 simpa using this
theorem Zal8 (hu:X.A.units+12<cLine):OpR X (compareOp .Eq) rEqR:=by
 intro pins s σ H x y v u Q I rx ry h
 obtain⟨a,b,d,rfl,rfl,r1,r2,hd,q⟩:=h
 cases rx
 cases ry
 cases r1 with
 | lst e p=>
  rename_i xs ds
  cases r2 with
  | lst e2 p2=>
   rename_i ys
   obtain⟨_,i1,n1,v1,g1⟩:=(show ObjOk X.prog X.w H s.heap a (.lst xs) from I.hok a _ e)
   obtain⟨_,i2,n2,v2,g2⟩:=(show ObjOk X.prog X.w H s.heap b (.lst ys) from I.hok b _ e2)
   have hd':PyData.depthAll ds+1<=10:=hd
   refine RcAt.lists (e:=fun _=>true) (items:=i1.toArray) (items2:=i2.toArray) ⟨_,g1,rfl,n1,rfl⟩ ⟨_,g2,rfl,n2,rfl⟩ (by rw[List.size_toArray,List.size_toArray,<- v1.length,<- v2.length,p.len_eq p2]) (by omega) (ZakF I.hok p p2 v1 v2 (by omega)) _ _ _ _ ?_
   rw[Zab1]
   exact⟨.bl true,H,I,rfl,q⟩
 | tup e p=>
  rename_i xs ds
  cases r2 with
  | tup e2 p2=>
   rename_i ys
   obtain⟨_,i1,v1,o1,g1,c1,_,n1,k1⟩:=(show ObjOk X.prog X.w H s.heap a (.tup xs) from I.hok a _ e)
   obtain⟨_,i2,v2,o2,g2,c2,_,n2,k2⟩:=(show ObjOk X.prog X.w H s.heap b (.tup ys) from I.hok b _ e2)
   have hd':PyData.depthAll ds+1<=10:=hd
   refine RcAt.tuples (e:=fun _=>true) (items:=i1.toArray) (items2:=i2.toArray) ⟨o1,g1,c1,n1,k1⟩ ⟨o2,g2,c2,n2,k2⟩ (by omega) (ZakF I.hok p p2 v1 v2 (by omega)) _ _ _ _ ?_
   rw[Zab1,List.size_toArray,List.size_toArray,<- v1.length,<- v2.length,p.len_eq p2,beq_self_eq_true]
   exact⟨.bl true,H,I,rfl,q⟩
end
end L2
namespace L2
open PySem PySem.Spec PyProof.Rows
section
variable {X:Cx}
end
end L2
namespace Lv
open PySem L2
def rl (p n i:Nat):List Int:=(num p n).getD i []
theorem rl_at {p n i:Nat} (hp:2<=p) (hi:i<p):(num p n)[i]?=some (rl p n i):=by
 have h:i<(num p n).length:=by rw[Zabb (by omega)]; exact hi
 unfold rl
 rw[List.getD_eq_getElem?_getD,List.getElem?_eq_getElem h]; rfl
theorem Zams {p n:Nat}:fstN (num p n)=(rl p n 0).map (·+1):=by
 unfold fstN rl
 cases num p n with
 | nil=>rfl
 | cons a r=>rfl
theorem Zaf3 {p i:Nat}:rl p 0 i=if i=0 then [0] else []:=by
 unfold rl
 show ([0]::List.replicate (p - 1) ([]:List Int)).getD i []=_
 cases i with
 | zero=>rfl
 | succ i=>
  rw[if_neg (by omega),List.getD_eq_getElem?_getD,List.getElem?_cons_succ,List.getElem?_replicate]
  split <;> rfl
theorem Zaiq {p n i:Nat} (hp:2<=p) (hi:i<p):rl p (n+1) i=(rl p n 0).map (·+1)++(if i+1<p then rl p n (i+1) else []):=by
 have hl:=Zabb (p:=p) (by omega) n
 obtain⟨a,r,e,_,hr⟩:=Zagm hp n
 have h1:rl p (n+1) i=(nextN (num p n)).getD i []:=rfl
 rw[h1,<- Zams]
 unfold nextN
 rw[List.getD_eq_getElem?_getD]
 by_cases h:i+1<p
 ·rw[if_pos h,List.getElem?_append_left (by rw[List.length_map,List.length_tail,hl]; omega),List.getElem?_map,List.getElem?_tail,rl_at hp h]
  rfl
 ·rw[if_neg h,List.append_nil,List.getElem?_append_right (by rw[List.length_map,List.length_tail,hl]; omega)]
  have:i - ((num p n).tail.map (fstN (num p n)++·)).length=0:=by rw[List.length_map,List.length_tail,hl]; omega
  rw[this]; rfl
theorem ZakC {p n i:Nat} (hp:2<=p) (hi:p<=i):rl p n i=[]:=by
 unfold rl
 rw[List.getD_eq_getElem?_getD,List.getElem?_eq_none (by rw[Zabb (by omega)]; exact hi)]; rfl
theorem Zajh {p n i:Nat} (hp:2<=p) (hi:i<p):rl p (n+1) i=(rl p n 0).map (·+1)++rl p n (i+1):=by
 rw[Zaiq hp hi]
 split
 ·rfl
 ·rw[ZakC (i:=i+1) hp (by omega)]
theorem Zafm {p:Nat} (hp:2<=p):∀ (n i:Nat) (m:Int),i<p->(m∈rl p n i↔m<=n/\(n:Int)+i<=p*m)
 | 0,i,m,hi=>by
  rw[Zaf3]
  by_cases h:i=0
  ·subst h
   rw[if_pos rfl,List.mem_singleton]
   constructor
   ·rintro rfl; simp
   ·rintro⟨h1,h2⟩
    have:(0:Int)<=m:=by
     refine Classical.byContradiction fun z=>?_
     have:(p:Int)*m<=p*(-1):=Int.mul_le_mul_of_nonneg_left (by omega) (by omega)
     omega
    simp at h1
    omega
  ·rw[if_neg h]
   constructor
   ·intro z; cases z
   ·rintro⟨h1,h2⟩
    have:(p:Int)*m<=p*0:=Int.mul_le_mul_of_nonneg_left (by simpa using h1) (by omega)
    simp at h2
    omega
 | n+1,i,m,hi=>by
  rw[Zaiq hp hi,List.mem_append]
  have e1:m∈(rl p n 0).map (·+1)↔m - 1<=n/\(n:Int)<=p*(m - 1):=by
   rw[List.mem_map]
   constructor
   ·rintro⟨x,hx,rfl⟩
    have:=(Zafm hp n 0 x (by omega)).mp hx
    rw[show x+1 - 1=x by omega]
    simpa using this
   ·rintro⟨h1,h2⟩
    exact⟨m - 1,(Zafm hp n 0 _ (by omega)).mpr ⟨h1,by simpa using h2⟩,by omega⟩
  have e3:(p:Int)*(m - 1)=p*m - p:=by rw[Int.mul_sub,Int.mul_one]
  rw[e1,e3]
  constructor
  ·rintro (⟨h1,h2⟩ | h)
   ·refine⟨by omega,?_⟩
    have:((n+1:Nat):Int)=n+1:=by omega
    rw[this]
    omega
   ·by_cases z:i+1<p
    ·rw[if_pos z] at h
     have:=(Zafm hp n (i+1) m z).mp h
     obtain⟨h1,h2⟩:=this
     refine⟨by omega,?_⟩
     have:((n+1:Nat):Int)=n+1:=by omega
     have:((i+1:Nat):Int)=i+1:=by omega
     omega
    ·rw[if_neg z] at h; cases h
  ·rintro⟨h1,h2⟩
   have q1:((n+1:Nat):Int)=n+1:=by omega
   rw[q1] at h2
   by_cases z:(n:Int)<=p*m - p
   ·exact .inl ⟨by omega,z⟩
   ·right
    have hip:i+1<p:=by omega
    rw[if_pos hip]
    refine (Zafm hp n (i+1) m hip).mpr ⟨?_,by omega⟩
    have hm:1<=m:=by
     refine Classical.byContradiction fun y=>?_
     have:(p:Int)*m<=p*0:=Int.mul_le_mul_of_nonneg_left (by omega) (by omega)
     simp at this
     omega
    have h3:(2:Int)*(m - 1)<=p*(m - 1):=Int.mul_le_mul_of_nonneg_right (by omega) (by omega)
    rw[e3] at h3
    omega
theorem Zabv {p:Nat} (hp:2<=p) (n:Nat) (m:Int):m∈(num p n).flatten↔m<=n/\(n:Int)<=p*m:=by
 constructor
 ·intro h
  obtain⟨xs,hx,hm⟩:=List.mem_flatten.mp h
  obtain⟨i,hi⟩:=List.getElem?_of_mem hx
  have hip:i<p:=by
   have:=(List.getElem?_eq_some_iff.mp hi).1
   rwa [Zabb (by omega)] at this
  rw[rl_at hp hip] at hi
  cases hi
  have:=(Zafm hp n i m hip).mp hm
  omega
 ·rintro⟨h1,h2⟩
  exact List.mem_flatten.mpr ⟨_,List.mem_of_getElem? (rl_at hp (show 0<p by omega)),(Zafm hp n 0 m (by omega)).mpr ⟨h1,by simpa using h2⟩⟩
theorem Zabf {L:List (Int × Int)}{xs:List Int} (h:SprL L (cn xs)) (m:Int):m∈L.map (·.1)↔m∈xs:=by
 rw[List.mem_map]
 constructor
 ·rintro⟨⟨a,c⟩,hx,rfl⟩
  have:=(h.2 a c).mp hx
  exact cn_ne.mp (by rw[<- this.1]; exact this.2)
 ·intro hm
  exact⟨(m,cn xs m),(h.2 _ _).mpr ⟨rfl,cn_ne.mpr hm⟩,rfl⟩
theorem ZalZ {L:List (Int × Int)}{f:Int->Int} (h:SprL L f):(L.map (·.1)).Pairwise (·<·):=by
 rw[List.pairwise_map]; exact h.1
theorem ZalY {L:List (Int × Int)}{f:Int->Int} (h:SprL L f):(L.map (·.1)).Nodup:=by
 unfold List.Nodup
 exact (ZalZ h).imp fun {a b} z=>Int.ne_of_lt z
theorem ZafM:∀ {L:List (Int × Int)}{xs:List Int},SprL L (cn xs)->(L.map (·.2)).sum=xs.length
 | [],xs,h=>by
  cases xs with
  | nil=>rfl
  | cons x r=>have:=(Zabf h x).mpr List.mem_cons_self; cases this
 | (m,c)::L,xs,h=>by
  obtain⟨h1,h2⟩:=List.pairwise_cons.mp h.1
  have hc:=(h.2 m c).mp List.mem_cons_self
  have hL:SprL L (cn (xs.filter fun x=>decide (x≠m))):=by
   refine⟨h2,fun a b=>?_⟩
   have e:a≠m->cn (xs.filter fun x=>decide (x≠m)) a=cn xs a:=fun z=>by
    unfold cn
    rw[List.count_filter (by simpa using z)]
   constructor
   ·intro hx
    have z:a≠m:=by have:=h1 _ hx; intro y; simp at this; omega
    rw[e z]
    exact (h.2 a b).mp (List.mem_cons_of_mem _ hx)
   ·rintro⟨y1,y2⟩
    have z:a≠m:=by
     rintro rfl
     refine y2 ?_
     rw[y1,ZaeU]
     simp
    rw[e z] at y1
    rcases List.mem_cons.mp ((h.2 a b).mpr ⟨y1,y2⟩) with q | q
    ·cases q; exact absurd rfl z
    ·exact q
  rw[List.map_cons,List.sum_cons,ZafM hL,hc.1]
  unfold cn
  have:∀ ys:List Int,((ys.count m:Nat):Int)+((ys.filter fun x=>decide (x≠m)).length:Nat)=(ys.length:Nat):=by
   intro ys
   induction ys with
   | nil=>rfl
   | cons y r ih=>
    rw[List.count_cons,List.filter_cons]
    by_cases z:y=m
    ·subst z
     rw[if_pos (by simp),if_neg (by simp),List.length_cons]
     omega
    ·rw[if_neg (by simpa using z),if_pos (by simpa using z),List.length_cons,List.length_cons]
     omega
  exact this xs
theorem ZaeN {p:Nat} (n:Nat):(((num p n).flatten.length:Nat):Int)=(cnt p n).sum:=by
 rw[<- Zacg p n]
 have:∀ N:List (List Int),((N.flatten.length:Nat):Int)=(lens N).sum:=by
  intro N
  induction N with
  | nil=>rfl
  | cons a r ih=>
   rw[List.flatten_cons,List.length_append,lens,List.map_cons,List.sum_cons]
   rw[lens] at ih
   rw[<- ih]; omega
 exact this _
end Lv
namespace Lv
open PySem L2
theorem ZahA {p:Nat} (hp:2<=p) (n:Nat):∃ x r,num p n=x::r/\r.length+1=p:=by
 have hl:=Zabb (p:=p) (by omega) n
 cases h:num p n with
 | nil=>rw[h] at hl; simp at hl; omega
 | cons x r=>exact⟨x,r,rfl,by rw[h] at hl; simpa using hl⟩
end Lv
namespace L2
open PySem
theorem DGet.kf {H:Hp}{a:Addr}{kvs:List (Key × V)}{k:Key}{o:Obj} (e:H a=some (.frz o (.dK kvs))):DGet H a (kV k) (valV kvs k):=.inl ⟨kvs,k,.inr ⟨o,e⟩,rfl,rfl⟩
end L2
namespace Lv
open PySem L2
def sm (g:Nat->Int):Nat->Int
 | 0=>0
 | k+1=>sm g k+g (k+1)
theorem ZafX {g h:Nat->Int}:∀ {k:Nat},(∀ j,1<=j->j<=k->g j=h j)->sm g k=sm h k
 | 0,_=>rfl
 | k+1,e=>by rw[sm,sm,ZafX fun j a b=>e j a (by omega),e (k+1) (by omega) (Nat.le_refl _)]
theorem Zakt {g h:Nat->Int}:∀ {k:Nat},sm (fun j=>g j+h j) k=sm g k+sm h k
 | 0=>rfl
 | k+1=>by rw[sm,sm,sm,Zakt]; omega
theorem sm_nn {g:Nat->Int} (h:∀ j,0<=g j):∀ k,0<=sm g k
 | 0=>Int.le_refl _
 | k+1=>by rw[sm]; have:=sm_nn h k; have:=h (k+1); omega
theorem sm_ne {g:Nat->Int}:∀ {k:Nat},sm g k≠0->∃ j,1<=j/\j<=k/\g j≠0
 | 0,h=>absurd rfl h
 | k+1,h=>by
  by_cases e:g (k+1)=0
  ·rw[sm,e,Int.add_zero] at h
   obtain⟨j,a,b,c⟩:=sm_ne h
   exact⟨j,a,by omega,c⟩
  ·exact⟨k+1,by omega,Nat.le_refl _,e⟩
def fz (p n:Nat) (m:Int):Int:=cn (rl p n 0) m
theorem Zakl {p n i:Nat} (hp:2<=p) (m:Int):∀ k,k<=n->i+k<=p->cn (rl p n i) m=sm (fun j=>fz p (n - j) (m - 1)) k+cn (rl p (n - k) (i+k)) m
 | 0,_,_=>by rw[sm]; simp
 | k+1,h1,h2=>by
  rw[Zakl hp m k (by omega) (by omega),sm]
  have e:n - k=(n - (k+1))+1:=by omega
  rw[e,Zajh hp (by omega),ZagP,Zaee]
  show _=_+cn (rl p (n - (k+1)) 0) (m - 1)+cn (rl p (n - (k+1)) (i+k+1)) m
  omega
theorem ZakB {p n i:Nat} (hp:2<=p) (hi:i<p) (hn:0<n+i) (m:Int):cn (rl p n i) m=sm (fun j=>fz p (n - j) (m - 1)) (min n (p - i)):=by
 rw[Zakl hp m (min n (p - i)) (Nat.min_le_left _ _) (by omega)]
 have:rl p (n - min n (p - i)) (i+min n (p - i))=[]:=by
  by_cases h:n<=p - i
  ·rw[Nat.min_eq_left h,Nat.sub_self,Zaf3,if_neg (by omega)]
  ·rw[Nat.min_eq_right (by omega)]
   exact ZakC hp (by omega)
 rw[this,Zady,Int.add_zero]
theorem Zamr {p n:Nat} (hp:2<=p) (hn:0<n) (m:Int):fz p n m=sm (fun j=>fz p (n - j) (m - 1)) (min p n):=by
 have:=ZakB (i:=0) hp (by omega) (by omega:0<n+0) m
 rw[Nat.sub_zero,Nat.min_comm] at this
 exact this
def trs (h:Nat->Int):Nat->Int
 | 0=>0
 | k+1=>trs h k+h k
theorem ZacG {g h:Nat->Int}:∀ {k:Nat},(∀ j,j<k->g j=h j)->trs g k=trs h k
 | 0,_=>rfl
 | k+1,e=>by rw[trs,trs,ZacG fun j a=>e j (by omega),e k (by omega)]
theorem Zaeo (h:Nat->Int):∀ k,trs h (k+1)=h 0+trs (fun i=>h (i+1)) k
 | 0=>by simp[trs]
 | k+1=>by rw[trs,Zaeo h k,trs]; omega
theorem Zaj0 {p n:Nat} (hp:2<=p) (m:Int):cn (num p n).flatten m=trs (fun i=>cn (rl p n i) m) p:=by
 have e:∀ k,k<=p->cn ((num p n).take k).flatten m=trs (fun i=>cn (rl p n i) m) k:=by
  intro k
  induction k with
  | zero=>intro _; rw[List.take_zero,List.flatten_nil,Zady]; rfl
  | succ k ih=>
   intro hk
   rw[List.take_add_one,rl_at hp (by omega),List.flatten_append,ZagP,ih (by omega),trs]
   simp
 have:=e p (Nat.le_refl _)
 rwa [List.take_of_length_le (by rw[Zabb (by omega)]; exact Nat.le_refl _)] at this
theorem tri (g:Nat->Int) (n:Nat):∀ p:Nat,trs (fun i=>sm g (min n (p - i))) p=sm (fun j=>((p:Int) - j+1)*g j) (min n p)
 | 0=>by simp[trs,sm]
 | p+1=>by
  rw[Zaeo]
  have e1:trs (fun i=>sm g (min n (p+1 - (i+1)))) p=trs (fun i=>sm g (min n (p - i))) p:=ZacG fun i hi=>by
   rw[show p+1 - (i+1)=p - i by omega]
  rw[e1,tri g n p,Nat.sub_zero]
  have e2:sm (fun j=>(((p+1:Nat):Int) - j+1)*g j) (min n (p+1))=sm (fun j=>((p:Int) - j+1)*g j) (min n (p+1))+sm g (min n (p+1)):=by
   rw[<- Zakt]
   refine ZafX fun j _ _=>?_
   rw[show (((p+1:Nat):Int) - j+1)=((p:Int) - j+1)+1 by omega,Int.add_mul,Int.one_mul]
  rw[e2]
  by_cases h:p+1<=n
  ·rw[Nat.min_eq_right h,Nat.min_eq_right (by omega)]
   have e3:sm (fun j=>((p:Int) - j+1)*g j) (p+1)=sm (fun j=>((p:Int) - j+1)*g j) p+((p:Int) - ((p+1:Nat):Int)+1)*g (p+1):=rfl
   have:((p:Int) - ((p+1:Nat):Int)+1)=0:=by omega
   rw[e3,this,Int.zero_mul]
   omega
  ·rw[Nat.min_eq_left (by omega),Nat.min_eq_left (by omega)]
   omega
theorem Zaj1 {p n:Nat} (hp:2<=p) (hn:0<n) (m:Int):cn (num p n).flatten m=sm (fun j=>((p:Int) - j+1)*fz p (n - j) (m - 1)) (min p n):=by
 rw[Zaj0 hp,Nat.min_comm,<- tri]
 exact ZacG fun i hi=>ZakB hp hi (by omega) m
theorem ZahX (p:Nat) (m:Int):cn (num p 0).flatten m=cn [0] m:=by
 show cn ([0]::List.replicate (p - 1) ([]:List Int)).flatten m=_
 rw[List.flatten_cons,ZagP]
 have:(List.replicate (p - 1) ([]:List Int)).flatten=[]:=by
  rw[List.flatten_eq_nil_iff]
  intro l hl
  exact (List.mem_replicate.mp hl).2
 rw[this,Zady,Int.add_zero]
def sq (p n:Nat):List (List Int):=(List.range (n+1)).map fun j=>rl p j 0
theorem Zai3 (p n:Nat):(sq p n).length=n+1:=by simp[sq]
theorem sq_at {p n j:Nat} (h:j<=n):(sq p n)[j]?=some (rl p j 0):=by
 unfold sq
 rw[List.getElem?_map,List.getElem?_range (by omega)]; rfl
theorem Zakr (p n:Nat):sq p (n+1)=sq p n++[rl p (n+1) 0]:=by
 unfold sq
 rw[List.range_succ,List.map_append]; rfl
theorem fz_bd {p n:Nat}{m:Int} (hp:2<=p) (h:fz p n m≠0):0<=m/\m<=n:=by
 have hm:=cn_ne.mp h
 exact Zaeg p n _ (List.mem_of_getElem? (rl_at hp (show 0<p by omega))) m hm
theorem fz_nn (p n:Nat) (m:Int):0<=fz p n m:=Zafs _ _
end Lv
namespace L2
open PySem PySem.Spec PyProof.Rows PySem.SeqAt
inductive TyS (H:Hp):V->Value->Prop
 | int (i:Int):TyS H (.int i) (.type "int")
 | bl (b:Bool):TyS H (.bl b) (.type "bool")
 | lst {a:Addr}{xs:List V} (e:H a=some (.lst xs)):TyS H (.ref a) (.type "list")
 | tup {a:Addr}{xs:List V} (e:H a=some (.tup xs)):TyS H (.ref a) (.type "tuple")
section
variable {X:Cx}
end
end L2
namespace HT
open PySem PySem.Spec PyProof.Rows
section
variable {prog:Program}{w:World}{A:Around}{E:Value->Shared->Prop}{s:Shared}
end
end HT
namespace L2
open PySem PySem.Spec PyProof.Rows PySem.SeqAt
inductive TyA (H:Hp):V->String->Prop
 | non:TyA H .non "NoneType"
 | int (i:Int):TyA H (.int i) "int"
 | bl (b:Bool):TyA H (.bl b) "bool"
 | str (x:Str):TyA H (.str x) "str"
 | lst {a:Addr}{xs:List V} (e:H a=some (.lst xs)):TyA H (.ref a) "list"
 | tup {a:Addr}{xs:List V} (e:H a=some (.tup xs)):TyA H (.ref a) "tuple"
 | dK {a:Addr}{kvs:List (Key × V)} (e:H a=some (.dK kvs)):TyA H (.ref a) "dict"
section
variable {X:Cx}
end
end L2
namespace Lv
open PySem L2 PySem.W
def ZagH (K:Frag) (reel C:Addr) (all:List Addr):Bool:=excAll K C && (exmOne K (.ref C) (.ref reel) == some true && (kitOne K (.ref C) (.ref reel) == some true && (kitOne K (.ref C) (.type "ValueError") == some true && all.all fun D=>kitOne K (.ref C) (.ref D) == some (D == C))))
structure ExcTab (K:Frag) (reel C:Addr) (all:List Addr):Prop where
 ok:excAll K C=true
 exm:exmOne K (.ref C) (.ref reel)=some true
 isR:kitOne K (.ref C) (.ref reel)=some true
 isV:kitOne K (.ref C) (.type "ValueError")=some true
 one:∀ D∈all,kitOne K (.ref C) (.ref D)=some (D == C)
theorem ExcTab.of {K:Frag}{reel C:Addr}{all:List Addr} (h:ZagH K reel C all=true):ExcTab K reel C all:=by
 simp only[ZagH,Bool.and_eq_true,beq_iff_eq,List.all_eq_true] at h
 exact⟨h.1,h.2.1,h.2.2.1,h.2.2.2.1,h.2.2.2.2⟩
theorem ExcTab.any {K:Frag}{reel C:Addr}{all:List Addr} (h:ExcTab K reel C all):∀ {cs:List Addr},(∀ D∈cs,D∈all)->kitAny K (.ref C) (cs.map Value.ref)=some (cs.any (· == C))
 | [],_=>rfl
 | D::cs,hs=>by
  have h1:=h.one D (hs D List.mem_cons_self)
  rw[List.map_cons,kitAny,h1,List.any_cons]
  cases e:(D == C) with
  | true=>rfl
  | false=>exact h.any fun E hE=>hs E (List.mem_cons_of_mem _ hE)
structure Excs (K:Frag) (mg:Str->Option Value) where
 reel:Addr
 nWays:Addr
 nRoom:Addr
 nLevel:Addr
 nStand:Addr
 tMany:Addr
 tFew:Addr
 nPlace:Addr
 nText:Addr
 nLine:Addr
 nBack:Addr
 nPhase:Addr
 clash:Addr
 mReel:mg "ReelError"=some (.ref reel)
 mWays:mg "NoWays"=some (.ref nWays)
 mRoom:mg "NoRoom"=some (.ref nRoom)
 mLevel:mg "NoLevel"=some (.ref nLevel)
 mStand:mg "NoStanding"=some (.ref nStand)
 mMany:mg "TooMany"=some (.ref tMany)
 mFew:mg "TooFew"=some (.ref tFew)
 mPlace:mg "NoPlace"=some (.ref nPlace)
 mText:mg "NoText"=some (.ref nText)
 mLine:mg "NoLine"=some (.ref nLine)
 mBack:mg "NoBack"=some (.ref nBack)
 mPhase:mg "NoPhase"=some (.ref nPhase)
 mClash:mg "Clash"=some (.ref clash)
 nd:([nWays,nRoom,nLevel,nStand,tMany,tFew,nPlace,nText,nLine,nBack,nPhase,clash]:List Addr).Nodup
def Excs.all {K:Frag}{mg:Str->Option Value} (X:Excs K mg):List Addr:=[X.nWays,X.nRoom,X.nLevel,X.nStand,X.tMany,X.tFew,X.nPlace,X.nText,X.nLine,X.nBack,X.nPhase,X.clash]
theorem Zaei:bootBuiltins "ValueError"=some (.type "ValueError"):=by decide +kernel
def anT:List String:=["NoneType","bool","int","str","list","tuple","dict"]
theorem Zagx {K:PySem.W.Frag}{T:String} (h:T∈anT):PySem.W.kitOne K (.type T) (.type "int")=some (decide (T="int") || decide (T="bool")):=by
 simp only[anT,List.mem_cons,List.not_mem_nil,or_false] at h
 rcases h with rfl | rfl | rfl | rfl | rfl | rfl | rfl
 all_goals with_unfolding_all rfl
theorem ZacA {K:PySem.W.Frag}{T:String} (h:T∈anT):PySem.W.kitOne K (.type T) (.type "bool")=some (decide (T="bool")):=by
 simp only[anT,List.mem_cons,List.not_mem_nil,or_false] at h
 rcases h with rfl | rfl | rfl | rfl | rfl | rfl | rfl
 all_goals with_unfolding_all rfl
structure Thing (K:Frag) (H:Hp) (v:V) (T:String):Prop where
 ty:TyOf K H v (.type T)
 mem:T∈anT
theorem Thing.same {K:Frag}{H H':Hp}{v:V}{T:String} (h:Thing K H v T) (s:Same H H'):Thing K H' v T:=by
 obtain⟨ty,m⟩:=h
 refine⟨?_,m⟩
 generalize hv:Value.type T=t at ty
 cases ty with
 | non=>exact .non
 | bl x=>exact .bl x
 | int i=>exact .int i
 | str x=>exact .str x
 | flt x=>exact .flt x
 | lst e=>exact .lst (s _ _ e)
 | frz e=>exact .frz (s _ _ e)
 | tup e=>exact .tup (s _ _ e)
 | dK e=>exact .dK (s _ _ e)
 | dT e=>exact .dT (s _ _ e)
 | ins e=>cases hv
def ZacO (K:Frag):Sp:=fun vs H Q _=>∃ (x:V) (T:String),vs=[x]/\Thing K H x T/\Q (.bl (decide (T="int"))) H
def NotIn (lo hi:Int) (v:V) (T:String):Prop:=T≠"int"∨∃ i,v=.int i/\¬ (lo<=i/\i<=hi)
def Zahb (K:Frag) (lo hi:Int) (C:Addr):Sp:=fun vs H Q E=>∃ (v:V) (T:String),vs=[v]/\Thing K H v T/\((∃ i,v=.int i/\lo<=i/\i<=hi/\Q .non H)∨(NotIn lo hi v T/\E (.ref C) none H))
theorem FnOk.or {P : Program} {w : World} {K : Frag} {mg : Str → Option Value} {base : Heap} {CX : CXT} {k : Nat} {f : Addr} {fd : FuncData} {ps : List Str} {sp sp' : Sp} (F : FnOk P w K mg base CX k f fd ps sp) (F' : FnOk P w K mg base CX k f fd ps sp') :
  FnOk P w K mg base CX k f fd ps (fun vs H Q E=>sp vs H Q E∨sp' vs H Q E) :=
 ⟨fun vs H Q E h=>h.elim (F.len vs H Q E) (F'.len vs H Q E),fun A outer s H args us vs Q E hr he hb hv h=>h.elim (F.run A outer s H args us vs Q E hr he hb hv) (F'.run A outer s H args us vs Q E hr he hb hv)⟩
end Lv
namespace Lv
open PySem L2 PySem.W
theorem Thing.ty_int {K:Frag}{H:Hp}{i:Int}{T:String} (h:Thing K H (.int i) T):T="int":=by
 obtain⟨ty,m⟩:=h
 cases ty
 rfl
end Lv
namespace Lv
open PySem L2 PySem.W
theorem ExcTab.none {K:Frag}{reel C:Addr}{all cs:List Addr} (h:ExcTab K reel C all) (hs:∀ D∈cs,D∈all) (hn:∀ D∈cs,D≠C):kitAny K (.ref C) (cs.map Value.ref)=some false:=by
 rw[h.any hs]
 congr 1
 rw[List.any_eq_false]
 intro D hD z
 exact hn D hD (beq_iff_eq.mp z)
theorem ExcTab.no {K:Frag}{reel C D:Addr}{all:List Addr} (h:ExcTab K reel C all) (hs:D∈all) (hn:D≠C):kitOne K (.ref C) (.ref D)=some false:=by
 rw[h.one D hs]
 congr 1
 exact beq_eq_false_iff_ne.mpr hn
theorem ExcTab.yes {K:Frag}{reel C:Addr}{all:List Addr} (h:ExcTab K reel C all) (hs:C∈all):kitOne K (.ref C) (.ref C)=some true:=by
 rw[h.one C hs]
 congr 1
 exact beq_self_eq_true C
theorem Excs.far {K:Frag}{mg:Str->Option Value} (X:Excs K mg):∀ i j:Nat,i<12->j<12->i≠j->X.all.getD i 0≠X.all.getD j 0:=by
 intro i j hi hj hne z
 have h12:X.all.length=12:=rfl
 rw[List.getD_eq_getElem?_getD,List.getD_eq_getElem?_getD,List.getElem?_eq_getElem (by omega),List.getElem?_eq_getElem (by omega)] at z
 have nd:X.all.Nodup:=X.nd
 exact hne ((List.getElem_inj nd).mp z)
end Lv
namespace Lv
open PySem L2 PySem.W
theorem Zaa9 {X:Cx}{x:Str}{c:Addr}{pos:Pos} (hg:Gl X x) (hm:X.mg x=some (.ref c)) (hd:(x == ("__debug__":Str))=false:=by decide):PE X (.Name x pos) (tC (.ref c)):=Zagd (v:=.ref c) hg hm rfl hd
end Lv
namespace L2
open PySem PySem.Spec PyProof.Rows PySem.W
end L2
namespace Lv
open PySem L2 PySem.W
theorem Thing.sm {K:Frag}{H H':Hp}{v:V}{T:String}{p:Addr} (h:Thing K H v T) (hne:∀ q,v=.ref q->q≠p) (s:Sm p H H'):Thing K H' v T:=by
 obtain⟨ty,m⟩:=h
 refine⟨?_,m⟩
 generalize hv:Value.type T=t at ty
 cases ty with
 | non=>exact .non
 | bl x=>exact .bl x
 | int i=>exact .int i
 | str x=>exact .str x
 | flt x=>exact .flt x
 | lst e=>exact .lst (s _ _ e (hne _ rfl))
 | frz e=>exact .frz (s _ _ e (hne _ rfl))
 | tup e=>exact .tup (s _ _ e (hne _ rfl))
 | dK e=>exact .dK (s _ _ e (hne _ rfl))
 | dT e=>exact .dT (s _ _ e (hne _ rfl))
 | ins e=>cases hv
end Lv
namespace Lv
open PySem L2 PySem.Spec PyProof.Rows
end Lv
namespace L2
open PySem PySem.Spec PyProof.Rows PySem.SeqAt
section
variable {X:Cx}
end
end L2
namespace L2
open PySem PySem.Spec PyProof.Rows PySem.SeqAt
section
variable {X:Cx}
end
end L2
namespace L2
open PySem PySem.Spec PyProof.Rows PySem.SeqAt
section
variable {X:Cx}{e st:Expr}{te:TE}{ts:TO}{pos p2:Pos}
end
end L2
namespace Lv
open PySem L2
structure IsTop (d:List Int) (r:Nat):Prop where
 lt:r<d.length
 ge:∀ j (h:j<d.length),d[j]<=d[r]
 fst:∀ j (h:j<r),d[j]<d[r]
end Lv
namespace L2
open PySem PySem.Spec PyProof.Rows PySem.SeqAt
section
variable {X:Cx}
end
end L2
namespace Lv
open PySem L2
end Lv
namespace Lv
open PySem L2
end Lv
namespace L2
open PySem PySem.Spec PyProof.Rows PySem.SeqAt
section
variable {X:Cx}
def tBMT (r:V->List V->Hp->VK->Prop) (to:TE) (t:TA):TE:=fun σ H Q=>to σ H fun x H1=>(∃ p xs,x=.ref p/\H1 p=some (.tup xs))/\t σ H1 fun xs H2=>r x xs H2 Q
theorem Zal3 {o e : Expr} {es : List Expr} {to : TE} {t : TA} {name : Str} {apos cpos : Pos} {id : String} {r : V → List V → Hp → VK → Prop} (slot : Slot "tuple" name id) (hty : typeOf (.builtin id) = pure (.type "method_descriptor")) (hm : MtR X id r) (ho : PE X o to) (ha : PA X (e :: es) t)
  (hbase:attributeBase o name X.env (eval o X.env)=eval o X.env:=by rfl)
  (hfew:((backTo cpos (starEach (e::es) X.env)).all (fun x=>!x.1) && (backToKw cpos (keywordEach [] X.env)).all (fun x=>x.1.isSome) && decide ((e::es).length+([]:List Keyword).length+(if ([]:List Keyword).isEmpty then 0 else 1)<30))=true:=by rfl)
  (hline:(apos.endLine == cpos.line)=true:=by rfl) (hs:starEach (e::es) X.env=(false,eval e X.env)::starEach es X.env:=by rfl) (hplain:(backTo cpos (starEach es X.env)).any (·.1)=false:=by rfl):PE X (.Call (.Attribute o name apos) (e::es) [] cpos) (tBMT r to t):=by
 intro pins s σ H Q I h
 refine wpAny_Call_method_late hbase hfew hline rfl (thn (ho pins s σ H _ I h) fun v s1 ⟨x,H1,I1,r1,⟨p,xs,ex,hp⟩,q1⟩=>?_)
 subst ex
 cases r1
 obtain⟨_,its,_,ob,h1,h2,h3,_⟩:=(show ObjOk X.prog X.w H1 s1.heap p (.tup xs) from I1.hok p _ hp)
 refine⟨"tuple",id,F.plainAttrs_tuple,slot,hty,⟨ob,h1,h2⟩,fun a e=>?_,?_⟩
 ·cases e
  exact⟨ob,h1,h3⟩
 have hA:=ha cpos pins s1 σ H1 _ I1 q1
 rw[hs] at hA ⊢
 refine Calls.callWith_builtin (by show (false || (backTo cpos (starEach es X.env)).any (·.1))=false; rw[hplain] <;> rfl) (Calls.evalArgs_plain ?_)
 exact thn hA fun us s2 ⟨vs,H2,I2,r2,q2⟩=>hm pins s2 σ H2 (.ref p) vs (.ref p) us Q I2 rfl r2 q2
def isB (b:Bool) (y:Value):Bool:=match y with | .bool c=>c == b | _=>false
theorem Zac0 (b:Bool):∀ {bs:List Bool}{its:List Value},Vals (bs.map V.bl) its->its.countP (isB b)=bs.count b
 | [],_,r=>by cases r; rfl
 | c::bs,_,r=>by
  cases r with
  | cons r1 r2=>
   cases r1
   rw[List.countP_cons,List.count_cons,Zac0 b r2]
   rfl
theorem ZahF:MtR X "tuple.count" (fun x vs H Q=>∃ (l:Addr) (bs:List Bool) (b:Bool),x=.ref l/\vs=[.bl b]/\H l=some (.tup (bs.map V.bl))/\Q (.int (bs.count b:Nat)) H):=by
 intro pins s σ H x vs v us Q I rx rv h
 obtain⟨l,bs,b,rfl,rfl,hq,q⟩:=h
 cases rx
 obtain⟨u,rfl,ru⟩:=vals1 rv
 cases ru
 obtain⟨_,its,r,⟨cls,dd,data,sl⟩,ho,hc,hdn,n,hd⟩:=(show ObjOk X.prog X.w H s.heap l (.tup (bs.map V.bl)) from I.hok l _ hq)
 simp only at hc hd
 subst hc hd
 have ev:∀ y∈its,∃ c:Bool,y=.bool c:=fun y hy=>by
  obtain⟨i,hi,rfl⟩:=List.getElem_of_mem hy
  have hi':i<bs.length:=by have:=r.length; rw[List.length_map] at this; omega
  obtain⟨u,hu,ru⟩:=r.get (x:=V.bl bs[i]) (i:=i) (by rw[List.getElem?_map,List.getElem?_eq_getElem hi']; rfl)
  cases ru
  rw[List.getElem?_eq_getElem hi] at hu
  exact⟨_,Option.some.inj hu⟩
 have ec:=Zac0 b r
 refine call_meets F.slot_tuple_count ⟨_,ho,rfl⟩ F.entry_tuple_count (F.args_tuple_count_2 _ _) (tuple_countAt l its.toArray n dd sl (.bool b) (isB b)) ⟨ho,fun y hy=>?_,?_⟩
 ·obtain⟨c,rfl⟩:=ev y (by simpa using hy)
  exact EqAt.bool_bool c b
 ·refine⟨.int _,H,I.tok _,⟨s.toks,?_⟩,q⟩
  rw[<- ec]
end
end L2
namespace L2
open PySem PySem.Spec PyProof.Rows PySem.SeqAt
theorem ZagT {bs:List Bool}{its:List Value} (r:Vals (bs.map V.bl) its):∀ y∈its,∃ c:Bool,y=.bool c:=fun y hy=>by
 obtain⟨i,hi,rfl⟩:=List.getElem_of_mem hy
 have hi':i<bs.length:=by have:=r.length; rw[List.length_map] at this; omega
 obtain⟨u,hu,ru⟩:=r.get (x:=V.bl bs[i]) (i:=i) (by rw[List.getElem?_map,List.getElem?_eq_getElem hi']; rfl)
 cases ru
 rw[List.getElem?_eq_getElem hi] at hu
 exact⟨_,Option.some.inj hu⟩
theorem Zaln (b:Bool) {bs:List Bool}{its:List Value} (r:Vals (bs.map V.bl) its) (j:Nat) (h1:j<its.length) (h2:j<bs.length):isB b its[j]=(bs[j] == b):=by
 obtain⟨u,hu,ru⟩:=r.get (x:=V.bl bs[j]) (i:=j) (by rw[List.getElem?_map,List.getElem?_eq_getElem h2]; rfl)
 cases ru
 rw[List.getElem?_eq_getElem h1] at hu
 rw[Option.some.inj hu]
 rfl
theorem Zalp (b:Bool):∀ (l:List Bool) (j:Nat) (hj:j<l.length),j<l.idxOf b->(l[j] == b)=false
 | [],j,hj,_=>by simp at hj
 | a::r,j,hj,hlt=>by
  rw[List.idxOf_cons] at hlt
  cases ha:(a == b) with
  | true=>rw[ha] at hlt; simp at hlt
  | false=>
   rw[ha] at hlt
   cases j with
   | zero=>exact ha
   | succ j=>exact Zalp b r j (by simpa using hj) (by simpa using hlt)
section
variable {X:Cx}
theorem ZahG:MtM X "list.count" (fun x vs H Q=>∃ (l:Addr) (bs:List Bool) (b:Bool),x=.ref l/\vs=[.bl b]/\SqL X.K H l (bs.map V.bl)/\Q (.int (bs.count b:Nat)) H):=by
 intro pins s σ H x vs v us Q I rx rv h
 obtain⟨l,bs,b,rfl,rfl,hq,q⟩:=h
 cases rx
 obtain⟨u,rfl,ru⟩:=rv.one
 cases ru
 obtain⟨its,r,p,hz⟩:=I.list hq
 obtain⟨⟨cls,dd,data,sl⟩,ho,hc,n,hd⟩:=p.isList
 simp only at hc hd
 subst hc hd
 have ec:=Zac0 b r
 refine call_meets F.slot_list_count ⟨_,ho,rfl⟩ F.entry_list_count (F.args_list_count_2 _ _) (list_countAt l its.toArray n dd sl (.bool b) (isB b)) ⟨ho,fun y hy=>?_,?_⟩
 ·obtain⟨c,rfl⟩:=ZagT r y (by simpa using hy)
  exact EqAt.bool_bool c b
 ·refine⟨.int _,H,I.tok _,⟨s.toks,?_⟩,q⟩
  rw[<- ec]
theorem ZahE:MtM X "list.index" (fun x vs H Q=>∃ (l:Addr) (bs:List Bool) (b:Bool),x=.ref l/\vs=[.bl b]/\SqL X.K H l (bs.map V.bl)/\b∈bs/\Q (.int (bs.idxOf b:Nat)) H):=by
 intro pins s σ H x vs v us Q I rx rv h
 obtain⟨l,bs,b,rfl,rfl,hq,hi,q⟩:=h
 cases rx
 obtain⟨u,rfl,ru⟩:=rv.one
 cases ru
 obtain⟨its,r,p,hz⟩:=I.list hq
 obtain⟨⟨cls,dd,data,sl⟩,ho,hc,n,hd⟩:=p.isList
 simp only at hc hd
 subst hc hd
 have hlen:its.length=bs.length:=by rw[<- r.length,List.length_map]
 have hj:bs.idxOf b<bs.length:=List.idxOf_lt_length_iff.mpr hi
 have hb:bs.length<=16777216:=by rw[List.length_map] at hz; exact hz
 refine call_meets F.slot_list_index ⟨_,ho,rfl⟩ F.entry_list_index (F.args_list_index_2 _ _) (list_indexAt l its.toArray n dd sl (.bool b) (isB b) (bs.idxOf b) (by simpa[hlen] using hj) (by omega) ?_ ?_) ⟨ho,fun y hy=>?_,⟨.int _,H,I.tok _,⟨s.toks,rfl⟩,q⟩⟩
 ·show isB b its[bs.idxOf b]=true
  rw[Zaln b r _ (by omega) hj]
  simpa using List.getElem_idxOf hj
 ·intro j hjs hlt
  show isB b its[j]=false
  have hjs':j<its.length:=by simpa using hjs
  rw[Zaln b r j hjs' (by omega)]
  exact Zalp b bs j _ hlt
 ·obtain⟨c,rfl⟩:=ZagT r y (by simpa using hy)
  exact EqAt.bool_bool c b
end
end L2
namespace L2
open PySem PySem.Spec PyProof.Rows PySem.SeqAt
end L2
namespace L2
open PySem PySem.Spec PyProof.Rows PySem.W
structure RoomS (k:Nat) (A:Around):Prop where
 dp:A.depth+3*k+5<recursionLimit
 un:A.units+16*k+200<cLine
 gd:A.guards=some []
structure FnOkS (P:Program) (w:World) (K:PySem.W.Frag) (mg:Str->Option Value) (base:Heap) (CX:CXT) (k:Nat) (f:Addr) (fd:FuncData) (ps:List Str) (sp:Sp):Prop where
 len:∀ vs H Q E,sp vs H Q E->vs.length=ps.length
 run:∀ (A:Around) (outer:List Env) (s:Shared) (H:Hp) (args:Args) (us:List Value) (vs:List V) (Q:VK) (E:XK),RoomS k A->Env0 P w K mg base A outer s H->BindsTo s fd args (ps.zip us)->Vals vs us->sp vs H Q E ->
  codeAny (model P w) A (.call (.ref f) args) (CR CX outer P w H s Q E) s
section
variable {P:Program}{w:World}{K:PySem.W.Frag}{mg:Str->Option Value}{base:Heap}
end
structure CalS (P:Program) (w:World) (K:PySem.W.Frag) (mg:Str->Option Value) (base:Heap) (k:Nat) (x:Str) (ps:List Str) (sp:Sp) (f:Addr) (fd:FuncData):Prop where
 ok:FnOkS P w K mg base CX0 k f fd ps sp
 mg:mg x=some (.ref f)
 kp:PySem.W.keepIn K (.ref f)=true
 bd:Binds K fd ps []
section
variable {X:Cx}
end
end L2
namespace Lv
open PySem L2
def stp (a q:Int × Int):Int × Int:=(a.1+q.1*(if a.2<q.2 then a.2 else q.2),a.2 - (if a.2<q.2 then a.2 else q.2))
def lsF:List (Int × Int)->Int × Int->Int × Int
 | [],a=>a
 | q::M,a=>lsF M (stp a q)
theorem Zagr:∀ (M:List (Int × Int)) (q a:Int × Int),lsF (M++[q]) a=stp (lsF M a) q
 | [],_,_=>rfl
 | x::M,q,a=>by rw[List.cons_append,lsF,lsF,Zagr M]
theorem Zagq {M:List (Int × Int)}{i:Nat}{q:Int × Int} (h:M[i]?=some q) (a:Int × Int):lsF (M.take (i+1)) a=stp (lsF (M.take i) a) q:=by
 rw[List.take_add_one,h]
 exact Zagr _ _ _
theorem Zai2 (a q:Int × Int):(stp a q).2=if a.2<q.2 then 0 else a.2 - q.2:=by
 show a.2 - (if a.2<q.2 then a.2 else q.2)=_
 split <;> omega
theorem Zakp {l:List Int} (h:∀ x∈l,0<=x):0<=l.sum:=by
 induction l with
 | nil=>exact Int.le_refl _
 | cons x r ih=>
  rw[List.sum_cons]
  have:=h x List.mem_cons_self
  have:=ih fun y hy=>h y (List.mem_cons_of_mem _ hy)
  omega
theorem Zad4:∀ (M:List (Int × Int)) (a:Int × Int),0<=a.2->(∀ q∈M,0<=q.2)->(lsF M a).2=if a.2<=(M.map (·.2)).sum then 0 else a.2 - (M.map (·.2)).sum
 | [],a,h,_=>by
  show a.2=_
  simp
  omega
 | q::M,a,h,hq=>by
  have h1:=hq q List.mem_cons_self
  have h2:∀ x∈M,0<=x.2:=fun x hx=>hq x (List.mem_cons_of_mem _ hx)
  have h3:0<=(M.map (·.2)).sum:=Zakp fun x hx=>by
   obtain⟨y,hy,rfl⟩:=List.mem_map.mp hx
   exact h2 y hy
  have e:=Zai2 a q
  rw[lsF,Zad4 M (stp a q) (by rw[e]; split <;> omega) h2,e,List.map_cons,List.sum_cons]
  by_cases c1:a.2<q.2
  ·rw[if_pos c1,if_pos (by omega),if_pos (by omega)]
  ·rw[if_neg c1]
   by_cases c2:a.2 - q.2<=(M.map (·.2)).sum
   ·rw[if_pos c2,if_pos (by omega)]
   ·rw[if_neg c2,if_neg (by omega)]
    omega
theorem Zamd (a b:Int):(if a<b then a else b)=(if b<a then b else a):=by split <;> split <;> omega
theorem ZaiM:∀ {L:List (Int × Int)}{xs:List Int},(L.map (·.1)).Nodup->(∀ m c,(m,c)∈L↔(c=cn xs m/\c≠0))->(L.map (·.2)).sum=xs.length
 | [],xs,_,h=>by
  cases xs with
  | nil=>rfl
  | cons x r=>exact absurd ((h x (cn (x::r) x)).mpr ⟨rfl,cn_ne.mpr List.mem_cons_self⟩) List.not_mem_nil
 | (m,c)::L,xs,nd,h=>by
  rw[List.map_cons,List.nodup_cons] at nd
  obtain⟨h1,h2⟩:=nd
  have hc:=(h m c).mp List.mem_cons_self
  have hL:∀ a b,(a,b)∈L↔(b=cn (xs.filter fun x=>decide (x≠m)) a/\b≠0):=fun a b=>by
   have e:a≠m->cn (xs.filter fun x=>decide (x≠m)) a=cn xs a:=fun z=>by
    unfold cn
    rw[List.count_filter (by simpa using z)]
   constructor
   ·intro hx
    have z:a≠m:=by
     rintro rfl
     exact h1 (List.mem_map.mpr ⟨_,hx,rfl⟩)
    rw[e z]
    exact (h a b).mp (List.mem_cons_of_mem _ hx)
   ·rintro⟨y1,y2⟩
    have z:a≠m:=by
     rintro rfl
     refine y2 ?_
     rw[y1,ZaeU]
     simp
    rw[e z] at y1
    rcases List.mem_cons.mp ((h a b).mpr ⟨y1,y2⟩) with q | q
    ·cases q; exact absurd rfl z
    ·exact q
  rw[List.map_cons,List.sum_cons,ZaiM h2 hL,hc.1]
  unfold cn
  have:∀ ys:List Int,((ys.count m:Nat):Int)+((ys.filter fun x=>decide (x≠m)).length:Nat)=(ys.length:Nat):=by
   intro ys
   induction ys with
   | nil=>rfl
   | cons y r ih=>
    rw[List.count_cons,List.filter_cons]
    by_cases z:y=m
    ·subst z
     rw[if_pos (by simp),if_neg (by simp),List.length_cons]
     omega
    ·rw[if_neg (by simpa using z),if_pos (by simpa using z),List.length_cons,List.length_cons]
     omega
  exact this xs
theorem Rep.mem {kvs:List (Key × V)}{f:Int->Int} (h:Rep kvs f) (m c:Int):(m,c)∈kvs.map Lv.dec↔(c=f m/\c≠0):=by
 constructor
 ·intro hm
  obtain⟨⟨k,v⟩,hp,e⟩:=List.mem_map.mp hm
  obtain⟨m',rfl,rfl,hz⟩:=h.at hp
  have e1:m'=m:=congrArg Prod.fst e
  have e2:f m'=c:=congrArg Prod.snd e
  subst e1 e2
  exact⟨rfl,hz⟩
 ·rintro⟨rfl,hz⟩
  obtain⟨⟨k,v⟩,hp,e⟩:=List.mem_map.mp (h.key hz)
  obtain⟨m',rfl,rfl,_⟩:=h.at hp
  have e1:m'=m:=Sum.inl.inj e
  subst e1
  exact List.mem_map.mpr ⟨_,hp,rfl⟩
theorem ZakE {kvs:List (Key × V)}{xs:List Int} (h:Rep kvs (cn xs)):((kvs.map Lv.dec).map (·.2)).sum=xs.length:=ZaiM h.nd fun m c=>h.mem m c
theorem Zade {M:List (Int × Int)}{xs:List Int} (h:SprL M (cn xs)):∀ q∈M,0<=q.2:=fun q hq=>by
 have:=(h.2 q.1 q.2).mp hq
 rw[this.1]; exact Zafs _ _
def ZadM:Sp:=fun vs H Q _=>∃ (l:Addr) (qs:List Addr) (M:List (Int × Int)) (r:Int),vs=[.ref l,.int r]/\H l=some (.tup (qs.map V.ref))/\TTs H qs (M.map pr2)/\(∀ q∈M,0<=q.1/\q.1<=1000)/\∀ H',Same H H'->Q (if (lsF M (0,r)).2 > 0 then .non else .int (lsF M (0,r)).1) H'
def ZacQ:Sp:=fun vs H Q _=>∃ (d:Addr) (kvs:List (Key × V)) (p n:Nat) (r:Int),vs=[.ref d,.int r]/\2<=p/\n<=300/\H d=some (.dK kvs)/\Rep kvs (cn (num p n).flatten)/\0<=r/\∀ M H',SprL M (cn (num p n).flatten)->Same H H'->Q (.int (lsF M (0,r)).1) H'
end Lv
namespace Lv
open PySem L2
def Zabe (g:Nat->Option Int) (n:Nat) (st:Option (Int × Nat)):Option (Int × Nat) :=
 match g n,st with
 | none,st=>st
 | some r,none=>some (r,n)
 | some r,some q=>if r<q.1 then some (r,n) else some q
def ZagV (c:Nat->Int) (n:Nat):Option (Int × Nat)->Bool
 | none=>false
 | some q=>decide (c n ≥ q.1)
def bo (g:Nat->Option Int) (c:Nat->Int):Nat->Nat->Option (Int × Nat)->Option (Int × Nat)
 | 0,_,st=>st
 | k+1,n,st=>if ZagV c n st=true then st else bo g c k (n+1) (Zabe g n st)
def IsBest (g:Nat->Option Int) (N:Nat):Option (Int × Nat)->Prop
 | none=>∀ n,n<N->g n=none
 | some q=>q.2<N/\g q.2=some q.1/\(∀ n r,n<N->g n=some r->q.1<=r)/\∀ n r,n<q.2->g n=some r->q.1<r
theorem IsBest.step {g:Nat->Option Int}{n:Nat}{st:Option (Int × Nat)} (h:IsBest g n st):IsBest g (n+1) (Zabe g n st):=by
 unfold Zabe
 cases hg:g n with
 | none=>
  cases st with
  | none=>
   intro m hm
   by_cases e:m=n
   ·rw[e]; exact hg
   ·exact h m (by omega)
  | some q=>
   obtain⟨a,b,c,d⟩:=h
   refine⟨by omega,b,fun m r hm hr=>?_,d⟩
   by_cases e:m=n
   ·rw[e,hg] at hr; cases hr
   ·exact c m r (by omega) hr
 | some r=>
  cases st with
  | none=>
   refine⟨Nat.lt_succ_self _,hg,fun m r2 hm hr=>?_,fun m r2 hm hr=>?_⟩
   ·by_cases e:m=n
    ·rw[e,hg] at hr; cases hr; exact Int.le_refl _
    ·rw[h m (by omega)] at hr; cases hr
   ·rw[h m hm] at hr; cases hr
  | some q=>
   obtain⟨a,b,c,d⟩:=h
   show IsBest g (n+1) (if r<q.1 then some (r,n) else some q)
   by_cases e:r<q.1
   ·rw[if_pos e]
    refine⟨Nat.lt_succ_self _,hg,fun m r2 hm hr=>?_,fun m r2 hm hr=>?_⟩
    ·by_cases e2:m=n
     ·rw[e2,hg] at hr; cases hr; exact Int.le_refl _
     ·have:=c m r2 (by omega) hr
      show r<=r2
      omega
    ·have:=c m r2 hm hr
     show r<r2
     omega
   ·rw[if_neg e]
    refine⟨by omega,b,fun m r2 hm hr=>?_,d⟩
    by_cases e2:m=n
    ·rw[e2,hg] at hr; cases hr; omega
    ·exact c m r2 (by omega) hr
def ZaiT (xs:List Int) (m:Int):Prop:=m∈xs/\∀ z∈xs,m<=z
theorem Zag9 {q:Int × Int}{M:List (Int × Int)}{xs:List Int} (h:SprL (q::M) (cn xs)):ZaiT xs q.1:=by
 refine⟨(Zabf h q.1).mp (List.mem_map.mpr ⟨q,List.mem_cons_self,rfl⟩),fun z hz=>?_⟩
 have hm:=(Zabf h z).mpr hz
 rcases List.mem_cons.mp (show z∈q.1::M.map (·.1) from hm) with e | e
 ·omega
 ·obtain⟨y,hy,rfl⟩:=List.mem_map.mp e
  have:=(List.pairwise_cons.mp h.1).1 y hy
  omega
def sprC (xs:List Int):List (Int × Int):=((List.range 401).map fun (m:Nat)=>((m:Int),cn xs m)).filter fun q=>decide (q.2≠0)
theorem Zaet {xs:List Int} (hb:∀ m∈xs,0<=m/\m<=400):SprL (sprC xs) (cn xs):=by
 refine⟨?_,fun m c=>?_⟩
 ·refine List.Pairwise.filter _ ?_
  rw[List.pairwise_map]
  exact List.pairwise_lt_range.imp fun h=>by
   show ((_:Nat):Int)<((_:Nat):Int)
   omega
 ·unfold sprC
  rw[List.mem_filter,List.mem_map]
  constructor
  ·rintro⟨⟨j,_,e⟩,h⟩
   cases e
   exact⟨rfl,of_decide_eq_true h⟩
  ·rintro⟨rfl,h⟩
   obtain⟨h0,h1⟩:=hb m (cn_ne.mp h)
   refine⟨⟨m.toNat,List.mem_range.mpr (by omega),?_⟩,decide_eq_true h⟩
   rw[Int.toNat_of_nonneg h0]
theorem Zaks {xs:List Int}{L:List (Int × Int)} (hb:∀ m∈xs,0<=m/\m<=400) (h:SprL L (cn xs)):L=sprC xs:=h.uniq (Zaet hb)
def Zagu (xs:List Int) (rows:Int):Option Int:=if (lsF (sprC xs) (0,rows)).2 > 0 then none else some (lsF (sprC xs) (0,rows)).1
end Lv
namespace Lv
open PySem L2
def pz (x:Int):Int:=if x<0 then 0 else x
theorem pz_nn (x:Int):0<=pz x:=by unfold pz; split <;> omega
def svM (M:List (Int × Int)) (t:Int):Int:=(M.map fun q=>q.2*pz (t - q.1)).sum
def sv (xs:List Int) (t:Int):Int:=(xs.map fun x=>pz (t - x)).sum
theorem ZacX:∀ (M:List (Int × Int)) (a b r:Int),lsF M (a+b,r)=(a+(lsF M (b,r)).1,(lsF M (b,r)).2)
 | [],a,b,r=>rfl
 | q::M,a,b,r=>by
  show lsF M (stp (a+b,r) q)=(a+(lsF M (stp (b,r) q)).1,(lsF M (stp (b,r) q)).2)
  have e:stp (a+b,r) q=(a+(stp (b,r) q).1,(stp (b,r) q).2):=by
   unfold stp
   dsimp only
   rw[Int.add_assoc]
  rw[e,ZacX M]
theorem Zads:∀ (M:List (Int × Int)) (a:Int),(∀ q∈M,0<=q.2)->lsF M (a,0)=(a,0)
 | [],a,_=>rfl
 | q::M,a,h=>by
  have h1:=h q List.mem_cons_self
  have e:stp (a,0) q=(a,0):=by
   unfold stp
   dsimp only
   by_cases z:(0:Int)<q.2
   ·rw[if_pos z]; simp
   ·rw[if_neg z,show q.2=0 by omega]; simp
  show lsF M (stp (a,0) q)=_
  rw[e]
  exact Zads M a fun x hx=>h x (List.mem_cons_of_mem _ hx)
theorem ZaiG (t:Int):∀ (M:List (Int × Int)) (r:Int),0<=r->(∀ q∈M,0<=q.2)->(lsF M (0,r)).2=0->r*t - svM M t<=(lsF M (0,r)).1
 | [],r,_,_,h=>by
  have h:r=0:=h
  subst h
  simp[svM,lsF]
 | q::M,r,h0,hq,h=>by
  have h1:=hq q List.mem_cons_self
  obtain⟨k,ek,k0,kr,kq⟩:∃ k,(if r<q.2 then r else q.2)=k/\0<=k/\k<=r/\k<=q.2:=⟨_,rfl,by split <;> omega,by split <;> omega,by split <;> omega⟩
  have e:stp (0,r) q=(q.1*k+0,r - k):=by unfold stp; dsimp only; rw[ek,Int.zero_add,Int.add_zero]
  have hl:lsF (q::M) (0,r)=(q.1*k+(lsF M (0,r - k)).1,(lsF M (0,r - k)).2):=by
   show lsF M (stp (0,r) q)=_
   rw[e,ZacX]
  rw[hl] at h ⊢
  have ih:=ZaiG t M (r - k) (by omega) (fun x hx=>hq x (List.mem_cons_of_mem _ hx)) h
  have es:svM (q::M) t=q.2*pz (t - q.1)+svM M t:=rfl
  rw[es]
  show r*t - (q.2*pz (t - q.1)+svM M t)<=q.1*k+(lsF M (0,r - k)).1
  have e1:(r - k)*t=r*t - k*t:=Int.sub_mul ..
  have key:k*t - q.1*k<=q.2*pz (t - q.1):=by
   have e2:k*t - q.1*k=k*(t - q.1):=by rw[Int.mul_sub,Int.mul_comm q.1 k]
   rw[e2]
   unfold pz
   by_cases z:t - q.1<0
   ·rw[if_pos z,Int.mul_zero]
    have:=Int.mul_le_mul_of_nonneg_left (show t - q.1<=0 by omega) k0
    simpa using this
   ·rw[if_neg z]
    exact Int.mul_le_mul_of_nonneg_right kq (by omega)
  omega
theorem Zaij {θ:Int}:∀ {M:List (Int × Int)},(∀ q∈M,θ<=q.1)->svM M θ=0
 | [],_=>rfl
 | q::M,h=>by
  have h1:=h q List.mem_cons_self
  have e:svM (q::M) θ=q.2*pz (θ - q.1)+svM M θ:=rfl
  rw[e,Zaij fun x hx=>h x (List.mem_cons_of_mem _ hx),show pz (θ - q.1)=0 by unfold pz; split <;> omega]
  simp
theorem ZaiH:∀ (M:List (Int × Int)) (r:Int),1<=r->M.Pairwise (fun p q=>p.1<q.1)->(∀ q∈M,0<=q.2)->r<=(M.map (·.2)).sum->∃ θ∈M.map (·.1),(lsF M (0,r)).1=r*θ - svM M θ
 | [],r,h1,_,_,h=>by simp at h; omega
 | q::M,r,h1,hp,hq,h=>by
  have hq1:=hq q List.mem_cons_self
  obtain⟨hp1,hp2⟩:=List.pairwise_cons.mp hp
  have hq2:∀ x∈M,0<=x.2:=fun x hx=>hq x (List.mem_cons_of_mem _ hx)
  have es:∀ t,svM (q::M) t=q.2*pz (t - q.1)+svM M t:=fun t=>rfl
  by_cases z:r<=q.2
  ·refine⟨q.1,List.mem_map.mpr ⟨q,List.mem_cons_self,rfl⟩,?_⟩
   have e:stp (0,r) q=(q.1*r,0):=by
    unfold stp
    dsimp only
    by_cases y:r<q.2
    ·rw[if_pos y]; simp
    ·rw[if_neg y,show q.2=r by omega]; simp
   show (lsF M (stp (0,r) q)).1=_
   rw[e,Zads M _ hq2,es,Zaij fun x hx=>Int.le_of_lt (hp1 x hx),show pz (q.1 - q.1)=0 by unfold pz; split <;> omega]
   show q.1*r=r*q.1 - (q.2*0+0)
   rw[Int.mul_zero,Int.mul_comm]
   omega
  ·rw[List.map_cons,List.sum_cons] at h
   obtain⟨θ,hm,e⟩:=ZaiH M (r - q.2) (by omega) hp2 hq2 (by omega)
   refine⟨θ,List.mem_map.mpr ?_,?_⟩
   ·obtain⟨y,hy,e⟩:=List.mem_map.mp hm
    exact⟨y,List.mem_cons_of_mem _ hy,e⟩
   ·have hlt : q.1 < θ := by
     obtain⟨y,hy,rfl⟩:=List.mem_map.mp hm
     exact hp1 y hy
    have e2:stp (0,r) q=(q.1*q.2+0,r - q.2):=by
     unfold stp
     dsimp only
     rw[if_neg (by omega),Int.zero_add,Int.add_zero]
    show (lsF M (stp (0,r) q)).1=_
    rw[e2,ZacX,es,show pz (θ - q.1)=θ - q.1 by unfold pz; split <;> omega]
    show q.1*q.2+(lsF M (0,r - q.2)).1=_
    rw[e,Int.sub_mul,Int.mul_sub,Int.mul_comm q.1 q.2]
    omega
theorem sumF (f:Int->Int):∀ {L:List (Int × Int)}{xs:List Int},(L.map (·.1)).Nodup->(∀ m c,(m,c)∈L↔(c=cn xs m/\c≠0))->(L.map fun q=>q.2*f q.1).sum=(xs.map f).sum
 | [],xs,_,h=>by
  cases xs with
  | nil=>rfl
  | cons x r=>exact absurd ((h x (cn (x::r) x)).mpr ⟨rfl,cn_ne.mpr List.mem_cons_self⟩) List.not_mem_nil
 | (m,c)::L,xs,nd,h=>by
  rw[List.map_cons,List.nodup_cons] at nd
  obtain⟨h1,h2⟩:=nd
  have hc:=(h m c).mp List.mem_cons_self
  have hL:∀ a b,(a,b)∈L↔(b=cn (xs.filter fun x=>decide (x≠m)) a/\b≠0):=fun a b=>by
   have e:a≠m->cn (xs.filter fun x=>decide (x≠m)) a=cn xs a:=fun z=>by
    unfold cn
    rw[List.count_filter (by simpa using z)]
   constructor
   ·intro hx
    have z:a≠m:=by
     rintro rfl
     exact h1 (List.mem_map.mpr ⟨_,hx,rfl⟩)
    rw[e z]
    exact (h a b).mp (List.mem_cons_of_mem _ hx)
   ·rintro⟨y1,y2⟩
    have z:a≠m:=by
     rintro rfl
     refine y2 ?_
     rw[y1,ZaeU]
     simp
    rw[e z] at y1
    rcases List.mem_cons.mp ((h a b).mpr ⟨y1,y2⟩) with q | q
    ·cases q; exact absurd rfl z
    ·exact q
  rw[List.map_cons,List.sum_cons,sumF f h2 hL,hc.1]
  unfold cn
  have:∀ ys:List Int,((ys.count m:Nat):Int)*f m+((ys.filter fun x=>decide (x≠m)).map f).sum=(ys.map f).sum:=by
   intro ys
   induction ys with
   | nil=>simp
   | cons y r ih=>
    rw[List.count_cons,List.filter_cons]
    by_cases z:y=m
    ·subst z
     rw[if_pos (by simp),if_neg (by simp),List.map_cons,List.sum_cons,<- ih,Int.natCast_add,Int.add_mul]
     simp
     omega
    ·rw[if_neg (by simpa using z),if_pos (by simpa using z),List.map_cons,List.map_cons,List.sum_cons,List.sum_cons,<- ih]
     simp
     omega
  exact this xs
theorem sv_of {M:List (Int × Int)}{xs:List Int} (h:SprL M (cn xs)) (t:Int):svM M t=sv xs t:=sumF (fun x=>pz (t - x)) (ZalY h) h.2
def Sub (ys xs:List Int):Prop:=∀ m,cn ys m<=cn xs m
theorem Zajp {xs ys:List Int} (h:xs.Perm ys):xs.sum=ys.sum:=by
 induction h with
 | nil=>rfl
 | cons x _ ih=>simp[ih]
 | swap x y l=>simp only[List.sum_cons]; omega
 | trans _ _ h1 h2=>exact h1.trans h2
theorem sv_ge (t:Int):∀ ys:List Int,(ys.length:Int)*t - sv ys t<=ys.sum
 | []=>by simp[sv]
 | y::ys=>by
  have ih:=sv_ge t ys
  have e:sv (y::ys) t=pz (t - y)+sv ys t:=rfl
  rw[e,List.sum_cons,List.length_cons,Int.natCast_add,Int.add_mul]
  have:t - y<=pz (t - y):=by unfold pz; split <;> omega
  simp
  omega
structure Lst (xs:List Int) (r v:Int):Prop where
 le:∀ t,r*t - sv xs t<=v
 eq:∃ θ∈xs,v=r*θ - sv xs θ
theorem Zalf {M:List (Int × Int)}{xs:List Int}{r:Int} (h:SprL M (cn xs)) (h1:1<=r) (hr:r<=xs.length):(lsF M (0,r)).2=0/\Lst xs r (lsF M (0,r)).1:=by
 have hn:=Zade h
 have hs:=ZafM h
 have hl:(lsF M (0,r)).2=0:=by
  rw[Zad4 M (0,r) (by show (0:Int)<=r; omega) hn,hs]
  exact if_pos hr
 refine⟨hl,fun t=>?_,?_⟩
 ·rw[<- sv_of h]
  exact ZaiG t M r (by omega) hn hl
 ·obtain⟨θ,hm,e⟩:=ZaiH M r h1 h.1 hn (by rw[hs]; exact hr)
  exact⟨θ,(Zabf h θ).mp hm,by rw[<- sv_of h]; exact e⟩
theorem sv_nn (xs:List Int) (t:Int):0<=sv xs t:=Zakp fun x hx=>by
 obtain⟨y,_,rfl⟩:=List.mem_map.mp hx
 exact pz_nn _
end Lv
namespace Lv
open PySem L2
theorem bern {p:Int} (hp:1<=p):∀ n:Nat,1+(p - 1)*n<=p ^ n
 | 0=>by simp
 | n+1=>by
  have ih:=bern hp n
  have h1:1<=p ^ n:=by
   have:0<=(p - 1)*(n:Int):=Int.mul_nonneg (by omega) (by omega)
   omega
  rw[Int.pow_succ]
  have h2:p ^ n*p=p ^ n+p ^ n*(p - 1):=by rw[Int.mul_sub,Int.mul_one]; omega
  have h3:1*(p - 1)<=p ^ n*(p - 1):=Int.mul_le_mul_of_nonneg_right h1 (by omega)
  have h4:(p - 1)*((n+1:Nat):Int)=(p - 1)*n+(p - 1):=by rw[Int.natCast_add,Int.mul_add]; simp
  omega
theorem ZadY {p:Int} (hp:1<=p) (n:Nat):1<=p ^ n:=by
 have:=bern hp n
 have:0<=(p - 1)*(n:Int):=Int.mul_nonneg (by omega) (by omega)
 omega
theorem above {p:Int} (hp:2<=p) (a b:Nat):p ^ b*(1+(p - 1)*((a:Int) - b))<=p ^ a:=by
 by_cases h:b<=a
 ·obtain⟨c,rfl⟩:∃ c,a=b+c:=⟨a - b,by omega⟩
  rw[Int.pow_add]
  have e:((b+c:Nat):Int) - b=c:=by omega
  rw[e]
  exact Int.mul_le_mul_of_nonneg_left (bern (by omega) c) (by have:=ZadY (p:=p) (by omega) b; omega)
 ·have h1:=ZadY (p:=p) (by omega) a
  have h2:=ZadY (p:=p) (by omega) b
  have h3:(p - 1)*((a:Int) - b)<=(p - 1)*(-1):=Int.mul_le_mul_of_nonneg_left (by omega) (by omega)
  have h4:p ^ b*(1+(p - 1)*((a:Int) - b))<=0:=Int.mul_nonpos_of_nonneg_of_nonpos (by omega) (by omega)
  omega
def kr (p:Int) (M:Nat) (ys:List Int):Int:=(ys.map fun y=>p ^ (M - y.toNat)).sum
end Lv
namespace Lv
open PySem L2
section
variable {α:Type}
structure Adds (g:List α->Int):Prop where
 nil:g []=0
 app:∀ a b,g (a++b)=g a+g b
def dt (g:List α->Int):List (List α)->List Int->Int
 | r::rs,n::ns=>n*g r+dt g rs ns
 | _,_=>0
def es:List Int->(Nat->Int)->Int
 | [],_=>0
 | n::ns,h=>(n+1)*h 0+es ns fun j=>h (j+1)
end
theorem ZahB {p:Nat} (hp:2<=p) (n:Nat):∃ x r,num p n=x::r/\r.length+1=p/\num p (n+1)=(r.map (x.map (·+1)++·))++[x.map (·+1)]:=by
 obtain⟨x,r,e,hr⟩:=ZahA hp n
 refine⟨x,r,e,hr,?_⟩
 show nextN (num p n)=_
 rw[e]
 rfl
end Lv
namespace Lv
open PySem L2
theorem Zagv (p:Int) (M:Nat) (a b:List Int):kr p M (a++b)=kr p M a+kr p M b:=by simp[kr]
theorem kr_up {p:Int}{M:Nat}:∀ x:List Int,(∀ y∈x,0<=y/\y+1<=M)->p*kr p M (x.map (·+1))=kr p M x
 | [],_=>by simp[kr]
 | y::x,h=>by
  have ih:=kr_up (p:=p) x fun z hz=>h z (List.mem_cons_of_mem _ hz)
  obtain⟨y0,y1⟩:=h y List.mem_cons_self
  show p*(p ^ (M - (y+1).toNat)+kr p M (x.map (·+1)))=p ^ (M - y.toNat)+kr p M x
  rw[Int.mul_add,ih,show M - y.toNat=(M - (y+1).toNat)+1 by omega,Int.pow_succ,Int.mul_comm]
theorem Zalh (p:Int) (M:Nat) (x:List Int):∀ r:List (List Int),kr p M (r.map (x++·)).flatten=(r.length:Int)*kr p M x+kr p M r.flatten
 | []=>by simp[kr]
 | y::r=>by
  rw[List.map_cons,List.flatten_cons,List.flatten_cons,Zagv,Zagv,Zagv,Zalh p M x r,List.length_cons]
  have:((r.length+1:Nat):Int)*kr p M x=(r.length:Int)*kr p M x+kr p M x:=by
   rw[show ((r.length+1:Nat):Int)=(r.length:Int)+1 by omega,Int.add_mul,Int.one_mul]
  omega
theorem Zali {p:Nat} (hp:2<=p) {M:Nat}:∀ n,n<=M->kr p M (num p n).flatten=(p:Int) ^ M
 | 0,_=>by
  have:(num p 0).flatten=[0]:=by
   show (num0 p).flatten=[0]
   simp[num0]
  rw[this]
  simp[kr]
 | n+1,h=>by
  have ih:=Zali (M:=M) hp n (by omega)
  obtain⟨x,r,e,hr,e2⟩:=ZahB hp n
  have hx:∀ y∈x,0<=y/\y+1<=M:=fun y hy=>by
   have:=Zaeg p n x (by rw[e]; exact List.mem_cons_self) y hy
   omega
  have hu:=kr_up (p:=p) (M:=M) x hx
  rw[e2,List.flatten_append,Zagv,Zalh]
  rw[e,List.flatten_cons,Zagv] at ih
  have h1:([x.map (·+1)]:List (List Int)).flatten=x.map (·+1):=by simp
  rw[h1,<- ih,<- hu]
  have h2:(p:Int)*kr p M (x.map (·+1))=(r.length:Int)*kr p M (x.map (·+1))+kr p M (x.map (·+1)):=by
   rw[show (p:Int)=(r.length:Int)+1 by omega,Int.add_mul,Int.one_mul]
  omega
end Lv
namespace Lv
open PySem L2
def pre:Int->List Int->List Int
 | _,[]=>[]
 | s,x::r=>(s+x)::pre (s+x) r
end Lv
namespace L2
open PySem PySem.Spec PyProof.Rows PySem.SeqAt
section
variable {X:Cx}
end
end L2
namespace Lv
open PySem L2
def up1 (A:List Int):List Int:=A.map (·+1)
def Zak9:List (List Int)->List (List Int)
 | []=>[]
 | [Z]=>[Z]
 | A::B::r=>(Zak9 (B::r)).map (up1 A++·)++[up1 A]
def casN (p:Nat):Nat->List (List Int)
 | 0=>num0 p
 | n+1=>Zak9 (casN p n)
def S (q:Int) (g:Nat->List Int) (a:List Int):Int:=((List.range a.length).map fun t=>((g t).count q:Int)*a.getD t 0).sum
end Lv
namespace Lv
open PySem L2
end Lv
namespace Lv
open PySem L2
end Lv
namespace Lv
open PySem L2
end Lv
namespace Lv
open PySem L2
def vec (L:Nat) (g:Nat->Int):List Int:=(List.range L).map g
def arr (L:Nat) (xs:List Int):List Int:=vec L fun m=>cn xs (m:Int)
end Lv
namespace Lv
open PySem L2
end Lv
namespace Lv
open PySem L2
def fill (x y:Int):List Bool:=List.replicate x.toNat false++List.replicate y.toNat true
def TBs (H:Hp) (rs:List Addr) (N:List (List Bool)):Prop:=rs.length=N.length/\∀ (j:Nat) r bs,rs[j]?=some r->N[j]?=some bs->H r=some (.tup (bs.map V.bl))
theorem TBs.same {H H':Hp}{rs:List Addr}{N:List (List Bool)} (h:TBs H rs N) (s:Same H H'):TBs H' rs N:=⟨h.1,fun j r xs a b=>s _ _ (h.2 j r xs a b)⟩
theorem TBs.lst {H:Hp}{rs:List Addr}{N:List (List Bool)}{acc:Addr}{ys zs:List V} (h:TBs H rs N) (e:H acc=some (.lst zs)):TBs (upd H acc (.lst ys)) rs N:=⟨h.1,fun j r xs a b=>by
 have:=h.2 j r xs a b
 rw[Zaaf (by intro z; subst z; rw[e] at this; cases this)]
 exact this⟩
theorem TBs.snoc {H:Hp}{rs:List Addr}{N:List (List Bool)}{q:Addr}{bs:List Bool} (h:TBs H rs N) (e:H q=some (.tup (bs.map V.bl))):TBs H (rs++[q]) (N++[bs]):=by
 refine⟨by simp[h.1],fun j r xs a b=>?_⟩
 rcases ZaaT a with a' | ⟨a1,a2⟩
 ·rcases ZaaT b with b' | ⟨b1,b2⟩
  ·exact h.2 j r xs a' b'
  ·have:=(List.getElem?_eq_some_iff.mp a').1
   have:=h.1
   omega
 ·rcases ZaaT b with b' | ⟨b1,b2⟩
  ·have:=(List.getElem?_eq_some_iff.mp b').1
   have:=h.1
   omega
  ·subst a2 b2
   exact e
end Lv
namespace L2
open PySem PySem.Spec PyProof.Rows
abbrev two (elt t1 i1:Expr) (f1:List Expr) (t2 i2:Expr) (f2:List Expr) (scope:Scope) (pos:Pos):Expr:=.ListComp elt [⟨t1,i1,f1,0⟩,⟨t2,i2,f2,0⟩] scope pos
theorem Zag4 (elt t1 i1 : Expr) (f1 : List Expr) (t2 i2 : Expr) (f2 : List Expr) (scope : Scope) (pos : Pos) (it acc : Value) (env : Env) :
  compTurn (two elt t1 i1 f1 t2 i2 f2 scope pos) 0 it acc env=(do
   standAt i1.pos
   match <- pyNext it with
   | none=>pure (.done .next)
   | some v=>
    letOwnedTupleGo t1 it v
    assign t1 env v
    let mut ok:=true
    for c in f1 do
     if ok then ok <- isTrue c env (eval c env)
    if ok then
     let x <- eval i2 env
     standAt i2.pos
     let x <- foldedSetIterable i2 env x
     let _ <- runOwn (.compStart (two elt t1 i1 f1 t2 i2 f2 scope pos) 1 (<- holding [x] (pyIter x)) acc env) env
    again (.compLoop (two elt t1 i1 f1 t2 i2 f2 scope pos) 0 it acc env)):=by rfl
theorem Zag3 (elt t1 i1 : Expr) (f1 : List Expr) (t2 i2 : Expr) (f2 : List Expr) (scope : Scope) (pos : Pos) (it acc : Value) (env : Env) :
  compTurn (two elt t1 i1 f1 t2 i2 f2 scope pos) 1 it acc env=(do
   standAt i2.pos
   match <- pyNext it with
   | none=>pure (.done .next)
   | some v=>
    letOwnedTupleGo t2 it v
    assign t2 env v
    let mut ok:=true
    for c in f2 do
     if ok then ok <- isTrue c env (eval c env)
    if ok then
     (do let _ <- call (.builtin "list.append") [acc,<- eval elt env])
    again (.compLoop (two elt t1 i1 f1 t2 i2 f2 scope pos) 1 it acc env)):=by rfl
section
variable {prog:Program}{w:World}{A:Around}{R:Result->Shared->Prop}{s:Shared}{elt t1 i1:Expr}{f1:List Expr}{t2 i2:Expr}{f2:List Expr}{scope:Scope}{pos:Pos}{it acc:Value}{env:Env}
theorem ZahI (I : Nat → Shared → Prop)
  (turn:∀ n s,I n s->wpAny (model prog w) A (pyNext it) (fun r s₁=>match r with
   | none=>R (.ok .next) s₁
   | some v => wpAny (model prog w) A (letOwnedTupleGo t2 it v) (fun _ s₁' => wpAny (model prog w) A (assign t2 env v) (fun _ s₂ =>
     wpAny (model prog w) A (forIn f2 true fun c r=>if r=true then do let ok <- isTrue c env (eval c env); pure (ForInStep.yield ok) else pure (ForInStep.yield r)) (fun ok s₃=>
      if ok=true then wpAny (model prog w) A (eval elt env) (fun x s₄=>
       wpAny (model prog w) A (call (.builtin "list.append") [acc,x]) (fun _ s₅=>∃ m,m<n/\I m s₅) (fun _ _=>False) s₄) (fun _ _=>False) s₃
      else ∃ m,m<n/\I m s₃) (fun _ _=>False) s₂) (fun _ _=>False) s₁') (fun _ _=>False) s₁) (fun _ _=>False) s)
  (n:Nat) (h:I n s):codeAny (model prog w) A (.compLoop (two elt t1 i1 f1 t2 i2 f2 scope pos) 1 it acc env) R s:=by
 refine codeAny_loop rfl I (fun n s hI=>?_) n h
 show wpAny _ A ((compTurn (two elt t1 i1 f1 t2 i2 f2 scope pos) 1 it acc env).onRaise (fun x=>do noteFrame x env; theTreesLotGoes x)) _ _ s
 refine wpAny_noted ?_
 rw[Zag3]
 refine wpAny_bind (wpAny_standAt (wpAny_bind (wpAny_mono (turn n s hI) (fun r s₁ h₁=>?_) fun _ _ h'=>h'.elim)))
 cases r with
 | none=>exact wpAny_pure h₁
 | some v=>
  refine wpAny_bind (wpAny_mono h₁ (fun _ s₁' h₁=>?_) fun _ _ h'=>h'.elim)
  refine wpAny_bind (wpAny_mono h₁ (fun _ s₂ h₂=>wpAny_bind (wpAny_mono h₂ (fun ok s₃ h₃=>?_) fun _ _ h'=>h'.elim)) fun _ _ h'=>h'.elim)
  cases ok with
  | false=>exact wpAny_pure ⟨rfl,h₃⟩
  | true=>
   exact wpAny_bind (wpAny_bind (wpAny_mono h₃ (fun x s₄ h₄=>wpAny_bind (wpAny_mono h₄ (fun _ s₅ h₅=>wpAny_pure (wpAny_pure ⟨rfl,h₅⟩)) fun _ _ h'=>h'.elim)) fun _ _ h'=>h'.elim))
theorem ZafK
  (h0:codeAny (model prog w) A (.compLoop (two elt t1 i1 f1 t2 i2 f2 scope pos) 1 it acc env) R s)
  (h:wpAny (model prog w) A (pyIter it) (fun it' s'=>codeAny (model prog w) A (.compLoop (two elt t1 i1 f1 t2 i2 f2 scope pos) 1 it' acc env) R s')
   (notedBy (model prog w) A env fun x s'=>R (.error x) s') s) :
  codeAny (model prog w) A (.compStart (two elt t1 i1 f1 t2 i2 f2 scope pos) 1 it acc env) R s:=by
 refine codeAny_of_tree ?_
 show wpAny _ _ ((compStart (two elt t1 i1 f1 t2 i2 f2 scope pos) 1 it acc env).onRaise (fun x=>do noteFrame x env; standAt theWindowsPlace)) _ _ s
 refine wpAny_notedAt ?_
 unfold compStart
 show wpAny _ _ (ask >>= _) _ _ s
 refine wpAny_bind (wpAny_askSetting (wpAny_ite ?_))
 split
 ·first
   | exact wpAny_bind (wpAny_pure (wpAny_pure (And.intro rfl h0)))
   | exact wpAny_pure (And.intro rfl h0)
 ·refine wpAny_bind (wpAny_rule ?_)
  show wpAny _ _ (standAt i2.pos >>= _) _ _ s
  exact wpAny_bind (wpAny_standAt (wpAny_bind (wpAny_mono h (fun it' s' h'=>wpAny_pure (And.intro rfl h')) fun _ _ x=>x)))
theorem ZahJ (I : Nat → Shared → Prop) (hs : ∀ x, foldedSetIterable i2 env x = pure x)
  (turn:∀ n s,I n s->wpAny (model prog w) A (pyNext it) (fun r s₁=>match r with
   | none=>R (.ok .next) s₁
   | some v => wpAny (model prog w) A (letOwnedTupleGo t1 it v) (fun _ s₁' => wpAny (model prog w) A (assign t1 env v) (fun _ s₂ =>
     wpAny (model prog w) A (forIn f1 true fun c r=>if r=true then do let ok <- isTrue c env (eval c env); pure (ForInStep.yield ok) else pure (ForInStep.yield r)) (fun ok s₃=>
      if ok=true then wpAny (model prog w) A (eval i2 env) (fun x s₄=>wpAny (model prog w) A (pyIter x) (fun itv s₅=>
       codeAny (model prog w) A (.compStart (two elt t1 i1 f1 t2 i2 f2 scope pos) 1 itv acc env) (fun r s₆=>∃ fl,r=.ok fl/\∃ m,m<n/\I m s₆) s₅) (fun _ _=>False) s₄) (fun _ _=>False) s₃
      else ∃ m,m<n/\I m s₃) (fun _ _=>False) s₂) (fun _ _=>False) s₁') (fun _ _=>False) s₁) (fun _ _=>False) s)
  (n:Nat) (h:I n s):codeAny (model prog w) A (.compLoop (two elt t1 i1 f1 t2 i2 f2 scope pos) 0 it acc env) R s:=by
 refine codeAny_loop rfl I (fun n s hI=>?_) n h
 show wpAny _ A ((compTurn (two elt t1 i1 f1 t2 i2 f2 scope pos) 0 it acc env).onRaise (fun x=>do noteFrame x env; theTreesLotGoes x)) _ _ s
 refine wpAny_noted ?_
 rw[Zag4]
 refine wpAny_bind (wpAny_standAt (wpAny_bind (wpAny_mono (turn n s hI) (fun r s₁ h₁=>?_) fun _ _ h'=>h'.elim)))
 cases r with
 | none=>exact wpAny_pure h₁
 | some v=>
  refine wpAny_bind (wpAny_mono h₁ (fun _ s₁' h₁=>?_) fun _ _ h'=>h'.elim)
  refine wpAny_bind (wpAny_mono h₁ (fun _ s₂ h₂=>wpAny_bind (wpAny_mono h₂ (fun ok s₃ h₃=>?_) fun _ _ h'=>h'.elim)) fun _ _ h'=>h'.elim)
  cases ok with
  | false=>exact wpAny_pure ⟨rfl,h₃⟩
  | true=>
   refine wpAny_bind (wpAny_mono h₃ (fun x s₄ h₄=>wpAny_bind (wpAny_standAt ?_)) fun _ _ h'=>h'.elim)
   rw[hs]
   refine wpAny_bind (wpAny_pure (wpAny_bind (wpAny_holding (wpAny_mono h₄ (fun itv s₅ h₅=>?_) fun _ _ h'=>h'.elim))))
   refine wpAny_bind (wpAny_runOwn (h:=none) (codeAny_mono h₅ fun r s₆ ⟨fl,er,h₆⟩=>?_))
   subst er
   exact wpAny_pure ⟨rfl,h₆⟩
end
end L2
namespace L2
open PySem PySem.Spec PyProof.Rows
def tInW (g2:TG) (tt2:TT) (te:TE) (τ:St) (acc:Addr) (J2:It) (H6:Hp) (Z:Hp->Prop):Prop :=
 ∃ (W2:Nat->Hp->Prop) (n2:Nat),W2 0 H6/\∀ k H7,W2 k H7->(J2.stop k H7/\Z H7)∨(k<n2/\J2.go k H7/\∀ y H8,J2.yld k H7 y H8->g2 y τ H8 fun τ2 H9=>tt2 τ2 H9 fun c H10=>
  if c=true then te τ2 H10 fun z H11=>∃ ys,H11 acc=some (.lst ys)/\ys.length<sizeLine/\W2 (k+1) (upd H11 acc (.lst (ys++[z]))) else W2 (k+1) H10)
def ZafJ (own:List Str) (js:List Nat) (g1:TG) (tt1:TT) (wi2:TI) (g2:TG) (tt2:TT) (te:TE) (σ:St) (J:It) (H1:Hp) (Q:VK):Prop :=
 ∀ acc,H1 acc=none->∃ (W:Nat->Hp->Prop) (n:Nat),W 0 (upd H1 acc (.lst []))/\∀ i H2,W i H2 ->
  (J.stop i H2/\Q (.ref acc) H2)∨(i<n/\J.go i H2/\∀ x H3,J.yld i H2 x H3->g1 x (blkσ own js σ) H3 fun τ H4=>tt1 τ H4 fun c H5=>
   if c=true then wi2 τ H5 fun J2 H6=>tInW g2 tt2 te τ acc J2 H6 (W (i+1)) else W (i+1) H5)
def ZalT (own:List Str) (js:List Nat) (wi:TI) (g1:TG) (tt1:TT) (wi2:TI) (g2:TG) (tt2:TT) (te:TE):TE:=fun σ H Q=>wi σ H fun J H1=>ZafJ own js g1 tt1 wi2 g2 tt2 te σ J H1 Q
def Unset (fr:List Nat) (τ:St):Prop:=∀ i∈fr,∀ v,τ[i]?≠some (some v)
def Zakb (own:List Str) (fr:List Nat) (g:TG):Prop:=∀ (js:List Nat) (σ:St) (x:V) (H:Hp) (Q:St->Hp->Prop),g x (blkσ own js σ) H Q ->
 g x (blkσ own js σ) H fun τ H'=>((∀ (j:Nat) v,(blkσ own js σ)[j]?=some (some v)->τ[j]?=some (some v))/\Unset fr τ)/\Q τ H'
def Zaif (fr:List Nat) (g:TG):Prop:=∀ (τ:St),Unset fr τ->∀ (x:V) (H:Hp) (Q:St->Hp->Prop),g x τ H Q->g x τ H fun τ' H'=>(∀ (j:Nat) v,τ[j]?=some (some v)->τ'[j]?=some (some v))/\Q τ' H'
theorem ZagB {K:PySem.W.Frag}{own:List Str}{i k:Nat}{fr:List Nat} (hi:i<own.length:=by decide) (hk:k<own.length:=by decide) (hf:∀ j∈fr,j<own.length/\j≠i/\j≠k:=by decide):Zakb own fr (gTup K 2 (gCons (gName i) (gCons (gName k) gNil))):=fun js σ x H Q h=>by
 obtain⟨a,xs,rfl,hq,hl,v,r,rfl,w,r',rfl,e,h⟩:=h
 refine⟨a,_,rfl,hq,hl,v,_,rfl,w,r',rfl,e,⟨fun j z e=>?_,fun j hj z e=>?_⟩,h⟩
 ·have hj:j≠i:=by rintro rfl; exact Zabl hi e
  have hj':j≠k:=by rintro rfl; exact Zabl hk e
  rw[List.getElem?_set_ne (Ne.symm hj'),List.getElem?_set_ne (Ne.symm hj)]
  exact e
 ·obtain⟨h1,h2,h3⟩:=hf j hj
  rw[List.getElem?_set_ne (Ne.symm h3),List.getElem?_set_ne (Ne.symm h2)] at e
  exact Zabl h1 e
theorem ZagA {K:PySem.W.Frag}{i k:Nat}:Zaif [i,k] (gTup K 2 (gCons (gName i) (gCons (gName k) gNil))):=fun τ u x H Q h=>by
 obtain⟨a,xs,rfl,hq,hl,v,r,rfl,w,r',rfl,e,h⟩:=h
 refine⟨a,_,rfl,hq,hl,v,_,rfl,w,r',rfl,e,fun j z e=>?_,h⟩
 have hj:j≠i:=by rintro rfl; exact u j (by simp) _ e
 have hj':j≠k:=by rintro rfl; exact u j (by simp) _ e
 rw[List.getElem?_set_ne (Ne.symm hj'),List.getElem?_set_ne (Ne.symm hj)]
 exact e
section
variable {X:Cx}{scope:Scope}{own:List Str}{js fr:List Nat}{elt t1 i1:Expr}{f1:List Expr}{t2 i2:Expr}{f2:List Expr}{wi wi2:TI}{g1 g2:TG}{tt1 tt2:TT}{te:TE}{pos:Pos}
theorem ZahU {pins : List (Addr × Obj)} {s₂ : Shared} {H2 : Hp} {C : Addr} {fp : List Addr} {τ : St} {H6 : Hp} {s6 : Shared} {it2 acc : Addr} {fp2 : List Addr} {tn2 : Nat → Heap → Prop} {J2 : It} {Z : Hp → Prop} {P : List (Addr × Obj)}
  (hc:X.calm=true) (hgk:Zaif fr g2) (hu:Unset fr τ)
  (hg:PG (X.blk scope own js s₂ H2 C fp pins) t2 g2) (ht:PTs (X.blk scope own js s₂ H2 C fp pins) f2 tt2) (he:PE (X.blk scope own js s₂ H2 C fp pins) elt te)
  (I6:Inv (X.blk scope own js s₂ H2 C fp pins) P τ H6 s6) (T:Turn X.prog X.w X.K t2 J2 fp2 it2 tn2) (st:tn2 0 s6.heap) (hf:∀ b∈fp2,FpOk (X.blk scope own js s₂ H2 C fp pins) P H6 b) (h:tInW g2 tt2 te τ acc J2 H6 Z) :
  codeAny (model X.prog X.w) X.A (.compStart (two elt t1 i1 f1 t2 i2 f2 scope pos) 1 (.ref it2) (.ref acc) (compEnvC scope (clOf scope X.env) C X.env)) (fun r s'=>r=.ok .next/\∃ H',Inv (X.blk scope own js s₂ H2 C fp pins) P τ H' s'/\Z H') s6:=by
 obtain⟨W,nn,w0,turn⟩:=h
 have fOk:∀ {H':Hp},(∀ b∈fp2,H' b=none)->∀ b∈fp2,FpOk (X.blk scope own js s₂ H2 C fp pins) P H' b:=fun hn b hb=>⟨hn b hb,(hf b hb).2⟩
 have loop:codeAny (model X.prog X.w) X.A (.compLoop (two elt t1 i1 f1 t2 i2 f2 scope pos) 1 (.ref it2) (.ref acc) (compEnvC scope (clOf scope X.env) C X.env)) (fun r s'=>r=.ok .next/\∃ H',Inv (X.blk scope own js s₂ H2 C fp pins) P τ H' s'/\Z H') s6:=by
  refine ZahI (fun n s'=>∃ i H',n=nn - i/\Inv (X.blk scope own js s₂ H2 C fp pins) P τ H' s'/\tn2 i s'.heap/\(∀ b∈fp2,H' b=none)/\W i H') ?_ nn ⟨0,_,rfl,I6,st,fun b hb=>(hf b hb).1,w0⟩
  rintro n s3 ⟨i,H3,en,I3,st3,fr3,w3⟩
  rcases turn i H3 w3 with ⟨stop,qn⟩ | ⟨hin,go,step⟩
  ·refine thn (T.done (X.blk scope own js s₂ H2 C fp pins) rfl rfl rfl hc i P s3 _ H3 (fun _ _=>False) I3 (fOk fr3) st3 stop) fun r s4 ⟨hr,I4⟩=>?_
   subst hr
   exact⟨rfl,H3,I4,qn⟩
  ·refine thn (T.item (X.blk scope own js s₂ H2 C fp pins) rfl rfl rfl hc i P s3 _ H3 (fun _ _=>False) I3 (fOk fr3) st3 go) fun r s4 ⟨u,hr,h4⟩=>?_
   subst hr
   refine thn h4 fun _ s5 ⟨x,H5,I5,r5,y5,st5,fr5⟩=>?_
   have I5':=I5.pinned (fOk fr5) (T.obj _ _ st5)
   have again : ∀ {σ7 : St} {H7 : Hp} {s7 : Shared}, Inv (X.blk scope own js s₂ H2 C fp pins) (P ++ Zadn fp2 s5.heap) σ7 H7 s7 → (∀ (j : Nat) v, τ[j]? = some (some v) → σ7[j]? = some (some v)) → W (i + 1) H7 →
     ∃ m,m<n/\∃ i H',m=nn - i/\Inv (X.blk scope own js s₂ H2 C fp pins) P τ H' s7/\tn2 i s7.heap/\(∀ b∈fp2,H' b=none)/\W i H':=fun {σ7 H7 s7} I7 hw w7=>by
    refine⟨nn - (i+1),by omega,i+1,H7,rfl,(I7.unpinned).weak (I3.len.trans I7.len.symm) hw,T.keep _ _ _ st5 fun b hb o e=>(I7.pin (b,o) (List.mem_append_right _ (List.mem_append_right _ (ZaaG hb e)))).1,fun b hb=>?_,w7⟩
    obtain⟨o,e,d⟩:=T.obj _ _ st5 b hb
    exact (I7.pin (b,o) (List.mem_append_right _ (List.mem_append_right _ (ZaaG hb e)))).2.1
   refine thn (hg _ s5 _ H5 x u _ I5' r5 (hgk τ hu _ _ _ (step x H5 y5))) fun _ s6 ⟨σ6,H6,I6,kp,q6⟩=>?_
   refine thn (ht _ s6 σ6 H6 _ I6 q6) fun ok s7 ⟨H7,I7,q7⟩=>?_
   cases ok with
   | false=>exact again I7 kp q7
   | true=>
    refine thn (he _ s7 σ6 H7 _ I7 q7) fun y s8 ⟨v,H8,I8,r8,ys,hl,hz,w8⟩=>?_
    refine thn (ZabC (X:=X.blk scope own js s₂ H2 C fp pins) _ s8 σ6 H8 (.ref acc) [v] (.ref acc) [y] (fun _ H9=>W (i+1) H9) I8 rfl (.cons r8 .nil) ⟨acc,ys,v,rfl,rfl,hl,hz,w8⟩) fun _ s9 ⟨_,H9,I9,_,w9⟩=>?_
    exact again I9 kp w9
 exact ZafK loop (T.self _ 0 _ _ _ st loop)
theorem Zaj9 {pins : List (Addr × Obj)} {σ : St} {H2 : Hp} {s₂ : Shared} {it : Addr} {fp : List Addr} {tn : Nat → Heap → Prop} {J : It} {Q : VK} {E : Value → Shared → Prop} {RR : Value → Addr → Result → Shared → Prop}
  (c:CompOk X scope own js) (hc:X.calm=true) (hgk:Zakb own fr g1) (hgt:Zaif fr g2)
  (hg:∀ s H C fp pins,PG (X.blk scope own js s H C fp pins) t1 g1) (ht:∀ s H C fp pins,PTs (X.blk scope own js s H C fp pins) f1 tt1) (hi2:∀ s H C fp pins,PI (X.blk scope own js s H C fp pins) t2 i2 wi2)
  (hg2:∀ s H C fp pins,PG (X.blk scope own js s H C fp pins) t2 g2) (ht2:∀ s H C fp pins,PTs (X.blk scope own js s H C fp pins) f2 tt2) (he:∀ s H C fp pins,PE (X.blk scope own js s H C fp pins) elt te)
  (hs2:∀ env x,foldedSetIterable i2 env x=pure x)
  (I:Inv X pins σ H2 s₂) (T:Turn X.prog X.w X.K t1 J fp it tn) (st:tn 0 s₂.heap) (hf:∀ b∈fp,FpOk X pins H2 b) (h:ZafJ own js g1 tt1 wi2 g2 tt2 te σ J H2 Q)
  (hRR:∀ acc C H' s' m,s₂.heap.objs.size<=C->H' C=none->Inv X pins σ H' s'->s'.heap.Ns C m->Q (.ref acc) H'->RR (.ref acc) C (.ok .next) s') :
  wpAny (model X.prog X.w) X.A (newList []) (fun acc s₃=>wpAny (model X.prog X.w) X.A (newFunctionEnv scope X.env.globals (clOf scope X.env) [] X.env.qual none .none (some X.env)) (fun cenv s₄=>
   codeAny (model X.prog X.w) X.A (.compStart (two elt t1 i1 f1 t2 i2 f2 scope pos) 0 (.ref it) acc { cenv with scope:=relabel scope X.env }) (RR acc cenv.locals) s₄) E s₃) E s₂:=by
 refine wpAny_newObj_type (wpAny_newFunctionEnv c.cell (by intro y hy; simp at hy) (fun h₁ hns₁ hsb₁=>?_) c.kind)
 dsimp only at hns₁ hsb₁ ⊢
 generalize hH2:s₂.heap.push { cls:=.type "list",dict:=none,data:=.seq ([]:List Value).toArray }=G2 at hns₁ hsb₁ ⊢
 have hC:G2.objs.size=s₂.heap.objs.size+1:=by rw[<- hH2,Heap.size_push]
 have hDC:s₂.heap.objs.size≠G2.objs.size:=by rw[hC]; exact Nat.ne_of_lt (Nat.lt_succ_self _)
 have hCle:s₂.heap.objs.size<=G2.objs.size:=by rw[hC]; exact Nat.le_succ _
 have old:∀ b o,s₂.heap.get? b=some o->h₁.get? b=some o:=fun b o e=>hsb₁.extBut b o (Nat.ne_of_lt (Nat.lt_of_lt_of_le (Heap.lt_size e) hCle)) (Heap.get?_push_of_some _ (hH2 ▸ Heap.get?_push_of_some _ e))
 have hacc:h₁.get? s₂.heap.objs.size=some { cls:=.type "list",data:=.seq ([]:List Value).toArray 0 }:=hsb₁.extBut _ _ hDC (Heap.get?_push_of_some _ (hH2 ▸ Heap.get?_push_size _ rfl))
 have ho2:∀ b∈fp,∃ o,s₂.heap.get? b=some o:=fun b hb=>let ⟨o,e,_⟩:=T.obj 0 _ st b hb; ⟨o,e⟩
 have I0:∀ tk,Inv (X.blk scope own js s₂ H2 G2.objs.size fp pins) [] (blkσ own js σ) (upd H2 s₂.heap.objs.size (.lst [])) { s₂ with heap:=h₁,toks:=tk }:=fun tk=>
  ZaeZ c I hCle hf ho2 hns₁ old (Nat.le_refl _) hDC hacc
 obtain⟨W,nn,w0,turn⟩:=h s₂.heap.objs.size (I.hok.fresh (Nat.le_refl _))
 generalize hacc':s₂.heap.objs.size=acc at *
 generalize hGC:G2.objs.size=C at *
 have st1:tn 0 h₁:=T.keep 0 _ _ st fun b _ o e=>old b o e
 have fOk:∀ {H':Hp},(∀ b∈fp,H' b=none)->∀ b∈fp,FpOk (X.blk scope own js s₂ H2 C fp pins) [] H' b:=fun hn b hb=>by
  obtain⟨f0,f1,f2,f3,f4,f5⟩:=hf b hb
  obtain⟨o,e⟩:=ho2 b hb
  refine⟨hn b hb,Nat.ne_of_lt (Nat.lt_of_lt_of_le (Heap.lt_size e) (by rw[<- hacc'] at hCle; exact hCle)),fun z=>?_,.inl hb,fun x a h=>f4 x a (c.look I h),fun p hp=>f5 p (by simpa[Cx.blk] using hp)⟩
  rcases List.mem_cons.mp (I.stkSub b z) with q | q
  ·exact f1 q
  ·exact f2 q
 have loop : ∀ s₃ : Shared, s₃ = { s₂ with heap := h₁, toks := s₂.toks + ([] : List (Str × Value)).length } →
   codeAny (model X.prog X.w) X.A (.compLoop (two elt t1 i1 f1 t2 i2 f2 scope pos) 0 (.ref it) (.ref acc) (compEnvC scope (clOf scope X.env) C X.env)) (RR (.ref acc) C) s₃:=by
  rintro s₃ rfl
  refine ZahJ (fun n s'=>∃ i H',n=nn - i/\Inv (X.blk scope own js s₂ H2 C fp pins) [] (blkσ own js σ) H' s'/\tn i s'.heap/\(∀ b∈fp,H' b=none)/\W i H') (hs2 _) ?_ nn ⟨0,_,rfl,I0 _,st1,fun b hb=>?_,w0⟩
  ·rintro n s3 ⟨i,H3,en,I3,st3,fr3,w3⟩
   rcases turn i H3 w3 with ⟨stop,qn⟩ | ⟨hin,go,step⟩
   ·refine thn (T.done (X.blk scope own js s₂ H2 C fp pins) rfl rfl rfl hc i [] s3 _ H3 (fun _ _=>False) I3 (fOk fr3) st3 stop) fun r s4 ⟨hr,I4⟩=>?_
    subst hr
    obtain⟨m,hn,_⟩:=I4.loc
    exact hRR acc C H3 s4 m hCle I4.free (ZagX I hf I4) hn qn
   ·refine thn (T.item (X.blk scope own js s₂ H2 C fp pins) rfl rfl rfl hc i [] s3 _ H3 (fun _ _=>False) I3 (fOk fr3) st3 go) fun r s4 ⟨u,hr,h4⟩=>?_
    subst hr
    refine thn h4 fun _ s5 ⟨x,H5,I5,r5,y5,st5,fr5⟩=>?_
    have I5':=I5.pinned (fOk fr5) (T.obj _ _ st5)
    have again : ∀ {σ7 : St} {H7 : Hp} {s7 : Shared}, Inv (X.blk scope own js s₂ H2 C fp pins) ([] ++ Zadn fp s5.heap) σ7 H7 s7 → (∀ (j : Nat) v, (blkσ own js σ)[j]? = some (some v) → σ7[j]? = some (some v)) → W (i + 1) H7 →
      ∃ m,m<n/\∃ i H',m=nn - i/\Inv (X.blk scope own js s₂ H2 C fp pins) [] (blkσ own js σ) H' s7/\tn i s7.heap/\(∀ b∈fp,H' b=none)/\W i H':=fun {σ7 H7 s7} I7 hw w7=>by
     refine⟨nn - (i+1),by omega,i+1,H7,rfl,(I7.unpinned).weak ((ZadE own js σ X).trans I7.len.symm) hw,T.keep _ _ _ st5 fun b hb o e=>(I7.pin (b,o) (List.mem_append_right _ (List.mem_append_right _ (ZaaG hb e)))).1,fun b hb=>?_,w7⟩
     obtain⟨o,e,d⟩:=T.obj _ _ st5 b hb
     exact (I7.pin (b,o) (List.mem_append_right _ (List.mem_append_right _ (ZaaG hb e)))).2.1
    refine thn (hg s₂ H2 C fp pins _ s5 _ H5 x u _ I5' r5 (hgk _ _ _ _ _ (step x H5 y5))) fun _ s6 ⟨σ6,H6,I6,⟨kp,un⟩,q6⟩=>?_
    refine thn (ht s₂ H2 C fp pins _ s6 σ6 H6 _ I6 q6) fun ok s7 ⟨H7,I7,q7⟩=>?_
    cases ok with
    | false=>exact again I7 kp q7
    | true=>
     refine thn (hi2 s₂ H2 C fp pins _ s7 σ6 H7 _ I7 q7) fun v s8 h8=>thn h8 fun itv s9 h9=>?_
     obtain⟨it2,fp2,tn2,J2,H9,e9,I9,T2,st9,f9,hw9⟩:=h9
     subst e9
     refine codeAny_mono (ZahU (t1:=t1) (i1:=i1) (f1:=f1) (i2:=i2) (pos:=pos) hc hgt un (hg2 s₂ H2 C fp pins) (ht2 s₂ H2 C fp pins) (he s₂ H2 C fp pins) I9 T2 st9 f9 hw9) fun r s10 ⟨er,H10,I10,w10⟩=>?_
     exact⟨_,er,again I10 kp w10⟩
  ·rw[Zaaf ?_]
   ·exact (hf b hb).1
   ·obtain⟨o,e⟩:=ho2 b hb
    rw[<- hacc']
    exact Nat.ne_of_lt (Heap.lt_size e)
 exact codeAny_compStart_list (loop _ rfl) (T.self _ 0 _ _ _ st1 (loop _ rfl))
end
end L2
namespace L2
open PySem PySem.Spec PyProof.Rows
end L2
namespace Lv
open PySem L2
def selK (xs:List Int) (bs:List Bool) (k:Nat):List Int:=(((xs.zip bs).take k).filter (·.2)).map (·.1)
def sel (xs:List Int) (bs:List Bool):List Int:=((xs.zip bs).filter (·.2)).map (·.1)
theorem Zahe {xs:List Int}{bs:List Bool}{k:Nat}{x:Int}{b:Bool} (hx:xs[k]?=some x) (hb:bs[k]?=some b):selK xs bs (k+1)=selK xs bs k++(if b then [x] else []):=by
 have hz:(xs.zip bs)[k]?=some (x,b):=by rw[List.getElem?_zip_eq_some]; exact⟨hx,hb⟩
 unfold selK
 rw[List.take_add_one,hz,Option.toList_some,List.filter_append,List.map_append]
 cases b <;> rfl
theorem Zajb {xs:List Int}{bs:List Bool} (h:xs.length=bs.length):selK xs bs xs.length=sel xs bs:=by
 unfold selK sel
 rw[List.take_of_length_le (by rw[List.length_zip]; omega)]
theorem Zaja (xs:List Int) (bs:List Bool) (k:Nat):(selK xs bs k).length<=xs.length:=by
 unfold selK
 rw[List.length_map]
 refine Nat.le_trans (List.length_filter_le _ _) ?_
 rw[List.length_take,List.length_zip]
 omega
def Zab8 (N:List (List Int)) (B:List (List Bool)):Int:=(List.zipWith (fun xs bs=>(sel xs bs).sum) N B).sum
end Lv
namespace L2
open PySem PySem.Spec PyProof.Rows
section
variable {M:Model}{A:Around}{E:Value->Shared->Prop}
end
section
variable {X:Cx}{pins:List (Addr × Obj)}{σ:St}{H H':Hp}{s s':Shared}{scope:Scope}{own:List Str}{js:List Nat}{C:Addr}{fp:List Addr}
structure CompOkK (X:Cx) (scope:Scope) (own:List Str) (js:List Nat):Prop where
 kind:scope.kind=.function
 free:∀ y∈scope.names,y.2=.free->X.env.kindOf y.1=some .cell∨X.env.kindOf y.1=some .free
 names:∀ y∈scope.names,scope.names.lookup y.1=some y.2
 out:∀ j∈js,∃ x,X.N[j]?=some x/\scope.names.lookup x=some .free
end
section
variable {X:Cx}{scope:Scope}{own:List Str}{js:List Nat}{elt iter target:Expr}{ifs:List Expr}{wi:TI}{g:TG}{tt:TT}{te:TE}{pos:Pos}
end
end L2
namespace Lv
open PySem L2
def lensB (N:List (List Bool)):List Int:=N.map fun bs=>(bs.length:Int)
end Lv
namespace Lv
open PySem L2
theorem ZacJ {α:Type}{c:List α}{i:Nat}{x:α} (h:c[i]?=some x):c.take (i+1)=c.take i++[x]:=by rw[List.take_add_one,h]; rfl
def nfR (ks:List (Int × Int)) (i:Nat) (x:Int):List Bool:=(List.range x.toNat).map fun (j:Nat)=>decide (((i:Int),(j:Int))∈ks)
def nf (ks:List (Int × Int)):Nat->List Int->List (List Bool)
 | _,[]=>[]
 | i,x::c=>nfR ks i x::nf ks (i+1) c
end Lv
namespace Lv
open PySem L2
theorem ZagU {g:Nat->Option Int}{c:Nat->Int}{N:Nat} (hm:∀ a b,a<=b->b<N->c a<=c b) (hg:∀ n r,n<N->g n=some r->c n<=r):∀ (k n:Nat) (st:Option (Int × Nat)),n+k<=N->IsBest g n st->IsBest g (n+k) (bo g c k n st)
 | 0,n,st,_,h=>h
 | k+1,n,st,hk,h=>by
  unfold bo
  by_cases e:ZagV c n st=true
  ·rw[if_pos e]
   cases st with
   | none=>cases e
   | some q=>
    obtain⟨a,b,d,f⟩:=h
    have e':c n ≥ q.1:=of_decide_eq_true e
    refine⟨by omega,b,fun m r hmr hr=>?_,f⟩
    by_cases hlt:m<n
    ·exact d m r hlt hr
    ·have h1:=hm n m (by omega) (by omega)
     have h2:=hg m r (by omega) hr
     omega
  ·rw[if_neg e]
   have:=ZagU hm hg k (n+1) _ (by omega) h.step
   rw[show n+(k+1)=n+1+k by omega]
   exact this
theorem Zaa7 (p n:Nat):(((num p n).flatten.length:Nat):Int)=tot p n:=ZaeN n
end Lv
namespace Lv
open PySem L2
section
variable {S:Nat->List (List Int)}
def gS (S:Nat->List (List Int)) (r:Int) (n:Nat):Option Int:=Zagu (S n).flatten r
def cS (S:Nat->List (List Int)) (r:Int) (n:Nat):Int:=r*((sprC (S n).flatten).headD (0,0)).1
structure Lvs (S:Nat->List (List Int)):Prop where
 bd:∀ n:Nat,Bd n (S n)
 ne:∀ n,(S n).flatten≠[]
 up:∀ n,∀ b∈(S (n+1)).flatten,∃ y∈(S n).flatten,y<=b
theorem Lvs.le (L:Lvs S) {n:Nat} (hn:n<=300):∀ m∈(S n).flatten,0<=m/\m<=400:=fun m hm=>by
 obtain⟨xs,hx,hm⟩:=List.mem_flatten.mp hm
 have:=L.bd n xs hx m hm
 omega
theorem Lvs.some (L:Lvs S) {n:Nat}{r:Int} (hn:n<=300) (h1:1<=r) (hr:r<=(S n).flatten.length):∃ v,gS S r n=some v/\Lst (S n).flatten r v:=by
 obtain⟨l1,l2⟩:=Zalf (Zaet (L.le hn)) h1 hr
 refine⟨_,?_,l2⟩
 unfold gS Zagu
 rw[if_neg (by omega)]
theorem Lvs.of (L:Lvs S) {n:Nat}{r v:Int} (hn:n<=300) (h1:1<=r) (h:gS S r n=Option.some v):r<=(S n).flatten.length/\Lst (S n).flatten r v:=by
 have hs:=Zaet (L.le hn)
 have hl:=Zad4 (sprC (S n).flatten) (0,r) (by show (0:Int)<=r; omega) (Zade hs)
 rw[ZafM hs] at hl
 have hr:r<=(S n).flatten.length:=by
  refine Decidable.byContradiction fun z=>?_
  rw[if_neg (by show ¬ r<=((S n).flatten.length:Int); exact z)] at hl
  unfold gS Zagu at h
  rw[if_pos (by show (lsF (sprC (S n).flatten) (0,r)).2 > 0; rw[hl]; show r - ((S n).flatten.length:Int) > 0; omega)] at h
  cases h
 refine⟨hr,?_⟩
 obtain⟨u,e,l⟩:=L.some hn h1 hr
 rw[h] at e
 cases e
 exact l
theorem Lvs.head (L:Lvs S) {n:Nat} (hn:n<=300):ZaiT (S n).flatten ((sprC (S n).flatten).headD (0,0)).1:=by
 have hs:=Zaet (L.le hn)
 cases e:sprC (S n).flatten with
 | nil=>
  obtain⟨m,hm⟩:=List.exists_mem_of_ne_nil _ (L.ne n)
  have:=(Zabf hs m).mpr hm
  rw[e] at this
  simp at this
 | cons q M=>
  rw[e] at hs
  exact Zag9 hs
theorem Lvs.up' (L:Lvs S):∀ (a k:Nat),∀ b∈(S (a+k)).flatten,∃ y∈(S a).flatten,y<=b
 | a,0,b,hb=>⟨b,hb,Int.le_refl _⟩
 | a,k+1,b,hb=>by
  obtain⟨y,hy,h⟩:=L.up (a+k) b hb
  obtain⟨z,hz,h2⟩:=L.up' a k y hy
  exact⟨z,hz,Int.le_trans h2 h⟩
theorem Lvs.best (L:Lvs S) {r:Int} (h1:1<=r) {N:Nat} (hN:N<=301):IsBest (gS S r) N (bo (gS S r) (cS S r) N 0 none):=by
 have:=ZagU (g:=gS S r) (c:=cS S r) (N:=N) (fun a b hab hb=>?_) (fun n v hn hv=>?_) N 0 none (by omega) (fun n hn=>absurd hn (Nat.not_lt_zero _))
 ·simpa using this
 ·have ha:=L.head (show a<=300 by omega)
  have hb':=L.head (show b<=300 by omega)
  refine Int.mul_le_mul_of_nonneg_left ?_ (by omega)
  have hb1:=hb'.1
  rw[show b=a+(b - a) by omega] at hb1
  obtain⟨y,hy,h⟩:=L.up' a (b - a) _ hb1
  have h2:=ha.2 y hy
  rw[show a+(b - a)=b by omega] at h
  omega
 ·obtain⟨_,l⟩:=L.of (show n<=300 by omega) h1 hv
  have hl:=L.head (show n<=300 by omega)
  have:=l.le ((sprC (S n).flatten).headD (0,0)).1
  have hz:sv (S n).flatten ((sprC (S n).flatten).headD (0,0)).1=0:=by
   unfold sv
   have:((S n).flatten.map fun x=>pz (((sprC (S n).flatten).headD (0,0)).1 - x))=(S n).flatten.map fun _=>0:=List.map_congr_left fun x hx=>by
    have:=hl.2 x hx
    unfold pz
    split <;> omega
   rw[this]
   generalize (S n).flatten=l
   induction l with
   | nil=>rfl
   | cons x l ih=>rw[List.map_cons,List.sum_cons,ih]; rfl
  rw[hz] at this
  unfold cS
  omega
end
end Lv
namespace Lv
open PySem L2
end Lv
namespace Lv
open PySem L2
structure Fil (S:Nat->List (List Int)) (p:Int):Prop where
 lv:Lvs S
 kr:∀ M n,n<=M->kr p M (S n).flatten<=p ^ M
 z:(S 0).flatten.length=1
 one:∀ n,∀ y∈(S (n+1)).flatten,1<=y
structure Bst (S:Nat->List (List Int)) (N:Nat) (r:Int) (q:Int × Nat):Prop where
 lt:q.2<N
 eq:gS S r q.2=some q.1
 le:∀ n v,n<N->gS S r n=some v->q.1<=v
 first:∀ n v,n<q.2->gS S r n=some v->q.1<v
theorem Fil.best {S:Nat->List (List Int)}{p:Int} (F:Fil S p) {r:Int}{N n:Nat} (hN:N<=301) (h1:1<=r) (hn:n<N) (hr:r<=(S n).flatten.length):∃ q,bo (gS S r) (cS S r) N 0 none=some q/\Bst S N r q:=by
 have h:=F.lv.best h1 hN
 cases e:bo (gS S r) (cS S r) N 0 none with
 | none=>
  rw[e] at h
  obtain⟨v,ev,_⟩:=F.lv.some (show n<=300 by omega) h1 hr
  have:=h n hn
  rw[ev] at this
  cases this
 | some q=>
  rw[e] at h
  exact⟨q,rfl,h.1,h.2.1,h.2.2.1,h.2.2.2⟩
theorem Bst.uniq {S:Nat->List (List Int)}{N:Nat}{r:Int}{q q':Int × Nat} (a:Bst S N r q) (b:Bst S N r q'):q.1=q'.1:=by
 have h1:=a.le _ _ b.lt b.eq
 have h2:=b.le _ _ a.lt a.eq
 omega
theorem ZabD {p:Nat} (hp:2<=p):Fil (num p) p:=by
 refine⟨⟨fun n=>Zaeg p n,fun n e=>?_,fun n b hb=>?_⟩,fun M n h=>Int.le_of_eq (Zali hp n h),by simp[num,num0],fun n y hy=>?_⟩
 ·have h : (n : Int) ∈ (num p n).flatten := (Zabv hp n n).mpr ⟨Int.le_refl _, by
   have:(1:Int)*n<=p*n:=Int.mul_le_mul_of_nonneg_right (by omega) (by omega)
   omega⟩
  rw[e] at h
  simp at h
 ·obtain⟨b1,b2⟩:=(Zabv hp (n+1) b).mp hb
  by_cases z:b<=n
  ·exact⟨b,(Zabv hp n b).mpr ⟨z,by omega⟩,Int.le_refl _⟩
  ·refine⟨n,(Zabv hp n n).mpr ⟨Int.le_refl _,?_⟩,by omega⟩
   have:(1:Int)*n<=p*n:=Int.mul_le_mul_of_nonneg_right (by omega) (by omega)
   omega
 ·obtain⟨a,b⟩:=(Zabv hp _ y).mp hy
  refine Decidable.byContradiction fun z=>?_
  have:(p:Int)*y<=0:=Int.mul_nonpos_of_nonneg_of_nonpos (by omega) (by omega)
  omega
theorem Zalw {p:Nat} (hp:2<=p) (h7:p<=7):(1000000000001:Int)<=(num p 60).flatten.length:=by
 rw[Zaa7]
 rcases (show p=2∨p=3∨p=4∨p=5∨p=6∨p=7 by omega) with rfl | rfl | rfl | rfl | rfl | rfl
 all_goals decide +kernel
end Lv
namespace Lv
open PySem L2
def big61:Int:=10000000000000000000000000000000000000000000000000000000000000
def upI:List Int->Bool
 | []=>true
 | [_]=>true
 | a::b::r=>decide (a<=b) && upI (b::r)
inductive El (H:Hp):V->Prop
 | int {z:Int} (h1:-big61 - 2<z) (h2:z<big61+2):El H (.int z)
 | bl (b:Bool):El H (.bl b)
 | non:El H .non
 | str {x:Str} (h:x.length<=400) (hc:∀ c∈x.cps.toList,c<16 ^ 8):El H (.str x)
 | lst {a:Addr}{zs:List Int} (e:H a=some (.lst (zs.map V.int))) (hl:zs.length<=3) (hb:∀ z∈zs,-big61 - 2<z/\z<big61+2):El H (.ref a)
 | tup {a:Addr}{zs:List Int} (e:H a=some (.tup (zs.map V.int))) (hl:zs.length<=3) (hb:∀ z∈zs,-big61 - 2<z/\z<big61+2):El H (.ref a)
inductive Lf (H:Hp):V->Prop
 | non:Lf H .non
 | int (i:Int) (h:i=7):Lf H (.int i)
 | bl (b:Bool):Lf H (.bl b)
 | str (x:Str):Lf H (.str x)
 | d0 {a:Addr} (e:H a=some (.dK [])):Lf H (.ref a)
 | d1 {a:Addr} (e:H a=some (.dK [(.inl 1,.int 2)])):Lf H (.ref a)
structure Sh (d:PyData) (n:Nat):Prop where
 ok:d.showable=true
 nd:d.hasDict=false
 dp:d.depth<=1
 sz:d.shown.length<=n
end Lv
namespace Lv
open PySem L2
def Free (N:List (List Int)) (m:List Nat) (o:Int):Prop:=0<=o/\o<N.length/\m.getD o.toNat 0≠(N.getD o.toNat []).length
instance (N:List (List Int)) (m:List Nat) (o:Int):Decidable (Free N m o):=by unfold Free; infer_instance
def nextM (m:List Nat) (o:Int):List Nat:=m.set o.toNat (m.getD o.toNat 0+1)
def atO (N:List (List Int)) (m:List Nat) (o:Int):Int:=(N.getD o.toNat []).getD (m.getD o.toNat 0) 0
def hold (N:List (List Int)):List Nat->List Int->List Int->Option (List Nat × List Int)
 | m,t,[]=>some (m,t)
 | m,t,o::os=>if Free N m o then hold N (nextM m o) (t++[atO N m o]) os else none
def InM (N:List (List Int)) (m:List Nat):Prop:=m.length=N.length/\∀ j,j<N.length->m.getD j 0<=(N.getD j []).length
end Lv
namespace Lv
open PySem L2
def lenN (N:List (List Int)):List Nat:=N.map List.length
def opn (N:List (List Int)) (m:List Nat) (j:Nat):Bool:=decide (m.getD j 0<(N.getD j []).length)
def opnL (N:List (List Int)) (m:List Nat):List Nat:=(List.range N.length).filter (opn N m)
structure OrS (N:List (List Int)) (m:List Nat) (t os:List Int):Prop where
 hd:hold N (N.map fun _=>0) [] os=some (m,t)
 up:upI t=true
 lst:∀ l,t.getLast?=some l->∀ j∈opnL N m,l<=atO N m j
 inm:InM N m
 sm:m.sum=os.length
end Lv
namespace L2
open PySem PySem.Spec PyProof.Rows PySem.SeqAt
def ItlB (b:Bool) (K:PySem.W.Frag) (a:Addr):It:=match b with | true=>Itl K a | false=>Itt K a
def iSeqB (K:PySem.W.Frag) (tl:TE):TI:=fun σ H R=>tl σ H fun x H1=>∃ a b,x=.ref a/\(∃ xs,SqB b K H1 a xs)/\R (ItlB b K a) H1
theorem Zajo (K:PySem.W.Frag) {X:Cx}{tg l:Expr}{tl:TE} (hl:PE X l tl) (hK:X.K=K:=by rfl):PI X tg l (iSeqB K tl):=by
 subst hK
 intro pins s σ H R I h
 refine thn (hl pins s σ H _ I h) fun v s1 ⟨x,H1,I1,r1,q1⟩=>?_
 obtain⟨a,b,e,⟨xs,hq⟩,q⟩:=q1
 subst e
 cases r1
 have fp:∀ b∈[s1.heap.objs.size],FpOk X pins H1 b:=fun b hb=>by
  have e:b=s1.heap.objs.size:=by simpa using hb
  subst e
  exact I1.fpOk (Nat.le_refl _) (I1.hok.fresh (Nat.le_refl _))
 cases b with
 | true=>
  obtain⟨its,rv,p,hz⟩:=I1.list hq
  exact wpAny_pyIter_list p.isList ⟨s1.heap.objs.size,[s1.heap.objs.size],_,_,H1,rfl,I1.kept (t':=s1.toks) fun b o e=>Heap.get?_push_of_some _ e,Zaen a _,⟨_,Heap.get?_push_size _ rfl,rfl,rfl⟩,fp,q⟩
 | false=>
  obtain⟨its,rv,p,hz⟩:=I1.tuple hq
  exact wpAny_pyIter_tuple (show s1.heap.IsTuple a its.toArray from p) ⟨s1.heap.objs.size,[s1.heap.objs.size],_,_,H1,rfl,I1.kept (t':=s1.toks) fun b o e=>Heap.get?_push_of_some _ e,Zadc a _,⟨_,Heap.get?_push_size _ rfl,rfl,rfl⟩,fp,q⟩
theorem Zado {X:Cx}{tg l:Expr}{tl:TE} (hl:PE X l tl):PI X tg l (iSeqB X.K tl):=Zajo X.K hl
theorem ZaiD {b:Bool}{K:PySem.W.Frag}{H:Hp}{a:Addr}{xs:List V}{i:Nat} (q:SqB b K H a xs) (hi:i<xs.length):(ItlB b K a).go i H:=by
 cases b <;> exact⟨xs,xs[i],q,List.getElem?_eq_getElem hi⟩
theorem Zagy {b:Bool}{K:PySem.W.Frag}{H H':Hp}{a:Addr}{xs:List V}{i:Nat}{x:V} (q:SqB b K H a xs) (y:(ItlB b K a).yld i H x H'):H'=H/\xs[i]?=some x:=by
 cases b <;> exact⟨y.1,y.2 xs q⟩
theorem ZaeI {b:Bool}{K:PySem.W.Frag}{H:Hp}{a:Addr}{xs:List V}{i:Nat} (q:SqB b K H a xs) (hi:xs.length<=i):(ItlB b K a).stop i H:=by
 cases b <;> exact⟨xs,q,hi⟩
theorem ZaiE {b:Bool}{K:PySem.W.Frag}{H:Hp}{a:Addr}{xs:List V}{i:Nat} (q:SqB b K H a xs) (hi:i<xs.length):(IteB b K a).go i H:=by
 cases b <;> exact⟨xs,xs[i],q,List.getElem?_eq_getElem hi⟩
theorem Zagz {b:Bool}{K:PySem.W.Frag}{H H':Hp}{a:Addr}{xs:List V}{i:Nat}{x:V} (q:SqB b K H a xs) (y:(IteB b K a).yld i H x H'):∃ p z,H p=none/\x=.ref p/\H'=upd H p (.tup [.int i,z])/\xs[i]?=some z:=by
 cases b with
 | true=>obtain⟨p,z,hp,e1,e2,y⟩:=y; exact⟨p,z,hp,e1,e2,y xs q⟩
 | false=>obtain⟨p,z,hp,e1,e2,y⟩:=y; exact⟨p,z,hp,e1,e2,y xs q⟩
theorem ZaeK {b:Bool}{K:PySem.W.Frag}{H:Hp}{a:Addr}{xs:List V}{i:Nat} (q:SqB b K H a xs) (hi:xs.length<=i):(IteB b K a).stop i H:=by
 cases b <;> exact⟨xs,q,hi⟩
section
variable {b:Bool}{K:PySem.W.Frag}{own:List Str}{js:List Nat}{g1 g2 g:TG}{tt1 tt2 tt:TT}{wi2:TI}{te:TE}{σ τ:St}{H1 H6:Hp}{Q:VK}{a acc:Addr}{xs:List V}
theorem Zac2 (Pv : Addr → Nat → Hp → Prop) (h0 : ∀ acc, H1 acc = none → Pv acc 0 (upd H1 acc (.lst []))) (hl : ∀ acc i H, H1 acc = none → i ≤ xs.length → Pv acc i H → SqB b K H a xs)
  (hs:∀ acc i x H,H1 acc=none->xs[i]?=some x->Pv acc i H->g x (blkσ own js σ) H fun τ H4=>tt τ H4 fun c H5=>
   if c=true then te τ H5 fun y H6=>∃ ys,H6 acc=some (.lst ys)/\ys.length<sizeLine/\(i+1<=xs.length/\Pv acc (i+1) (upd H6 acc (.lst (ys++[y])))) else (i+1<=xs.length/\Pv acc (i+1) H5))
  (hd:∀ acc H,H1 acc=none->Pv acc xs.length H->Q (.ref acc) H):ZacK own js g tt te σ (ItlB b K a) H1 Q:=by
 intro acc hacc
 refine⟨fun i H=>i<=xs.length/\Pv acc i H,xs.length,⟨Nat.zero_le _,h0 acc hacc⟩,?_⟩
 rintro i H ⟨hi,p⟩
 have q:=hl acc i H hacc hi p
 rcases Nat.lt_or_ge i xs.length with hlt | hge
 ·refine .inr ⟨hlt,ZaiD q hlt,fun x H' y=>?_⟩
  obtain⟨rfl,hx⟩:=Zagy q y
  exact hs acc i x _ hacc hx p
 ·obtain rfl:i=xs.length:=by omega
  exact .inl ⟨ZaeI q (Nat.le_refl _),hd acc H hacc p⟩
theorem Zafr (Pv : Addr → Nat → Hp → Prop) (h0 : ∀ acc, H1 acc = none → Pv acc 0 (upd H1 acc (.lst []))) (hl : ∀ acc i H, H1 acc = none → i ≤ xs.length → Pv acc i H → SqB b K H a xs)
  (hs:∀ acc i x p H,H1 acc=none->xs[i]?=some x->Pv acc i H->H p=none->g1 (.ref p) (blkσ own js σ) (upd H p (.tup [.int i,x])) fun τ H4=>tt1 τ H4 fun c H5=>
   if c=true then wi2 τ H5 fun J2 H6=>tInW g2 tt2 te τ acc J2 H6 (fun H7=>i+1<=xs.length/\Pv acc (i+1) H7) else (i+1<=xs.length/\Pv acc (i+1) H5))
  (hd:∀ acc H,H1 acc=none->Pv acc xs.length H->Q (.ref acc) H):ZafJ own js g1 tt1 wi2 g2 tt2 te σ (IteB b K a) H1 Q:=by
 intro acc hacc
 refine⟨fun i H=>i<=xs.length/\Pv acc i H,xs.length,⟨Nat.zero_le _,h0 acc hacc⟩,?_⟩
 rintro i H ⟨hi,p⟩
 have q:=hl acc i H hacc hi p
 rcases Nat.lt_or_ge i xs.length with hlt | hge
 ·refine .inr ⟨hlt,ZaiE q hlt,fun x H' y=>?_⟩
  obtain⟨pa,z,hp,rfl,rfl,hx⟩:=Zagz q y
  exact hs acc i z pa H hacc hx p hp
 ·obtain rfl:i=xs.length:=by omega
  exact .inl ⟨ZaeK q (Nat.le_refl _),hd acc H hacc p⟩
theorem ZagD {tb : TS} {D : Ends} {H : Hp} (Pv : Nat → St → Hp → Prop) (h0 : Pv 0 σ H) (hl : ∀ i σ H, i ≤ xs.length → Pv i σ H → SqB b K H a xs)
  (hs:∀ i x σ H,xs[i]?=some x->Pv i σ H->g x σ H fun σ2 H2=>tb { D with nx:=Pv (i+1),ct:=Pv (i+1),bk:=D.nx } σ2 H2) (hd:∀ σ H,Pv xs.length σ H->D.nx σ H) :
  ∃ W:Nat->Nat->St->Hp->Prop,(∃ m,W 0 m σ H)/\∀ i m σ H,W i m σ H ->
   ((ItlB b K a).stop i H/\D.nx σ H)∨((ItlB b K a).go i H/\∃ N:St->Hp->Prop,(∀ σ' H',N σ' H'->∃ m',m'<m/\W (i+1) m' σ' H')/\∀ x H',(ItlB b K a).yld i H x H'->g x σ H' fun σ2 H2=>tb { D with nx:=N,ct:=N,bk:=D.nx } σ2 H2):=by
 refine⟨fun i m σ H=>m=xs.length - i/\i<=xs.length/\Pv i σ H,⟨xs.length,by simp,Nat.zero_le _,h0⟩,?_⟩
 rintro i m σ H ⟨rfl,hi,p⟩
 have q:=hl i σ H hi p
 rcases Nat.lt_or_ge i xs.length with hlt | hge
 ·refine .inr ⟨ZaiD q hlt,Pv (i+1),fun σ' H' z=>⟨xs.length - (i+1),by omega,rfl,hlt,z⟩,fun x H' y=>?_⟩
  obtain⟨rfl,hx⟩:=Zagy q y
  exact hs i x σ _ hx p
 ·obtain rfl:i=xs.length:=by omega
  exact .inl ⟨ZaeI q (Nat.le_refl _),hd σ H p⟩
end
end L2
namespace Lv
open PySem L2
def prs:Nat->List (List Int)->List Nat->List (Int × Nat)
 | k,x::N,m::ms=>(x.drop m).map (fun z=>(z,k))++prs (k+1) N ms
 | _,_,_=>[]
def lexle (p q:Int × Nat):Prop:=p.1<q.1∨(p.1=q.1/\p.2<=q.2)
structure MgS (N:List (List Int)) (m:List Nat) (tk:List (Int × Nat)):Prop where
 inm:InM N m
 perm:(tk++prs 0 N m).Perm (prs 0 N (N.map fun _=>0))
 srt:tk.Pairwise lexle
 le:∀ p∈tk,∀ q∈prs 0 N m,lexle p q
 sm:m.sum=tk.length
def SeqI (H:Hp) (r:Addr) (xs:List V):Prop:=H r=some (.lst xs)∨H r=some (.tup xs)
structure RwS (H:Hp) (a:Addr) (rs:List Addr) (N:List (List Int)):Prop where
 top:SeqI H a (rs.map V.ref)
 len:rs.length=N.length
 row:∀ (j:Nat) r xs,rs[j]?=some r->N[j]?=some xs->SeqI H r (xs.map V.int)
theorem Zalr {qs:List Addr}{i:Nat}{x:V} (h:(qs.map V.ref)[i]?=some x):∃ p,qs[i]?=some p/\x=.ref p:=by
 rw[List.getElem?_map] at h
 cases e:qs[i]? with
 | none=>rw[e] at h; cases h
 | some p=>rw[e] at h; exact⟨p,rfl,(Option.some.inj h).symm⟩
structure GoodT (N:List (List Int)):Prop where
 many:N.length<=12
 tot:(lenN N).sum<=400
 bnd:∀ xs∈N,∀ z∈xs,-big61<z/\z<big61
 srt:∀ xs∈N,xs.Pairwise (·<=·)
structure GoodB (b:Nat) (N:List (List Int)):Prop where
 len:∀ xs∈N,xs.length<=b
 bnd:∀ xs∈N,∀ z∈xs,-big61<z/\z<big61
 srt:∀ xs∈N,xs.Pairwise (·<=·)
end Lv
namespace L2
open PySem PySem.Spec PyProof.Rows PySem.SeqAt
section
variable {X:Cx}{scope:Scope}{own:List Str}{js fr:List Nat}{elt i1 t1 i2 t2:Expr}{f1 f2:List Expr}{wi wi2:TI}{g1 g2:TG}{tt1 tt2:TT}{te:TE}{pos:Pos}
theorem Zajl {i : Nat} {y : Str} {py spos : Pos} (hN : X.N.Nodup) (hy : X.N[i]? = some y) (hyl : X.env.scope.names.lookup y = some .local) (c : CompOk X scope own js) (hc : X.calm = true) (hi : PI X t1 i1 wi) (hgk : Zakb own fr g1) (hgt : Zaif fr g2)
  (hg:∀ s H C fp pins,PG (X.blk scope own js s H C fp pins) t1 g1) (ht:∀ s H C fp pins,PTs (X.blk scope own js s H C fp pins) f1 tt1) (hi2:∀ s H C fp pins,PI (X.blk scope own js s H C fp pins) t2 i2 wi2)
  (hg2:∀ s H C fp pins,PG (X.blk scope own js s H C fp pins) t2 g2) (ht2:∀ s H C fp pins,PTs (X.blk scope own js s H C fp pins) f2 tt2) (he:∀ s H C fp pins,PE (X.blk scope own js s H C fp pins) elt te)
  (hsw:swapsWith (two elt t1 i1 f1 t2 i2 f2 scope pos) (some (.Name y py)) spos.line X.env=pure true:=by rfl)
  (hs:∀ x,foldedSetIterable i1 X.env x=pure x:=by intro _; rfl) (hs2:∀ env x,foldedSetIterable i2 env x=pure x:=by intro _ _; rfl):PS X (.Assign [.Name y py] (two elt t1 i1 f1 t2 i2 f2 scope pos) spos) (tAsg (ZalT own js wi g1 tt1 wi2 g2 tt2 te) (gName i)):=by
 intro pins s σ H D I h
 rw[exec_Assign_Name_used _ _ _ _ hsw]
 refine wpAny_bind (wpAny_standAt (wpAny_bind ?_))
 show wpAny _ X.A (do let _ <- comprehension (two elt t1 i1 f1 t2 i2 f2 scope pos) scope X.env _ (newList []) false (eval i1 X.env) (some (assign (.Name y py) X.env))) _ _ s
 refine wpAny_bind (wpAny_mono (wpAny_comprehension_free (use:=some (assign (.Name y py) X.env)) (Q:=fun _ s'=>SP X pins D .next s') rfl hs (ZabF (c.cl I)) c.kind c.names
  (thn (hi pins s σ H _ I h) fun v s1 h1=>thn h1 fun itv s2 h2=>?_)) (fun _ s' hq=>wpAny_pure (wpAny_pure hq)) fun _ _ e=>e)
 obtain⟨it,fp,tn,J,H2,e,I2,T,st2,f2',hw⟩:=h2
 subst e
 refine Zaj9 (Q:=fun x H1=>gName i x σ H1 D.nx) (RR:=fun acc C=>compPost (model X.prog X.w) X.A X.xe (some (assign (.Name y py) X.env)) (fun _ s'=>SP X pins D .next s') acc C) c hc hgk hgt hg ht hi2 hg2 ht2 he hs2 I2 T st2 f2' hw ?_
 intro acc C H' s' m hCs hCn I' hn q
 have hL:C≠X.env.locals:=Nat.ne_of_gt (Nat.lt_of_lt_of_le I2.lt hCs)
 have hcell:∀ x a,X.env.cells.lookup x=some a->a≠C:=by
  intro x a e z
  obtain⟨v,q⟩:=I2.cell x a e
  exact absurd (Nat.lt_of_lt_of_le q.lt (by rw[z]; exact hCs)) (Nat.lt_irrefl _)
 refine wpAny_assign_Name (ZacL I' hN hy (.inl hyl) (v:=.ref acc) rfl (fun s2 I'' hch=>?_) (.inr hyl))
 obtain⟨a,sb,ha⟩:=hch
 have hCa:C≠a:=by
  rcases ha with rfl | ha
  ·exact hL
  ·exact Ne.symm (hcell _ _ ha)
 refine⟨m,hn.sameBut sb hCa,fun h' hs'=>⟨_,H',I''.other hs' hCn hL (Nat.le_trans I2.sz hCs) hcell ?_,q⟩⟩
 intro p hp z
 exact absurd (Nat.lt_of_lt_of_le (Heap.lt_size (I2.pin p hp).1) (by rw[z]; exact hCs)) (Nat.lt_irrefl _)
end
end L2
namespace L2
open PySem PySem.Spec PyProof.Rows PySem.SeqAt
theorem Zahk (K : PySem.W.Frag) {X : Cx} {es : List Expr} {x1} {tpos : Pos} {e : Expr} {ta : TA} {p pos : Pos} (hg : Gl X "enumerate") (hm : X.mg "enumerate" = none) (ha : PA X [e] ta) (hK : X.K = K := by rfl) (hs : starEach [e] X.env = [(false, eval e X.env)] := by rfl) :
  PI X (.Tuple es x1 tpos) (.Call (.Name "enumerate" p) [e] [] pos) (Zalq K ta):=by subst hK; exact Zagc hg hm ha hs
section
variable {b:Bool}{K:PySem.W.Frag}{g2:TG}{tt2:TT}{te:TE}{τ:St}{H6:Hp}{a acc:Addr}{xs:List V}
theorem ZajX {Z : Hp → Prop} (W2 : Nat → Hp → Prop) (h0 : W2 0 H6) (hl : ∀ i H, i ≤ xs.length → W2 i H → SqB b K H a xs)
  (hs:∀ i x p H,xs[i]?=some x->W2 i H->H p=none->g2 (.ref p) τ (upd H p (.tup [.int i,x])) fun τ2 H9=>tt2 τ2 H9 fun c H10=>
   if c=true then te τ2 H10 fun z H11=>∃ zs,H11 acc=some (.lst zs)/\zs.length<sizeLine/\(i+1<=xs.length/\W2 (i+1) (upd H11 acc (.lst (zs++[z])))) else (i+1<=xs.length/\W2 (i+1) H10))
  (hd:∀ H,W2 xs.length H->Z H):tInW g2 tt2 te τ acc (IteB b K a) H6 Z:=by
 refine⟨fun i H=>i<=xs.length/\W2 i H,xs.length,⟨Nat.zero_le _,h0⟩,?_⟩
 rintro i H ⟨hi,p⟩
 have q:=hl i H hi p
 rcases Nat.lt_or_ge i xs.length with hlt | hge
 ·refine .inr ⟨hlt,ZaiE q hlt,fun x H' y=>?_⟩
  obtain⟨pa,z,hp,rfl,rfl,hx⟩:=Zagz q y
  exact hs i z pa H hx p hp
 ·obtain rfl:i=xs.length:=by omega
  exact .inl ⟨ZaeK q (Nat.le_refl _),hd H p⟩
end
end L2
namespace Lv
open PySem L2
def intW:V->Int
 | .int i=>i
 | _=>0
def kf (H:Hp) (p:Addr):List Int:=match H p with
 | some (.tup vs)=>vs.map intW
 | _=>[]
theorem kf_of {H:Hp}{p:Addr}{k:List Int} (h:H p=some (.tup (k.map V.int))):kf H p=k:=by
 unfold kf
 rw[h]
 show (k.map V.int).map intW=k
 rw[List.map_map]
 exact (List.map_congr_left fun _ _=>rfl).trans (List.map_id k)
def TuM (H:Hp) (ps:List Addr) (ks:List (List Int)):Prop:=(∀ p∈ps,∃ k:List Int,k≠[]/\H p=some (.tup (k.map V.int)))/\ps.map (kf H)=ks
theorem TuM.nil {H:Hp}:TuM H [] []:=⟨fun p hp=>(nomatch hp),rfl⟩
theorem TuM.keep {H H':Hp}{ps:List Addr}{ks:List (List Int)} (h:TuM H ps ks) (k:∀ p∈ps,H' p=H p):TuM H' ps ks:=by
 refine⟨fun p hp=>by rw[k p hp]; exact h.1 p hp,?_⟩
 rw[<- h.2]
 refine List.map_congr_left fun p hp=>?_
 unfold kf
 rw[k p hp]
theorem TuM.same {H H':Hp}{ps:List Addr}{ks:List (List Int)} (h:TuM H ps ks) (s:Same H H'):TuM H' ps ks:=h.keep fun p hp=>by
 obtain⟨k,_,e⟩:=h.1 p hp
 rw[e,s _ _ e]
theorem TuM.snoc {H:Hp}{ps:List Addr}{ks:List (List Int)}{p:Addr}{k:List Int} (h:TuM H ps ks) (e:H p=some (.tup (k.map V.int))) (hk:k≠[]):TuM H (ps++[p]) (ks++[k]):=by
 refine⟨fun q hq=>?_,by rw[List.map_append,h.2,List.map_cons,List.map_nil,kf_of e]⟩
 rcases List.mem_append.mp hq with hq | hq
 ·exact h.1 q hq
 ·rw[List.mem_singleton.mp hq]; exact⟨k,hk,e⟩
theorem TuM.at {H:Hp}{ps:List Addr}{ks:List (List Int)} (h:TuM H ps ks) {j:Nat}{p:Addr} (e:ps[j]?=some p):∃ k,ks[j]?=some k/\H p=some (.tup (k.map V.int)):=by
 obtain⟨k,_,e2⟩:=h.1 p (List.mem_of_getElem? e)
 exact⟨k,by rw[<- h.2,List.getElem?_map,e,Option.map_some,kf_of e2],e2⟩
theorem TuM.len {H:Hp}{ps:List Addr}{ks:List (List Int)} (h:TuM H ps ks):ps.length=ks.length:=by rw[<- h.2,List.length_map]
def tripR (k:Nat) (xs:List Int):List (List Int):=xs.mapIdx fun j z=>[z,(k:Int),(j:Int)]
def trip:Nat->List (List Int)->List (List Int)
 | _,[]=>[]
 | k,xs::N=>tripR k xs++trip (k+1) N
theorem ZafG {k:Nat}{xs:List Int}{j:Nat}{z:Int} (h:xs[j]?=some z):tripR k (xs.take (j+1))=tripR k (xs.take j)++[[z,(k:Int),(j:Int)]]:=by
 have hl:=(List.getElem?_eq_some_iff.mp h).1
 unfold tripR
 rw[List.take_add_one,h,Option.toList_some,List.mapIdx_append]
 simp[List.length_take,Nat.min_eq_left (Nat.le_of_lt hl)]
theorem Zaep:∀ (N:List (List Int)) (k:Nat) (xs:List Int),trip k (N++[xs])=trip k N++tripR (k+N.length) xs
 | [],k,xs=>by simp[trip]
 | y::N,k,xs=>by rw[List.cons_append,trip,Zaep N (k+1) xs,trip,List.append_assoc,List.length_cons,show k+1+N.length=k+(N.length+1) by omega]
theorem Zag7 {N:List (List Int)}{i:Nat}{xs:List Int} (h:N[i]?=some xs):trip 0 (N.take (i+1))=trip 0 (N.take i)++tripR i xs:=by
 have hl:=(List.getElem?_eq_some_iff.mp h).1
 rw[List.take_add_one,h,Option.toList_some,Zaep,List.length_take,Nat.min_eq_left (Nat.le_of_lt hl),Nat.zero_add]
theorem Zaeq (k:Nat) (xs:List Int):(tripR k xs).length=xs.length:=by unfold tripR; simp
theorem ZabL:∀ (N:List (List Int)) (k:Nat),(trip k N).length=N.flatten.length
 | [],_=>rfl
 | xs::N,k=>by rw[trip,List.length_append,Zaeq,ZabL N,List.flatten_cons,List.length_append]
theorem ZafF:∀ (N:List (List Int)) (k:Nat),(trip k N).map (fun t=>t.getD 0 0)=N.flatten
 | [],_=>rfl
 | xs::N,k=>by
  rw[trip,List.map_append,ZafF N,List.flatten_cons]
  congr 1
  unfold tripR
  exact List.ext_getElem (by simp) fun i h1 h2=>by simp
def ZadN:Sp:=fun vs H Q _=>∃ (a:Addr) (rs:List Addr) (N:List (List Int)) (m:Nat),vs=[.ref a,.int m]/\H a=some (.tup (rs.map V.ref))/\TTs H rs N/\N.length<=7/\N.flatten.length<=100000 /\
 ∀ (l:Addr) (qs:List Addr) (ks:List (List Int)) H',H l=none->H' l=some (.lst ((qs.take m).map V.ref))->TuM H' qs ks->ks.Perm (trip 0 N)->ks.Pairwise (fun p q=>lxB q p=false)->Same H H'->Q (.ref l) H'
end Lv
namespace L2
open PySem PySem.Spec PyProof.Rows PySem.SeqAt
end L2
namespace Lv
open PySem L2
end Lv
namespace Lv
open PySem L2
def fst1 (p r:Int):Int:=2+(r - 2) % (p - 1)
structure Od (p r:Nat) (left:List Int) (read:Int) (k x y:Nat) (w e:Int):Prop where
 is:left=List.replicate x ((p:Int) ^ k)++w::List.replicate y ((p:Int) ^ (k+1))
 lo:(p:Int) ^ k<=w
 hi:w<=(p:Int) ^ (k+1)
 all:(x:Int)*(p:Int) ^ k+w+(y:Int)*(p:Int) ^ (k+1)=r
 full:∃ j:Nat,x+y=j*(p - 1)
 rd:read=(x:Int)*(p:Int) ^ k*k+(y:Int)*(p:Int) ^ (k+1)*(k+1)+(w*k+e)
 kr:(p:Int)*(w - e)+e+((p:Int) - fst1 p r)=(p:Int) ^ (k+1)
end Lv
namespace Lv
open PySem L2
end Lv
namespace Lv
open PySem L2
theorem ZaeA {t:Int}:∀ {ys:List Int},(∀ y∈ys,y<=t)->sv ys t=(ys.length:Int)*t - ys.sum
 | [],_=>by simp[sv]
 | y::ys,h=>by
  have h1:=h y (by simp)
  have ih:=ZaeA fun z hz=>h z (List.mem_cons_of_mem _ hz)
  show pz (t - y)+sv ys t=_
  rw[ih,List.sum_cons,List.length_cons,show ((ys.length+1:Nat):Int)=ys.length+1 by omega,Int.add_mul]
  unfold pz
  rw[if_neg (by omega)]
  omega
theorem ZaeB {t:Int}:∀ {ys:List Int},(∀ y∈ys,t<=y)->sv ys t=0
 | [],_=>by simp[sv]
 | y::ys,h=>by
  have h1:=h y (by simp)
  have ih:=ZaeB fun z hz=>h z (List.mem_cons_of_mem _ hz)
  show pz (t - y)+sv ys t=_
  rw[ih]
  unfold pz
  split <;> omega
theorem ZalW (xs ys:List Int) (t:Int):sv (xs++ys) t=sv xs t+sv ys t:=by
 unfold sv
 rw[List.map_append,List.sum_append]
theorem Zako {xs ys:List Int} (h:xs.Perm ys) (t:Int):sv xs t=sv ys t:=Zajp (h.map _)
theorem Zale {xs Z:List Int} (hp:Z.Perm xs) (hs:Z.Pairwise (·<=·)) {j:Nat} (h1:1<=j) (hj:j<=Z.length):Lst xs j (Z.take j).sum:=by
 have hl:(Z.take j).length=j:=by simp; omega
 have hZ:Z=Z.take j++Z.drop j:=(List.take_append_drop j Z).symm
 have e:∀ t,sv xs t=sv (Z.take j) t+sv (Z.drop j) t:=fun t=>by rw[<- Zako hp t,<- ZalW,List.take_append_drop]
 constructor
 ·intro t
  have a:=sv_ge t (Z.take j)
  have b:=sv_nn (Z.drop j) t
  rw[hl] at a
  rw[e t]
  omega
 ·have hne:Z.take j≠[]:=fun z=>by rw[z] at hl; simp at hl; omega
  refine⟨(Z.take j).getLast hne,hp.mem_iff.mp (List.mem_of_mem_take (List.getLast_mem hne)),?_⟩
  rw[hZ,List.pairwise_append] at hs
  obtain⟨s1,s2,s3⟩:=hs
  have hm:=List.getLast_mem hne
  have lo:∀ y∈Z.take j,y<=(Z.take j).getLast hne:=fun y hy=>by
   have hd:Z.take j=(Z.take j).dropLast++[(Z.take j).getLast hne]:=(List.dropLast_concat_getLast hne).symm
   have s1':=s1
   rw[hd,List.pairwise_append] at s1'
   rw[hd] at hy
   rcases List.mem_append.mp hy with hy | hy
   ·exact s1'.2.2 y hy _ (by simp)
   ·rw[List.mem_singleton] at hy
    omega
  rw[e,ZaeA lo,ZaeB (ys:=Z.drop j) fun y hy=>s3 _ hm y hy,hl]
  omega
theorem Lst.uniq {xs:List Int}{r u v:Int} (a:Lst xs r u) (b:Lst xs r v):u=v:=by
 obtain⟨s,_,e1⟩:=a.eq
 obtain⟨t,_,e2⟩:=b.eq
 have h1:=b.le s
 have h2:=a.le t
 omega
def BstJ (S:Nat->List (List Int)) (L:Nat) (j:Int) (v:Int):Prop:=(v = -1/\∀ n,n<L->gS S j n=none)∨(0<=v/\(∃ n,n<L/\gS S j n=some v)/\∀ n u,n<L->gS S j n=some u->v<=u)
structure BestF (S:Nat->List (List Int)) (L most:Nat) (F:List Int):Prop where
 len:F.length=most+1
 at_:∀ j:Nat,1<=j->j<=most->BstJ S L j (F.getD j 0)
end Lv
namespace Lv
open PySem L2
def setB (B:List (List Bool)) (k:List Int):List (List Bool):=B.set (k.getD 1 0).toNat ((B.getD (k.getD 1 0).toNat []).set (k.getD 2 0).toNat true)
def noB (N:List (List Int)):List (List Bool):=N.map fun xs=>List.replicate xs.length false
def laidB (N:List (List Int)) (ks:List (List Int)):List (List Bool):=ks.foldl setB (noB N)
theorem Zadt (N:List (List Int)) (ks:List (List Int)) (k:List Int):laidB N (ks++[k])=setB (laidB N ks) k:=by
 unfold laidB
 rw[List.foldl_append]
 rfl
theorem trip_memL:∀ {N:List (List Int)}{i:Nat}{k:List Int},k∈trip i N↔∃ (r j:Nat) (xs:List Int) (z:Int),N[r]?=some xs/\xs[j]?=some z/\k=[z,((i+r:Nat):Int),(j:Int)]
 | [],i,k=>by simp[trip]
 | ys::N,i,k=>by
  rw[trip,List.mem_append,trip_memL]
  constructor
  ·rintro (h | ⟨r,j,xs,z,h1,h2,h3⟩)
   ·unfold tripR at h
    obtain⟨j,hj,e⟩:=List.mem_mapIdx.mp h
    exact⟨0,j,ys,ys[j],rfl,List.getElem?_eq_getElem hj,by rw[<- e,Nat.add_zero]⟩
   ·exact⟨r+1,j,xs,z,h1,h2,by rw[h3,show i+(r+1)=i+1+r by omega]⟩
  ·rintro⟨r,j,xs,z,h1,h2,h3⟩
   cases r with
   | zero=>
    left
    cases h1
    have hj:=(List.getElem?_eq_some_iff.mp h2)
    unfold tripR
    exact List.mem_mapIdx.mpr ⟨j,hj.1,by rw[h3,hj.2,Nat.add_zero]⟩
   | succ r=>exact .inr ⟨r,j,xs,z,h1,h2,by rw[h3,show i+(r+1)=i+1+r by omega]⟩
theorem Zain:∀ {xs:List Int}{bs:List Bool}{j:Nat}{z:Int},xs[j]?=some z->bs[j]?=some false->(sel xs (bs.set j true)).sum=(sel xs bs).sum+z/\(bs.set j true).count true=bs.count true+1
 | [],_,j,z,h,_=>by simp at h
 | _::_,[],j,z,_,h=>by simp at h
 | x::xs,b::bs,0,z,h,g=>by
  simp at h g
  subst h g
  constructor
  ·simp[sel]
   omega
  ·simp
 | x::xs,b::bs,j+1,z,h,g=>by
  obtain⟨i1,i2⟩:=Zain (xs:=xs) (bs:=bs) (j:=j) (z:=z) (by simpa using h) (by simpa using g)
  constructor
  ·cases b with
   | true=>simp only[sel,List.set_cons_succ,List.zip_cons_cons,List.filter_cons,if_true,List.map_cons,List.sum_cons] at i1 ⊢; omega
   | false=>simpa[sel] using i1
  ·rw[List.set_cons_succ,List.count_cons,List.count_cons,i2]
   omega
theorem Zaf5:∀ {N:List (List Int)}{B:List (List Bool)}{r j:Nat}{xs:List Int}{bs:List Bool}{z:Int},N[r]?=some xs->B[r]?=some bs->xs[j]?=some z->bs[j]?=some false->Zab8 N (B.set r (bs.set j true))=Zab8 N B+z/\(B.set r (bs.set j true)).flatten.count true=B.flatten.count true+1
 | [],_,r,j,xs,bs,z,h,_,_,_=>by simp at h
 | _::_,[],r,j,xs,bs,z,_,h,_,_=>by simp at h
 | x::N,b::B,0,j,xs,bs,z,h1,h2,h3,h4=>by
  simp at h1 h2
  subst h1 h2
  obtain⟨i1,i2⟩:=Zain h3 h4
  constructor
  ·unfold Zab8
   rw[List.set_cons_zero,List.zipWith_cons_cons,List.zipWith_cons_cons,List.sum_cons,List.sum_cons,i1]
   omega
  ·rw[List.set_cons_zero,List.flatten_cons,List.flatten_cons,List.count_append,List.count_append,i2]
   omega
 | x::N,b::B,r+1,j,xs,bs,z,h1,h2,h3,h4=>by
  obtain⟨i1,i2⟩:=Zaf5 (N:=N) (B:=B) (r:=r) (by simpa using h1) (by simpa using h2) h3 h4
  constructor
  ·unfold Zab8 at i1 ⊢
   rw[List.set_cons_succ,List.zipWith_cons_cons,List.zipWith_cons_cons,List.sum_cons,List.sum_cons,i1]
   omega
  ·rw[List.set_cons_succ,List.flatten_cons,List.flatten_cons,List.count_append,List.count_append,i2]
   omega
structure Laid (N:List (List Int)) (ks:List (List Int)) (B:List (List Bool)):Prop where
 len:lensB B=N.map fun xs=>(xs.length:Int)
 off:∀ (r j:Nat) (xs:List Int) (z:Int),N[r]?=some xs->xs[j]?=some z->[z,(r:Int),(j:Int)] ∉ ks->∃ bs,B[r]?=some bs/\bs[j]?=some false
 cnt:B.flatten.count true=ks.length
 rd:Zab8 N B=(ks.map (·.getD 0 0)).sum
theorem ZajS (N:List (List Int)):Laid N [] (noB N):=by
 refine⟨?_,fun r j xs z h1 h2 _=>⟨List.replicate xs.length false,?_,?_⟩,?_,?_⟩
 ·unfold lensB noB
  rw[List.map_map]
  exact List.map_congr_left fun xs _=>by simp
 ·unfold noB
  rw[List.getElem?_map,h1]
  rfl
 ·rw[List.getElem?_replicate,if_pos (List.getElem?_eq_some_iff.mp h2).1]
 ·unfold noB
  rw[List.length_nil,List.count_eq_zero]
  intro h
  obtain⟨bs,hb,ht⟩:=List.mem_flatten.mp h
  obtain⟨xs,_,rfl⟩:=List.mem_map.mp hb
  cases List.eq_of_mem_replicate ht
 ·induction N with
  | nil=>rfl
  | cons xs N ih=>
   have e:sel xs (List.replicate xs.length false)=[]:=by
    unfold sel
    rw[List.map_eq_nil_iff,List.filter_eq_nil_iff]
    intro q hq
    have:=(List.of_mem_zip hq).2
    rw[List.eq_of_mem_replicate this]
    decide
   unfold Zab8 noB at ih ⊢
   rw[List.map_cons,List.zipWith_cons_cons,List.sum_cons,ih,e]
   rfl
theorem Laid.step {N:List (List Int)}{ks:List (List Int)}{B:List (List Bool)}{r j:Nat}{xs:List Int}{z:Int} (h:Laid N ks B) (h1:N[r]?=some xs) (h2:xs[j]?=some z) (hn:[z,(r:Int),(j:Int)] ∉ ks):Laid N (ks++[[z,(r:Int),(j:Int)]]) (setB B [z,(r:Int),(j:Int)]):=by
 obtain⟨bs,e1,e2⟩:=h.off r j xs z h1 h2 hn
 have es:setB B [z,(r:Int),(j:Int)]=B.set r (bs.set j true):=by
  unfold setB
  show B.set ((r:Int).toNat) ((B.getD ((r:Int).toNat) []).set ((j:Int).toNat) true)=_
  rw[Int.toNat_natCast,Int.toNat_natCast,List.getD_eq_getElem?_getD,e1]
  rfl
 obtain⟨i1,i2⟩:=Zaf5 h1 e1 h2 e2
 rw[es]
 refine⟨?_,fun r' j' xs' z' g1 g2 gn=>?_,by rw[i2,h.cnt,List.length_append]; rfl,by rw[i1,h.rd,List.map_append,List.sum_append]; simp⟩
 ·rw[<- h.len]
  unfold lensB
  rw[List.map_set,List.length_set]
  have hr:=(List.getElem?_eq_some_iff.mp e1)
  refine List.ext_getElem? fun i=>?_
  rw[List.getElem?_set]
  split
  ·rename_i hi
   subst hi
   rw[List.length_map,if_pos hr.1,List.getElem?_map,e1]
   rfl
  ·rfl
 ·have hne : ¬ (r' = r ∧ j' = j) := fun ⟨a, b⟩ => by
   subst a b
   rw[h1] at g1
   cases g1
   rw[h2] at g2
   cases g2
   exact gn (List.mem_append_right _ (List.mem_singleton.mpr rfl))
  obtain⟨bs',f1,f2⟩:=h.off r' j' xs' z' g1 g2 fun hm=>gn (List.mem_append_left _ hm)
  by_cases hr:r'=r
  ·subst hr
   rw[e1] at f1
   cases f1
   refine⟨bs.set j true,?_,?_⟩
   ·rw[List.getElem?_set_self (List.getElem?_eq_some_iff.mp e1).1]
   ·rw[List.getElem?_set_ne fun hj=>hne ⟨rfl,hj.symm⟩]
    exact f2
  ·exact⟨bs',by rw[List.getElem?_set_ne (Ne.symm hr)]; exact f1,f2⟩
end Lv
namespace L2
open PySem PySem.Spec PyProof.Rows PySem.SeqAt
theorem Zalt {b1 b2 : Bool} {K : PySem.W.Frag} {a b : Addr} {xs ys : List V} {g : TG} {tb : TS} {D : Ends} {σ : St} {H : Hp} (hlen : xs.length ≤ ys.length) (Pv : Nat → St → Hp → Prop) (h0 : Pv 0 σ H)
  (hl:∀ i σ H,i<=xs.length->Pv i σ H->SqB b1 K H a xs/\SqB b2 K H b ys)
  (hs:∀ i x y p σ H,xs[i]?=some x->ys[i]?=some y->Pv i σ H->H p=none->g (.ref p) σ (upd H p (.tup [x,y])) fun σ2 H2=>tb { D with nx:=Pv (i+1),ct:=Pv (i+1),bk:=D.nx } σ2 H2) (hd:∀ σ H,Pv xs.length σ H->D.nx σ H) :
  ∃ W:Nat->Nat->St->Hp->Prop,(∃ m,W 0 m σ H)/\∀ i m σ H,W i m σ H ->
   ((ItzB b1 b2 K a b).stop i H/\D.nx σ H)∨((ItzB b1 b2 K a b).go i H/\∃ N:St->Hp->Prop,(∀ σ' H',N σ' H'->∃ m',m'<m/\W (i+1) m' σ' H')/\∀ x H',(ItzB b1 b2 K a b).yld i H x H'->g x σ H' fun σ2 H2=>tb { D with nx:=N,ct:=N,bk:=D.nx } σ2 H2):=by
 refine⟨fun i m σ H=>m=xs.length - i/\i<=xs.length/\Pv i σ H,⟨xs.length,by simp,Nat.zero_le _,h0⟩,?_⟩
 rintro i m σ H ⟨rfl,hi,p⟩
 obtain⟨q1,q2⟩:=hl i σ H hi p
 by_cases hlt:i<xs.length
 ·have gx:xs[i]?=some xs[i]:=List.getElem?_eq_getElem hlt
  have gy:ys[i]?=some ys[i]:=List.getElem?_eq_getElem (by omega)
  refine .inr ⟨⟨xs,ys,xs[i],ys[i],q1,q2,gx,gy⟩,Pv (i+1),fun σ' H' z=>⟨xs.length - (i+1),by omega,rfl,hlt,z⟩,fun x H' y=>?_⟩
  obtain⟨pa,z,z',hp,e1,e2,y1,y2⟩:=y
  subst e1 e2
  exact hs i z z' pa σ H (y1 xs q1) (y2 ys q2) p hp
 ·obtain rfl:i=xs.length:=by omega
  exact .inl ⟨⟨xs,ys,q1,q2,.inl (Nat.le_refl _)⟩,hd σ H p⟩
end L2
namespace Lv
open PySem L2
def prL (ls:List Int):List (List Int):=ls.mapIdx fun j l=>[-l,(j:Int)]
theorem ZakN {ls:List Int}{j:Nat}{l:Int} (h:ls[j]?=some l):(prL ls)[j]?=some [-l,(j:Int)]:=by
 unfold prL
 rw[List.getElem?_mapIdx,h]
 rfl
end Lv
namespace Lv
open PySem L2
end Lv
namespace Lv
open PySem L2
end Lv
namespace Lv
open PySem L2
end Lv
namespace Lv
open PySem L2
end Lv
namespace Lv
open PySem L2
end Lv
namespace Lv
open PySem L2
end Lv
namespace Lv
open PySem L2
def isrt (l:List Int):List Int:=l.mergeSort (fun a b=>decide (a<=b))
def isrtR (l:List Int):List Int:=l.mergeSort (fun a b=>decide (b<=a))
def rdF (ls:List Int) (N:List (List Int)):Int:=(List.zipWith (·*·) (isrt N.flatten) (isrtR ls)).sum
theorem Zald {x y:Int}{a b:List Int} (h:lxB (y::b) (x::a)=false):x<=y:=by
 rw[lxB] at h
 by_cases e:y=x
 ·omega
 ·rw[if_neg e] at h
  have:=of_decide_eq_false h
  omega
def BestG (f:Nat->Option Int) (m:Nat):Option (Int × Nat)->Prop
 | none=>∀ j,j<m->f j=none
 | some (R,n)=>n<m/\f n=some R/\∀ j R',j<m->f j=some R'->R<=R'/\(j<n->R<R')
def fitF (ls:List Int) (L:Nat->List (List Int)) (j:Nat):Option Int:=if ls.length<=(L j).flatten.length then some (rdF ls (L j)) else none
end Lv
namespace Lv
open PySem L2
end Lv
namespace Lv
open PySem L2
def ToldM (p m:Nat):Prop:=(∀ i,i<m->(casN p i).flatten.length<=4000)/\4000<(casN p m).flatten.length
def Zaew:Sp:=fun vs H Q _=>∃ (p:Nat) (ll:Addr) (ls:List Int),vs=[.int p,.ref ll]/\2<=p/\p<=7/\H ll=some (.lst (ls.map V.int))/\ls.length<=500 /\
 ∀ (t:Addr) (R:Int) (n m:Nat) H',H' t=some (.tup [.int R,.int (n:Int)])->BestG (fitF ls (casN p)) m (some (R,n))->ToldM p m->Same H H'->Q (.ref t) H'
end Lv
namespace L2
open PySem PySem.Spec PyProof.Rows PySem.SeqAt
end L2
namespace Lv
open PySem L2
theorem Same.sqB {b:Bool}{K:PySem.W.Frag}{H H':Hp}{a:Addr}{xs:List V} (e:Same H H') (h:SqB b K H a xs):SqB b K H' a xs:=by
 cases b with
 | true=>exact e.seq h
 | false=>exact e.tup h
theorem Zah8 {b : Bool} {K : PySem.W.Frag} {own : List Str} {js : List Nat} {g : TG} {te : TE} {σ : L2.St} {H1 : Hp} {Q : VK} {a : Addr} {xs : List V} (ys : List V) (hq : SqB b K H1 a xs) (hl : xs.length = ys.length) (hlen : xs.length ≤ 20000)
  (hs:∀ (i:Nat) x y,xs[i]?=some x->ys[i]?=some y->∀ H,Same H1 H->∀ R:VK,(∀ H',Same H H'->R y H')->g x (blkσ own js σ) H fun τ H4=>te τ H4 R)
  (hd:∀ acc H,H1 acc=none->Same H1 H->H acc=some (.lst ys)->Q (.ref acc) H):ZacK own js g tTrue te σ (ItlB b K a) H1 Q:=by
 refine Zac2 (b:=b) (K:=K) (a:=a) (xs:=xs) (fun acc i H=>Same H1 H/\H acc=some (.lst (ys.take i))) (fun acc h0=>⟨Same.new h0,Zaab⟩) (fun acc i H h0 _ z=>?_) ?_ ?_
 ·exact Same.sqB z.1 hq
 ·rintro acc i x H h0 hx ⟨s1,hacc⟩
  have hi:=(List.getElem?_eq_some_iff.mp hx).1
  have hy:=List.getElem?_eq_getElem (l:=ys) (i:=i) (by omega)
  refine (cast ?_ (hs i x _ hx hy H s1 (fun y H6=>∃ zs,H6 acc=some (.lst zs)/\zs.length<sizeLine/\(i+1<=xs.length/\(Same H1 (upd H6 acc (.lst (zs++[y])))/\upd H6 acc (.lst (zs++[y])) acc=some (.lst (ys.take (i+1)))))) fun H' s'=>?_))
  ·unfold tTrue
   simp only[if_true]
  ·refine⟨_,s' _ _ hacc,?_,hi,(s1.trans s').put h0,?_⟩
   ·rw[sizeLine_eq,List.length_take]
    omega
   ·rw[Zaab,List.take_add_one,hy]
    simp
 ·rintro acc H h0 ⟨s1,hacc⟩
  rw[hl,List.take_length] at hacc
  exact hd acc H h0 s1 hacc
end Lv
namespace Fs33
open PySem L2 Lv
def top (i:Nat):Stmt:=PySem.Challenge.pw_fewreels_k33_best_layings_told.main.body.getD i (.Pass ⟨0,0,0,0⟩)
abbrev Zafa:Stmt:=top 15
abbrev sWays:Stmt:=top 20
abbrev Zadl:Stmt:=top 21
abbrev Zafe:Stmt:=top 22
abbrev sNext:Stmt:=top 23
abbrev Zab7:Stmt:=top 24
abbrev ZadS:Stmt:=top 25
abbrev sTot:Stmt:=top 28
abbrev Zab6:Stmt:=top 29
abbrev Zacv:Stmt:=top 30
abbrev Zadk:Stmt:=top 31
abbrev Zafg:Stmt:=top 32
abbrev Zafc:Stmt:=top 33
abbrev sLN:Stmt:=top 34
abbrev Zacs:Stmt:=top 35
abbrev Zacu:Stmt:=top 37
abbrev Zaff:Stmt:=top 38
abbrev ZadT:Stmt:=top 39
abbrev Zafb:Stmt:=top 40
abbrev Zacr:Stmt:=top 41
abbrev sBo:Stmt:=top 44
abbrev sBR:Stmt:=top 45
abbrev Zadm:Stmt:=top 46
abbrev sBLay:Stmt:=top 47
abbrev Zacw:Stmt:=top 49
abbrev sPool:Stmt:=top 50
abbrev sTake:Stmt:=top 51
abbrev Zact:Stmt:=top 52
abbrev Zabr:Stmt:=top 53
abbrev sLNum:Stmt:=top 55
abbrev sSums:Stmt:=top 56
abbrev sSpr4:Stmt:=top 57
abbrev Zafd:Stmt:=top 58
abbrev ZadU:Stmt:=top 59
abbrev sOdd:Stmt:=top 60
abbrev sKind:Stmt:=top 61
abbrev Zacq:Stmt:=top 62
abbrev Zacl:Stmt:=top 63
abbrev sLaw:Stmt:=top 64
end Fs33
namespace Fs33
open PySem L2 Lv
section
variable {P:Program}{w:World}{K:PySem.W.Frag}{mg:Str->Option Value}{base:Heap}
theorem scLeastP:FnScope ["numbers","many","places"] ["numbers","many"] (Zaac Zacs):=⟨rfl,rfl,rfl,by decide +kernel,rfl,by decide +kernel,by decide +kernel⟩
theorem Zah7 (xs:List V) (c:Nat):cutV xs none (some (c:Int))=xs.take c:=by
 unfold cutV
 show (xs.drop 0).take (HT.sIx xs.length xs.length (some (c:Int)) - 0)=_
 rw[HT.sIx_nat,Nat.sub_zero,List.drop_zero]
 by_cases h:c<=xs.length
 ·rw[Nat.min_eq_left h]
 ·rw[Nat.min_eq_right (by omega),List.take_length,List.take_of_length_le (by omega)]
theorem Zaj2 {N:List (List Int)}{i j:Nat}{xs:List Int} (h:N[i]?=some xs) (hj:j<=xs.length):(N.take i).flatten.length+j<=N.flatten.length:=by
 have a:=List.getElem?_eq_some_iff.mp h
 have e1:N=N.take i++xs::N.drop (i+1):=by
  have:N.drop i=xs::N.drop (i+1):=by rw[List.drop_eq_getElem_cons a.1,a.2]
  rw[<- this,List.take_append_drop]
 conv=>rhs; rw[e1]
 rw[List.flatten_append,List.length_append,List.flatten_cons,List.length_append]
 omega
theorem Zaht {f:Addr}{fd:FuncData} (F:Fun K "least_places" "least_places" Zacs f fd) (T:Txt mg) (Te:mg "enumerate"=none):FnOk P w K mg base CX0 1 f fd ["numbers","many"] ZadN:=by
 refine F.ok scLeastP (fun vs H Q E h=>?_) (fun cdv A outer s H vs Q E hr h=>?_)
 ·obtain⟨a,rs,N,m,rfl,_⟩:=h
  rfl
 ·obtain⟨a,rs,N,m,rfl,hA,hT,hN,hF,k⟩:=h
  refine ⟨_, Zaam (Zajl (i := 2) scLeastP.nd rfl rfl (own := ["reel", "on_reel", "place", "number"]) (js := []) (fr := [2, 3]) (CompOk.bare (by decide +kernel)) rfl (Zagc rfl Te (Zaaa (pv 0) Zaae)) (ZagB (i := 0) (k := 1) (K := K)) (ZagA (i := 2) (k := 3) (K := K))
    (fun _ _ _ _ _=>ZaeC K rfl (Zaaw (Zaak (i:=0) (by show (["reel","on_reel","place","number"]:List Str).Nodup; decide +kernel) rfl (Or.inl rfl) (.inr rfl)) (Zaaw (Zaak (i:=1) (by show (["reel","on_reel","place","number"]:List Str).Nodup; decide +kernel) rfl (Or.inl rfl) (.inr rfl)) Zabo))) (fun _ _ _ _ _=>ZaaW) (fun _ _ _ _ _=>Zahk K rfl Te (Zaaa (pv 1) Zaae))
    (fun _ _ _ _ _=>ZaeC K rfl (Zaaw (Zaak (i:=2) (by show (["reel","on_reel","place","number"]:List Str).Nodup; decide +kernel) rfl (Or.inl rfl) (.inr rfl)) (Zaaw (Zaak (i:=3) (by show (["reel","on_reel","place","number"]:List Str).Nodup; decide +kernel) rfl (Or.inl rfl) (.inr rfl)) Zabo))) (fun _ _ _ _ _=>ZaaW) (fun _ _ _ _ _=>Zacm (Zaaa (pv 3) (Zaaa (pv 0) (Zaaa (pv 2) Zaae)))))
   (Zaar (Zaax (Zabt ZafY (Zaaj Zaft rfl T.sorted Zaeh (Zaaa (pv 2) Zaae)) Zacc (Zacb (pv 1))))),?_⟩
  have hz:100000<sizeLine:=by decide
  refine⟨_,rfl,a,false,rfl,⟨_,SqT.of hA⟩,?_⟩
  refine Zafr (b:=false) (xs:=rs.map V.ref) (fun acc i H2=>Same H H2/\∃ ps,H2 acc=some (.lst (ps.map V.ref))/\(∀ p∈ps,p≠acc)/\TuM H2 ps (trip 0 (N.take i))) (fun acc h0=>⟨Same.new h0,[],Zaab,(fun p hp=>nomatch hp),TuM.nil⟩) (fun acc i H2 h0 _ p=>SqT.of (p.1 _ _ hA)) ?_ ?_
  ·rintro acc i x q H2 h0 hx ⟨s2,ps,hacc,hne,hpr⟩ hq
   obtain⟨r,hr',rfl⟩:=Zalr hx
   have hi:=(List.getElem?_eq_some_iff.mp hr').1
   obtain⟨xs,e2⟩:∃ xs,N[i]?=some xs:=⟨_,List.getElem?_eq_getElem (by rw[<- hT.1]; exact hi)⟩
   have hrow:=hT.2 i r xs hr' e2
   have s3:Same H2 (upd H2 q (.tup [.int i,.ref r])):=Same.new hq
   have hq3:upd H2 q (.tup [.int i,.ref r]) q=some (.tup [.int i,.ref r]):=Zaab
   generalize upd H2 q (.tup [.int i,.ref r])=H3 at s3 hq3 ⊢
   have s03:=s2.trans s3
   refine⟨q,_,rfl,SqT.of hq3,rfl,_,_,rfl,_,_,rfl,rfl,?_⟩
   refine⟨_,rfl,r,false,rfl,⟨_,SqT.of (s03 _ _ hrow)⟩,?_⟩
   refine ZajX (b:=false) (xs:=xs.map V.int) (fun j H4=>Same H H4/\∃ ps,H4 acc=some (.lst (ps.map V.ref))/\(∀ p∈ps,p≠acc)/\TuM H4 ps (trip 0 (N.take i)++tripR i (xs.take j))) ⟨s03,ps,s3 _ _ hacc,hne,by simpa[tripR] using hpr.same s3⟩ (fun j H4 _ p=>SqT.of (p.1 _ _ hrow)) ?_ ?_
   ·rintro j y u H4 hy ⟨s4,ps,hac4,hne4,hpr4⟩ nu
    obtain⟨z,hz',rfl⟩:=Zacy hy
    have hj:=(List.getElem?_eq_some_iff.mp hz').1
    have hle:=Zaj2 e2 (Nat.le_of_lt hj)
    have hpl:ps.length=(N.take i).flatten.length+j:=by
     rw[hpr4.len,List.length_append,ZabL,Zaeq,List.length_take]
     omega
    have su:Same H4 (upd H4 u (.tup [.int j,.int z])):=Same.new nu
    have hu3:upd H4 u (.tup [.int j,.int z]) u=some (.tup [.int j,.int z]):=Zaab
    generalize upd H4 u (.tup [.int j,.int z])=H4' at su hu3 ⊢
    replace hac4:=su _ _ hac4
    replace hpr4:=hpr4.same su
    replace s4:=s4.trans su
    refine⟨u,_,rfl,SqT.of hu3,rfl,_,_,rfl,_,_,rfl,rfl,?_⟩
    refine⟨_,rfl,_,rfl,_,rfl,(by show 3<=sizeLine; decide),fun t ht=>?_⟩
    have hta:t≠acc:=Ne.symm (Zaad hac4 ht)
    have s45:Same H4' (upd H4' t (.tup [.int z,.int i,.int j])):=Same.new ht
    have ht5:upd H4' t (.tup [.int z,.int i,.int j]) t=some (.tup (([z,(i:Int),(j:Int)]:List Int).map V.int)):=Zaab
    generalize upd H4' t (.tup [.int z,.int i,.int j])=H5 at s45 ht5 ⊢
    refine⟨_,s45 _ _ hac4,by rw[List.length_map]; omega,by rw[List.length_map]; exact hj,(s4.trans s45).put h0,ps++[t],by rw[Zaab,List.map_append]; rfl,fun p hp=>?_,?_⟩
    ·rcases List.mem_append.mp hp with hp | hp
     ·exact hne4 p hp
     ·rw[List.mem_singleton.mp hp]; exact hta
    ·have:=(hpr4.same s45).snoc ht5 (by simp)
     rw[List.append_assoc,<- ZafG hz'] at this
     refine this.keep fun p hp=>Zaaf ?_
     rcases List.mem_append.mp hp with hp | hp
     ·exact hne4 p hp
     ·rw[List.mem_singleton.mp hp]; exact hta
   ·rintro H4 ⟨s4,ps,hac4,hne4,hpr4⟩
    rw[List.length_map,List.take_length,<- Zag7 e2] at hpr4
    exact⟨by rw[List.length_map]; exact hi,s4,ps,hac4,hne4,hpr4⟩
  rintro acc H2 h0 ⟨s2,ps,hacc,hne,hpr⟩
  have e:(rs.map V.ref).length=N.length:=by rw[List.length_map,hT.1]
  rw[e,List.take_length] at hpr
  have hks:∀ p∈ps,kf H2 p≠[]/\H2 p=some (.tup ((kf H2 p).map V.int)):=by
   intro p hp
   obtain⟨k',hk,e⟩:=hpr.1 p hp
   rw[kf_of e]
   exact⟨hk,e⟩
  refine⟨_,rfl,acc,ps,kf H2,rfl,SqL.of hacc,hks,fun l qs nl pm up=>?_⟩
  have s23:Same H2 (upd H2 l (.lst (qs.map V.ref))):=Same.new nl
  have hl3:upd H2 l (.lst (qs.map V.ref)) l=some (.lst (qs.map V.ref)):=Zaab
  generalize upd H2 l (.lst (qs.map V.ref))=H3 at s23 hl3 ⊢
  have s03:=s2.trans s23
  refine⟨_,rfl,(m:Int),rfl,l,_,rfl,SqL.of hl3,fun l2 nl2=>?_⟩
  rw[Zah7,<- List.map_take]
  have s34:Same H3 (upd H3 l2 (.lst ((qs.take m).map V.ref))):=Same.new nl2
  have hq2:TuM H2 qs (qs.map (kf H2)):=⟨fun p hp=>hpr.1 p (pm.mem_iff.mp hp),rfl⟩
  refine k l2 qs (qs.map (kf H2)) _ (s03.free nl2) Zaab (hq2.same (s23.trans s34)) ?_ (List.pairwise_map.mpr up) (s03.trans s34)
  rw[<- hpr.2]
  exact pm.map _
end
end Fs33
namespace L2
open PySem PySem.Spec PyProof.Rows PySem.SeqAt
def LBs (H:Hp) (rs:List Addr) (N:List (List Bool)):Prop:=rs.length=N.length/\∀ (j:Nat) r xs,rs[j]?=some r->N[j]?=some xs->H r=some (.lst (xs.map V.bl))
theorem LBs.same {H H':Hp}{rs:List Addr}{N:List (List Bool)} (h:LBs H rs N) (s:Same H H'):LBs H' rs N:=⟨h.1,fun j r xs a b=>s _ _ (h.2 j r xs a b)⟩
theorem LBs.lst {H:Hp}{rs:List Addr}{N:List (List Bool)}{acc:Addr}{ys:List V} (h:LBs H rs N) (e:acc ∉ rs):LBs (upd H acc (.lst ys)) rs N:=⟨h.1,fun j r xs a b=>by
 rw[Zaaf (by intro z; subst z; exact e (List.mem_of_getElem? a))]
 exact h.2 j r xs a b⟩
theorem LBs.snoc {H:Hp}{rs:List Addr}{N:List (List Bool)}{r:Addr}{x:List Bool} (h:LBs H rs N) (e:H r=some (.lst (x.map V.bl))):LBs H (rs++[r]) (N++[x]):=⟨by simp[h.1],fun j r' xs a b=>by
 rcases ZaaT a with a | ⟨a,rfl⟩
 ·rcases ZaaT b with b | ⟨b,_⟩
  ·exact h.2 j r' xs a b
  ·have:=(List.getElem?_eq_some_iff.mp a).1; have:=h.1; omega
 ·rcases ZaaT b with b | ⟨_,rfl⟩
  ·have:=(List.getElem?_eq_some_iff.mp b).1; have:=h.1; omega
  ·exact e⟩
section
variable {X:Cx}
end
end L2
namespace Lv
open PySem L2
end Lv
namespace Lv
open PySem L2
def lastR (r:List (List Int)):List Int:=r.getLastD []
def wr (L:List (List (List Int))):List Int:=(L.map lastR).flatten
end Lv
namespace Lv
open PySem L2
theorem LBs.get {H:Hp}{as:List Addr}{Rw:List (List Bool)}{x:Addr} (h:LBs H as Rw) (hx:x∈as):∃ xs:List Bool,H x=some (.lst (xs.map V.bl)):=by
 obtain⟨i,hi,rfl⟩:=List.getElem_of_mem hx
 have:=h.1
 exact⟨Rw[i]'(by omega),h.2 i _ _ (List.getElem?_eq_getElem hi) (List.getElem?_eq_getElem (by omega))⟩
end Lv
namespace Fs33
open PySem L2 Lv
section
variable {P:Program}{w:World}{K:PySem.W.Frag}{mg:Str->Option Value}{base:Heap}
theorem scLaidL:FnScope ["numbers","rows","laying","number","reel","place"] ["numbers","rows"] (Zaac Zadm):=⟨rfl,rfl,rfl,by decide +kernel,rfl,by decide +kernel,by decide +kernel⟩
theorem Zac6 (K:PySem.W.Frag) {X:Cx} (hK:X.K=K:=by rfl):CallR X (.type "tuple") (fun xs H Q=>∃ p ys,xs=[.ref p]/\((SqL K H p ys/\∀ l,H l=none->Q (.ref l) (upd H l (.tup ys)))∨(SqT K H p ys/\Q (.ref p) H))):=by subst hK; exact Zaav
theorem ZajW {n j:Nat} (h:j<n):ixN n (j:Int)=some j:=by
 unfold ixN
 rw[if_pos (by omega),if_pos (by omega)]
 simp
theorem ZabL:∀ (N:List (List Int)) (i:Nat),(trip i N).length=N.flatten.length
 | [],i=>rfl
 | xs::N,i=>by
  rw[trip,List.length_append,ZabL N,List.flatten_cons,List.length_append]
  unfold tripR
  rw[List.length_mapIdx]
theorem Zagn {ks:List (List Int)}{i:Nat}{k:List Int} (h:ks.Nodup) (e:ks[i]?=some k):k ∉ ks.take i:=fun hm=>by
 obtain⟨j,hj⟩:=List.mem_iff_getElem?.mp hm
 have hji:j<i:=by have:=(List.getElem?_eq_some_iff.mp hj).1; rw[List.length_take] at this; omega
 rw[List.getElem?_take,if_pos hji] at hj
 have a:=List.getElem?_eq_some_iff.mp hj
 have b:=List.getElem?_eq_some_iff.mp e
 have:=(List.getElem_inj h).mp (a.2.trans b.2.symm)
 omega
theorem ZahC {ls:List Addr}{i j:Nat}{x:Addr} (h:ls.Nodup) (a:ls[i]?=some x) (b:ls[j]?=some x):i=j:=by
 have a':=List.getElem?_eq_some_iff.mp a
 have b':=List.getElem?_eq_some_iff.mp b
 exact (List.getElem_inj h).mp (a'.2.trans b'.2.symm)
theorem Zaig:∀ (N:List (List Int)) (i:Nat),(trip i N).Nodup
 | [],i=>List.nodup_nil
 | xs::N,i=>by
  rw[trip,List.nodup_append]
  refine⟨?_,Zaig N (i+1),fun x hx y hy=>?_⟩
  ·unfold tripR
   refine List.pairwise_iff_getElem.mpr fun a b ha hb hab z=>?_
   rw[List.getElem_mapIdx,List.getElem_mapIdx] at z
   simp at z
   omega
  ·unfold tripR at hx
   obtain⟨j,hj,e⟩:=List.mem_mapIdx.mp hx
   obtain⟨r,j',xs',z',_,_,e'⟩:=trip_memL.mp hy
   rw[<- e,e']
   intro z
   simp at z
   omega
def Zadg:Sp:=fun vs H Q _=>∃ (a:Addr) (rs:List Addr) (N:List (List Int)) (m:Nat),vs=[.ref a,.int m]/\H a=some (.tup (rs.map V.ref))/\TTs H rs N/\N.length<=7/\N.flatten.length<=4000/\m<=N.flatten.length /\
 ∀ (l:Addr) (ts:List Addr) (ks:List (List Int)) H',H' l=some (.tup (ts.map V.ref))->TBs H' ts (laidB N (ks.take m))->ks.Perm (trip 0 N)->ks.Pairwise (fun p q=>lxB q p=false)->Laid N (ks.take m) (laidB N (ks.take m))->Same H H'->Q (.ref l) H'
theorem Zacf {rs:List Addr}{i:Nat}{x:V} (h:(rs.map V.ref)[i]?=some x):∃ r,rs[i]?=some r/\x=.ref r:=by
 rw[List.getElem?_map] at h
 cases e:rs[i]? with
 | none=>rw[e] at h; cases h
 | some r=>rw[e] at h; exact⟨r,rfl,(Option.some.inj h).symm⟩
theorem Zagt {N:List (List Int)}{xs:List Int} (h:xs∈N):xs.length<=N.flatten.length:=by
 induction N with
 | nil=>cases h
 | cons y N ih=>
  rw[List.flatten_cons,List.length_append]
  rcases List.mem_cons.mp h with rfl | h
  ·omega
  ·have:=ih h
   omega
theorem Zagk {f f1:Addr}{fd d1:FuncData} (F:Fun K "laid_least" "laid_least" Zadm f fd) (T:Txt mg) (CP:Cal P w K mg base 1 "least_places" ["numbers","many"] ZadN f1 d1):FnOk P w K mg base CX0 2 f fd ["numbers","rows"] Zadg:=by
 refine okW F scLaidL (fun vs H Q E h=>?_) (fun cdv A outer s H vs Q E hr h=>?_)
 ·obtain⟨a,rs,N,m,rfl,_⟩:=h
  rfl
 ·obtain⟨a,rs,N,m,rfl,hA,hT,h7,hfl,hmf,k⟩:=h
  have hr1:Room 1 _:=hr.mono (by decide)
  refine⟨_,(Zaag (ws (ZakL (i:=2) scLaidL.nd rfl rfl (own:=["on_reel"]) (js:=[]) (CompOk.by (sc:=Zaac Zadm) (N:=["numbers","rows","laying","number","reel","place"]) rfl rfl (by decide +kernel)) rfl (Zado (pv 0)) Zaay (fun _ _ _ _ _=>(Zaak (i:=0) (by show (["on_reel"]:List Str).Nodup; decide +kernel) rfl (Or.inl rfl) (.inr rfl))) (fun _ _ _ _ _=>ZaaW) (fun _ _ _ _ _=>(pe_op Zahm (Zabn (Zaaa pe_bl Zaae)) (Zaaj (Zaie K) rfl T.len PySem.boot_len (Zaaa (pv 0) Zaae))))))
   (Zaag (ws (Zaa4 PassesOwn.never rfl (Zado (Zaat CP hr1 rfl (Zaaa (pv 0) (Zaaa (pv 1) Zaae)))) (ZadZ rfl (Zaaw (Zaak (i:=3) scLaidL.nd rfl (Or.inl rfl)) (Zaaw (Zaak (i:=4) scLaidL.nd rfl (Or.inl rfl)) (Zaaw (Zaak (i:=5) scLaidL.nd rfl (Or.inl rfl)) Zabo))))
   (WSs.out (Zaan (ws (Zahi pe_bl (ZakP (pe_ix Zabh (pv 2) (pv 4) (fun _ _=>rfl)) (pv 5) ZafZ)))))))
   (Zaan (ws (Zaax (ZaaI Zaav rfl T.tuple Zabc (Zaaa (Zaba (own:=["on_reel"]) (js:=[]) (CompOk.by (sc:=Zaac Zadm) (N:=["numbers","rows","laying","number","reel","place"]) rfl rfl (by decide +kernel)) rfl (Zado (pv 2)) Zaay (fun _ _ _ _ _=>(Zaak (i:=0) (by show (["on_reel"]:List Str).Nodup; decide +kernel) rfl (Or.inl rfl) (.inr rfl))) (fun _ _ _ _ _=>ZaaW) (fun _ _ _ _ _=>(ZaaI (Zac6 K) rfl T.tuple Zabc (Zaaa (pv 0) Zaae)))) Zaae))))))),?_⟩
  have hrl:rs.length=N.length:=hT.1
  refine⟨_,rfl,a,false,rfl,⟨_,SqT.of hA⟩,?_⟩
  refine Zac2 (b:=false) (xs:=rs.map V.ref) (fun acc i Hx=>∃ ls:List Addr,Hx acc=some (.lst (ls.map V.ref))/\LBs Hx ls ((noB N).take i)/\ls.length=i/\ls.Nodup/\acc ∉ ls/\(∀ x∈ls,H x=none)/\Same H Hx) (fun acc h0=>⟨[],Zaab,⟨by simp,fun j r xs a=>by simp at a⟩,rfl,List.nodup_nil,by simp,by simp,Same.new h0⟩) (fun acc i Hx h0 _ ⟨_,_,_,_,_,_,_,s⟩=>SqT.of (s _ _ hA)) ?_ ?_
  ·rintro acc i x Hx h0 hx ⟨ls,hacc,hls,hll,hnd,hna,hnew,sx⟩
   obtain⟨r,hr',rfl⟩:=Zacf hx
   have hi:i<rs.length:=(List.getElem?_eq_some_iff.mp hr').1
   obtain⟨xs,hxs⟩:∃ xs,N[i]?=some xs:=⟨_,List.getElem?_eq_getElem (by omega)⟩
   have hrx:=sx _ _ (hT.2 i r xs hr' hxs)
   have hxl:xs.length<=4000:=Nat.le_trans (Zagt (List.mem_of_getElem? hxs)) hfl
   refine⟨(by show 1<=sizeLine; decide),fun f1 nf1=>⟨_,rfl,r,_,rfl,.inr (SqT.of ((Same.new nf1) _ _ hrx)),?_⟩⟩
   refine⟨f1,_,[.bl false],rfl,rfl,Zaab,by omega,by rw[List.length_map]; omega,by rw[List.length_map,Int.toNat_natCast,sizeLine_eq]; show 1*xs.length<=_; omega,fun f2 nf2=>?_⟩
   have e2:(List.replicate xs.length [V.bl false]).flatten=(List.replicate xs.length false).map V.bl:=by
    induction xs.length with
    | zero=>rfl
    | succ n ih=>rw[List.replicate_succ,List.flatten_cons,ih,List.replicate_succ]; rfl
   have e2':(List.replicate (((xs.map V.int).length:Nat):Int).toNat [V.bl false]).flatten=(List.replicate xs.length false).map V.bl:=by rw[Int.toNat_natCast,List.length_map]; exact e2
   rw[e2']
   have s2:Same Hx (upd (upd Hx f1 (.lst [.bl false])) f2 (.lst ((List.replicate xs.length false).map V.bl))):=(Same.new nf1).trans (Same.new nf2)
   have ef2:upd (upd Hx f1 (.lst [.bl false])) f2 (.lst ((List.replicate xs.length false).map V.bl)) f2=some (.lst ((List.replicate xs.length false).map V.bl)):=Zaab
   have nf2x:Hx f2=none:=(Same.new nf1).free nf2
   generalize upd (upd Hx f1 (.lst [.bl false])) f2 (.lst ((List.replicate xs.length false).map V.bl))=H3 at s2 ef2 ⊢
   have hfa:acc≠f2:=fun z=>by rw[<- z,hacc] at nf2x; cases nf2x
   have hfl':f2 ∉ ls:=fun z=>by
    obtain⟨j,hj⟩:=List.mem_iff_getElem?.mp z
    have hj':=(List.getElem?_eq_some_iff.mp hj).1
    obtain⟨bs,hbs⟩:∃ bs,((noB N).take i)[j]?=some bs:=⟨_,List.getElem?_eq_getElem (by rw[<- hls.1]; exact hj')⟩
    have:=hls.2 j f2 bs hj hbs
    rw[nf2x] at this
    cases this
   refine⟨_,s2 _ _ hacc,Zaap (by rw[List.length_map]; omega),by rw[List.length_map]; omega,ls++[f2],by rw[Zaab,List.map_append]; rfl,?_,by simp[hll],?_,?_,fun x hx=>?_,(sx.trans s2).put h0⟩
   ·have e3 : (noB N).take (i + 1) = (noB N).take i ++ [List.replicate xs.length false] := by
     rw[List.take_add_one]
     unfold noB
     rw[List.getElem?_map,hxs]
     rfl
    rw[e3]
    refine LBs.snoc ((hls.same s2).lst hna) ?_
    rw[Zaaf (Ne.symm hfa)]
    exact ef2
   ·exact List.nodup_append.mpr ⟨hnd,by simp,fun x hx y hy=>by rw[List.mem_singleton.mp hy]; exact fun z=>hfl' (by rw[<- z]; exact hx)⟩
   ·simp[hna,hfa]
   ·rcases List.mem_append.mp hx with hx | hx
    ·exact hnew x hx
    ·rw[List.mem_singleton.mp hx]
     exact sx.free nf2x
  rintro la H1 hla0 ⟨ls,hla,hls,hll,hnd,hna,hnew,s1⟩
  rw[List.length_map,hrl] at hll
  rw[List.take_of_length_le (by unfold noB; rw[List.length_map,List.length_map]; omega)] at hls
  have hlL:∀ x∈ls,x≠la:=fun x hx z=>hna (by rw[<- z]; exact hx)
  refine⟨_,rfl,_,rfl,a,rs,N,m,rfl,s1 _ _ hA,hT.same s1,h7,by omega,fun lp qs ks H2 lp0 hlp hTu hkp hks s2=>?_⟩
  have hkl:ks.length=N.flatten.length:=by rw[hkp.length_eq,<- ZabL N 0]
  have hql:=hTu.len
  refine⟨lp,true,rfl,⟨_,SqL.of hlp⟩,?_⟩
  have hla2:=s2 _ _ hla
  have hls2:=hls.same s2
  have hlpl:∀ x∈ls,x≠lp:=fun x hx z=>by
   obtain⟨bs,hb⟩:=LBs.get hls hx
   rw[z,lp0] at hb
   cases hb
  have hqn:∀ x∈ls,∀ ys,H2 x≠some (.tup ys):=fun x hx ys z=>by
   obtain⟨bs,hb⟩:=LBs.get hls2 hx
   rw[hb] at z
   cases z
  refine ZagD (b:=true) (xs:=(qs.take m).map V.ref) (fun i σ Hx=>∃ o3 o4 o5:Option V,σ=[some (.ref a),some (.int m),some (.ref la),o3,o4,o5]/\LBs Hx ls (laidB N (ks.take i))/\Laid N (ks.take i) (laidB N (ks.take i))/\(∀ x o,H2 x=some o->x ∉ ls->Hx x=some o))
   ⟨_,_,_,rfl,by rw[List.take_zero]; exact hls2,by rw[List.take_zero]; exact ZajS N,fun x o e _=>e⟩ (fun i σ Hx _ ⟨_,_,_,_,_,_,sx⟩=>SqL.of (sx _ _ hlp fun z=>hlpl _ z rfl)) ?_ ?_
  ·rintro i x σ Hx hx ⟨o3,o4,o5,rfl,hLx,hLd,sx⟩
   obtain⟨q,hq,rfl⟩:=Zacf hx
   have hi:i<m:=by have:=(List.getElem?_eq_some_iff.mp hq).1; rw[List.length_take] at this; omega
   rw[List.getElem?_take,if_pos hi] at hq
   obtain⟨kk,hkk,hq2⟩:=hTu.at hq
   obtain⟨r,j,xs,z,hr',hj,rfl⟩:=trip_memL.mp (hkp.subset (List.mem_of_getElem? hkk))
   rw[Nat.zero_add] at hkk hq2
   have hqx:=sx _ _ hq2 fun y=>hqn _ y _ hq2
   have hrN:r<N.length:=(List.getElem?_eq_some_iff.mp hr').1
   have hjx:j<xs.length:=(List.getElem?_eq_some_iff.mp hj).1
   have hnot:[z,(r:Int),(j:Int)] ∉ ks.take i:=Zagn (hkp.symm.nodup (Zaig N 0)) hkk
   have hstep:=hLd.step hr' hj hnot
   obtain⟨bs,eb,ef⟩:=hLd.off r j xs z hr' hj hnot
   obtain⟨f2,hf2⟩:∃ f2,ls[r]?=some f2:=⟨_,List.getElem?_eq_getElem (by omega)⟩
   have hbx:=hLx.2 r f2 bs hf2 eb
   have hjb:j<bs.length:=(List.getElem?_eq_some_iff.mp ef).1
   have hlax:=sx _ _ hla2 hna
   refine⟨q,_,rfl,SqT.of hqx,rfl,_,_,rfl,_,_,rfl,_,_,rfl,rfl,?_⟩
   refine⟨_,rfl,_,rfl,la,_,_,.ref f2,rfl,rfl,SqL.of hlax,ZabG (by rw[List.getElem?_map,hf2]; rfl),_,rfl,f2,_,_,j,rfl,rfl,hbx,ZajW (by rw[List.length_map]; exact hjb),?_⟩
   have etk:ks.take (i+1)=ks.take i++[[z,(r:Int),(j:Int)]]:=by rw[List.take_add_one,hkk]; rfl
   have eset:laidB N (ks.take (i+1))=(laidB N (ks.take i)).set r (bs.set j true):=by
    rw[etk,Zadt]
    unfold setB
    show (laidB N (ks.take i)).set ((r:Int).toNat) (((laidB N (ks.take i)).getD ((r:Int).toNat) []).set ((j:Int).toNat) true)=_
    rw[Int.toNat_natCast,Int.toNat_natCast,List.getD_eq_getElem?_getD,eb]
    rfl
   refine⟨_,_,_,rfl,?_,by rw[etk,Zadt]; exact hstep,fun x o e nx=>?_⟩
   ·rw[eset]
    refine⟨by rw[List.length_set]; exact hLx.1,fun j' r' xs' a1 a2=>?_⟩
    by_cases hjr:r=j'
    ·subst hjr
     rw[hf2] at a1
     cases a1
     rw[List.getElem?_set_self (List.getElem?_eq_some_iff.mp eb).1] at a2
     cases a2
     rw[Zaab,List.map_set]
    ·rw[List.getElem?_set_ne hjr] at a2
     have hne:r'≠f2:=fun y=>by
      subst y
      exact hjr (ZahC hnd hf2 a1)
     rw[Zaaf hne]
     exact hLx.2 j' r' xs' a1 a2
   ·rw[Zaaf fun y=>nx (by rw[y]; exact List.mem_of_getElem? hf2)]
    exact sx x o e nx
  rintro σ Hx ⟨o3,o4,o5,rfl,hLx,hLd,sx⟩
  have eT:((qs.take m).map V.ref).length=m:=by rw[List.length_map,List.length_take]; omega
  rw[eT] at hLx hLd
  have sHx:Same H Hx:=fun x o e=>sx x o (s2 _ _ (s1 _ _ e)) fun z=>by rw[hnew x z] at e; cases e
  have hlax:=sx _ _ hla2 hna
  generalize hB:laidB N (ks.take m)=B at hLx hLd
  refine⟨_,rfl,la,true,rfl,⟨_,SqL.of hlax⟩,?_⟩
  refine Zac2 (b:=true) (xs:=ls.map V.ref) (fun acc i Hy=>∃ ts:List Addr,Hy acc=some (.lst (ts.map V.ref))/\TBs Hy ts (B.take i)/\ts.length=i/\Same Hx Hy) (fun acc h0=>⟨[],Zaab,⟨by simp,fun j r xs a=>by simp at a⟩,rfl,Same.new h0⟩) (fun acc i Hy h0 _ ⟨_,_,_,_,s⟩=>SqL.of (s _ _ hlax)) ?_ ?_
  ·rintro acc i x Hy h0 hx ⟨ts,hacc,hts,htl,sy⟩
   obtain⟨f2,hf2,rfl⟩:=Zacf hx
   have hi:i<ls.length:=(List.getElem?_eq_some_iff.mp hf2).1
   obtain⟨bs,hbs⟩:∃ bs,B[i]?=some bs:=⟨_,List.getElem?_eq_getElem (by rw[<- hLx.1]; exact hi)⟩
   have hb:=sy _ _ (hLx.2 i f2 bs hf2 hbs)
   refine⟨_,rfl,f2,_,rfl,.inl ⟨SqL.of hb,fun t nt=>?_⟩⟩
   have hat:acc≠t:=fun z=>by rw[<- z,hacc] at nt; cases nt
   have hacc':upd Hy t (.tup (bs.map V.bl)) acc=some (.lst (ts.map V.ref)):=by rw[Zaaf hat]; exact hacc
   refine⟨_,hacc',Zaap (by rw[List.length_map]; omega),by rw[List.length_map]; omega,ts++[t],by rw[Zaab,List.map_append]; rfl,?_,by simp[htl],(sy.trans (Same.new nt)).put h0⟩
   rw[List.take_add_one,hbs]
   refine TBs.snoc (TBs.lst (hts.same (Same.new nt)) hacc') ?_
   rw[Zaaf (Ne.symm hat)]
   exact Zaab
  rintro acc Hy h0 ⟨ts,hacc,hts,htl,sy⟩
  rw[List.length_map,List.take_of_length_le (by rw[<- hLx.1]; exact Nat.le_refl _)] at hts
  refine⟨acc,_,rfl,.inl ⟨SqL.of hacc,fun l nl=>?_⟩⟩
  have sl:Same Hy (upd Hy l (.tup (ts.map V.ref))):=Same.new nl
  exact k l ts ks _ Zaab (by rw[hB]; exact hts.same sl) hkp hks (by rw[hB]; exact hLd) ((sHx.trans sy).trans sl)
end
end Fs33
namespace Fs33
open PySem L2 Lv
section
variable {P:Program}{w:World}{K:PySem.W.Frag}{mg:Str->Option Value}{base:Heap}
theorem Zaje:FnScope ["p"] ["p"] (Zaac Zacu):=⟨rfl,rfl,rfl,by decide +kernel,rfl,by decide +kernel,by decide +kernel⟩
theorem Zahv {f:Addr}{fd:FuncData} (F:Fun K "first_spreads" "first_spreads" Zacu f fd) (T:Txt mg):FnOk P w K mg base CX0 1 f fd ["p"] ZadP:=by
 refine okW F Zaje (fun vs H Q E h=>?_) (fun cdv A outer s H vs Q E hr h=>?_)
 ·obtain⟨p,rfl,_⟩:=h
  rfl
 ·obtain⟨p,rfl,h1,h2,k⟩:=h
  refine⟨_,Zaan (Zae4 (we_op Zacn (Zadb (ZabJ rfl (ZadG Zae8 Zae8) Zab4))
   (we (Zaba (own:=["reel"]) (js:=[]) (CompOk.bare (by decide +kernel)) rfl (Zaa5 rfl T.range (Zaaa (pe_op ZabB (pv 0) Zaah) Zaae)) Zaay
    (fun _ _ _ _ _=>Zaak (i:=0) (by show (["reel"]:List Str).Nodup; decide +kernel) rfl (Or.inl rfl) (.inr rfl)) (fun _ _ _ _ _=>ZaaW) (fun _ _ _ _ _=>Zacd))))),?_⟩
  intro d hd
  refine⟨Zaab,[(Sum.inl 0,.int 1)],rfl,by decide,(by show 1<=sizeLine; decide),fun l hl=>?_⟩
  rw[ZafB] at hl ⊢
  have r0:Rep (Zace [] [(Sum.inl 0,.int 1)]) (cn [0]):=(Rep.nil.put (m:=0) (c:=1) (by decide)).congr fun m=>by
   rw[Zadz,Zady]
   split <;> rfl
  generalize Zace [] [(Sum.inl 0,V.int 1)]=kv at r0 hl ⊢
  have s1:Same H (upd H d (.dK kv)):=Same.new hd
  have e1:upd H d (.dK kv) d=some (.dK kv):=Zaab
  generalize upd H d (.dK kv)=H1 at s1 e1 hl ⊢
  have s2:Same H1 (upd H1 l (.lst [.ref d])):=Same.new hl
  have e2:upd H1 l (.lst [.ref d]) l=some (.lst [.ref d]):=Zaab
  generalize upd H1 l (.lst [.ref d])=H2 at s2 e2 ⊢
  refine⟨_,rfl,_,_,rfl,rfl,(p:Int) - 1,rfl,by omega,by omega,?_⟩
  have en:((p:Int) - 1).toNat=p - 1:=by omega
  rw[en]
  refine ZagN (fun acc i H3=>∃ qs:List Addr,Same H2 H3/\H3 acc=some (.lst (qs.map V.ref))/\DDs H3 qs (List.replicate i [])) (fun acc h0=>⟨[],Same.new h0,Zaab,DDs.nil⟩) ?_ ?_
  ·rintro acc i H3 h0 hi ⟨qs,s3,hacc,hq⟩
   intro q hq0
   have hne:q≠acc:=fun z=>by rw[z,hacc] at hq0; cases hq0
   refine⟨_,(Same.new hq0) acc _ hacc,Zaap (by have:=hq.1; simp at this ⊢; omega),hi,qs++[q],?_,?_,?_⟩
   ·exact (s3.put (q:=q) (s3.free hq0)).put h0
   ·rw[Zaab]; simp
   ·rw[List.replicate_succ']
    have hq':DDs (upd (upd H3 q (.dK [])) acc (.lst (qs.map V.ref++[V.ref q]))) qs (List.replicate i []):=⟨hq.1,fun j r xs a b=>by
     obtain⟨kvs,e,rr⟩:=hq.2 j r xs a b
     have n1:r≠q:=Zaad e hq0
     have n2:r≠acc:=ne_of e hacc (fun z=>nomatch z)
     exact⟨kvs,by rw[Zaaf n2,Zaaf n1]; exact e,rr⟩⟩
    exact hq'.snoc (kvs:=[]) (by rw[Zaaf hne,Zaab]) (Rep.nil.congr fun m=>by rw[Zady])
  ·rintro acc H3 h0 ⟨qs,s3,hacc,hq⟩
   have hql:=hq.1
   rw[List.length_replicate] at hql
   refine⟨l,acc,_,_,rfl,rfl,s3 l _ e2,hacc,?_,fun r hr=>?_⟩
   ·exact Nat.le_of_lt (Zaap (by simp; omega))
   have s4:Same H3 (upd H3 r (.lst ([V.ref d]++qs.map V.ref))):=Same.new hr
   refine k r (d::qs) _ (s1.free (s2.free (s3.free hr))) (by rw[Zaab]; rfl) ?_ (((s1.trans s2).trans s3).trans s4)
   exact (hq.same s4).cons (s4 _ _ (s3 _ _ (s2 _ _ e1))) r0
theorem Zamu:bootBuiltins "dict"=some (.type "dict"):=by decide +kernel
theorem scBothS:FnScope ["one","other","both","number","many"] ["one","other"] (Zaac Zaff):=⟨rfl,rfl,rfl,by decide +kernel,rfl,by decide +kernel,by decide +kernel⟩
theorem ZajI {f:Addr}{fd:FuncData} (F:Fun K "both_spreads" "both_spreads" Zaff f fd) (T:Txt mg) (Td:mg "dict"=none):FnOk P w K mg base CX0 1 f fd ["one","other"] Zaex:=by
 refine F.ok scBothS (fun vs H Q E h=>?_) (fun cdv A outer s H vs Q E hr h=>?_)
 ·obtain⟨a,b,k1,k2,f,g,rfl,_⟩:=h
  rfl
 ·obtain⟨a,b,k1,k2,f,g,rfl,ha,hb,r1,r2,f0,g0,fb,gb,k⟩:=h
  have hu:=hu_of hr
  refine⟨_,Zaam (Zaaq (i:=2) scBothS.nd rfl (Or.inl rfl) (ZaaI Zafu rfl Td Zamu (Zaaa (pv 0) Zaae)))
   (Zaam (ZakK (Zaa4 PassesOwn.never rfl (Zagb (Zad0 (pv 1))) (ZadZ rfl (Zaaw (Zaak (i:=3) scBothS.nd rfl (Or.inl rfl)) (Zaaw (Zaak (i:=4) scBothS.nd rfl (Or.inl rfl)) Zabo)))
    (Zaar (Zaf7 hu (pv 2) (pv 3) (pe_op ZaaE (Zad1 hu (pv 2) (pv 3) Zaah ⟨rfl,rfl,rfl,rfl⟩) (pv 4)) rfl))))
   (Zaar (Zaax (pv 2)))),?_⟩
  refine⟨_,rfl,a,k1,rfl,.inl ha,fun d hd=>?_⟩
  have nbd:b≠d:=Zaad hb hd
  refine .inl ⟨b,k2,by rw[Zaaf nbd]; exact hb,fun o=>?_⟩
  refine⟨_,rfl,b,k2,rfl,.inr ⟨o,Zaab⟩,fun v hv=>⟨v,b,o,k2,rfl,Zaab,by rw[Zaaf (Zaad Zaab hv)]; exact Zaab,?_⟩⟩
  have nvb:v≠b:=fun z=>by rw[z,Zaab] at hv; cases hv
  have hvH:H v=none:=by
   have:=hv
   rw[Zaaf nvb] at this
   exact (Same.new hd).free this
  have nvd:v≠d:=fun z=>by rw[z,Zaaf (Ne.symm nbd),Zaab] at hv; cases hv
  refine ZahW (kvs:=k2) (fun i σ H2=>∃ (kvs:List (Key × V)) (o3 o4:Option V),σ=[some (.ref a),some (.ref b),some (.ref d),o3,o4]/\H2 b=some (.frz o (.dK k2))/\H2 d=some (.dK kvs)/\(∀ c u,H c=some u->c≠b->H2 c=some u) /\
   Rep kvs (fun m=>f m+tkn g ((k2.take i).map (·.1)) m)) ?_ (fun i σ H2 _ z=>by obtain⟨_,_,_,_,e,_⟩:=z; exact e) ?_ ?_
  ·refine⟨k1,none,none,rfl,?_,?_,fun c u hc nc=>?_,r1.congr fun m=>?_⟩
   ·rw[Zaaf (Ne.symm nvb),Zaab]
   ·rw[Zaaf (Ne.symm nvd),Zaaf (Ne.symm nbd),Zaab]
   ·rw[Zaaf (Zaad hc hvH),Zaaf nc,Zaaf (Zaad hc hd)]; exact hc
   ·rw[List.take_zero,List.map_nil,Zaer,Int.add_zero]
  ·rintro i kk vv p σ H2 hi ⟨kvs,o3,o4,rfl,eb,ed,sm,rr⟩ hp
   obtain⟨m,rfl,rfl,hz⟩:=r2.at (List.mem_of_getElem? hi)
   have npd:d≠p:=Zaad ed hp
   have hnot:=ZaeH r2.2.1 hi
   refine⟨p,_,rfl,SqT.of Zaab,rfl,_,_,rfl,_,_,rfl,rfl,?_⟩
   refine⟨_,rfl,d,rfl,.inl ⟨kvs,.inl (by rw[Zaaf npd]; exact ed)⟩,_,rfl,_,DGet.k (k:=Sum.inl m) (by rw[Zaaf npd]; exact ed),_,rfl,?_⟩
   rw[rr.get m,ZabR hnot,Int.add_zero]
   refine⟨_,_,rfl,rfl,_,rfl,_,rfl,d,_,rfl,DPut.k (k:=Sum.inl m) (by rw[Zaaf npd]; exact ed) ?_,?_⟩
   ·have := rr.len (B := 400) fun j hj => by
     by_cases e:f j=0
     ·exact gb j fun z=>hj (by rw[e,ZacH z]; rfl)
     ·exact fb j e
    exact Zaap (by omega)
   ·refine⟨_,_,_,rfl,?_,Zaab,fun c u hc nc=>?_,(rr.put (m:=m) (c:=f m+g m) ?_).congr fun j=>?_⟩
    ·rw[Zaaf nbd,Zaaf (Zaad eb hp)]; exact eb
    ·rw[Zaaf (Zaad hc hd),Zaaf (Zaad (sm c u hc nc) hp)]; exact sm c u hc nc
    ·have:=f0 m; have:=g0 m; omega
    ·rw[Zab0 hi,ZacI hnot]
     by_cases e:j=m
     ·rw[if_pos e,if_pos e,e]
     ·rw[if_neg e,if_neg e]
  ·rintro σ H2 ⟨kvs,o3,o4,rfl,eb,ed,sm,rr⟩
   refine⟨eb,_,rfl,?_⟩
   refine k d kvs _ hd (by rw[Zaaf (Ne.symm nbd)]; exact ed) (rr.congr fun m=>?_) fun c u hc=>?_
   ·rw[List.take_length,Zaes r2]
   ·by_cases e:c=b
    ·subst e; rw[Zaab,<- hb,hc]
    ·rw[Zaaf e]; exact sm c u hc e
theorem scNextS:FnScope ["spreads","first"] ["spreads"] (Zaac ZadT):=⟨rfl,rfl,rfl,by decide +kernel,rfl,by decide +kernel,by decide +kernel⟩
theorem cutT {r0:Addr}{rr:List Addr}:cutV ((r0::rr).map V.ref) (some 1) none=rr.map V.ref:=by
 unfold cutV
 show (((r0::rr).map V.ref).drop (HT.sIx ((r0::rr).map V.ref).length 0 (some ((1:Nat):Int)))).take (HT.sIx ((r0::rr).map V.ref).length ((r0::rr).map V.ref).length none - HT.sIx ((r0::rr).map V.ref).length 0 (some ((1:Nat):Int)))=_
 rw[HT.sIx_nat]
 rw[show min 1 ((r0::rr).map V.ref).length=1 by simp]
 show (rr.map V.ref).take (((r0::rr).map V.ref).length - 1)=_
 rw[List.take_of_length_le (by simp)]
theorem ZajC {f f1:Addr}{fd d1:FuncData} (F:Fun K "next_spreads" "next_spreads" ZadT f fd) (T:Txt mg) (CB:Cal P w K mg base 1 "both_spreads" ["one","other"] Zaex f1 d1):FnOk P w K mg base CX0 2 f fd ["spreads"] (Zaeu nextN):=by
 refine okW F scNextS (fun vs H Q E h=>?_) (fun cdv A outer s H vs Q E hr h=>?_)
 ·obtain⟨a,rs,N,rfl,_⟩:=h
  rfl
 ·obtain⟨a,rs,N,rfl,hA,hD,hN,hN7,hB,k⟩:=h
  refine ⟨_, Zaag (Zafx (i := 1) scNextS.nd rfl (Or.inr rfl) (ZalH (we (Zajt (own := ["number", "many"]) (js := []) (CompOk.bare (by decide +kernel)) rfl (Zagb (Zad0 (pe_ix Zabh (pv 0) Zaah (fun _ _ => rfl)))) (ZaeM (i := 0) (k := 1) (K := K))
    (fun _ _ _ _ _=>ZaeC K rfl (Zaaw (Zaak (i:=0) (by show (["number","many"]:List Str).Nodup; decide +kernel) rfl (Or.inl rfl) (.inr rfl)) (Zaaw (Zaak (i:=1) (by show (["number","many"]:List Str).Nodup; decide +kernel) rfl (Or.inl rfl) (.inr rfl)) Zabo))) (fun _ _ _ _ _=>ZaaW)
    (fun _ _ _ _ _=>pe_op ZaaE (pv 0) Zaah) (fun _ _ _ _ _=>pv 1)))))
   (Zaan (Zae4 (we_op Zacn (we (Zaba (own:=["spread"]) (js:=[1]) (CompOk.by (sc:=Zaac ZadT) (N:=["spreads","first"]) rfl rfl (by decide +kernel)) rfl (Zadp (Zabt ZafY (pv 0) (Zacb Zaah) Zacc)) Zaay
    (fun _ _ _ _ _=>Zaak (i:=0) (by show (["spread","first"]:List Str).Nodup; decide +kernel) rfl (Or.inl rfl) (.inr rfl)) (fun _ _ _ _ _=>ZaaW) (fun _ _ _ _ _=>Zaat CB hr rfl (Zaaa (pv 1) (Zaaa (pv 0) Zaae)))))
    (Zadb (ZabJ rfl (we (pv 1)) Zab4))))),?_⟩
  obtain⟨x0,Nr,rfl⟩:∃ x0 Nr,N=x0::Nr:=by
   cases N with
   | nil=>simp at hN
   | cons x y=>exact⟨x,y,rfl⟩
  obtain⟨r0,rr,rfl⟩:∃ r0 rr,rs=r0::rr:=by
   cases rs with
   | nil=>have:=hD.1; simp at this
   | cons x y=>exact⟨x,y,rfl⟩
  obtain⟨k0,hr0,rp0⟩:=hD.2 0 r0 x0 rfl rfl
  have nar:a≠r0:=ne_of hA hr0 (fun z=>nomatch z)
  refine .inl ⟨r0,k0,hr0,fun o=>?_⟩
  refine⟨_,rfl,a,_,0,.ref r0,rfl,rfl,SqL.of (by rw[Zaaf nar]; exact hA),ZabG (j:=0) rfl,r0,k0,rfl,.inr ⟨o,Zaab⟩,fun v hv=>⟨v,r0,o,k0,rfl,Zaab,by rw[Zaaf (Zaad Zaab hv)]; exact Zaab,?_⟩⟩
  have nvr:v≠r0:=fun z=>by rw[z,Zaab] at hv; cases hv
  have hvH:H v=none:=by rw[Zaaf nvr] at hv; exact hv
  have hnn:∀ acc,upd (upd H r0 (.frz o (.dK k0))) v (VwI v r0) acc=none->acc≠r0/\H acc=none:=fun acc z=>by
   have n1:acc≠v:=fun y=>by rw[y,Zaab] at z; cases z
   rw[Zaaf n1] at z
   have n2:acc≠r0:=fun y=>by rw[y,Zaab] at z; cases z
   rw[Zaaf n2] at z
   exact⟨n2,z⟩
  refine Zafq (kvs:=k0) (fun acc i H2=>∃ kvs:List (Key × V),H2 acc=some (.dK kvs)/\H2 r0=some (.frz o (.dK k0))/\(∀ c u,H c=some u->c≠r0->H2 c=some u)/\Rep kvs (fun m=>tkn (cn x0) ((k0.take i).map (·.1)) (m - 1))) ?_ (fun acc i H2 h0 _ z=>by obtain⟨_,_,e,_⟩:=z; exact e) ?_ ?_
  ·intro acc h0
   obtain⟨n2,hacc⟩:=hnn acc h0
   refine⟨[],Zaab,?_,fun c u hc nc=>?_,Rep.nil.congr fun m=>?_⟩
   ·rw[Zaaf (Ne.symm n2),Zaaf (Ne.symm nvr),Zaab]
   ·rw[Zaaf (Zaad hc hacc),Zaaf (Zaad hc hvH),Zaaf nc]; exact hc
   ·rw[List.take_zero,List.map_nil,Zaer]
  ·rintro acc i kk vv p H2 h0 hi ⟨kvs,ea,er,sm,rp⟩ hp
   obtain⟨n2,hacc⟩:=hnn acc h0
   obtain⟨m,rfl,rfl,hz⟩:=rp0.at (List.mem_of_getElem? hi)
   have hi':=(List.getElem?_eq_some_iff.mp hi).1
   have hnot:=ZaeH rp0.2.1 hi
   refine⟨p,_,rfl,SqT.of Zaab,rfl,_,_,rfl,_,_,rfl,rfl,?_⟩
   refine⟨_,rfl,_,_,rfl,rfl,_,rfl,Sum.inl (m+1),kvs,rfl,by rw[Zaaf (Zaad ea hp)]; exact ea,?_,hi',_,Zaab,?_,fun c u hc nc=>?_,(rp.put (m:=m+1) (c:=cn x0 m) hz).congr fun j=>?_⟩
   ·have := rp.len (B := 400) fun j hj => by
     have h1:cn x0 (j - 1)≠0:=fun z=>hj (ZacH z)
     have:=hB x0 List.mem_cons_self _ (cn_ne.mp h1)
     omega
    exact Zaap (by omega)
   ·rw[Zaaf (Ne.symm n2),Zaaf (Zaad er hp)]; exact er
   ·rw[Zaaf (Zaad hc hacc),Zaaf (Zaad (sm c u hc nc) hp)]; exact sm c u hc nc
   ·rw[Zab0 hi,ZacI hnot]
    by_cases e:j=m+1
    ·rw[if_pos e,if_pos (by omega)]
    ·rw[if_neg e,if_neg (by omega)]
  ·rintro acc H2 h0 ⟨k1,ea,er,sm,rp⟩
   obtain⟨n2,hacc⟩:=hnn acc h0
   have rp1:Rep k1 (cn (fstN (x0::Nr))):=rp.congr fun m=>by
    rw[List.take_length,Zaes rp0,fstN,List.headD_cons,Zaee]
   refine⟨er,?_⟩
   have s1:Same H (upd H2 r0 (.dK k0)):=fun c u hc=>by
    by_cases e:c=r0
    ·subst e; rw[Zaab,<- hr0,hc]
    ·rw[Zaaf e]; exact sm c u hc e
   have e1:upd H2 r0 (.dK k0) acc=some (.dK k1):=by rw[Zaaf n2]; exact ea
   generalize upd H2 r0 (.dK k0)=H3 at s1 e1 ⊢
   have hD3:=(hD.same s1).tail
   refine⟨_,rfl,1,rfl,a,_,rfl,SqL.of (s1 a _ hA),fun p1 hp1=>⟨p1,rfl,⟨_,SqL.of Zaab⟩,?_⟩⟩
   rw[cutT]
   have s2:Same H3 (upd H3 p1 (.lst (rr.map V.ref))):=Same.new hp1
   have e2:upd H3 p1 (.lst (rr.map V.ref)) p1=some (.lst (rr.map V.ref)):=Zaab
   generalize upd H3 p1 (.lst (rr.map V.ref))=H4 at s2 e2 ⊢
   have hrl:=hD3.1
   have hNr:Nr.length<=6:=by simpa using hN7
   refine Zac3 (xs:=rr.map V.ref) (fun acc2 i H5=>∃ qs:List Addr,Same H4 H5/\H5 acc2=some (.lst (qs.map V.ref))/\(∀ q∈qs,q≠acc2)/\DDs H5 qs ((Nr.take i).map (fstN (x0::Nr)++·))) (fun acc2 h2=>⟨[],Same.new h2,Zaab,(fun q hq=>nomatch hq),DDs.nil⟩) (fun acc2 i H5 h2 _ z=>by obtain⟨_,sz,_⟩:=z; exact SqL.of (sz _ _ e2)) ?_ ?_
   ·rintro acc2 i x H5 h2 hx ⟨qs,s5,e5,ne5,hq5⟩
    obtain⟨r,hr',rfl⟩:=Zaa3 hx
    have hi:=(List.getElem?_eq_some_iff.mp hr').1
    obtain⟨xs,k2,hxs,hk2,rp2⟩:=(hD3.same (s2.trans s5)).at hr'
    refine⟨_,rfl,_,rfl,acc,r,k1,k2,cn (fstN (x0::Nr)),cn xs,rfl,s5 _ _ (s2 _ _ e1),hk2,rp1,rp2,Zafs _,Zafs _,fun m hm=>?_,fun m hm=>?_,fun l kvs H6 hl6 e6 rp6 s6=>?_⟩
    ·rw[fstN,List.headD_cons,Zaee] at hm
     have:=hB x0 List.mem_cons_self _ (cn_ne.mp hm)
     omega
    ·have:=hB xs (List.mem_cons_of_mem _ (List.mem_of_getElem? hxs)) _ (cn_ne.mp hm)
     omega
    ·have nla:l≠acc2:=fun z=>by rw[z,e5] at hl6; cases hl6
     refine⟨_,s6 _ _ e5,Zaap (by have:=hq5.1; simp at this ⊢; omega),by rw[List.length_map]; exact hi,qs++[l],(s5.trans s6).put h2,by rw[Zaab]; simp,fun q hq=>?_,?_⟩
     ·rcases List.mem_append.mp hq with z | z
      ·exact ne5 q z
      ·rw[List.mem_singleton.mp z]; exact nla
     ·rw[List.take_add_one,hxs]
      have hq6:DDs (upd H6 acc2 (.lst (qs.map V.ref++[V.ref l]))) qs ((Nr.take i).map (fstN (x0::Nr)++·)):=⟨hq5.1,fun j q ys a b=>by
       obtain⟨kv,e,rr⟩:=hq5.2 j q ys a b
       exact⟨kv,by rw[Zaaf (ne5 q (List.mem_of_getElem? a))]; exact s6 _ _ e,rr⟩⟩
      rw[List.map_append]
      exact hq6.snoc (by rw[Zaaf nla]; exact e6) (rp6.congr fun m=>by rw[ZagP])
   ·rintro acc2 H5 h2 ⟨qs,s5,e5,ne5,hq5⟩
    have e5a:=s5 _ _ (s2 _ _ e1)
    have ql:=hq5.1
    rw[List.length_map,List.length_map,hrl,List.take_length] at ql
    refine⟨_,rfl,(by show 1<=sizeLine; decide),fun p2 hp2=>?_⟩
    have s6:Same H5 (upd H5 p2 (.lst [V.ref acc])):=Same.new hp2
    refine⟨acc2,p2,_,_,rfl,rfl,s6 _ _ e5,Zaab,?_,fun p3 hp3=>?_⟩
    ·exact Nat.le_of_lt (Zaap (by simp; omega))
    have s7:=s6.trans (Same.new (o:=.lst (qs.map V.ref++[V.ref acc])) hp3)
    have sAll:=((s1.trans s2).trans s5).trans s7
    refine k p3 (qs++[acc]) _ (((s1.trans s2).trans s5).trans s6 |>.free hp3) (by rw[Zaab]; simp) ?_ sAll
    rw[List.length_map,hrl,List.take_length] at hq5
    exact (hq5.same s7).snoc (s7 _ _ e5a) rp1
theorem scOverS:FnScope ["spreads","spread","on_reel"] ["spreads"] (Zaac Zafb):=⟨rfl,rfl,rfl,by decide +kernel,rfl,by decide +kernel,by decide +kernel⟩
theorem Zajz {f f1:Addr}{fd d1:FuncData} (F:Fun K "spread_over" "spread_over" Zafb f fd) (T:Txt mg) (CB:Cal P w K mg base 1 "both_spreads" ["one","other"] Zaex f1 d1):FnOk P w K mg base CX0 2 f fd ["spreads"] ZafP:=by
 refine okW F scOverS (fun vs H Q E h=>?_) (fun cdv A outer s H vs Q E hr h=>?_)
 ·obtain⟨a,rs,N,rfl,_⟩:=h
  rfl
 ·obtain⟨a,rs,N,rfl,hA,hD,hN7,hB,k⟩:=h
  refine⟨_,Zaag (Zafx (i:=1) scOverS.nd rfl (Or.inl rfl) (we Zacd))
   (Zaag (ws (Zaa4 PassesOwn.never rfl (Zadp (pv 0)) (Zaak (i:=2) scOverS.nd rfl (Or.inl rfl)) (Zaar (Zaaq (i:=1) scOverS.nd rfl (Or.inl rfl) (Zaat CB hr rfl (Zaaa (pv 1) (Zaaa (pv 2) Zaae)))))))
   (Zaan (Zae4 (we (ZaaI Zaav rfl T.tuple Zabc (Zaaa (Zaaj (ZagS rfl) rfl T.sorted Zaeh (Zaaa (Zad0 (pv 1)) Zaae)) Zaae)))))),?_⟩
  intro d hd
  have s1:Same H (upd H d (.dK [])):=Same.new hd
  have e1:upd H d (.dK []) d=some (.dK []):=Zaab
  generalize upd H d (.dK [])=H1 at s1 e1 ⊢
  refine⟨_,rfl,a,rfl,⟨_,SqL.of (s1 _ _ hA)⟩,ZagE (xs:=rs.map V.ref) (fun i σ H2=>∃ (d:Addr) (kvs:List (Key × V)) (o2:Option V),σ=[some (.ref a),some (.ref d),o2]/\H2 d=some (.dK kvs)/\Rep kvs (cn (N.take i).flatten)/\Same H H2)
   ⟨d,[],none,rfl,e1,Rep.nil.congr fun m=>by rw[List.take_zero,List.flatten_nil,Zady],s1⟩ (fun i σ H2 _ z=>by obtain⟨_,_,_,_,_,_,sz⟩:=z; exact SqL.of (sz _ _ hA)) ?_ ?_⟩
  ·rintro i x σ H2 hx ⟨d,kvs,o2,rfl,e2,rp,s2⟩
   obtain⟨r,hr',rfl⟩:=Zaa3 hx
   obtain⟨xs,k2,hxs,hk2,rp2⟩:=(hD.same s2).at hr'
   refine⟨_,rfl,_,rfl,d,r,kvs,k2,_,_,rfl,e2,hk2,rp,rp2,Zafs _,Zafs _,?_,?_,fun l kv H6 hl6 e6 rp6 s6=>?_⟩
   ·exact fun m hm=>ZagY (N:=N.take i) (fun ys hy=>hB ys (List.mem_of_mem_take hy)) m hm
   ·exact fun m hm=>hB xs (List.mem_of_getElem? hxs) m (cn_ne.mp hm)
   ·refine⟨l,kv,_,rfl,e6,rp6.congr fun m=>?_,s2.trans s6⟩
    rw[List.take_add_one,hxs,List.flatten_append,ZagP]
    simp
  ·rintro σ H2 ⟨d,kvs,o2,rfl,e2,rp,s2⟩
   rw[List.length_map,hD.1,List.take_length] at rp
   refine⟨_,rfl,d,kvs,rfl,.inl e2,fun v hv=>⟨v,d,kvs.map Lv.dec,rfl,Zaab,.inl ?_,fun l qs ms H3 hl hq hp hs e3 ht s3=>?_⟩⟩
   ·rw[Zaaf (Zaad e2 hv),e2]
    exact congrArg (fun z=>some (HO.dK z)) rp.dec
   ·have s4:Same H2 H3:=(Same.new hv).trans s3
    refine⟨l,_,rfl,.inl ⟨SqL.of e3,fun l2 hl2=>?_⟩⟩
    have s5:=s4.trans (Same.new (o:=.tup (qs.map V.ref)) hl2)
    refine k l2 qs ms _ (s2.free (s4.free hl2)) Zaab (TTs.same ht (Same.new hl2)) (ZalX rp hp hs) (s2.trans s5)
end
end Fs33
namespace Fs33
open PySem L2 Lv
section
variable {P:Program}{w:World}{K:PySem.W.Frag}{mg:Str->Option Value}{base:Heap}
theorem scLeastS:FnScope ["spread","rows","reading","left","number","many"] ["spread","rows"] (Zaac Zacr):=⟨rfl,rfl,rfl,by decide +kernel,rfl,by decide +kernel,by decide +kernel⟩
theorem ZakN {H:Hp}{qs:List Addr}{L:List (Int × Int)} (ht:TTs H qs (L.map pr2)) {i:Nat}{x:V} (hx:(qs.map V.ref)[i]?=some x):∃ (q:Addr) (m c:Int),x=.ref q/\L[i]?=some (m,c)/\H q=some (.tup [.int m,.int c])/\i<qs.length:=by
 obtain⟨q,hq,rfl⟩:=Zaa3 hx
 have hi:=(List.getElem?_eq_some_iff.mp hq).1
 have hi2:i<L.length:=by have:=ht.1; rw[List.length_map] at this; omega
 have e:L[i]?=some L[i]:=List.getElem?_eq_getElem hi2
 exact⟨q,_,_,rfl,e,ht.2 i q (pr2 L[i]) hq (by rw[List.getElem?_map,e]; rfl),hi⟩
theorem Zahs {f:Addr}{fd:FuncData} (F:Fun K "least_of_spread" "least_of_spread" Zacr f fd) (T:Txt mg):FnOk P w K mg base CX0 1 f fd ["spread","rows"] ZadM:=by
 refine okW F scLeastS (fun vs H Q E h=>?_) (fun cdv A outer s H vs Q E hr h=>?_)
 ·obtain⟨l,qs,M,r,rfl,_⟩:=h
  rfl
 ·obtain⟨l,qs,M,r,rfl,hl,ht,hb,k⟩:=h
  refine⟨_,(Zaag (ws (Zaaq (i:=2) scLeastS.nd rfl (Or.inl rfl) Zaah))
   (Zaag (ws (Zaaq (i:=3) scLeastS.nd rfl (Or.inl rfl) (pv 1)))
   (Zaag (ws (Zaa4 PassesOwn.never rfl (Zaf9 (pv 0)) (ZadZ rfl (Zaaw (Zaak (i:=4) scLeastS.nd rfl (Or.inl rfl)) (Zaaw (Zaak (i:=5) scLeastS.nd rfl (Or.inl rfl)) Zabo)))
   (WSs.out (Zaag (ws (ZakM (i:=2) scLeastS.nd rfl (Or.inl rfl) (pe_op Zabu (pv 4) (Zaaj (Zabk rfl) rfl T.min b_min (Zaaa (pv 5) (Zaaa (pv 3) Zaae)))) Zamn))
    (Zaan (ws (ZakM (i:=3) scLeastS.nd rfl (Or.inl rfl) (Zaaj (Zabk rfl) rfl T.min b_min (Zaaa (pv 5) (Zaaa (pv 3) Zaae))) Zamm)))))))
   (Zaan (ws (Zaax (Zajr (ZaaB op_gt (pv 3) Zaah (ZaaK _)) ZacU (pv 2)))))))),?_⟩
  refine⟨_,rfl,?_⟩
  refine⟨_,rfl,l,rfl,⟨_,SqT.of hl⟩,?_⟩
  have hql:qs.length=M.length:=by have:=ht.1; rwa [List.length_map] at this
  refine Zalu (xs:=qs.map V.ref) (fun i σ H2=>∃ (o4 o5:Option V),σ=[some (.ref l),some (.int r),some (.int (lsF (M.take i) (0,r)).1),some (.int (lsF (M.take i) (0,r)).2),o4,o5]/\Same H H2)
   ⟨_,_,rfl,Same.refl _⟩ (fun i σ H2 _ z=>by obtain⟨_,_,_,sz⟩:=z; exact SqT.of (sz _ _ hl)) ?_ ?_
  ·rintro i x σ H2 hx ⟨o4,o5,rfl,s2⟩
   obtain⟨q,m,c,rfl,hMi,hq,hi⟩:=ZakN ht hx
   have hmb:=hb _ (List.mem_of_getElem? hMi)
   refine⟨q,_,rfl,SqT.of (s2 _ _ hq),rfl,_,_,rfl,_,_,rfl,rfl,?_⟩
   refine⟨_,rfl,_,rfl,_,rfl,_,rfl,_,_,rfl,_,_,rfl,rfl,.inl ⟨by omega,by omega⟩,_,_,rfl,rfl,?_⟩
   refine⟨_,rfl,_,rfl,_,rfl,_,_,rfl,_,_,rfl,rfl,?_⟩
   refine⟨some (.int m),some (.int c),?_,s2⟩
   rw[Zagq hMi]
   rfl
  ·rintro σ H2 ⟨o4,o5,rfl,s2⟩
   rw[List.length_map,hql,List.take_length]
   refine⟨_,rfl,_,_,rfl,rfl,_,rfl,ite2 (fun hc=>?_) fun hc=>?_⟩
   ·have:=k H2 s2
    rwa [if_pos (of_decide_eq_true hc)] at this
   ·have:=k H2 s2
    rw[if_neg (fun z=>hc (decide_eq_true z))] at this
    exact⟨_,rfl,this⟩
theorem scLeast:FnScope ["spread","rows","reading","left","number","taken"] ["spread","rows"] (Zaac Zafd):=⟨rfl,rfl,rfl,by decide +kernel,rfl,by decide +kernel,by decide +kernel⟩
theorem Zafj {f:Addr}{fd:FuncData} (F:Fun K "_law_least" "_law_least" Zafd f fd) (T:Txt mg):FnOk P w K mg base CX0 1 f fd ["spread","rows"] ZacQ:=by
 refine okW F scLeast (fun vs H Q E h=>?_) (fun cdv A outer s H vs Q E hr h=>?_)
 ·obtain⟨d,kvs,p,n,r,rfl,_⟩:=h
  rfl
 ·obtain⟨d,kvs,p,n,r,rfl,h1,h3,ed,rp,r0,k⟩:=h
  have hu:=hu_of hr
  refine⟨_,(Zaag (ws (Zaaq (i:=2) scLeast.nd rfl (Or.inl rfl) Zaah))
   (Zaag (ws (Zaaq (i:=3) scLeast.nd rfl (Or.inl rfl) (pv 1)))
   (Zaag (ws (Zaa4 PassesOwn.never rfl (Zadp (Zaaj (ZagR rfl) rfl T.sorted Zaeh (Zaaa (pv 0) Zaae))) (Zaak (i:=4) scLeast.nd rfl (Or.inl rfl))
   (WSs.out (Zaag (ws (Zaaq (i:=5) scLeast.nd rfl (Or.inl rfl) (Zaaj (Zabk rfl) rfl T.min b_min (Zaaa (pv 3) (Zaaa (ZaeD hu (pv 0) (pv 4) (fun _ _=>rfl)) Zaae)))))
    (Zaag (ws (Zaaq (i:=2) scLeast.nd rfl (Or.inl rfl) (pe_op ZaaE (pv 2) (pe_op Zabu (pv 4) (pv 5)))))
    (Zaan (ws (Zaaq (i:=3) scLeast.nd rfl (Or.inl rfl) (pe_op ZabB (pv 3) (pv 5))))))))))
   (Zaan (ws (Zaax (pv 2))))))),?_⟩
  refine⟨_,rfl,?_⟩
  refine⟨_,rfl,d,kvs.map Lv.dec,rfl,.inl ?_,fun lk ms hlk hpm hms=>⟨lk,rfl,⟨_,SqL.of Zaab⟩,?_⟩⟩
  ·rw[ed]; exact congrArg (fun z=>some (HO.dK z)) rp.dec
  have nd:ms.Nodup:=hpm.nodup_iff.mpr rp.nd
  have ltm:ms.Pairwise (·<·):=(hms.and nd).imp fun {a b} z=>by
   obtain⟨z1,z2⟩:=z
   have z2:a≠b:=z2
   omega
  have memm:∀ x,x∈ms↔x∈(num p n).flatten:=fun x=>by
   rw[hpm.mem_iff]
   constructor
   ·intro hx
    obtain⟨⟨m,c⟩,hq,e⟩:=List.mem_map.mp hx
    have:=(rp.mem m c).mp hq
    have e:m=x:=e
    rw[<- e]; exact cn_ne.mp (by rw[<- this.1]; exact this.2)
   ·intro hx
    exact List.mem_map.mpr ⟨(x,cn (num p n).flatten x),(rp.mem _ _).mpr ⟨rfl,cn_ne.mpr hx⟩,rfl⟩
  have spM:SprL (ms.map fun m=>(m,cn (num p n).flatten m)) (cn (num p n).flatten):=by
   refine⟨by rw[List.pairwise_map]; exact ltm,fun m c=>?_⟩
   rw[List.mem_map]
   constructor
   ·rintro⟨x,hx,e⟩
    have e1:x=m:=congrArg Prod.fst e
    have e2:cn (num p n).flatten x=c:=congrArg Prod.snd e
    subst e1 e2
    exact⟨rfl,cn_ne.mpr ((memm x).mp hx)⟩
   ·rintro⟨rfl,hz⟩
    exact⟨m,(memm m).mpr (cn_ne.mp hz),rfl⟩
  have s6:Same H (upd H lk (.lst (ms.map V.int))):=Same.new hlk
  have e6:upd H lk (.lst (ms.map V.int)) lk=some (.lst (ms.map V.int)):=Zaab
  generalize upd H lk (.lst (ms.map V.int))=H6 at s6 e6 ⊢
  refine ZagE (xs:=ms.map V.int) (fun i σ H2=>∃ (o4 o5:Option V),σ=[some (.ref d),some (.int r),some (.int (lsF ((ms.map fun m=>(m,cn (num p n).flatten m)).take i) (0,r)).1),some (.int (lsF ((ms.map fun m=>(m,cn (num p n).flatten m)).take i) (0,r)).2),o4,o5]/\Same H6 H2)
   ⟨_,_,rfl,Same.refl _⟩ (fun i σ H2 _ z=>by obtain⟨_,_,_,sz⟩:=z; exact SqL.of (sz _ _ e6)) ?_ ?_
  ·rintro i x σ H2 hx ⟨o4,o5,rfl,s2⟩
   obtain⟨m,hm,rfl⟩:=Zacy hx
   have hmem:=(memm m).mp (List.mem_of_getElem? hm)
   have hmb:=ZagY (Zaeg p n) m (cn_ne.mpr hmem)
   have hMi:(ms.map fun m=>(m,cn (num p n).flatten m))[i]?=some (m,cn (num p n).flatten m):=by rw[List.getElem?_map,hm]; rfl
   have hv:valV kvs (Sum.inl m)=some (.int (cn (num p n).flatten m)):=by rw[rp.2.2 m,oz1 (cn_ne.mpr hmem)]
   refine⟨_,rfl,_,rfl,_,rfl,d,.int (cn (num p n).flatten m),rfl,?_,_,_,rfl,?_⟩
   ·have:=DGet.k (k:=Sum.inl m) (s2 _ _ (s6 _ _ ed))
    rwa [hv] at this
   refine⟨_,rfl,_,rfl,_,rfl,_,_,rfl,rfl,.inl ⟨by omega,by omega⟩,_,_,rfl,rfl,?_⟩
   refine⟨_,rfl,_,rfl,_,_,rfl,rfl,?_⟩
   refine⟨some (.int m),some (.int (if cn (num p n).flatten m<(lsF ((ms.map fun m=>(m,cn (num p n).flatten m)).take i) (0,r)).2 then cn (num p n).flatten m else (lsF ((ms.map fun m=>(m,cn (num p n).flatten m)).take i) (0,r)).2)),?_,s2⟩
   rw[Zagq hMi,stp,Zamd (lsF ((ms.map fun m=>(m,cn (num p n).flatten m)).take i) (0,r)).2]
   rfl
  ·rintro σ H2 ⟨o4,o5,rfl,s2⟩
   have el:(ms.map V.int).length=(ms.map fun m=>(m,cn (num p n).flatten m)).length:=by simp
   rw[el,List.take_length]
   exact⟨_,rfl,k _ H2 spM (s6.trans s2)⟩
def BoV (H:Hp) (v:V):Option (Int × Nat)->Prop
 | none=>v=.non
 | some q=>∃ l,v=.ref l/\H l=some (.tup [.int q.1,.int q.2])
theorem BoV.same {H H':Hp}{v:V}{st:Option (Int × Nat)} (h:BoV H v st) (s:Same H H'):BoV H' v st:=by
 cases st with
 | none=>exact h
 | some q=>obtain⟨l,e,hl⟩:=h; exact⟨l,e,s _ _ hl⟩
def cBo (S:Nat->Nat->List (List Int)) (p:Nat) (rows:Int) (n:Nat):Int:=rows*((sprC (S p n).flatten).headD (0,0)).1
def gBo (S:Nat->Nat->List (List Int)) (p:Nat) (rows:Int) (n:Nat):Option Int:=Zagu (S p n).flatten rows
def spBo (fn:Addr) (S:Nat->Nat->List (List Int)):Sp:=fun vs H Q _=>∃ (p last:Nat) (rows:Int),vs=[.int p,.int rows,.int last,.ref fn]/\2<=p/\p<=7/\last<=300/\0<=rows/\∀ v H',BoV H' v (bo (gBo S p rows) (cBo S p rows) (last+1) 0 none)->Same H H'->Q v H'
theorem scBo:FnScope ["p","rows","last","following","best","spreads","n","spread","least","reading"] ["p","rows","last","following"] (Zaac sBo):=⟨rfl,rfl,rfl,by decide +kernel,rfl,by decide +kernel,by decide +kernel⟩
theorem ok_bo {f f1 f2 f3 f4 : Addr} {fd d1 d2 d3 d4 : FuncData} {y : Str} {S : Nat → Nat → List (List Int)} {nx : List (List Int) → List (List Int)} (S0 : ∀ p, S p 0 = num0 p) (S1 : ∀ p n, S p (n + 1) = nx (S p n)) (SB : ∀ p n : Nat, 2 ≤ p → Bd n (S p n)) (SL : ∀ p n : Nat, 2 ≤ p → (S p n).length = p) (SN : ∀ p n : Nat, 2 ≤ p → (S p n).flatten ≠ [])
  (F:Fun K "best_over" "best_over" sBo f fd) (T:Txt mg) (CF:Cal P w K mg base 1 "first_spreads" ["p"] ZadP f1 d1) (CN:Cal P w K mg base 2 y ["spreads"] (Zaeu nx) f2 d2) (CO:Cal P w K mg base 2 "spread_over" ["spreads"] ZafP f3 d3) (CL:Cal P w K mg base 1 "least_of_spread" ["spread","rows"] ZadM f4 d4):FnOk P w K mg base CX0 3 f fd ["p","rows","last","following"] (spBo f2 S):=by
 refine okW F scBo (fun vs H Q E h=>?_) (fun cdv A outer s H vs Q E hr h=>?_)
 ·obtain⟨p,last,rows,rfl,_⟩:=h
  rfl
 ·obtain⟨p,last,rows,rfl,h1,h2,h3,h0,k⟩:=h
  have hr1:Room 1 _:=hr.mono (by decide)
  refine⟨_,(Zaag (ws (Zaaq (i:=4) scBo.nd rfl (Or.inl rfl) ZacU))
   (Zaag (ws (Zaaq (i:=5) scBo.nd rfl (Or.inl rfl) (Zaat CF hr1 rfl (Zaaa (pv 0) Zaae))))
   (Zaag (ws (Zaa4 PassesOwn.never rfl (Zaa5 rfl T.range (Zaaa (pe_op ZaaE (pv 2) Zaah) Zaae)) (Zaak (i:=6) scBo.nd rfl (Or.inl rfl))
   (WSs.out (Zaag (ws (Zaaq (i:=7) scBo.nd rfl (Or.inl rfl) (Zaat CO hr rfl (Zaaa (pv 5) Zaae))))
    (Zaag (ws (Zaaq (i:=8) scBo.nd rfl (Or.inl rfl) (pe_ix Zabd (pe_ix Zabd (pv 7) Zaah (fun _ _=>rfl)) Zaah (fun _ _=>rfl))))
    (Zaag (ws_if (PW.pt (ZakI (ZaaB Zaiu (pv 4) ZacU (ZaaK _)) (Zair (ZaaB op_ge (pe_op Zabu (pv 1) (pv 8)) (pe_ix Zabd (pv 4) Zaah (fun _ _=>rfl)) (ZaaK _)))))
    (Zaan (ws (Zaax (pv 4))))
    ZaaQ)
    (Zaag (ws (Zaaq (i:=9) scBo.nd rfl (Or.inl rfl) (Zaat CL hr1 rfl (Zaaa (pv 7) (Zaaa (pv 1) Zaae)))))
    (Zaag (ws_if (PW.pt (ZakI (ZaaB Zaiu (pv 9) ZacU (ZaaK _)) (Zair (PW.pt (pw_or (ZaaB Zal7 (pv 4) ZacU (ZaaK _)) (Zab9 (ZaaB op_lt (pv 9) (pe_ix Zabd (pv 4) Zaah (fun _ _=>rfl)) (ZaaK _))))))))
    (Zaan (ws (Zaaq (i:=4) scBo.nd rfl (Or.inl rfl) (Zacm (Zaaa (pv 9) (Zaaa (pv 6) Zaae))))))
    ZaaQ)
    (Zaan (ws (Zaaq (i:=5) scBo.nd rfl (Or.inl rfl) (Zait 3 CN hr (Zaaa (pv 5) Zaae)))))))))))))
   (Zaan (ws (Zaax (pv 4))))))),?_⟩
  refine⟨_,rfl,p,rfl,h1,h2,fun l0 q0 H1 hl0 hl1 hq1 s1=>?_⟩
  refine⟨_,rfl,_,_,rfl,rfl,last+1,rfl,by omega,by omega,ZaaP (fun i σ H2=>∃ (l:Addr) (qs:List Addr) (bv:V) (st:Option (Int × Nat)) (o6 o7 o8 o9:Option V),σ=[some (.int p),some (.int rows),some (.int last),some (.ref f2),some bv,some (.ref l),o6,o7,o8,o9]/\H2 l=some (.lst (qs.map V.ref))/\DDs H2 qs (S p i)/\BoV H2 bv st/\bo (gBo S p rows) (cBo S p rows) (last+1 - i) i st=bo (gBo S p rows) (cBo S p rows) (last+1) 0 none/\Same H H2)
   ⟨l0,q0,.non,none,none,none,none,none,rfl,hl1,by rw[S0]; exact hq1,rfl,rfl,s1⟩ ?_ ?_⟩
  ·rintro i σ H2 hi ⟨l,qs,bv,st,o6,o7,o8,o9,rfl,hl2,hq,hb,hbo,s2⟩
   have hlen:=SL p i h1
   have hB:=SB p i h1
   refine⟨_,rfl,l,qs,S p i,rfl,hl2,hq,by omega,hB.mono (by omega),fun ls qs3 L H3 h30 h3 ht sp s3=>?_⟩
   have hi3:i<=last:=by omega
   have hb4:∀ m∈(S p i).flatten,0<=m/\m<=400:=fun m hm=>by
    obtain⟨xs,hx,hmx⟩:=List.mem_flatten.mp hm
    have:=hB xs hx m hmx
    omega
   have eL:=Zaks hb4 sp
   obtain⟨q,M,rfl⟩:∃ q M,L=q::M:=by
    cases L with
    | cons q M=>exact⟨q,M,rfl⟩
    | nil=>
     exfalso
     obtain⟨m,hm⟩:=List.exists_mem_of_ne_nil _ (SN p i h1)
     have:=(Zabf sp m).mpr hm
     simp at this
   have hql:=ht.1
   rw[List.length_map,List.length_cons] at hql
   obtain⟨a0,ha0⟩:∃ a0,qs3[0]?=some a0:=⟨qs3[0]'(by omega),List.getElem?_eq_getElem (by omega)⟩
   have hq0:H3 a0=some (.tup [.int q.1,.int q.2]):=ht.2 0 a0 [q.1,q.2] ha0 rfl
   have at0:atI (qs3.map V.ref) 0=some (.ref a0):=by
    have:=ZabG (xs:=qs3.map V.ref) (j:=0) (v:=.ref a0) (by rw[List.getElem?_map,ha0]; rfl)
    exact this
   have hqb:=hb4 q.1 ((Zabf sp q.1).mp (List.mem_map.mpr ⟨q,List.mem_cons_self,rfl⟩))
   have ec:cBo S p rows i=rows*q.1:=by unfold cBo; rw[<- eL]; rfl
   have hb3:=hb.same s3
   have ek:last+1 - i=(last - i)+1:=by omega
   rw[ek] at hbo
   replace hbo:(if ZagV (cBo S p rows) i st=true then st else bo (gBo S p rows) (cBo S p rows) (last - i) (i+1) (Zabe (gBo S p rows) i st))=bo (gBo S p rows) (cBo S p rows) (last+1) 0 none:=hbo
   refine⟨_,rfl,ls,_,0,.ref a0,rfl,rfl,SqT.of h3,at0,a0,_,0,.int q.1,rfl,rfl,SqT.of hq0,rfl,?_⟩
   dsimp only
   refine cutG (fun σ' H'=>σ'=[some (.int p),some (.int rows),some (.int last),some (.ref f2),some bv,some (.ref l),some (.int (0+(i:Int))),some (.ref ls),some (.int q.1),o9]/\H'=H3/\¬ ZagV (cBo S p rows) i st=true) (fun R hR=>?_) ?_
   ·cases st with
    | none=>
     cases (show bv=.non from hb)
     exact⟨_,rfl,rfl,_,rfl,iteF (iteF (hR _ _ ⟨rfl,rfl,fun z=>nomatch z⟩))⟩
    | some qq=>
     obtain⟨lb,rfl,hlb⟩:=hb3
     refine⟨_,rfl,rfl,_,rfl,iteT ⟨_,rfl,_,rfl,_,_,rfl,rfl,.inr ⟨by omega,by omega⟩,_,rfl,lb,_,0,.int qq.1,rfl,rfl,SqT.of hlb,rfl,_,_,rfl,rfl,_,rfl,ite2 (fun hc=>?_) (fun hc=>?_)⟩⟩
     ·have hs : ZagV (cBo S p rows) i (some qq) = true := by
       show decide (cBo S p rows i ≥ qq.1)=true
       rw[ec]; exact hc
      rw[if_pos hs] at hbo
      refine⟨_,rfl,k _ H3 ?_ (s2.trans s3)⟩
      rw[<- hbo]
      exact⟨lb,rfl,hlb⟩
     ·refine hR _ _ ⟨rfl,rfl,fun z=>hc ?_⟩
      have:decide (cBo S p rows i ≥ qq.1)=true:=z
      rw[ec] at this
      exact this
   ·rintro σ' H' ⟨rfl,rfl,hns⟩
    rw[if_neg hns] at hbo
    refine⟨_,rfl,_,rfl,ls,qs3,q::M,rows,rfl,h3,ht,fun y hy=>?_,fun H4 s4=>?_⟩
    ·have:=hb4 y.1 ((Zabf sp y.1).mp (List.mem_map.mpr ⟨y,hy,rfl⟩))
     omega
    have hb5:=hb3.same s4
    have eg:gBo S p rows i=if (lsF (q::M) (0,rows)).2 > 0 then none else some (lsF (q::M) (0,rows)).1:=by unfold gBo Zagu; rw[<- eL]
    generalize lsF (q::M) (0,rows)=z at eg ⊢
    dsimp only
    refine cutG (fun σ' H'=>∃ bv' o9',σ'=[some (.int p),some (.int rows),some (.int last),some (.ref f2),some bv',some (.ref l),some (.int (0+(i:Int))),some (.ref ls),some (.int q.1),o9']/\BoV H' bv' (Zabe (gBo S p rows) i st)/\Same H4 H') (fun R hR=>?_) ?_
    ·by_cases hz:z.2 > 0
     ·rw[if_pos hz] at eg ⊢
      refine⟨_,rfl,rfl,_,rfl,iteF (iteF (hR _ _ ⟨bv,_,rfl,?_,Same.refl _⟩))⟩
      unfold Zabe
      rw[eg]
      exact hb5
     ·rw[if_neg hz] at eg ⊢
      refine⟨_,rfl,rfl,_,rfl,iteT ?_⟩
      cases st with
      | none=>
       cases (show bv=.non from hb)
       refine⟨_,rfl,rfl,_,rfl,iteT (iteT ⟨_,rfl,_,rfl,(by show 2<=sizeLine; decide),fun t nt=>hR _ _ ⟨.ref t,_,rfl,?_,Same.new nt⟩⟩)⟩
       unfold Zabe
       rw[eg]
       exact⟨t,rfl,by rw[Zaab,Int.zero_add]⟩
      | some qq=>
       obtain⟨lb,rfl,hlb⟩:=hb5
       refine⟨_,rfl,rfl,_,rfl,iteF ⟨_,rfl,_,rfl,lb,_,0,.int qq.1,rfl,rfl,SqT.of hlb,rfl,_,_,rfl,rfl,_,rfl,ite2 (fun hc=>?_) (fun hc=>?_)⟩⟩
       ·have hc':z.1<qq.1:=of_decide_eq_true hc
        refine⟨_,rfl,_,rfl,(by show 2<=sizeLine; decide),fun t nt=>hR _ _ ⟨.ref t,_,rfl,?_,Same.new nt⟩⟩
        unfold Zabe
        rw[eg]
        show BoV _ _ (if z.1<qq.1 then some (z.1,i) else some qq)
        rw[if_pos hc']
        exact⟨t,rfl,by rw[Zaab,Int.zero_add]⟩
       ·have hc':¬ z.1<qq.1:=fun y=>hc (decide_eq_true y)
        refine hR _ _ ⟨.ref lb,_,rfl,?_,Same.refl _⟩
        unfold Zabe
        rw[eg]
        show BoV _ _ (if z.1<qq.1 then some (z.1,i) else some qq)
        rw[if_neg hc']
        exact⟨lb,rfl,hlb⟩
    ·rintro σ' H5 ⟨bv',o9',rfl,hbv,s5⟩
     have s25:=(s3.trans s4).trans s5
     refine⟨rfl,_,rfl,l,qs,S p i,rfl,s25 _ _ hl2,hq.same s25,by omega,by omega,hB.mono (by omega),fun l6 q6 H6 _ h6 hq6 s6=>?_⟩
     refine⟨l6,q6,bv',_,_,_,_,_,rfl,h6,by rw[S1]; exact hq6,hbv.same s6,?_,(s2.trans s25).trans s6⟩
     rw[<- hbo,show last+1 - (i+1)=last - i by omega]
  ·rintro σ H2 ⟨l,qs,bv,st,o6,o7,o8,o9,rfl,hl2,hq,hb,hbo,s2⟩
   have en:((last:Int)+1).toNat=last+1:=by omega
   rw[en,Nat.sub_self] at hbo
   refine⟨_,rfl,k bv H2 ?_ s2⟩
   rw[<- hbo]
   exact hb
end
end Fs33
namespace Fs33
open PySem L2 Lv
section
variable {P:Program}{w:World}{K:PySem.W.Frag}{mg:Str->Option Value}{base:Heap}
def spBR:Sp:=fun vs H Q _=>∃ (p:Nat) (r:Int),vs=[.int p,.int r]/\2<=p/\p<=7/\1<=r/\r<=1000000000001/\∀ l q H',Bst (num p) 301 r q->H' l=some (.tup [.int q.1,.int q.2])->Same H H'->Q (.ref l) H'
theorem scBR:FnScope ["p","rows"] ["p","rows"] (Zaac sBR):=⟨rfl,rfl,rfl,by decide +kernel,rfl,by decide +kernel,by decide +kernel⟩
theorem ok_br {f f1 f2 f3:Addr}{fd d1 d2 d3:FuncData}{tL:Tok} (F:Fun K "best_reading" "best_reading" sBR f fd) (hLL:mg "LAST_LEVEL"=some (.int 300 tL)) (CW:Cal P w K mg base 2 "check_ways" ["p"] ZafN f1 d1) (CN:Cal P w K mg base 2 "next_spreads" ["spreads"] (Zaeu nextN) f2 d2) (CB:Cal P w K mg base 3 "best_over" ["p","rows","last","following"] (spBo f2 num) f3 d3):FnOk P w K mg base CX0 4 f fd ["p","rows"] spBR:=by
 refine F.ok scBR (fun vs H Q E h=>?_) (fun cdv A outer s H vs Q E hr h=>?_)
 ·obtain⟨p,r,rfl,_⟩:=h
  rfl
 ·obtain⟨p,r,rfl,h1,h2,h3,h4,k⟩:=h
  have hr2:Room 2 _:=hr.mono (by decide)
  refine⟨_,(Zaam (ZaaZ (Zaat CW hr2 rfl (Zaaa (pv 0) Zaae)))
   (Zaar (Zaax (Zaat CB hr rfl (Zaaa (pv 0) (Zaaa (pv 1) (Zaaa (Zaa8 rfl hLL) (Zaaa (ZakS CN rfl) Zaae)))))))),?_⟩
  refine⟨_,rfl,(p:Int),rfl,by omega,by omega,?_⟩
  refine⟨_,rfl,_,rfl,p,300,r,rfl,h1,h2,by omega,by omega,fun v H1 hv s1=>?_⟩
  obtain⟨q,eq,b⟩:=(ZabD h1).best (r:=r) (N:=301) (n:=60) (by omega) h3 (by omega) (by have:=Zalw h1 h2; omega)
  have hv':BoV H1 v (bo (gS (num p) r) (cS (num p) r) 301 0 none):=hv
  rw[eq] at hv'
  obtain⟨l,rfl,hl⟩:=hv'
  exact k l q H1 b hl s1
end
end Fs33
namespace Fs33
open PySem L2 Lv
section
variable {P:Program}{w:World}{K:PySem.W.Frag}{mg:Str->Option Value}{base:Heap}
theorem Zal0:FnScope ["p"] ["p"] (Zaac sWays):=⟨rfl,rfl,rfl,by decide +kernel,rfl,by decide +kernel,by decide +kernel⟩
theorem ZakZ {f fW : Addr} {fd dW : FuncData} {t2 t7 : Tok} (F : Fun K "check_ways" "check_ways" sWays f fd) (T : Txt mg) (hL : mg "LEAST_WAYS" = some (.int 2 t2)) (hM : mg "MOST_WAYS" = some (.int 7 t7)) (CW : Cal P w K mg base 1 "is_whole" ["thing"] Zacp fW dW) :
  FnOk P w K mg base CX0 2 f fd ["p"] ZafN:=by
 refine F.ok Zal0 (fun vs H Q E h=>?_) (fun cdv A outer s H vs Q E hr h=>?_)
 ·obtain⟨i,rfl,_⟩:=h
  rfl
 ·obtain⟨i,rfl,h1,h2,k⟩:=h
  refine⟨_,Zaar (ps_if (PW.pt (pw_or (Zabm (Zaby (Zaat CW hr rfl (Zaaa (pv 0) Zaae))))
   (Zab9 (Zabm (ZacS op_le op_le (Zaa8 rfl hL) (pv 0) (Zaa8 rfl hM)))))) ZaaV Zabz),?_⟩
  refine⟨_,rfl,i,rfl,true,rfl,iteF ?_⟩
  refine⟨_,rfl,2,i,rfl,rfl,_,rfl,?_⟩
  rw[decide_eq_true h1]
  refine iteT ⟨i,7,rfl,rfl,_,rfl,?_⟩
  rw[decide_eq_true h2]
  exact iteF k
theorem Zaky:FnScope ["n","last"] ["n","last"] (Zaac Zadl):=⟨rfl,rfl,rfl,by decide +kernel,rfl,by decide +kernel,by decide +kernel⟩
theorem ZajE {f fW da : Addr} {fd dW : FuncData} (F : FunD K "check_level" "check_level" Zadl f da fd) (T : Txt mg) (CW : Cal P w K mg base 1 "is_whole" ["thing"] Zacp fW dW) :
  FnOk P w K mg base CX0 2 f fd ["n","last"] ZadL:=by
 refine F.ok Zaky (fun vs H Q E h=>?_) (fun cdv A outer s H vs Q E hr h=>?_)
 ·obtain⟨i,m,rfl,_⟩:=h
  rfl
 ·obtain⟨i,m,rfl,h1,h2,k⟩:=h
  refine⟨_,Zaar (ps_if (PW.pt (pw_or (Zabm (Zaby (Zaat CW hr rfl (Zaaa (pv 0) Zaae))))
   (Zab9 (Zabm (ZacS op_le op_le Zaah (pv 0) (pv 1)))))) ZaaV Zabz),?_⟩
  refine⟨_,rfl,i,rfl,true,rfl,iteF ?_⟩
  refine⟨_,rfl,0,i,rfl,rfl,_,rfl,?_⟩
  rw[decide_eq_true h1]
  refine iteT ⟨_,rfl,i,m,rfl,rfl,_,rfl,?_⟩
  rw[decide_eq_true h2]
  exact iteF k
theorem Zakz:FnScope ["p"] ["p"] (Zaac Zafe):=⟨rfl,rfl,rfl,by decide +kernel,rfl,by decide +kernel,by decide +kernel⟩
theorem ZajH {f:Addr}{fd:FuncData} (F:Fun K "first_counts" "first_counts" Zafe f fd) (T:Txt mg):FnOk P w K mg base CX0 1 f fd ["p"] ZafR:=by
 refine F.ok Zakz (fun vs H Q E h=>?_) (fun cdv A outer s H vs Q E hr h=>?_)
 ·obtain⟨p,rfl,_⟩:=h
  rfl
 ·obtain⟨p,rfl,h1,h2,k⟩:=h
  refine⟨_,Zaar (Zaax (ZaaI Zaav rfl T.tuple Zabc (Zaaa (pe_op Zacn (Zabn (Zaaa Zaah Zaae)) (pe_op Zahm (Zabn (Zaaa Zaah Zaae)) (pe_op ZabB (pv 0) Zaah))) Zaae))),?_⟩
  refine⟨(by show 1<=sizeLine; decide),fun p1 e1=>⟨(by show 1<=sizeLine; decide),fun p2 e2=>⟨_,rfl,_,_,rfl,rfl,?_⟩⟩⟩
  have z2:(upd (upd H p1 (.lst [.int 1])) p2 (.lst [.int 0])) p1=some (.lst [.int 1]):=by rw[Zaaf (Zaad Zaab e2)]; exact Zaab
  refine⟨p2,(p:Int) - 1,_,rfl,rfl,Zaab,by omega,by omega,?_,fun p3 e3=>?_⟩
  ·exact Nat.le_of_lt (Zaap (by show 1*((p:Int) - 1).toNat<=1000; omega))
  have z3:=(Same.new (o:=.lst (List.replicate ((p:Int) - 1).toNat [V.int 0]).flatten) e3) p1 _ z2
  have ez:(List.replicate ((p:Int) - 1).toNat [V.int 0]).flatten=List.replicate (p - 1) (V.int 0):=by
   rw[show ((p:Int) - 1).toNat=p - 1 by omega]
   exact List.flatten_replicate_singleton
  rw[ez] at z3 ⊢
  refine⟨p1,p3,_,_,rfl,rfl,z3,Zaab,?_,fun p4 e4=>?_⟩
  ·exact Nat.le_of_lt (Zaap (by rw[List.length_replicate]; show 1+(p - 1)<=1000; omega))
  refine⟨p4,_,rfl,.inl ⟨SqL.of Zaab,fun l hl=>?_⟩⟩
  have s4:=(((Same.new (o:=.lst [.int 1]) e1).trans (Same.new (o:=.lst [.int 0]) e2)).trans (Same.new (o:=.lst (List.replicate (p - 1) (V.int 0))) e3)).trans (Same.new (o:=.lst ([.int 1]++List.replicate (p - 1) (V.int 0))) e4)
  refine k l _ (s4.free hl) ?_ (s4.trans (Same.new hl))
  rw[Zaab]
  simp[ZacZ]
theorem scNext:FnScope ["counts","first"] ["counts"] (Zaac sNext):=⟨rfl,rfl,rfl,by decide +kernel,rfl,by decide +kernel,by decide +kernel⟩
theorem Zak5 {f:Addr}{fd:FuncData} (F:Fun K "next_counts" "next_counts" sNext f fd) (T:Txt mg):FnOk P w K mg base CX0 1 f fd ["counts"] (Zai6 K):=by
 refine F.ok scNext (fun vs H Q E h=>?_) (fun cdv A outer s H vs Q E hr h=>?_)
 ·obtain⟨a,c,rfl,_⟩:=h
  rfl
 ·obtain⟨a,c,rfl,hA,h1,h2,k⟩:=h
  refine⟨_,Zaam (Zaaq (i:=1) scNext.nd rfl (Or.inr rfl) (pe_ix Zabd (pv 0) Zaah (fun _ _=>rfl)))
   (Zaar (Zaax (ZaaI Zaav rfl T.tuple Zabc (Zaaa (pe_op Zacn
    (Zaba (own:=["count"]) (js:=[1]) (CompOk.by (sc:=Zaac sNext) (N:=["counts","first"]) rfl rfl (by decide +kernel)) rfl (Zaf9 (Zabt Zahd (pv 0) (Zacb Zaah) Zacc)) Zaay
     (fun _ _ _ _ _=>Zaak (i:=0) (by show (["count","first"]:List Str).Nodup; decide +kernel) rfl (Or.inl rfl) (.inr rfl)) (fun _ _ _ _ _=>ZaaW) (fun _ _ _ _ _=>pe_op ZaaE (pv 1) (pv 0)))
    (Zabn (Zaaa (pv 1) Zaae))) Zaae)))),?_⟩
  obtain⟨c0,cr,rfl⟩:∃ c0 cr,c=c0::cr:=by
   cases c with
   | nil=>simp at h1
   | cons x y=>exact⟨x,y,rfl⟩
  have hcr:cr.length<=6:=by simpa using h2
  refine⟨_,rfl,a,_,0,.int c0,rfl,rfl,hA,Zaej,?_⟩
  refine⟨_,rfl,1,rfl,a,_,rfl,hA,?_,fun p1 e1=>⟨p1,rfl,⟨_,SqT.of Zaab⟩,?_⟩⟩
  ·rintro⟨z,_⟩
   have:HT.sIx ((c0::cr).map V.int).length 0 (some ((1:Nat):Int))=0:=z
   rw[HT.sIx_nat] at this
   simp at this
  have ecut:cutV ((c0::cr).map V.int) (some 1) none=cr.map V.int:=by
   unfold cutV
   show (((c0::cr).map V.int).drop (HT.sIx ((c0::cr).map V.int).length 0 (some ((1:Nat):Int)))).take (HT.sIx ((c0::cr).map V.int).length ((c0::cr).map V.int).length none - HT.sIx ((c0::cr).map V.int).length 0 (some ((1:Nat):Int)))=_
   rw[HT.sIx_nat]
   rw[show min 1 ((c0::cr).map V.int).length=1 by simp]
   show (cr.map V.int).take (((c0::cr).map V.int).length - 1)=_
   rw[List.take_of_length_le (by simp)]
  rw[ecut]
  refine Zac1 (xs:=cr.map V.int) (fun acc i H2=>Same (upd H p1 (.tup (cr.map V.int))) H2/\H2 acc=some (.lst (((cr.take i).map (c0+·)).map V.int))) (fun acc h0=>⟨Same.new h0,Zaab⟩) (fun acc i H2 h0 _ p=>p.1.tup (SqT.of Zaab)) ?_ ?_
  ·rintro acc i x H2 h0 hx ⟨s2,hacc⟩
   obtain⟨z,hz,rfl⟩:=Zacy hx
   have hi:=(List.getElem?_eq_some_iff.mp hz).1
   refine⟨_,rfl,_,rfl,_,_,rfl,rfl,_,hacc,?_,by rw[List.length_map]; exact hi,s2.put h0,?_⟩
   ·exact Zaap (by simp; omega)
   ·rw[Zaab,List.take_add_one,hz]
    simp
  ·rintro acc H2 h0 ⟨s2,hacc⟩
   rw[List.length_map,List.take_length] at hacc
   refine⟨_,rfl,(by show 1<=sizeLine; decide),fun p2 e2=>?_⟩
   refine⟨acc,p2,_,_,rfl,rfl,(Same.new e2) acc _ hacc,Zaab,?_,fun p3 e3=>⟨p3,_,rfl,.inl ⟨SqL.of Zaab,fun l hl=>?_⟩⟩⟩
   ·exact Nat.le_of_lt (Zaap (by simp; omega))
   have s3:=(((Same.new (o:=.tup (cr.map V.int)) e1).trans s2).trans (Same.new (o:=.lst [.int c0]) e2)).trans (Same.new (o:=.lst (((cr.map (c0+·)).map V.int)++[.int c0])) e3)
   refine k l _ (s3.free hl) ?_ (s3.trans (Same.new hl))
   rw[Zaab]
   simp[nextC]
theorem scCounts:FnScope ["p","n","counts","level"] ["p","n"] (Zaac Zab7):=⟨rfl,rfl,rfl,by decide +kernel,rfl,by decide +kernel,by decide +kernel⟩
theorem Zahx {f fA fB fC fD : Addr} {fd dA dB dC dD : FuncData} (F : Fun K "level_counts" "level_counts" Zab7 f fd) (T : Txt mg) (CA : Cal P w K mg base 2 "check_ways" ["p"] ZafN fA dA) (CB : CalD P w K mg base 2 "check_level" ["n", "last"] [.int 300] ZadL fB dB) (CC : Cal P w K mg base 1 "first_counts" ["p"] ZafR fC dC) (CD : Cal P w K mg base 1 "next_counts" ["counts"] (Zai6 K) fD dD) :
  FnOk P w K mg base CX0 3 f fd ["p","n"] ZabM:=by
 refine F.ok scCounts (fun vs H Q E h=>?_) (fun cdv A outer s H vs Q E hr h=>?_)
 ·obtain⟨p,n,rfl,_⟩:=h
  rfl
 ·obtain⟨p,n,rfl,h1,h2,h3,k⟩:=h
  have hr1:Room 1 _:=hr.mono (by decide)
  refine⟨_,Zaam (ZaaZ (Zaat CA hr rfl (Zaaa (pv 0) Zaae))) (Zaam (ZaaZ (ZakV CB hr rfl (Zaaa (pv 1) Zaae)))
   (Zaam (Zaaq (i:=2) scCounts.nd rfl (Or.inl rfl) (Zaat CC hr1 rfl (Zaaa (pv 0) Zaae)))
   (Zaam (Zaa4 PassesOwn.never rfl (Zaa5 rfl T.range (Zaaa (pv 1) Zaae)) (Zaak (i:=3) scCounts.nd rfl (Or.inl rfl))
    (Zaar (Zaaq (i:=2) scCounts.nd rfl (Or.inl rfl) (Zaat CD hr1 rfl (Zaaa (pv 2) Zaae)))))
   (Zaar (Zaax (pv 2)))))),?_⟩
  refine⟨_,rfl,p,rfl,by omega,by omega,?_⟩
  refine⟨_,rfl,n,300,rfl,by omega,by omega,?_⟩
  refine⟨_,rfl,p,rfl,h1,h2,fun l H1 hl0 hl1 s1=>?_⟩
  refine⟨_,rfl,n,rfl,by omega,by omega,ZaaP (fun i σ H2=>∃ (l:Addr) (o:Option V),σ=[some (.int p),some (.int n),some (.ref l),o]/\H l=none/\H2 l=some (.tup ((cnt p i).map V.int))/\Same H H2)
   ⟨l,none,rfl,hl0,hl1,s1⟩ ?_ ?_⟩
  ·rintro i σ H2 hi ⟨l,o,rfl,hl0,hl2,s2⟩
   have hlen:=Zadx (p:=p) (by omega) i
   refine⟨_,rfl,l,cnt p i,rfl,SqT.of hl2,by omega,by omega,fun l3 H3 h30 h3 s3=>?_⟩
   exact⟨l3,_,rfl,s2.free h30,h3,s2.trans s3⟩
  ·rintro σ H2 ⟨l,o,rfl,hl0,hl2,s2⟩
   refine⟨_,rfl,k l H2 hl0 ?_ s2⟩
   simpa using hl2
theorem Zaio:FnScope ["p","n"] ["p","n"] (Zaac ZadS):=⟨rfl,rfl,rfl,by decide +kernel,rfl,by decide +kernel,by decide +kernel⟩
theorem Zagg {f fA:Addr}{fd dA:FuncData} (F:Fun K "level_total" "level_total" ZadS f fd) (T:Txt mg) (CA:Cal P w K mg base 3 "level_counts" ["p","n"] ZabM fA dA):FnOk P w K mg base CX0 4 f fd ["p","n"] Zadf:=by
 refine F.ok Zaio (fun vs H Q E h=>?_) (fun cdv A outer s H vs Q E hr h=>?_)
 ·obtain⟨p,n,rfl,_⟩:=h
  rfl
 ·obtain⟨p,n,rfl,h1,h2,h3,k⟩:=h
  refine⟨_,Zaar (Zaax (Zaaj (Zac4 rfl) rfl T.sum b_sum (Zaaa (Zaat CA hr rfl (Zaaa (pv 0) (Zaaa (pv 1) Zaae))) Zaae))),?_⟩
  exact⟨_,rfl,_,rfl,p,n,rfl,h1,h2,h3,fun l H1 hl0 hl1 s1=>⟨l,_,rfl,SqT.of hl1,k H1 s1⟩⟩
theorem scTot:FnScope ["total"] ["total"] (Zaac sTot):=⟨rfl,rfl,rfl,by decide +kernel,rfl,by decide +kernel,by decide +kernel⟩
theorem Zal9 {f:Addr}{fd:FuncData}{tM:Tok} (F:Fun K "check_total" "check_total" sTot f fd) (T:Txt mg) (hM:mg "MOST_PLACES"=some (.int 4000 tM)):FnOk P w K mg base CX0 1 f fd ["total"] spTot:=by
 refine F.ok scTot (fun vs H Q E h=>?_) (fun cdv A outer s H vs Q E hr h=>?_)
 ·obtain⟨i,rfl,_⟩:=h
  rfl
 ·obtain⟨i,rfl,h4,k⟩:=h
  refine⟨_,Zaar (ps_if (ZaaB op_gt (pv 0) (Zaa8 rfl hM) (ZaaK _)) ZaaV Zabz),?_⟩
  refine⟨_,rfl,_,_,rfl,rfl,_,rfl,?_⟩
  rw[decide_eq_false (by omega)]
  exact iteF k
theorem Zajf:FnScope ["p"] ["p"] (Zaac Zacv):=⟨rfl,rfl,rfl,by decide +kernel,rfl,by decide +kernel,by decide +kernel⟩
theorem Zahw {f:Addr}{fd:FuncData} (F:Fun K "first_numbers" "first_numbers" Zacv f fd) (T:Txt mg):FnOk P w K mg base CX0 1 f fd ["p"] ZadQ:=by
 refine F.ok Zajf (fun vs H Q E h=>?_) (fun cdv A outer s H vs Q E hr h=>?_)
 ·obtain⟨p,rfl,_⟩:=h
  rfl
 ·obtain⟨p,rfl,h1,h2,k⟩:=h
  refine⟨_,Zaar (Zaax (ZaaI Zaav rfl T.tuple Zabc (Zaaa (pe_op Zacn (Zabn (Zaaa (Zacm (Zaaa Zaah Zaae)) Zaae)) (pe_op Zahm (Zabn (Zaaa (Zacm Zaae) Zaae)) (pe_op ZabB (pv 0) Zaah))) Zaae))),?_⟩
  refine⟨(by show 1<=sizeLine; decide),fun q0 e0=>⟨(by show 1<=sizeLine; decide),fun p1 e1=>⟨Nat.zero_le _,fun q1 f1=>⟨(by show 1<=sizeLine; decide),fun p2 e2=>⟨_,rfl,_,_,rfl,rfl,?_⟩⟩⟩⟩⟩
  have t0:Same H (upd H q0 (.tup [.int 0])):=Same.new e0
  have t1:=t0.trans (Same.new (o:=.lst [.ref q0]) e1)
  have t2:=t1.trans (Same.new (o:=.tup []) f1)
  have t3:=t2.trans (Same.new (o:=.lst [.ref q1]) e2)
  have a0:(upd (upd (upd (upd H q0 (.tup [.int 0])) p1 (.lst [.ref q0])) q1 (.tup [])) p2 (.lst [.ref q1])) q0=some (.tup [.int 0]):=((Same.new e1).trans ((Same.new f1).trans (Same.new e2))) q0 _ Zaab
  have a1:(upd (upd (upd (upd H q0 (.tup [.int 0])) p1 (.lst [.ref q0])) q1 (.tup [])) p2 (.lst [.ref q1])) p1=some (.lst [.ref q0]):=((Same.new f1).trans (Same.new e2)) p1 _ Zaab
  have a2:(upd (upd (upd (upd H q0 (.tup [.int 0])) p1 (.lst [.ref q0])) q1 (.tup [])) p2 (.lst [.ref q1])) q1=some (.tup []):=(Same.new e2) q1 _ Zaab
  have a3:(upd (upd (upd (upd H q0 (.tup [.int 0])) p1 (.lst [.ref q0])) q1 (.tup [])) p2 (.lst [.ref q1])) p2=some (.lst [.ref q1]):=Zaab
  generalize (upd (upd (upd (upd H q0 (.tup [.int 0])) p1 (.lst [.ref q0])) q1 (.tup [])) p2 (.lst [.ref q1]))=H1 at t3 a0 a1 a2 a3 ⊢
  refine⟨p2,(p:Int) - 1,_,rfl,rfl,a3,by omega,by omega,?_,fun p3 e3=>?_⟩
  ·exact Nat.le_of_lt (Zaap (by show 1*((p:Int) - 1).toNat<=1000; omega))
  have ez:(List.replicate ((p:Int) - 1).toNat [V.ref q1]).flatten=List.replicate (p - 1) (V.ref q1):=by
   rw[show ((p:Int) - 1).toNat=p - 1 by omega]
   exact List.flatten_replicate_singleton
  rw[ez]
  have s3:=Same.new (o:=.lst (List.replicate (p - 1) (V.ref q1))) e3
  refine⟨p1,p3,_,_,rfl,rfl,s3 p1 _ a1,Zaab,?_,fun p4 e4=>⟨p4,_,rfl,.inl ⟨SqL.of Zaab,fun l hl=>?_⟩⟩⟩
  ·exact Nat.le_of_lt (Zaap (by rw[List.length_replicate]; show 1+(p - 1)<=1000; omega))
  have s4:=s3.trans (Same.new (o:=.lst ([.ref q0]++List.replicate (p - 1) (V.ref q1))) e4)
  have s5:=s4.trans (Same.new (o:=.tup ([.ref q0]++List.replicate (p - 1) (V.ref q1))) hl)
  have hl0:H l=none:=(t3.trans s4).free hl
  refine k l (q0::List.replicate (p - 1) q1) _ hl0 (by rw[Zaab]; simp) ⟨by simp[num0],fun j r xs ha hb=>?_⟩ (t3.trans s5)
  cases j with
  | zero=>
   have:r=q0:=by simpa using ha.symm
   have:xs=[0]:=by simpa[num0] using hb.symm
   subst r xs
   exact s5 q0 _ a0
  | succ j=>
   have:r=q1:=Zaey (j:=j) (by simpa using ha)
   have:xs=[]:=Zaey (j:=j) (by simpa[num0] using hb)
   subst r xs
   exact s5 q1 _ a2
theorem Zaf2:FnScope ["p","n"] ["p","n"] (Zaac Zab6):=⟨rfl,rfl,rfl,by decide +kernel,rfl,by decide +kernel,by decide +kernel⟩
theorem Zahp {f fA fB:Addr}{fd dA dB:FuncData} (F:Fun K "check_places" "check_places" Zab6 f fd) (T:Txt mg) (CA:Cal P w K mg base 4 "level_total" ["p","n"] Zadf fA dA) (CB:Cal P w K mg base 1 "check_total" ["total"] spTot fB dB):FnOk P w K mg base CX0 5 f fd ["p","n"] ZadK:=by
 refine F.ok Zaf2 (fun vs H Q E h=>?_) (fun cdv A outer s H vs Q E hr h=>?_)
 ·obtain⟨p,n,rfl,_⟩:=h
  rfl
 ·obtain⟨p,n,rfl,h1,h2,h3,h4,k⟩:=h
  have hr1:Room 1 _:=hr.mono (by decide)
  refine⟨_,Zaar (ZaaZ (Zaat CB hr1 rfl (Zaaa (Zaat CA hr rfl (Zaaa (pv 0) (Zaaa (pv 1) Zaae))) Zaae))),?_⟩
  exact⟨_,rfl,_,rfl,p,n,rfl,h1,h2,h3,fun H1 s1=>⟨_,rfl,h4,k H1 s1⟩⟩
theorem scNextN:FnScope ["numbers","first"] ["numbers"] (Zaac Zadk):=⟨rfl,rfl,rfl,by decide +kernel,rfl,by decide +kernel,by decide +kernel⟩
theorem ZajD {f:Addr}{fd:FuncData} (F:Fun K "next_numbers" "next_numbers" Zadk f fd) (T:Txt mg):FnOk P w K mg base CX0 1 f fd ["numbers"] Zaev:=by
 refine F.ok scNextN (fun vs H Q E h=>?_) (fun cdv A outer s H vs Q E hr h=>?_)
 ·obtain⟨a,rs,N,rfl,_⟩:=h
  rfl
 ·obtain⟨a,rs,N,rfl,hA,hT,h1,h2,hne,hz,k⟩:=h
  refine ⟨_, Zaam (Zaaq (i := 1) scNextN.nd rfl (Or.inr rfl) (ZaaI Zaav rfl T.tuple Zabc (Zaaa (Zaba (own := ["number"]) (js := []) (CompOk.by (sc := Zaac Zadk) (N := ["numbers", "first"]) rfl rfl (by decide +kernel)) rfl (Zaf9 (pe_ix Zabd (pv 0) Zaah (fun _ _ => rfl))) Zaay
     (fun _ _ _ _ _=>Zaak (i:=0) (by show (["number"]:List Str).Nodup; decide +kernel) rfl (Or.inl rfl) (.inr rfl)) (fun _ _ _ _ _=>ZaaW) (fun _ _ _ _ _=>pe_op ZaaE (pv 0) Zaah)) Zaae)))
   (Zaar (Zaax (ZaaI Zaav rfl T.tuple Zabc (Zaaa (pe_op Zacn
    (Zaba (own:=["reel"]) (js:=[1]) (CompOk.by (sc:=Zaac Zadk) (N:=["numbers","first"]) rfl rfl (by decide +kernel)) rfl (Zaf9 (Zabt Zahd (pv 0) (Zacb Zaah) Zacc)) Zaay
     (fun _ _ _ _ _=>Zaak (i:=0) (by show (["reel","first"]:List Str).Nodup; decide +kernel) rfl (Or.inl rfl) (.inr rfl)) (fun _ _ _ _ _=>ZaaW) (fun _ _ _ _ _=>pe_op (Zajx K) (pv 1) (pv 0)))
    (Zabn (Zaaa (pv 1) Zaae))) Zaae)))),?_⟩
  obtain⟨x0,xr,rfl⟩:∃ x0 xr,N=x0::xr:=by
   cases N with
   | nil=>simp at h1
   | cons x y=>exact⟨x,y,rfl⟩
  obtain⟨r0,rr,rfl⟩:∃ r0 rr,rs=r0::rr:=by
   cases rs with
   | nil=>have:=hT.1; simp at this
   | cons x y=>exact⟨x,y,rfl⟩
  have hr0:H r0=some (.tup (x0.map V.int)):=hT.2 0 r0 x0 rfl rfl
  have hrl:rr.length=xr.length:=by have:=hT.1; simpa using this
  have hxr:xr.length<=6:=by simpa using h2
  have hx0:x0.length<=4000:=hz x0 (by simp)
  have ef:fstN (x0::xr)=x0.map (·+1):=rfl
  refine⟨_,rfl,a,_,0,.ref r0,rfl,rfl,SqT.of hA,ZabG (j:=0) rfl,r0,rfl,⟨_,SqT.of hr0⟩,?_⟩
  refine Zac1 (xs:=x0.map V.int) (fun acc i H2=>Same H H2/\H2 acc=some (.lst (((x0.take i).map (·+1)).map V.int))) (fun acc h0=>⟨Same.new h0,Zaab⟩) (fun acc i H2 h0 _ p=>p.1.tup (SqT.of hr0)) ?_ ?_
  ·rintro acc i x H2 h0 hx ⟨s2,hacc⟩
   obtain⟨z,hz',rfl⟩:=Zacy hx
   have hi:=(List.getElem?_eq_some_iff.mp hz').1
   refine⟨_,rfl,z,1,rfl,rfl,_,hacc,?_,by rw[List.length_map]; exact hi,s2.put h0,?_⟩
   ·exact ZaaU (by simp; omega)
   ·rw[Zaab,List.take_add_one,hz',Option.toList_some,List.map_append,List.map_append]
    rfl
  rintro acc H2 h0 ⟨s2,hacc⟩
  rw[List.length_map,List.take_length] at hacc
  refine⟨acc,_,rfl,.inl ⟨SqL.of hacc,fun fl hfl=>?_⟩⟩
  have s3:=s2.trans (Same.new (o:=.tup ((x0.map (·+1)).map V.int)) hfl)
  have hfl3:(upd H2 fl (.tup ((x0.map (·+1)).map V.int))) fl=some (.tup ((x0.map (·+1)).map V.int)):=Zaab
  generalize (upd H2 fl (.tup ((x0.map (·+1)).map V.int)))=H3 at s3 hfl3 ⊢
  have hfl0:H fl=none:=s2.free hfl
  refine⟨_,rfl,1,rfl,a,_,rfl,SqT.of (s3 a _ hA),?_,fun p1 e1=>⟨p1,rfl,⟨_,SqT.of Zaab⟩,?_⟩⟩
  ·rintro⟨z,_⟩
   have:HT.sIx ((r0::rr).map V.ref).length 0 (some ((1:Nat):Int))=0:=z
   rw[HT.sIx_nat] at this
   simp at this
  have ecut:cutV ((r0::rr).map V.ref) (some 1) none=rr.map V.ref:=by
   unfold cutV
   show (((r0::rr).map V.ref).drop (HT.sIx ((r0::rr).map V.ref).length 0 (some ((1:Nat):Int)))).take (HT.sIx ((r0::rr).map V.ref).length ((r0::rr).map V.ref).length none - HT.sIx ((r0::rr).map V.ref).length 0 (some ((1:Nat):Int)))=_
   rw[HT.sIx_nat]
   rw[show min 1 ((r0::rr).map V.ref).length=1 by simp]
   show (rr.map V.ref).take (((r0::rr).map V.ref).length - 1)=_
   rw[List.take_of_length_le (by simp)]
  rw[ecut]
  have s4:=s3.trans (Same.new (o:=.tup (rr.map V.ref)) e1)
  have hfl4:=(Same.new (o:=.tup (rr.map V.ref)) e1) fl _ hfl3
  have hp14:(upd H3 p1 (.tup (rr.map V.ref))) p1=some (.tup (rr.map V.ref)):=Zaab
  generalize (upd H3 p1 (.tup (rr.map V.ref)))=H4 at s4 hfl4 hp14 ⊢
  have hr:∀ (j:Nat) r xs,rr[j]?=some r->xr[j]?=some xs->H r=some (.tup (xs.map V.int)):=fun j r xs a b=>hT.2 (j+1) r xs a b
  have hxz:∀ xs∈xr,xs.length<=4000:=fun xs hx=>hz xs (by simp[hx])
  have hx0ne:x0≠[]:=hne
  refine Zac1 (xs:=rr.map V.ref) (fun acc i H5=>Same H4 H5/\∃ qs:List Addr,H5 acc=some (.lst (qs.map V.ref))/\TTs H5 qs ((xr.take i).map (x0.map (·+1)++·))) (fun acc h0=>⟨Same.new h0,[],Zaab,rfl,fun j r xs a b=>by simp at a⟩) (fun acc i H5 h0 _ p=>p.1.tup (SqT.of hp14)) ?_ ?_
  ·rintro acc i x H5 h0 hx ⟨s5,qs,hacc,hq⟩
   obtain⟨r,hr',rfl⟩:=Zaa3 hx
   have hi:=(List.getElem?_eq_some_iff.mp hr').1
   have hix:i<xr.length:=by omega
   have hrx:H5 r=some (.tup (xr[i].map V.int)):=(s4.trans s5) r _ (hr i r _ hr' (List.getElem?_eq_getElem hix))
   have hfl5:=s5 fl _ hfl4
   have hxi:xr[i].length<=4000:=hxz _ (List.getElem_mem hix)
   have hqs:qs.length<=6:=by have:=hq.1; simp at this; omega
   have e2:(xr.take (i+1)).map (x0.map (·+1)++·)=(xr.take i).map (x0.map (·+1)++·)++[x0.map (·+1)++xr[i]]:=by
    rw[List.take_succ_eq_append_getElem hix,List.map_append]
    rfl
   rw[e2]
   refine⟨_,rfl,_,rfl,fl,r,_,_,rfl,rfl,SqT.of hfl5,SqT.of hrx,by simpa using hx0ne,?_,fun hemp=>?_,fun hemp pn en=>?_⟩
   ·exact Nat.le_of_lt (ZaaU (by simp; omega))
   ·have hemp':xr[i]=[]:=by simpa using hemp
    refine⟨_,hacc,ZaaU (by simp; omega),by rw[List.length_map]; exact hi,s5.put h0,qs++[fl],by rw[Zaab]; simp,?_⟩
    refine (hq.lst hacc).snoc ?_
    rw[hemp',List.append_nil,Zaaf (by intro z; subst z; rw[hacc] at hfl5; cases hfl5)]
    exact hfl5
   ·have hacc6:=(Same.new (o:=.tup ((x0.map (·+1)).map V.int++xr[i].map V.int)) en) acc _ hacc
    refine⟨_,hacc6,ZaaU (by simp; omega),by rw[List.length_map]; exact hi,(s5.trans (Same.new en)).put h0,qs++[pn],by rw[Zaab]; simp,?_⟩
    refine ((hq.same (Same.new en)).lst hacc6).snoc ?_
    rw[Zaaf (by intro z; subst z; rw[hacc] at en; cases en),Zaab]
    simp
  ·rintro acc H5 h0 ⟨s5,qs,hacc,hq⟩
   rw[List.length_map,hrl,List.take_length] at hq
   have hfl5:=s5 fl _ hfl4
   have hqs:qs.length<=6:=by have:=hq.1; simp at this; omega
   refine⟨_,rfl,(by show 1<=sizeLine; decide),fun p2 e2=>?_⟩
   refine⟨acc,p2,_,_,rfl,rfl,(Same.new e2) acc _ hacc,Zaab,?_,fun p3 e3=>⟨p3,_,rfl,.inl ⟨SqL.of Zaab,fun l hl=>?_⟩⟩⟩
   ·exact Nat.le_of_lt (ZaaU (by simp; omega))
   have sz:=((Same.new (o:=.lst [V.ref fl]) e2).trans (Same.new (o:=.lst (qs.map V.ref++[V.ref fl])) e3)).trans (Same.new (o:=.tup (qs.map V.ref++[V.ref fl])) hl)
   have s6:=(s4.trans s5).trans sz
   refine k l (qs++[fl]) _ ?_ (by rw[Zaab]; simp) ?_ s6
   ·exact ((s4.trans s5).trans ((Same.new (o:=.lst [V.ref fl]) e2).trans (Same.new (o:=.lst (qs.map V.ref++[V.ref fl])) e3))).free hl
   ·exact (hq.same sz).snoc (sz fl _ hfl5)
theorem scAfter:FnScope ["p","n","following","numbers","level"] ["p","n","following"] (Zaac Zafg):=⟨rfl,rfl,rfl,by decide +kernel,rfl,by decide +kernel,by decide +kernel⟩
theorem ZajK {f fA fB:Addr}{fd dA dB:FuncData} (F:Fun K "numbers_after" "numbers_after" Zafg f fd) (T:Txt mg) (CB:Cal P w K mg base 1 "first_numbers" ["p"] ZadQ fB dB) (CA:Cal P w K mg base 1 "next_numbers" ["numbers"] Zaev fA dA):FnOk P w K mg base CX0 2 f fd ["p","n","following"] (ZafU fA):=by
 refine F.ok scAfter (fun vs H Q E h=>?_) (fun cdv A outer s H vs Q E hr h=>?_)
 ·obtain⟨p,n,rfl,_⟩:=h
  rfl
 ·obtain⟨p,n,rfl,h1,h2,h3,h4,k⟩:=h
  refine⟨_,Zaam (Zaaq (i:=3) scAfter.nd rfl (Or.inl rfl) (Zaat CB hr rfl (Zaaa (pv 0) Zaae)))
   (Zaam (Zaa4 PassesOwn.never rfl (Zaa5 rfl T.range (Zaaa (pv 1) Zaae)) (Zaak (i:=4) scAfter.nd rfl (Or.inl rfl)) (Zaar (Zaaq (i:=3) scAfter.nd rfl (Or.inl rfl) (Zait 2 CA hr (Zaaa (pv 3) Zaae)))))
   (Zaar (Zaax (pv 3)))),?_⟩
  refine⟨_,rfl,p,rfl,h1,h2,fun l qs H1 hl0 hl1 hq1 s1=>?_⟩
  refine⟨_,rfl,n,rfl,by omega,by omega,ZaaP (fun i σ H2=>∃ (l:Addr) (qs:List Addr) (o:Option V),σ=[some (.int p),some (.int n),some (.ref fA),some (.ref l),o]/\H l=none/\H2 l=some (.tup (qs.map V.ref))/\TTs H2 qs (num p i)/\Same H H2)
   ⟨l,qs,none,rfl,hl0,hl1,hq1,s1⟩ ?_ ?_⟩
  ·rintro i σ H2 hi ⟨l,qs,o,rfl,hl0,hl2,hq,s2⟩
   have hlen:=Zabb (p:=p) (by omega) i
   have htot:=ZafH (p:=p) h1 (show i<=n by omega)
   refine⟨rfl,_,rfl,l,qs,num p i,rfl,hl2,hq,by omega,by omega,?_,fun xs hx=>?_,fun l3 qs3 H3 h30 h3 hq3 s3=>?_⟩
   ·obtain⟨a,r,e,ha,_⟩:=Zagm h1 i
    rw[e]
    exact ha
   ·have:=Zak8 hx
    omega
   ·exact⟨l3,qs3,_,rfl,s2.free h30,h3,hq3,s2.trans s3⟩
  ·rintro σ H2 ⟨l,qs,o,rfl,hl0,hl2,hq,s2⟩
   refine⟨_,rfl,k l qs H2 hl0 hl2 ?_ s2⟩
   simpa using hq
theorem Zakx:FnScope ["p","n"] ["p","n"] (Zaac Zafc):=⟨rfl,rfl,rfl,by decide +kernel,rfl,by decide +kernel,by decide +kernel⟩
theorem ZajB {f fA fB:Addr}{fd dA dB:FuncData} (F:Fun K "numbers_of" "numbers_of" Zafc f fd) (T:Txt mg) (CA:Cal P w K mg base 1 "next_numbers" ["numbers"] Zaev fA dA) (CB:Cal P w K mg base 2 "numbers_after" ["p","n","following"] (ZafU fA) fB dB):FnOk P w K mg base CX0 3 f fd ["p","n"] spNum:=by
 refine F.ok Zakx (fun vs H Q E h=>?_) (fun cdv A outer s H vs Q E hr h=>?_)
 ·obtain⟨p,n,rfl,_⟩:=h
  rfl
 ·obtain⟨p,n,rfl,h1,h2,h3,h4,k⟩:=h
  refine⟨_,Zaar (Zaax (Zaat CB hr rfl (Zaaa (pv 0) (Zaaa (pv 1) (Zaaa (ZakS CA rfl) Zaae))))),?_⟩
  exact⟨_,rfl,_,rfl,p,n,rfl,h1,h2,h3,h4,k⟩
theorem scLN:FnScope ["p","n"] ["p","n"] (Zaac sLN):=⟨rfl,rfl,rfl,by decide +kernel,rfl,by decide +kernel,by decide +kernel⟩
theorem ok_ln {f fA fB:Addr}{fd dA dB:FuncData} (F:Fun K "level_numbers" "level_numbers" sLN f fd) (T:Txt mg) (CA:Cal P w K mg base 5 "check_places" ["p","n"] ZadK fA dA) (CB:Cal P w K mg base 3 "numbers_of" ["p","n"] spNum fB dB):FnOk P w K mg base CX0 6 f fd ["p","n"] spNum:=by
 refine F.ok scLN (fun vs H Q E h=>?_) (fun cdv A outer s H vs Q E hr h=>?_)
 ·obtain⟨p,n,rfl,_⟩:=h
  rfl
 ·obtain⟨p,n,rfl,h1,h2,h3,h4,k⟩:=h
  have hr2:Room 3 _:=hr.mono (by decide)
  refine⟨_,Zaam (ZaaZ (Zaat CA hr rfl (Zaaa (pv 0) (Zaaa (pv 1) Zaae)))) (Zaar (Zaax (Zaat CB hr2 rfl (Zaaa (pv 0) (Zaaa (pv 1) Zaae))))),?_⟩
  refine⟨_,rfl,_,rfl,p,n,rfl,h1,h2,h3,h4,fun H1 s1=>?_⟩
  exact⟨_,rfl,_,rfl,p,n,rfl,h1,h2,h3,h4,fun l qs H2 hl0 hl hq s2=>k l qs H2 (s1.free hl0) hl hq (s1.trans s2)⟩
theorem Zajg:FnScope ["script","k"] ["script","k"] (Zaac Zacw):=⟨rfl,rfl,rfl,by decide +kernel,rfl,by decide +kernel,by decide +kernel⟩
theorem Zahy {f:Addr}{fd:FuncData} (F:Fun K "_law_cell_at" "_law_cell_at" Zacw f fd) (T:Txt mg):FnOk P w K mg base CX0 1 f fd ["script","k"] (Zai9 K):=by
 refine F.ok Zajg (fun vs H Q E h=>?_) (fun cdv A outer s H vs Q E hr h=>?_)
 ·obtain⟨a,ns,i,rfl,_⟩:=h
  rfl
 ·obtain⟨a,ns,i,rfl,hS,i0,k⟩:=h
  refine⟨_,Zaam (ps_if (ZaaB op_lt (pv 1) (Zaaj ZaaC rfl T.len PySem.boot_len (Zaaa (pv 0) Zaae)) (ZaaK _)) (Zaar (Zaax (pe_ix Zabh (pv 0) (pv 1) (fun _ _=>rfl)))) Zabz) (Zaar (Zaax Zaah)),?_⟩
  refine⟨_,rfl,_,rfl,a,_,rfl,.inl hS,_,_,rfl,rfl,_,rfl,?_⟩
  refine ite2 (fun hc=>?_) (fun hc=>k 0)
  have hc':i<(ns.length:Int):=by have:=of_decide_eq_true hc; rwa [List.length_map] at this
  exact⟨_,rfl,_,rfl,a,_,i,_,rfl,rfl,hS,ZalE i0 hc',k _⟩
theorem scPool:FnScope ["script","at","cell","big","turn","one"] ["script","at"] (Zaac sPool):=⟨rfl,rfl,rfl,by decide +kernel,rfl,by decide +kernel,by decide +kernel⟩
theorem b01 (k:Bool):-(2 ^ 64)<(if k=true then (1:Int) else 0)/\(if k=true then (1:Int) else 0)<2 ^ 64:=by cases k <;> decide
theorem Zak4 {f fA:Addr}{fd dA:FuncData} (F:Fun K "_law_pool" "_law_pool" sPool f fd) (T:Txt mg) (CA:Cal P w K mg base 1 "_law_cell_at" ["script","k"] (Zai9 K) fA dA):FnOk P w K mg base CX0 2 f fd ["script","at"] (Zai5 K):=by
 refine F.ok scPool (fun vs H Q E h=>?_) (fun cdv A outer s H vs Q E hr h=>?_)
 ·obtain⟨a,ns,i,rfl,_⟩:=h
  rfl
 ·obtain⟨a,ns,i,rfl,hS,i0,i1,k⟩:=h
  refine⟨_,Zaam (Zaaq (i:=2) scPool.nd rfl (Or.inl rfl) (Zaat CA hr rfl (Zaaa (pv 0) (Zaaa (pv 1) Zaae))))
   (Zaam (Zaaq (i:=3) scPool.nd rfl (Or.inl rfl) Zaah)
   (Zaam (Zaa4 PassesOwn.never rfl (Zaa5 rfl T.range (Zaaa Zaah Zaae)) (Zaak (i:=4) scPool.nd rfl (Or.inl rfl))
    (Zaam (Zaaq (i:=5) scPool.nd rfl (Or.inl rfl) (pe_op Zafi (pe_op Zabu (pe_op ZaaE (pe_op ZaaE (pe_op ZaaE (pe_op Zafi (pv 2) Zaah) (pe_op Zabu (pe_op Zabu Zaah (pv 4)) (pv 4))) (pe_op Zabu Zaah (pv 1))) Zaah) Zaah) Zaah))
    (Zaam (Zaaq (i:=5) scPool.nd rfl (Or.inl rfl) (pe_op Zafi (pe_op Zabu (pv 5) (pv 5)) Zaah))
    (Zaam (Zaaq (i:=5) scPool.nd rfl (Or.inl rfl) (pe_op Zafi (pe_op Zabu (pe_op ZaaE (pv 5) (pe_op Zabu Zaah (pv 4))) Zaah) Zaah))
    (Zaar (Zaaq (i:=3) scPool.nd rfl (Or.inl rfl) (pe_op ZaaE (pe_op Zabu (pv 3) Zaah) (pe_op Zafi (pe_op Zaiv (pv 5) Zaah) Zaah))))))))
   (Zaar (Zaax (Zabn (Zaaa (pe_op Zabu (pv 2) (ZaaI ZaeX rfl T.int b_int (Zaaa (Zacx op_ge (pv 2) (pe_op ZakY Zaah Zaah) (ZaaK _)) Zaae))) (Zaaa (pv 3) Zaae))))))),?_⟩
  refine⟨_,rfl,_,rfl,a,ns,i,rfl,hS,i0,fun c=>?_⟩
  refine⟨99,rfl,by decide,by decide,ZaaP (fun j σ H2=>∃ (bg:Int) (tn on:Option V),σ=[some (.ref a),some (.int i),some (.int c),some (.int bg),tn,on]/\H2=H) ⟨0,none,none,rfl,rfl⟩ ?_ ?_⟩
  ·rintro j σ H2 hj ⟨bg,tn,on,rfl,rfl⟩
   have hj':j<99:=hj
   refine⟨_,rfl,c,_,rfl,rfl,(by show (0:Int)<998244353; decide),_,rfl,89,_,rfl,rfl,.inl ⟨by decide,by decide⟩,_,rfl,_,_,rfl,rfl,.inr ⟨by omega,by omega⟩,_,_,rfl,rfl,_,rfl,7,i,rfl,rfl,.inl ⟨by decide,by decide⟩,_,_,rfl,rfl,_,1,rfl,rfl,_,_,rfl,rfl,.inr ⟨by decide,by decide⟩,_,_,rfl,rfl,(by show (0:Int)<2147483647; decide),?_⟩
   have m0:=Int.emod_nonneg ((c % 998244353+89*(0+(j:Int))*(0+(j:Int))+7*i+1)*48271) (show (2147483647:Int)≠0 by decide)
   have m1:=Int.emod_lt_of_pos ((c % 998244353+89*(0+(j:Int))*(0+(j:Int))+7*i+1)*48271) (show (0:Int)<2147483647 by decide)
   refine⟨_,rfl,_,rfl,_,_,rfl,rfl,.inl ⟨by omega,by omega⟩,_,_,rfl,rfl,(by show (0:Int)<1000000007; decide),?_⟩
   refine⟨_,rfl,_,rfl,7919,_,rfl,rfl,.inl ⟨by decide,by decide⟩,_,_,rfl,rfl,_,_,rfl,rfl,.inr ⟨by decide,by decide⟩,_,_,rfl,rfl,(by show (0:Int)<2147483587; decide),?_⟩
   refine⟨_,rfl,bg,_,rfl,rfl,.inr ⟨by decide,by decide⟩,_,rfl,_,8,rfl,rfl,⟨by decide,by decide⟩,_,_,rfl,rfl,(by show (0:Int)<1000003; decide),_,_,rfl,rfl,?_⟩
   exact⟨_,_,_,rfl,rfl⟩
  ·rintro σ H2 ⟨bg,tn,on,rfl,rfl⟩
   refine⟨_,rfl,_,rfl,10,18,rfl,rfl,⟨by decide,by decide,by decide⟩,_,_,rfl,rfl,.inr ⟨_,rfl,_,_,rfl,rfl,.inr (b01 _),_,rfl,(by show 2<=sizeLine; decide),fun l hl=>?_⟩⟩
   exact k l _ hl ⟨_,_,Zaab⟩ (Same.new hl)
theorem scTake:FnScope ["pool","many","at","number"] ["pool","many"] (Zaac sTake):=⟨rfl,rfl,rfl,by decide +kernel,rfl,by decide +kernel,by decide +kernel⟩
theorem Zak1 {f:Addr}{fd:FuncData} (F:Fun K "_law_take" "_law_take" sTake f fd) (T:Txt mg):FnOk P w K mg base CX0 1 f fd ["pool","many"] Zaha:=by
 refine F.ok scTake (fun vs H Q E h=>?_) (fun cdv A outer s H vs Q E hr h=>?_)
 ·obtain⟨p,m,rfl,_⟩:=h
  rfl
 ·obtain⟨p,m,rfl,⟨a,b,hp⟩,h0,h1,k⟩:=h
  refine⟨_,Zaam (Zaaq (i:=2) scTake.nd rfl (Or.inl rfl) (ZaaI ZaeX rfl T.int b_int (Zaaa (Zacx op_eq (pe_ix Zabh (pv 0) Zaah (fun _ _=>rfl)) Zaah (ZaaK _)) Zaae)))
   (Zaam (Zaaq (i:=3) scTake.nd rfl (Or.inl rfl) (pe_op Zafi (pe_ix Zabh (pv 0) (pv 2) (fun _ _=>rfl)) (pv 1)))
   (Zaam (Zahi (pe_op Zajw (pe_ix Zabh (pv 0) (pv 2) (fun _ _=>rfl)) (pv 1)) (ZakP (pv 0) (pv 2) ZafZ))
   (Zaar (Zaax (pv 3))))),?_⟩
  refine⟨_,rfl,p,_,0,.int a,rfl,rfl,SqL.of hp,rfl,rfl,.inr ⟨_,rfl,?_⟩⟩
  cases decide (V.int a=V.int 0) with
  | false=>
   refine⟨_,rfl,_,rfl,p,_,0,.int a,rfl,rfl,SqL.of hp,rfl,_,rfl,a,m,rfl,rfl,h0,?_⟩
   refine⟨_,rfl,_,rfl,p,_,0,.int a,rfl,rfl,SqL.of hp,rfl,_,rfl,a,m,rfl,rfl,⟨h0,h1⟩,_,rfl,_,rfl,p,_,0,0,rfl,rfl,hp,rfl,_,rfl,?_⟩
   exact k _ _ (Int.emod_nonneg _ (by omega)) (Int.emod_lt_of_pos _ h0) ⟨_,_,Zaab⟩ Sm.put
  | true=>
   refine⟨_,rfl,_,rfl,p,_,1,.int b,rfl,rfl,SqL.of hp,rfl,_,rfl,b,m,rfl,rfl,h0,?_⟩
   refine⟨_,rfl,_,rfl,p,_,1,.int b,rfl,rfl,SqL.of hp,rfl,_,rfl,b,m,rfl,rfl,⟨h0,h1⟩,_,rfl,_,rfl,p,_,1,1,rfl,rfl,hp,rfl,_,rfl,?_⟩
   exact k _ _ (Int.emod_nonneg _ (by omega)) (Int.emod_lt_of_pos _ h0) ⟨_,_,Zaab⟩ Sm.put
theorem scLCounts:FnScope ["p","n","counts","turn"] ["p","n"] (Zaac Zabr):=⟨rfl,rfl,rfl,by decide +kernel,rfl,by decide +kernel,by decide +kernel⟩
theorem Zagj {f:Addr}{fd:FuncData} (F:Fun K "_law_counts" "_law_counts" Zabr f fd) (T:Txt mg):FnOk P w K mg base CX0 1 f fd ["p","n"] ZabM:=by
 refine F.ok scLCounts (fun vs H Q E h=>?_) (fun cdv A outer s H vs Q E hr h=>?_)
 ·obtain⟨p,n,rfl,_⟩:=h
  rfl
 ·obtain⟨p,n,rfl,h1,h2,h3,k⟩:=h
  refine⟨_,Zaam (Zaaq (i:=2) scLCounts.nd rfl (Or.inr rfl) (pe_op Zaiw (Zacm (Zaaa Zaah Zaae)) (pe_op ZakX (Zacm (Zaaa Zaah Zaae)) (pe_op ZabB (pv 0) Zaah))))
   (Zaam (Zaa4 PassesOwn.never rfl (Zaa5 rfl T.range (Zaaa (pv 1) Zaae)) (Zaak (i:=3) scLCounts.nd rfl (Or.inl rfl))
    (Zaar (Zaaq (i:=2) scLCounts.nd rfl (Or.inr rfl) (ZaaI Zaav rfl T.tuple Zabc (Zaaa (pe_op Zacn
     (Zaba (own:=["count"]) (js:=[2]) (CompOk.by (sc:=Zaac Zabr) (N:=["p","n","counts","turn"]) rfl rfl (by decide +kernel)) rfl (Zaf9 (Zabt Zahd (pv 2) (Zacb Zaah) Zacc)) Zaay
      (fun _ _ _ _ _=>Zaak (i:=0) (by show (["count","counts"]:List Str).Nodup; decide +kernel) rfl (Or.inl rfl) (.inr rfl)) (fun _ _ _ _ _=>ZaaW) (fun _ _ _ _ _=>pe_op ZaaE (pe_ix (Zalk K) (pv 1) Zaah (fun _ _=>rfl)) (pv 0)))
     (Zabn (Zaaa (pe_ix Zabd (pv 2) Zaah (fun _ _=>rfl)) Zaae))) Zaae)))))
   (Zaar (Zaax (pv 2)))),?_⟩
  refine cut1 (fun σ' H'=>∃ l:Addr,σ'=[some (.int p),some (.int n),some (.ref l),none]/\H l=none/\H' l=some (.tup ((ZacZ p).map V.int))/\Same H H') (fun R hR=>?_) ?_
  ·refine⟨(by show 1<=sizeLine; decide),fun p1 e1=>⟨(by show 1<=sizeLine; decide),fun p2 e2=>⟨_,rfl,_,_,rfl,rfl,?_⟩⟩⟩
   have s2:=(Same.new (o:=.tup [.int 1]) e1).trans (Same.new (o:=.tup [.int 0]) e2)
   have z1:(upd (upd H p1 (.tup [.int 1])) p2 (.tup [.int 0])) p1=some (.tup [.int 1]):=(Same.new e2) p1 _ Zaab
   have z2:(upd (upd H p1 (.tup [.int 1])) p2 (.tup [.int 0])) p2=some (.tup [.int 0]):=Zaab
   generalize (upd (upd H p1 (.tup [.int 1])) p2 (.tup [.int 0]))=H1 at s2 z1 z2 ⊢
   have ez:(List.replicate ((p:Int) - 1).toNat [V.int 0]).flatten=(List.replicate (p - 1) (0:Int)).map V.int:=by
    rw[show ((p:Int) - 1).toNat=p - 1 by omega,List.map_replicate]
    exact List.flatten_replicate_singleton
   have rest:∀ (q:Addr) (H2:Hp) (Q':VK),Same H H2->H2 p1=some (.tup [.int 1])->H2 q=some (.tup ((List.replicate (p - 1) (0:Int)).map V.int))->(∀ l H3,H l=none->H3 l=some (.tup ((ZacZ p).map V.int))->Same H H3->Q' (.ref l) H3)->rCatT K (.ref p1) (.ref q) H2 Q':=by
    intro q H2 Q' s h1' hq hQ
    refine⟨p1,q,_,_,rfl,rfl,SqT.of h1',SqT.of hq,by simp,?_,fun z=>?_,fun z pn en=>?_⟩
    ·exact Nat.le_of_lt (Zaap (by simp; omega))
    ·simp at z
     omega
    ·exact hQ pn _ (s.free en) (by rw[Zaab]; simp[ZacZ]) (s.trans (Same.new en))
   refine⟨p2,_,_,rfl,rfl,SqT.of z2,by simp,by omega,by omega,by show 1*((p:Int) - 1).toNat<=1000; omega,fun ek=>?_,fun ek pn en=>?_⟩
   ·refine rest p2 H1 _ s2 z1 (by rw[z2,show p - 1=1 by omega]; rfl) fun l H3 hl0 hl3 s3=>?_
    exact hR _ _ ⟨l,rfl,hl0,hl3,s3⟩
   ·rw[ez]
    refine rest pn _ _ (s2.trans (Same.new en)) ((Same.new en) p1 _ z1) Zaab fun l H3 hl0 hl3 s3=>?_
    exact hR _ _ ⟨l,rfl,hl0,hl3,s3⟩
  ·rintro σ' H' ⟨l,rfl,hl0,hl1,s1⟩
   refine⟨_,rfl,n,rfl,by omega,by omega,ZaaP (fun i σ H2=>∃ (l:Addr) (o:Option V),σ=[some (.int p),some (.int n),some (.ref l),o]/\H l=none/\H2 l=some (.tup ((cnt p i).map V.int))/\Same H H2)
    ⟨l,none,rfl,hl0,hl1,s1⟩ ?_ ?_⟩
   ·rintro i σ H2 hi ⟨l,o,rfl,hl0,hl2,s2⟩
    have hlen:=Zadx (p:=p) (by omega) i
    have ex:cnt p (i+1)=nextC (cnt p i):=rfl
    rw[ex]
    generalize cnt p i=c at hl2 hlen ⊢
    obtain⟨c0,cr,rfl⟩:∃ c0 cr,c=c0::cr:=by
     cases c with
     | nil=>simp at hlen; omega
     | cons x y=>exact⟨x,y,rfl⟩
    have hcr:cr.length<=6:=by simp at hlen; omega
    refine⟨_,rfl,1,rfl,l,_,rfl,SqT.of hl2,?_,fun p1 e1=>⟨p1,rfl,⟨_,SqT.of Zaab⟩,?_⟩⟩
    ·rintro⟨z,_⟩
     have:HT.sIx ((c0::cr).map V.int).length 0 (some ((1:Nat):Int))=0:=z
     rw[HT.sIx_nat] at this
     simp at this
    have ecut:cutV ((c0::cr).map V.int) (some 1) none=cr.map V.int:=by
     unfold cutV
     show (((c0::cr).map V.int).drop (HT.sIx ((c0::cr).map V.int).length 0 (some ((1:Nat):Int)))).take (HT.sIx ((c0::cr).map V.int).length ((c0::cr).map V.int).length none - HT.sIx ((c0::cr).map V.int).length 0 (some ((1:Nat):Int)))=_
     rw[HT.sIx_nat]
     rw[show min 1 ((c0::cr).map V.int).length=1 by simp]
     show (cr.map V.int).take (((c0::cr).map V.int).length - 1)=_
     rw[List.take_of_length_le (by simp)]
    rw[ecut]
    refine Zac1 (xs:=cr.map V.int) (fun acc j H3=>Same (upd H2 p1 (.tup (cr.map V.int))) H3/\H3 acc=some (.lst (((cr.take j).map (c0+·)).map V.int))) (fun acc h0=>⟨Same.new h0,Zaab⟩) (fun acc j H3 h0 _ p=>p.1.tup (SqT.of Zaab)) ?_ ?_
    ·rintro acc j x H3 h0 hx ⟨s3,hacc⟩
     obtain⟨z,hz,rfl⟩:=Zacy hx
     have hj:=(List.getElem?_eq_some_iff.mp hz).1
     have hl3:=s3 l _ ((Same.new e1) l _ hl2)
     refine⟨_,rfl,l,_,0,.int c0,rfl,rfl,SqT.of hl3,Zaej,_,rfl,c0,z,rfl,rfl,_,hacc,?_,by rw[List.length_map]; exact hj,s3.put h0,?_⟩
     ·exact Zaap (by simp; omega)
     ·rw[Zaab,List.take_add_one,hz,Option.toList_some,List.map_append,List.map_append]
      rfl
    ·rintro acc H3 h0 ⟨s3,hacc⟩
     rw[List.length_map,List.take_length] at hacc
     have hl3:=s3 l _ ((Same.new e1) l _ hl2)
     refine⟨_,rfl,l,_,0,.int c0,rfl,rfl,SqT.of hl3,Zaej,(by show 1<=sizeLine; decide),fun q2 f2=>?_⟩
     refine⟨acc,q2,_,_,rfl,rfl,(Same.new f2) acc _ hacc,Zaab,?_,fun q3 f3=>⟨q3,_,rfl,.inl ⟨SqL.of Zaab,fun l4 hl4=>?_⟩⟩⟩
     ·exact Nat.le_of_lt (Zaap (by simp; omega))
     have s5:=(s2.trans ((Same.new e1).trans s3)).trans ((Same.new (o:=.lst [.int c0]) f2).trans (Same.new (o:=.lst (((cr.map (c0+·)).map V.int)++[.int c0])) f3))
     refine⟨l4,_,rfl,s5.free hl4,?_,s5.trans (Same.new hl4)⟩
     rw[Zaab]
     simp[nextC]
   ·rintro σ H2 ⟨l,o,rfl,hl0,hl2,s2⟩
    refine⟨_,rfl,k l H2 hl0 ?_ s2⟩
    simpa using hl2
theorem Zajd:FnScope ["thing"] ["thing"] (Zaac Zact):=⟨rfl,rfl,rfl,by decide +kernel,rfl,by decide +kernel,by decide +kernel⟩
theorem Zahq {f:Addr}{fd:FuncData} (F:Fun K "_law_whole" "_law_whole" Zact f fd) (T:Txt mg):FnOk P w K mg base CX0 1 f fd ["thing"] Zacp:=by
 refine F.ok Zajd (fun vs H Q E h=>?_) (fun cdv A outer s H vs Q E hr h=>?_)
 ·obtain⟨i,rfl,_⟩:=h
  rfl
 ·obtain⟨i,rfl,k⟩:=h
  refine⟨_,Zaar (Zaax (Zahl (Zaaj ZaaJ rfl T.isinstance Zaas (Zaaa (pv 0) (Zaaa (pe_ty rfl T.int b_int) Zaae)))
   (Zajq (ZakR (Zaaj ZaaJ rfl T.isinstance Zaas (Zaaa (pv 0) (Zaaa (pe_ty rfl T.bool Zaka) Zaae))))))),?_⟩
  refine⟨_,rfl,.int i,"int",_,true,rfl,.int i,Zafn,true,rfl,iteT ?_⟩
  exact⟨_,rfl,.int i,"bool",_,false,rfl,.int i,Zad6,false,rfl,k⟩
end
end Fs33
namespace Fs33
open PySem L2 Lv
section
variable {P:Program}{w:World}{K:PySem.W.Frag}{mg:Str->Option Value}{base:Heap}
theorem Zakv:FnScope ["thing"] ["thing"] (Zaac Zafa):=⟨rfl,rfl,rfl,by decide +kernel,rfl,by decide +kernel,by decide +kernel⟩
theorem ZaeE {f:Addr}{fd:FuncData} (F:Fun K "is_whole" "is_whole" Zafa f fd) (T:Txt mg):FnOk P w K mg base CX0 1 f fd ["thing"] (ZacO K):=by
 refine F.ok Zakv (fun vs H Q E h=>?_) (fun cdv A outer s H vs Q E hr h=>?_)
 ·obtain⟨x,T,rfl,_⟩:=h
  rfl
 ·obtain⟨x,Tx,rfl,⟨ty,hT⟩,k⟩:=h
  refine⟨_,Zaar (Zaax (Zahl (Zaaj ZaaJ rfl T.isinstance Zaas (Zaaa (pv 0) (Zaaa (pe_ty rfl T.int b_int) Zaae)))
   (Zajq (ZakR (Zaaj ZaaJ rfl T.isinstance Zaas (Zaaa (pv 0) (Zaaa (pe_ty rfl T.bool Zaka) Zaae))))))),?_⟩
  refine⟨_,rfl,x,"int",_,_,rfl,ty,Zagx hT,_,rfl,?_⟩
  by_cases e1:Tx="int"
  ·subst e1
   exact iteT ⟨_,rfl,x,"bool",_,_,rfl,ty,ZacA hT,_,rfl,by simpa using k⟩
  ·by_cases e2:Tx="bool"
   ·subst e2
    exact iteT ⟨_,rfl,x,"bool",_,_,rfl,ty,ZacA hT,_,rfl,by simpa using k⟩
   ·have e:(decide (Tx="int") || decide (Tx="bool"))=false:=by simp[e1,e2]
    rw[decide_eq_false e1] at k
    rw[e]
    exact iteF k
theorem Zakw:FnScope ["p"] ["p"] (Zaac sWays):=⟨rfl,rfl,rfl,by decide +kernel,rfl,by decide +kernel,by decide +kernel⟩
theorem Zajy {f fW : Addr} {fd dW : FuncData} {t2 t7 : Tok} (F : Fun K "check_ways" "check_ways" sWays f fd) (T : Txt mg) (XX : Excs K mg) (hz : excAll K XX.nWays = true) (hL : mg "LEAST_WAYS" = some (.int 2 t2)) (hM : mg "MOST_WAYS" = some (.int 7 t7)) (CW : Cal P w K mg base 1 "is_whole" ["thing"] (ZacO K) fW dW) :
  FnOk P w K mg base (CX1 P w) 2 f fd ["p"] (Zahb K 2 7 XX.nWays):=by
 refine F.okE Zakw (fun vs H Q E h=>?_) (fun cdv A outer s H vs Q E hr h=>?_)
 ·obtain⟨v,Tv,rfl,_⟩:=h
  rfl
 ·obtain⟨v,Tv,rfl,th,hc⟩:=h
  refine⟨_,Zaar (ps_if (PW.pt (pw_or (Zabm (Zaby (Zaat CW hr rfl (Zaaa (pv 0) Zaae))))
   (Zab9 (Zabm (ZacS op_le op_le (Zaa8 rfl hL) (pv 0) (Zaa8 rfl hM))))))
   (Zaar (ZadX ZaiZ rfl XX.mWays hz (Zaaa (Zage (.con (by decide) (.val (Zaa8 rfl hL) (.con (by decide) (.val (Zaa8 rfl hM) (.con (by decide) .nil)))))) Zaae))) Zabz),?_⟩
  refine⟨_,rfl,v,Tv,rfl,th,_,rfl,?_⟩
  rcases hc with ⟨i,rfl,h1,h2,k⟩ | ⟨hn | ⟨i,rfl,hni⟩,hE⟩
  ·rw[decide_eq_true th.ty_int]
   refine iteF ⟨_,rfl,2,i,rfl,rfl,_,rfl,?_⟩
   rw[decide_eq_true h1]
   refine iteT ⟨i,7,rfl,rfl,_,rfl,?_⟩
   rw[decide_eq_true h2]
   exact iteF k
  ·rw[decide_eq_false hn]
   exact iteT (iteT ⟨2,rfl,by decide,by decide,7,rfl,by decide,by decide,fun x=>⟨by show 1<=1000; decide,hE⟩⟩)
  ·rw[decide_eq_true th.ty_int]
   refine iteF ⟨_,rfl,2,i,rfl,rfl,_,rfl,?_⟩
   by_cases h1:(2:Int)<=i
   ·rw[decide_eq_true h1]
    refine iteT ⟨i,7,rfl,rfl,_,rfl,?_⟩
    rw[decide_eq_false (by omega)]
    exact iteT ⟨2,rfl,by decide,by decide,7,rfl,by decide,by decide,fun x=>⟨by show 1<=1000; decide,hE⟩⟩
   ·rw[decide_eq_false h1]
    exact iteF ⟨_,rfl,iteT ⟨2,rfl,by decide,by decide,7,rfl,by decide,by decide,fun x=>⟨by show 1<=1000; decide,hE⟩⟩⟩
theorem Zajc:FnScope ["n","last"] ["n","last"] (Zaac Zadl):=⟨rfl,rfl,rfl,by decide +kernel,rfl,by decide +kernel,by decide +kernel⟩
def Zai7 (K:PySem.W.Frag) (hi:Int) (C:Addr):Sp:=fun vs H Q E=>∃ (v:V) (T:String),vs=[v,.int hi]/\(hi=300∨hi=100)/\Thing K H v T/\((∃ i,v=.int i/\0<=i/\i<=hi/\Q .non H)∨(NotIn 0 hi v T/\E (.ref C) none H))
theorem ZalK {hi:Int} (h:hi=300∨hi=100):hi.natAbs.log2<1920/\(Str.ofString (toString hi)).length<=1000:=by
 rcases h with rfl | rfl
 ·exact⟨by decide,by decide⟩
 ·exact⟨by decide,by decide⟩
theorem Zahr {f fW da : Addr} {fd dW : FuncData} {hi : Int} (F : FunD K "check_level" "check_level" Zadl f da fd) (T : Txt mg) (XX : Excs K mg) (hz : excAll K XX.nLevel = true) (CW : Cal P w K mg base 1 "is_whole" ["thing"] (ZacO K) fW dW) :
  FnOk P w K mg base (CX1 P w) 2 f fd ["n","last"] (Zai7 K hi XX.nLevel):=by
 refine F.okE Zajc (fun vs H Q E h=>?_) (fun cdv A outer s H vs Q E hr h=>?_)
 ·obtain⟨v,Tv,rfl,_⟩:=h
  rfl
 ·obtain⟨v,Tv,rfl,hh,th,hc⟩:=h
  obtain⟨x1,x2⟩:=ZalK hh
  refine⟨_,Zaar (ps_if (PW.pt (pw_or (Zabm (Zaby (Zaat CW hr rfl (Zaaa (pv 0) Zaae))))
   (Zab9 (Zabm (ZacS op_le op_le Zaah (pv 0) (pv 1))))))
   (Zaar (ZadX ZaiZ rfl XX.mLevel hz (Zaaa (Zage (.con (by decide) (.val (pv 1) .nil))) Zaae))) Zabz),?_⟩
  refine⟨_,rfl,v,Tv,rfl,th,_,rfl,?_⟩
  rcases hc with ⟨i,rfl,h1,h2,k⟩ | ⟨hn | ⟨i,rfl,hni⟩,hE⟩
  ·rw[decide_eq_true th.ty_int]
   refine iteF ⟨_,rfl,0,i,rfl,rfl,_,rfl,?_⟩
   rw[decide_eq_true h1]
   refine iteT ⟨_,rfl,i,hi,rfl,rfl,_,rfl,?_⟩
   rw[decide_eq_true h2]
   exact iteF k
  ·rw[decide_eq_false hn]
   exact iteT (iteT ⟨_,rfl,hi,rfl,x1,x2,fun x=>⟨by show 1<=1000; decide,hE⟩⟩)
  ·rw[decide_eq_true th.ty_int]
   refine iteF ⟨_,rfl,0,i,rfl,rfl,_,rfl,?_⟩
   by_cases h1:(0:Int)<=i
   ·rw[decide_eq_true h1]
    refine iteT ⟨_,rfl,i,hi,rfl,rfl,_,rfl,?_⟩
    rw[decide_eq_false (by omega)]
    exact iteT ⟨_,rfl,hi,rfl,x1,x2,fun x=>⟨by show 1<=1000; decide,hE⟩⟩
   ·rw[decide_eq_false h1]
    exact iteF ⟨_,rfl,iteT ⟨_,rfl,hi,rfl,x1,x2,fun x=>⟨by show 1<=1000; decide,hE⟩⟩⟩
def spWL (K:PySem.W.Frag) (cW cL:Addr):Sp:=fun vs H _ E=>∃ (v u:V) (T:String),vs=[v,u]/\Thing K H v T/\((NotIn 2 7 v T/\E (.ref cW) none H)∨∃ (p:Int) (S:String),v=.int p/\2<=p/\p<=7/\Thing K H u S/\NotIn 0 300 u S/\E (.ref cL) none H)
theorem Zagl {f f1 f2:Addr}{fd d1 d2:FuncData}{cW cL:Addr} (F:Fun K "level_counts" "level_counts" Zab7 f fd) (CW:CalE P w K mg base 2 "check_ways" ["p"] [] (Zahb K 2 7 cW) f1 d1) (CV:CalE P w K mg base 2 "check_level" ["n","last"] [.int 300] (Zai7 K 300 cL) f2 d2):FnOk P w K mg base (CX1 P w) 3 f fd ["p","n"] (spWL K cW cL):=by
 refine F.okE scCounts (fun vs H Q E h=>?_) (fun cdv A outer s H vs Q E hr h=>?_)
 ·obtain⟨v,u,Tv,rfl,_⟩:=h
  rfl
 ·obtain⟨v,u,Tv,rfl,th,hc⟩:=h
  refine⟨_,Zaam (ZaaZ (Zabg CW hr Zabp rfl (Zaaa (pv 0) Zaae))) (Zaam (ZaaZ (Zabg CV hr Zabp rfl (Zaaa (pv 1) Zaae))) ZaaV),?_⟩
  rcases hc with ⟨hn,hE⟩ | ⟨p,S,rfl,p2,p7,th2,hn,hE⟩
  ·exact⟨_,rfl,v,Tv,rfl,th,.inr ⟨hn,hE⟩⟩
  ·exact⟨_,rfl,.int p,Tv,rfl,th,.inl ⟨p,rfl,p2,p7,_,rfl,u,S,rfl,.inl rfl,th2,.inr ⟨hn,hE⟩⟩⟩
theorem Zaho {f fA:Addr}{fd dA:FuncData}{cW cL:Addr} (F:Fun K "level_total" "level_total" ZadS f fd) (T:Txt mg) (CA:CalE P w K mg base 3 "level_counts" ["p","n"] [] (spWL K cW cL) fA dA):FnOk P w K mg base (CX1 P w) 4 f fd ["p","n"] (spWL K cW cL):=by
 refine F.okE Zaio (fun vs H Q E h=>?_) (fun cdv A outer s H vs Q E hr h=>?_)
 ·obtain⟨v,u,Tv,rfl,_⟩:=h
  rfl
 ·obtain⟨v,u,Tv,rfl,th,hc⟩:=h
  refine⟨_,Zaar (Zaax (Zaaj (Zac4 rfl) rfl T.sum b_sum (Zaaa (Zabg CA hr Zabp rfl (Zaaa (pv 0) (Zaaa (pv 1) Zaae))) Zaae))),?_⟩
  exact⟨_,rfl,_,rfl,v,u,Tv,rfl,th,hc⟩
def Zai4 (cM:Addr):Sp:=fun vs H _ E=>∃ i:Int,vs=[.int i]/\4000<i/\E (.ref cM) none H
theorem Zak0 {f:Addr}{fd:FuncData}{tM:Tok} (F:Fun K "check_total" "check_total" sTot f fd) (XX:Excs K mg) (zM:excAll K XX.tMany=true) (hM:mg "MOST_PLACES"=some (.int 4000 tM)):FnOk P w K mg base (CX1 P w) 1 f fd ["total"] (Zai4 XX.tMany):=by
 refine F.okE scTot (fun vs H Q E h=>?_) (fun cdv A outer s H vs Q E hr h=>?_)
 ·obtain⟨i,rfl,_⟩:=h
  rfl
 ·obtain⟨i,rfl,h4,hE⟩:=h
  refine⟨_,Zaar (ps_if (ZaaB op_gt (pv 0) (Zaa8 rfl hM) (ZaaK _)) (Zaar (ZadX ZaiZ rfl XX.mMany zM (Zaaa (Zage (.con (by decide) (.val (Zaa8 rfl hM) (.con (by decide) .nil)))) Zaae))) Zabz),?_⟩
  refine⟨_,rfl,_,_,rfl,rfl,_,rfl,?_⟩
  rw[decide_eq_true (by omega)]
  exact iteT ⟨4000,rfl,by decide,by decide,fun x=>⟨by show 1<=1000; decide,hE⟩⟩
def spPlE (K:PySem.W.Frag) (cW cL cM:Addr):Sp:=fun vs H _ E=>∃ (v u:V) (T:String),vs=[v,u]/\Thing K H v T/\((NotIn 2 7 v T/\E (.ref cW) none H)∨∃ p:Nat,v=.int p/\2<=p/\p<=7/\((∃ S,Thing K H u S/\NotIn 0 300 u S/\E (.ref cL) none H)∨∃ n:Nat,u=.int n/\n<=300/\4000<tot p n/\∀ H',Same H H'->E (.ref cM) none H'))
theorem Zagi {f fA fB:Addr}{fd dA dB:FuncData}{cW cL cM:Addr} (F:Fun K "check_places" "check_places" Zab6 f fd) (CA:CalE P w K mg base 4 "level_total" ["p","n"] [] (fun vs H Q E=>Zadf vs H Q E∨spWL K cW cL vs H Q E) fA dA) (CB:CalE P w K mg base 1 "check_total" ["total"] [] (Zai4 cM) fB dB):FnOk P w K mg base (CX1 P w) 5 f fd ["p","n"] (spPlE K cW cL cM):=by
 refine F.okE Zaf2 (fun vs H Q E h=>?_) (fun cdv A outer s H vs Q E hr h=>?_)
 ·obtain⟨v,u,Tv,rfl,_⟩:=h
  rfl
 ·obtain⟨v,u,Tv,rfl,th,hc⟩:=h
  have hr1:Room 1 _:=hr.mono (by decide)
  refine⟨_,Zaar (ZaaZ (Zabg CB hr1 Zabp rfl (Zaaa (Zabg CA hr Zabp rfl (Zaaa (pv 0) (Zaaa (pv 1) Zaae))) Zaae))),?_⟩
  rcases hc with ⟨hn,hE⟩ | ⟨p,rfl,p2,p7,⟨S,thu,hnu,hE⟩ | ⟨n,rfl,hn,ht,hE⟩⟩
  ·exact⟨_,rfl,_,rfl,.inr ⟨v,u,Tv,rfl,th,.inl ⟨hn,hE⟩⟩⟩
  ·exact⟨_,rfl,_,rfl,.inr ⟨.int p,u,Tv,rfl,th,.inr ⟨p,S,rfl,by omega,by omega,thu,hnu,hE⟩⟩⟩
  ·exact⟨_,rfl,_,rfl,.inl ⟨p,n,rfl,p2,p7,hn,fun H1 s1=>⟨_,rfl,ht,hE H1 s1⟩⟩⟩
theorem Zama {f fA:Addr}{fd dA:FuncData}{cW cL cM:Addr} (F:Fun K "level_numbers" "level_numbers" sLN f fd) (CA:CalE P w K mg base 5 "check_places" ["p","n"] [] (spPlE K cW cL cM) fA dA):FnOk P w K mg base (CX1 P w) 6 f fd ["p","n"] (spPlE K cW cL cM):=by
 refine F.okE scLN (fun vs H Q E h=>?_) (fun cdv A outer s H vs Q E hr h=>?_)
 ·obtain⟨v,u,Tv,rfl,_⟩:=h
  rfl
 ·obtain⟨v,u,Tv,rfl,th,hc⟩:=h
  refine⟨_,Zaam (ZaaZ (Zabg CA hr Zabp rfl (Zaaa (pv 0) (Zaaa (pv 1) Zaae)))) ZaaV,?_⟩
  refine⟨_,rfl,_,rfl,v,u,Tv,rfl,th,?_⟩
  rcases hc with ⟨hn,hE⟩ | ⟨p,rfl,p2,p7,⟨S,thu,hnu,hE⟩ | ⟨n,rfl,hn,ht,hE⟩⟩
  ·exact .inl ⟨hn,hE⟩
  ·exact .inr ⟨p,rfl,p2,p7,.inl ⟨S,thu,hnu,hE⟩⟩
  ·exact .inr ⟨p,rfl,p2,p7,.inr ⟨n,rfl,hn,ht,hE⟩⟩
end
end Fs33
namespace Fs33
open PySem L2 Lv
section
variable {P:Program}{w:World}{K:PySem.W.Frag}{mg:Str->Option Value}{base:Heap}
end
end Fs33
namespace Lv
open PySem L2
theorem Zaii (t:Int):∀ {xs:List Int},(∀ x∈xs,t<=x)->sv xs t=0
 | [],_=>rfl
 | x::xs,h=>by
  have h1:=h x List.mem_cons_self
  have h2:=Zaii t (xs:=xs) fun y hy=>h y (List.mem_cons_of_mem _ hy)
  unfold sv at h2 ⊢
  rw[List.map_cons,List.sum_cons,h2]
  unfold pz
  split <;> omega
def ceilP (p n:Nat):Int:=((n:Int)+p - 1) / p
theorem Zaj6 {p n:Nat} (hp:2<=p):∀ m∈(num p n).flatten,ceilP p n<=m:=fun m hm=>by
 have h:=((Zabv hp n m).mp hm).2
 unfold ceilP
 have h2:((n:Int)+p - 1) / p<m+1:=Int.ediv_lt_of_lt_mul (by omega) (by rw[Int.add_mul,Int.mul_comm]; omega)
 omega
theorem Zaib {p n m:Nat} (hp:2<=p) (h:n<=m):ceilP p n<=ceilP p m:=by
 unfold ceilP
 exact Int.ediv_le_ediv (by omega) (by omega)
theorem ZalB {p n:Nat} (hp:2<=p):(n:Int)<=p*ceilP p n:=by
 unfold ceilP
 have h1:=Int.mul_ediv_add_emod ((n:Int)+p - 1) p
 have h2:=Int.emod_lt_of_pos ((n:Int)+p - 1) (show (0:Int)<p by omega)
 omega
theorem g_low {p n:Nat}{r v:Int} (hp:2<=p) (hn:n<=300) (h1:1<=r) (h:gS (num p) r n=some v):r*ceilP p n<=v:=by
 obtain⟨_,l⟩:=(ZabD hp).lv.of hn h1 h
 have:=l.le (ceilP p n)
 rw[Zaii _ (Zaj6 hp)] at this
 omega
theorem Zamq {p n:Nat}{r v:Int} (hp:2<=p) (hn:n<=300) (h1:1<=r) (h:gS (num p) r n=some v):v<=r*n:=by
 obtain⟨_,l⟩:=(ZabD hp).lv.of hn h1 h
 obtain⟨θ,hθ,e⟩:=l.eq
 have h2:=sv_nn (num p n).flatten θ
 have h3:=((Zabv hp n θ).mp hθ).1
 have h4:r*θ<=r*n:=Int.mul_le_mul_of_nonneg_left h3 (by omega)
 omega
theorem far32 {p:Nat} (hp:2<=p) (h7:p<=7):∃ m:Nat,1<=m/\m<=134/\p*(m - 1)<=266/\(1000000000000:Int)<=tot p m:=by
 rcases (show p=2∨p=3∨p=4∨p=5∨p=6∨p=7 by omega) with rfl | rfl | rfl | rfl | rfl | rfl
 ·exact⟨58,by decide,by decide,by decide,by decide +kernel⟩
 ·exact⟨45,by decide,by decide,by decide,by decide +kernel⟩
 ·exact⟨42,by decide,by decide,by decide,by decide +kernel⟩
 ·exact⟨40,by decide,by decide,by decide,by decide +kernel⟩
 ·exact⟨39,by decide,by decide,by decide,by decide +kernel⟩
 ·exact⟨39,by decide,by decide,by decide,by decide +kernel⟩
theorem Zamb {p n:Nat}{r:Int}{st:Option (Int × Nat)} (hp:2<=p) (h7:p<=7) (h1:1<=r) (hr:r<=1000000000000) (h:IsBest (gS (num p) r) n st) (g:∀ q,st=some q->r*ceilP p n<q.1):n<=266:=by
 obtain⟨m,m1,m2,m3,m4⟩:=far32 hp h7
 refine Nat.le_of_not_lt fun hn=>?_
 obtain⟨v,hv,_⟩:=(ZabD hp).lv.some (show m<=300 by omega) h1 (by rw[Zaa7]; omega)
 cases st with
 | none=>
  have:=h m (by omega)
  rw[hv] at this
  cases this
 | some q=>
  have a:=h.2.2.1 m v (by omega) hv
  have b:=Zamq hp (by omega) h1 hv
  have c:=g q rfl
  have d:ceilP p n<m:=by
   refine Int.lt_of_not_ge fun z=>?_
   have:r*(m:Int)<=r*ceilP p n:=Int.mul_le_mul_of_nonneg_left z (by omega)
   omega
  have e:=ZalB (n:=n) hp
  have f:(p:Int)*ceilP p n<=p*((m - 1:Nat):Int):=Int.mul_le_mul_of_nonneg_left (by omega) (by omega)
  have g':(p:Int)*((m - 1:Nat):Int)=((p*(m - 1):Nat):Int):=by rw[Int.natCast_mul]
  omega
theorem fin32 {p n:Nat}{r:Int}{q:Int × Nat} (hp:2<=p) (h1:1<=r) (hn:n<=301) (h:IsBest (gS (num p) r) n (some q)) (g:¬ r*ceilP p n<q.1):Bst (num p) 301 r q:=by
 refine⟨by have:=h.1; omega,h.2.1,fun m v hm hv=>?_,h.2.2.2⟩
 by_cases hmn:m<n
 ·exact h.2.2.1 m v hmn hv
 ·have a:=g_low hp (by omega) h1 hv
  have b:r*ceilP p n<=r*ceilP p m:=Int.mul_le_mul_of_nonneg_left (Zaib hp (by omega)) (by omega)
  omega
theorem Bst.same {S:Nat->List (List Int)}{N:Nat}{r:Int}{q q':Int × Nat} (a:Bst S N r q) (b:Bst S N r q'):q=q':=by
 have e:=a.uniq b
 have e2:q.2=q'.2:=by
  rcases Nat.lt_trichotomy q.2 q'.2 with z | z | z
  ·have:=b.first _ _ z a.eq
   omega
  ·exact z
  ·have:=a.first _ _ z b.eq
   omega
 exact Prod.ext e e2
theorem g_of {p n:Nat}{r:Int}{M:List (Int × Int)} (hp:2<=p) (hn:n<=300) (h1:1<=r) (hr:r<=tot p n) (h:SprL M (cn (num p n).flatten)):gS (num p) r n=some (lsF M (0,r)).1:=by
 obtain⟨v,hv,l⟩:=(ZabD hp).lv.some hn h1 (by rw[Zaa7]; exact hr)
 have l2:=(Zalf h h1 (by rw[Zaa7]; exact hr)).2
 rw[hv]
 obtain⟨θ,_,e⟩:=l.eq
 obtain⟨η,_,e2⟩:=l2.eq
 have a:=l.le η
 have b:=l2.le θ
 exact congrArg some (by omega)
theorem Zamp {p n:Nat}{r:Int} (hp:2<=p) (hn:n<=300) (h1:1<=r) (hr:tot p n<r):gS (num p) r n=none:=by
 cases e:gS (num p) r n with
 | none=>rfl
 | some v=>
  have:=((ZabD hp).lv.of hn h1 e).1
  rw[Zaa7] at this
  omega
end Lv
namespace Fs33
open PySem L2 Lv
section
variable {P:Program}{w:World}{K:PySem.W.Frag}{mg:Str->Option Value}{base:Heap}
theorem scBLay:FnScope ["p","rows","reading","level"] ["p","rows"] (Zaac sBLay):=⟨rfl,rfl,rfl,by decide +kernel,rfl,by decide +kernel,by decide +kernel⟩
def ZafT:Sp:=fun vs H Q _=>∃ (p m:Nat),vs=[.int p,.int m]/\2<=p/\p<=7/\1<=m/\m<=400/\(∀ q,Bst (num p) 301 m q->tot p q.2<=4000) /\
 ∀ (l la:Addr) (ts:List Addr) (ks:List (List Int)) (q:Int × Nat) H',Bst (num p) 301 m q->H' l=some (.tup [.int q.1,.int q.2,.ref la])->H' la=some (.tup (ts.map V.ref))->TBs H' ts (laidB (num p q.2) (ks.take m))->ks.Perm (trip 0 (num p q.2))->ks.Pairwise (fun p q=>lxB q p=false)->Laid (num p q.2) (ks.take m) (laidB (num p q.2) (ks.take m))->Same H H'->Q (.ref l) H'
theorem Zaix {f f1 f2 f3 f4:Addr}{fd d1 d2 d3 d4:FuncData} (F:Fun K "best_laying" "best_laying" sBLay f fd) {tL:Tok} (T:Txt mg) (mLaid:mg "MOST_LAID"=some (.int 400 tL)) (CW:Cal P w K mg base 2 "check_ways" ["p"] ZafN f1 d1) (CR:Cal P w K mg base 4 "best_reading" ["p","rows"] spBR f2 d2) (CN:Cal P w K mg base 6 "level_numbers" ["p","n"] spNum f3 d3) (CL:Cal P w K mg base 2 "laid_least" ["numbers","rows"] Zadg f4 d4):FnOk P w K mg base CX0 7 f fd ["p","rows"] ZafT:=by
 refine okW F scBLay (fun vs H Q E h=>?_) (fun cdv A outer s H vs Q E hr h=>?_)
 ·obtain⟨p,m,rfl,_⟩:=h
  rfl
 ·obtain⟨p,m,rfl,h1,h2,m1,m2,hfit,k⟩:=h
  have hr2:Room 2 _:=hr.mono (by decide)
  have hr4:Room 4 _:=hr.mono (by decide)
  have hr6:Room 6 _:=hr.mono (by decide)
  refine⟨_,(Zaag (ws (ZaaZ (Zaat CW hr2 rfl (Zaaa (pv 0) Zaae))))
   (Zaag (ws_if (ZaaB op_gt (pv 1) (Zaa8 rfl mLaid) (ZaaK _))
   (wss ZaaV)
   ZaaQ)
   (Zaag (ws (Zahi (Zaat CR hr4 rfl (Zaaa (pv 0) (Zaaa (pv 1) Zaae))) (ZadZ rfl (Zaaw (Zaak (i:=2) scBLay.nd rfl (Or.inl rfl)) (Zaaw (Zaak (i:=3) scBLay.nd rfl (Or.inl rfl)) Zabo)))))
   (Zaan (Zae4 (Zaki (Zaau rfl (pv 2) (Zaau rfl (pv 3) (Zaau rfl (Zaat CL hr2 rfl (Zaaa (Zaat CN hr6 rfl (Zaaa (pv 0) (Zaaa (pv 3) Zaae))) (Zaaa (pv 1) Zaae))) Zab4))))))))),?_⟩
  refine⟨_,rfl,(p:Int),rfl,by omega,by omega,?_⟩
  refine⟨_,rfl,_,_,rfl,rfl,_,rfl,?_⟩
  dsimp only
  rw[decide_eq_false (show ¬ (400:Int)<(m:Int) by omega)]
  refine iteF ?_
  refine⟨_,rfl,_,rfl,p,m,rfl,h1,h2,by omega,by omega,fun l q H1 hb hl s1=>?_⟩
  refine⟨l,_,rfl,SqT.of hl,rfl,_,_,rfl,_,_,rfl,rfl,?_⟩
  have hq3:=hb.lt
  have hft:=hfit q hb
  obtain⟨hle,_⟩:=(ZabD h1).lv.of (show q.2<=300 by omega) (by omega) hb.eq
  rw[Zaa7] at hle
  refine⟨_,rfl,_,rfl,_,rfl,_,rfl,p,q.2,rfl,h1,h2,by omega,hft,fun la rs H2 la0 hla hT s2=>⟨_,rfl,la,rs,num p q.2,m,rfl,hla,hT,by rw[Zabb (by omega)]; exact h2,by have:=Zaa7 p q.2; omega,by have:=Zaa7 p q.2; omega,fun lb ts ks H3 hlb hB hkp hks hLd s3=>⟨(by show 3<=sizeLine; decide),fun t nt=>?_⟩⟩⟩
  have s4:Same H3 (upd H3 t (.tup [.int q.1,.int q.2,.ref lb])):=Same.new nt
  exact k t lb ts ks q _ hb Zaab (s4 _ _ hlb) (hB.same s4) hkp hks hLd (((s1.trans s2).trans s3).trans s4)
def ZafS (K:PySem.W.Frag) (cW cM:Addr):Sp:=fun vs H _ E=>∃ (v:V) (m:Nat) (T:String),vs=[v,.int m]/\1<=m/\m<=400/\Thing K H v T/\((NotIn 2 7 v T/\E (.ref cW) none H)∨∃ (p:Nat) (q:Int × Nat),v=.int p/\2<=p/\p<=7/\Bst (num p) 301 m q/\4000<tot p q.2/\∀ H',Same H H'->E (.ref cM) none H')
theorem ZajJ {f f1 f2 f3 f4:Addr}{fd d1 d2 d3 d4:FuncData}{cW cL cM:Addr}{tL:Tok} (F:Fun K "best_laying" "best_laying" sBLay f fd) (T:Txt mg) (mLaid:mg "MOST_LAID"=some (.int 400 tL)) (CW:CalE P w K mg base 2 "check_ways" ["p"] [] (Zahb K 2 7 cW) f1 d1) (CR:CalE P w K mg base 4 "best_reading" ["p","rows"] [] spBR f2 d2) (CN:CalE P w K mg base 6 "level_numbers" ["p","n"] [] (spPlE K cW cL cM) f3 d3) (CL:CalE P w K mg base 2 "laid_least" ["numbers","rows"] [] Zadg f4 d4):FnOk P w K mg base (CX1 P w) 7 f fd ["p","rows"] (ZafS K cW cM):=by
 refine F.okE scBLay (fun vs H Q E h=>?_) (fun cdv A outer s H vs Q E hr h=>?_)
 ·obtain⟨v,m,Tv,rfl,_⟩:=h
  rfl
 ·obtain⟨v,m,Tv,rfl,m1,m2,th,hc⟩:=h
  have hr2:Room 2 _:=hr.mono (by decide)
  have hr4:Room 4 _:=hr.mono (by decide)
  have hr6:Room 6 _:=hr.mono (by decide)
  refine⟨_,Zaam (ZaaZ (Zabg CW hr2 Zabp rfl (Zaaa (pv 0) Zaae)))
   (Zaam (ps_if (ZaaB op_gt (pv 1) (Zaa8 rfl mLaid) (ZaaK _)) ZaaV Zabz)
   (Zaam (Zahi (Zabg CR hr4 Zabp rfl (Zaaa (pv 0) (Zaaa (pv 1) Zaae))) (ZadZ rfl (Zaaw (Zaak (i:=2) scBLay.nd rfl (Or.inl rfl)) (Zaaw (Zaak (i:=3) scBLay.nd rfl (Or.inl rfl)) Zabo))))
   (Zaar (Zaax (Zacm (Zaaa (pv 2) (Zaaa (pv 3) (Zaaa (Zabg CL hr2 Zabp rfl (Zaaa (Zabg CN hr6 Zabp rfl (Zaaa (pv 0) (Zaaa (pv 3) Zaae))) (Zaaa (pv 1) Zaae))) Zaae)))))))),?_⟩
  rcases hc with ⟨hn,hE⟩ | ⟨p,q,rfl,p2,p7,hb,hlt,hE⟩
  ·exact⟨_,rfl,v,Tv,rfl,th,.inr ⟨hn,hE⟩⟩
  ·refine⟨_,rfl,.int p,Tv,rfl,th,.inl ⟨p,rfl,by omega,by omega,?_⟩⟩
   refine⟨_,rfl,_,_,rfl,rfl,_,rfl,?_⟩
   dsimp only
   rw[decide_eq_false (show ¬ (400:Int)<(m:Int) by omega)]
   refine iteF ?_
   refine⟨_,rfl,_,rfl,p,m,rfl,p2,p7,by omega,by omega,fun l q' H1 hb' hl s1=>?_⟩
   have eq:=hb.same hb'
   subst eq
   have hq3:=hb.lt
   refine⟨l,_,rfl,SqT.of hl,rfl,_,_,rfl,_,_,rfl,rfl,?_⟩
   exact⟨_,rfl,_,rfl,_,rfl,_,rfl,.int p,.int q.2,Tv,rfl,th.same s1,.inr ⟨p,rfl,p2,p7,.inr ⟨q.2,rfl,by omega,hlt,fun H' s'=>hE H' (s1.trans s')⟩⟩⟩
end
end Fs33
namespace Fs33
open PySem L2 Lv
section
variable {P:Program}{w:World}{K:PySem.W.Frag}{mg:Str->Option Value}{base:Heap}
def ZaeR (XX:Excs K mg):List Addr:=[XX.clash,XX.nBack,XX.nLine,XX.nPhase,XX.nPlace,XX.nRoom,XX.nStand,XX.nText]
def ZalG (XX:Excs K mg) (C:Addr) (j:Nat):Prop:=j<4/\ExcTab K XX.reel C XX.all/\PySem.W.kitOne K (.ref C) (.ref XX.nWays)=some (decide (j=0))/\PySem.W.kitOne K (.ref C) (.ref XX.nLevel)=some (decide (j=1))/\PySem.W.kitOne K (.ref C) (.ref XX.tMany)=some (decide (j=2))/\PySem.W.kitOne K (.ref C) (.ref XX.tFew)=some (decide (j=3))/\PySem.W.kitAny K (.ref C) ((ZaeR XX).map Value.ref)=some false
theorem ZaiB (XX:Excs K mg) {C:Addr}{q j:Nat} (hC:C=XX.all.getD q 0) (hj:(q=0/\j=0)∨(q=2/\j=1)∨(q=4/\j=2)∨(q=5/\j=3)) (t:ExcTab K XX.reel C XX.all):ZalG XX C j:=by
 have far:=XX.far
 have one:∀ i,i<12->PySem.W.kitOne K (.ref C) (.ref (XX.all.getD i 0))=some (decide (i=q)):=fun i hi=>by
  have hm:XX.all.getD i 0∈XX.all:=by
   rw[List.getD_eq_getElem?_getD,List.getElem?_eq_getElem (show i<XX.all.length from hi)]
   exact List.getElem_mem _
  by_cases e:i=q
  ·subst e
   rw[decide_eq_true rfl]
   rw[<- hC] at hm ⊢
   exact t.yes hm
  ·rw[decide_eq_false e]
   exact t.no hm (by rw[hC]; exact far i q hi (by omega) e)
 have k0:=one 0 (by decide)
 have k2:=one 2 (by decide)
 have k4:=one 4 (by decide)
 have k5:=one 5 (by decide)
 have hne:∀ i,i<12->i≠q->XX.all.getD i 0≠C:=fun i hi e=>by rw[hC]; exact far i q hi (by omega) e
 refine⟨by omega,t,?_,?_,?_,?_,t.none (by simp[Excs.all,ZaeR]) ?_⟩
 ·have:decide (0=q)=decide (j=0):=by rw[Bool.eq_iff_iff,decide_eq_true_iff,decide_eq_true_iff]; omega
  rw[<- this]; exact k0
 ·have:decide (2=q)=decide (j=1):=by rw[Bool.eq_iff_iff,decide_eq_true_iff,decide_eq_true_iff]; omega
  rw[<- this]; exact k2
 ·have:decide (4=q)=decide (j=2):=by rw[Bool.eq_iff_iff,decide_eq_true_iff,decide_eq_true_iff]; omega
  rw[<- this]; exact k4
 ·have:decide (5=q)=decide (j=3):=by rw[Bool.eq_iff_iff,decide_eq_true_iff,decide_eq_true_iff]; omega
  rw[<- this]; exact k5
 ·intro D hD
  simp only[ZaeR,List.mem_cons,List.not_mem_nil,or_false] at hD
  rcases hD with rfl | rfl | rfl | rfl | rfl | rfl | rfl | rfl
  ·exact hne 11 (by decide) (by omega)
  ·exact hne 9 (by decide) (by omega)
  ·exact hne 8 (by decide) (by omega)
  ·exact hne 10 (by decide) (by omega)
  ·exact hne 6 (by decide) (by omega)
  ·exact hne 1 (by decide) (by omega)
  ·exact hne 3 (by decide) (by omega)
  ·exact hne 7 (by decide) (by omega)
def Zakh (j:Nat):Str:=match j with | 0=>"ways" | 1=>"level" | 2=>"many" | _=>"few"
def ZadO (XX:Excs K mg):Sp:=fun vs H Q _=>∃ (ea C:Addr) (j:Nat),vs=[.ref ea]/\H ea=some (isExc ea C)/\ZalG XX C j/\∀ H',Same H H'->Q (.str (Zakh j)) H'
theorem scKind:FnScope ["caught","flags","others"] ["caught"] (Zaac sKind):=⟨rfl,rfl,rfl,by decide +kernel,rfl,by decide +kernel,by decide +kernel⟩
theorem Zahu {f:Addr}{fd:FuncData} (F:Fun K "_law_kind" "_law_kind" sKind f fd) (T:Txt mg) (Tv:mg "ValueError"=none) (XX:Excs K mg):FnOk P w K mg base CX0 1 f fd ["caught"] (ZadO XX):=by
 refine okW F scKind (fun vs H Q E h=>?_) (fun cdv A outer s H vs Q E hr h=>?_)
 ·obtain⟨ea,C,j,rfl,_⟩:=h
  rfl
 ·obtain⟨ea,C,j,rfl,hE,⟨j4,tab,kw,kl,km,kf,k8⟩,k⟩:=h
  refine⟨_,(Zaag (ws (Zaaq (i:=1) scKind.nd rfl (Or.inl rfl) (Zabn (Zaaa (Zaaj ZaaX rfl T.isinstance Zaas (Zaaa (pv 0) (Zaaa (Zaa9 rfl XX.mWays) Zaae))) (Zaaa (Zaaj ZaaX rfl T.isinstance Zaas (Zaaa (pv 0) (Zaaa (Zaa9 rfl XX.mLevel) Zaae))) (Zaaa (Zaaj ZaaX rfl T.isinstance Zaas (Zaaa (pv 0) (Zaaa (Zaa9 rfl XX.mMany) Zaae))) Zaae))))))
   (Zaag (ws (ZaaZ (pe_bm PySem.F.plainAttrs_list PySem.F.slot_list_append PySem.F.type_list_append ZabC (pv 1) (Zaaa (Zaaj ZaaX rfl T.isinstance Zaas (Zaaa (pv 0) (Zaaa (Zaa9 rfl XX.mFew) Zaae))) Zaae))))
   (Zaag (ws (Zaaq (i:=2) scKind.nd rfl (Or.inl rfl) (Zaaj ZadB rfl T.isinstance Zaas (Zaaa (pv 0) (Zaaa (Zacm (WA.out (Zaau rfl (Zaa9 rfl XX.mClash) (Zaau rfl (Zaa9 rfl XX.mBack) (Zaau rfl (Zaa9 rfl XX.mLine) (Zaau rfl (Zaa9 rfl XX.mPhase) (Zaau rfl (Zaa9 rfl XX.mPlace) (Zaau rfl (Zaa9 rfl XX.mRoom) (Zaau rfl (Zaa9 rfl XX.mStand) (Zaau rfl (Zaa9 rfl XX.mText) Zab4)))))))))) Zaae)))))
   (Zaag (ws_if (PW.pt (pw_or (Zaby (pv 2)) (pw_or (ZaaB op_ne (pe_bm PySem.F.plainAttrs_list PySem.F.slot_list_count PySem.F.type_list_count ZahG (pv 1) (Zaaa pe_bl Zaae)) Zaah (ZaaK _)) (Zab9 (Zabm (Zaby (Zaaj ZaaX rfl T.isinstance Zaas (Zaaa (pv 0) (Zaaa (pe_ty rfl Tv Zaei) Zaae)))))))))
   (Zaan (ws (Zaax ZacT)))
   ZaaQ)
   (Zaan (Zae4 (we_ix Zabh (Zadb (Zaau rfl ZacT (Zaau rfl ZacT (Zaau rfl ZacT (Zaau rfl ZacT Zab4))))) (we (pe_bm PySem.F.plainAttrs_list PySem.F.slot_list_index PySem.F.type_list_index ZahE (pv 1) (Zaaa pe_bl Zaae))) (fun _ _=>rfl)))))))),?_⟩
  refine⟨_,rfl,ea,C,_,_,_,rfl,hE,tab.ok,.inr ⟨_,rfl,rfl⟩,kw,_,rfl,ea,C,_,_,_,rfl,hE,tab.ok,.inr ⟨_,rfl,rfl⟩,kl,_,rfl,ea,C,_,_,_,rfl,hE,tab.ok,.inr ⟨_,rfl,rfl⟩,km,(by show 3<=sizeLine; decide),fun l nl=>?_⟩
  have s1:Same H (upd H l (.lst [.bl (decide (j=0)),.bl (decide (j=1)),.bl (decide (j=2))])):=Same.new nl
  have e1:upd H l (.lst [.bl (decide (j=0)),.bl (decide (j=1)),.bl (decide (j=2))]) l=some (.lst [.bl (decide (j=0)),.bl (decide (j=1)),.bl (decide (j=2))]):=Zaab
  have lea:ea≠l:=Zaad hE nl
  generalize upd H l (.lst [.bl (decide (j=0)),.bl (decide (j=1)),.bl (decide (j=2))])=H1 at s1 e1 ⊢
  refine⟨_,rfl,.inl ⟨rfl,_,SqL.of e1⟩,_,rfl,ea,C,_,_,_,rfl,s1 _ _ hE,tab.ok,.inr ⟨_,rfl,rfl⟩,kf,l,_,_,rfl,rfl,e1,(by show 3<sizeLine; decide),?_⟩
  have e3:upd H1 l (.lst ([.bl (decide (j=0)),.bl (decide (j=1)),.bl (decide (j=2))]++[.bl (decide (j=3))])) l=some (.lst (([decide (j=0),decide (j=1),decide (j=2),decide (j=3)]:List Bool).map V.bl)):=Zaab
  have hE3:upd H1 l (.lst ([.bl (decide (j=0)),.bl (decide (j=1)),.bl (decide (j=2))]++[.bl (decide (j=3))])) ea=some (isExc ea C):=by rw[Zaaf lea]; exact s1 _ _ hE
  have s3:Same H (upd H1 l (.lst ([.bl (decide (j=0)),.bl (decide (j=1)),.bl (decide (j=2))]++[.bl (decide (j=3))]))):=s1.put nl
  generalize upd H1 l (.lst ([.bl (decide (j=0)),.bl (decide (j=1)),.bl (decide (j=2))]++[.bl (decide (j=3))]))=H3 at e3 hE3 s3 ⊢
  refine⟨_,rfl,(by show 8<=sizeLine; decide),fun t nt=>⟨ea,C,t,ZaeR XX,false,rfl,(Same.new nt) _ _ hE3,tab.ok,Zaab,k8,?_⟩⟩
  have s4:Same H3 (upd H3 t (.tup [.ref XX.clash,.ref XX.nBack,.ref XX.nLine,.ref XX.nPhase,.ref XX.nPlace,.ref XX.nRoom,.ref XX.nStand,.ref XX.nText])):=Same.new nt
  generalize (upd H3 t (.tup [.ref XX.clash,.ref XX.nBack,.ref XX.nLine,.ref XX.nPhase,.ref XX.nPlace,.ref XX.nRoom,.ref XX.nStand,.ref XX.nText]))=H4 at s4 ⊢
  have e4:=s4 _ _ e3
  have hE4:=s4 _ _ hE3
  have ec:(([decide (j=0),decide (j=1),decide (j=2),decide (j=3)]:List Bool).count true)=1:=by
   rcases (show j=0∨j=1∨j=2∨j=3 by omega) with rfl | rfl | rfl | rfl <;> rfl
  have ei:(([decide (j=0),decide (j=1),decide (j=2),decide (j=3)]:List Bool).idxOf true)=j:=by
   rcases (show j=0∨j=1∨j=2∨j=3 by omega) with rfl | rfl | rfl | rfl <;> rfl
  have em:true∈([decide (j=0),decide (j=1),decide (j=2),decide (j=3)]:List Bool):=by
   rcases (show j=0∨j=1∨j=2∨j=3 by omega) with rfl | rfl | rfl | rfl <;> decide
  refine⟨_,rfl,false,rfl,iteF ⟨_,rfl,.inl ⟨rfl,_,SqL.of e4⟩,l,_,true,rfl,rfl,SqL.of e4,rfl,_,rfl,?_⟩⟩
  rw[ec]
  refine iteF ⟨_,rfl,ea,C,_,_,true,rfl,hE4,tab.ok,.inl ⟨rfl,rfl⟩,tab.isV,true,rfl,iteF ?_⟩
  refine⟨(by show 4<=sizeLine; decide),fun lw nw=>?_⟩
  have s5:Same H4 (upd H4 lw (.lst [.str "ways",.str "level",.str "many",.str "few"])):=Same.new nw
  have e5:upd H4 lw (.lst [.str "ways",.str "level",.str "many",.str "few"]) lw=some (.lst [.str "ways",.str "level",.str "many",.str "few"]):=Zaab
  generalize upd H4 lw (.lst [.str "ways",.str "level",.str "many",.str "few"])=H5 at s5 e5 ⊢
  refine⟨_,rfl,.inl ⟨rfl,_,SqL.of (s5 _ _ e4)⟩,l,_,true,rfl,rfl,SqL.of (s5 _ _ e4),em,?_⟩
  rw[ei]
  refine⟨lw,_,_,.str (Zakh j),rfl,rfl,SqL.of e5,?_,k H5 ((s3.trans s4).trans s5)⟩
  refine ZabG ?_
  rcases (show j=0∨j=1∨j=2∨j=3 by omega) with rfl | rfl | rfl | rfl <;> rfl
def ZafQ (K:PySem.W.Frag):Sp:=fun vs H Q _=>∃ (p:Addr) (lo hi:Int),vs=[.ref p,.int lo,.int hi]/\Pool H p/\0<=lo/\lo<=hi/\hi<=1000/\∀ v T H',Thing K H' v T->NotIn lo hi v T->(∀ q,v=.ref q->q≠p)->Pool H' p->Sm p H H'->Q v H'
theorem odd31 {K : PySem.W.Frag} {H : Hp} {p q1 q2 q3 q4 : Addr} {lo hi far i : Int} (m1 : q1 ≠ p) (m2 : q2 ≠ p) (m3 : q3 ≠ p) (m4 : q4 ≠ p) (h1 : H q1 = some (.lst [.int lo])) (h2 : H q2 = some (.tup [.int lo])) (h3 : H q3 = some (.dK [])) (h4 : H q4 = some (.lst [])) (i0 : 0 ≤ i) (i1 : i < 14) (l0 : 0 ≤ lo) (lh : lo ≤ hi) (hb : hi ≤ 1000) (hf : 2000 < far) :
  ∃ v T,atI [V.int (lo - 1),.int (hi+1),.int (0 - far),.int far,.bl true,.non,.str "3",.ref q1,.ref q2,.bl false,.int (0 - 9),.str "",.ref q3,.ref q4] i=some v/\Thing K H v T/\NotIn lo hi v T/\∀ q,v=.ref q->q≠p:=by
 rcases (show i=0∨i=1∨i=2∨i=3∨i=4∨i=5∨i=6∨i=7∨i=8∨i=9∨i=10∨i=11∨i=12∨i=13 by omega) with rfl | rfl | rfl | rfl | rfl | rfl | rfl | rfl | rfl | rfl | rfl | rfl | rfl | rfl
 ·exact⟨_,"int",rfl,⟨.int _,by decide⟩,.inr ⟨_,rfl,by omega⟩,fun q z=>nomatch z⟩
 ·exact⟨_,"int",rfl,⟨.int _,by decide⟩,.inr ⟨_,rfl,by omega⟩,fun q z=>nomatch z⟩
 ·exact⟨_,"int",rfl,⟨.int _,by decide⟩,.inr ⟨_,rfl,by omega⟩,fun q z=>nomatch z⟩
 ·exact⟨_,"int",rfl,⟨.int _,by decide⟩,.inr ⟨_,rfl,by omega⟩,fun q z=>nomatch z⟩
 ·exact⟨_,"bool",rfl,⟨.bl _,by decide⟩,.inl (by decide),fun q z=>nomatch z⟩
 ·exact⟨_,"NoneType",rfl,⟨.non,by decide⟩,.inl (by decide),fun q z=>nomatch z⟩
 ·exact⟨_,"str",rfl,⟨.str _,by decide⟩,.inl (by decide),fun q z=>nomatch z⟩
 ·exact⟨_,"list",rfl,⟨.lst h1,by decide⟩,.inl (by decide),fun q z=>by cases z; exact m1⟩
 ·exact⟨_,"tuple",rfl,⟨.tup h2,by decide⟩,.inl (by decide),fun q z=>by cases z; exact m2⟩
 ·exact⟨_,"bool",rfl,⟨.bl _,by decide⟩,.inl (by decide),fun q z=>nomatch z⟩
 ·exact⟨_,"int",rfl,⟨.int _,by decide⟩,.inr ⟨_,rfl,by omega⟩,fun q z=>nomatch z⟩
 ·exact⟨_,"str",rfl,⟨.str _,by decide⟩,.inl (by decide),fun q z=>nomatch z⟩
 ·exact⟨_,"dict",rfl,⟨.dK h3,by decide⟩,.inl (by decide),fun q z=>by cases z; exact m3⟩
 ·exact⟨_,"list",rfl,⟨.lst h4,by decide⟩,.inl (by decide),fun q z=>by cases z; exact m4⟩
theorem scOdd:FnScope ["pool","least","most","way","far","some"] ["pool","least","most"] (Zaac sOdd):=⟨rfl,rfl,rfl,by decide +kernel,rfl,by decide +kernel,by decide +kernel⟩
theorem ZajA {f f1:Addr}{fd d1:FuncData} (F:Fun K "_law_odd" "_law_odd" sOdd f fd) (T:Txt mg) (CK:Cal P w K mg base 1 "_law_take" ["pool","many"] Zaha f1 d1):FnOk P w K mg base CX0 2 f fd ["pool","least","most"] (ZafQ K):=by
 refine okW F scOdd (fun vs H Q E h=>?_) (fun cdv A outer s H vs Q E hr1 h=>?_)
 ·obtain⟨p,lo,hi,rfl,_⟩:=h
  rfl
 ·obtain⟨p,lo,hi,rfl,hp,g1,hl,g2,k⟩:=h
  refine⟨_,(Zaag (ws (Zaaq (i:=3) scOdd.nd rfl (Or.inl rfl) (Zaat CK hr1 rfl (Zaaa (pv 0) (Zaaa Zaah Zaae)))))
   (Zaag (ws (Zaaq (i:=4) scOdd.nd rfl (Or.inl rfl) (pe_op ZabB (pe_op ZakY Zaah Zaah) (Zaat CK hr1 rfl (Zaaa (pv 0) (Zaaa Zaah Zaae))))))
   (Zaag (Zafx (i:=5) scOdd.nd rfl (Or.inl rfl) (Zadb (Zaau rfl (pe_op ZabB (pv 1) Zaah) (Zaau rfl (pe_op ZaaE (pv 2) Zaah) (Zaau rfl (pe_op ZabB Zaah (pv 4)) (Zaau rfl (pv 4) (Zaau rfl pe_bl (Zaau rfl ZacU (Zaau rfl ZacT (ZabJ rfl (Zadb (Zaau rfl (pv 1) Zab4)) (ZabJ rfl (Zaki (Zaau rfl (pv 1) Zab4)) (Zaau rfl pe_bl (Zaau rfl (pe_op ZabB Zaah Zaah) (Zaau rfl ZacT (Zaau rfl Zacd (ZabJ rfl (Zadb Zab4) Zab4))))))))))))))))
   (Zaan (ws (Zaax (pe_ix Zabh (pv 5) (pv 3) (fun _ _=>rfl)))))))),?_⟩
  refine⟨_,rfl,p,14,rfl,hp,by decide,by decide,fun dw H1 w0 w1 hp1 sm1=>?_⟩
  refine⟨_,_,rfl,rfl,⟨by decide,by decide,by decide⟩,_,rfl,p,9,rfl,hp1,by decide,by decide,fun df H2 f0 f1 hp2 sm2=>⟨_,_,rfl,rfl,?_⟩⟩
  have hfar:2000<(10:Int) ^ Int.toNat 59 - df:=by
   have:(3000:Int)<(10:Int) ^ Int.toNat 59:=by decide +kernel
   omega
  dsimp only
  generalize (10:Int) ^ Int.toNat 59 - df=far at hfar ⊢
  have sm02:=sm1.trans sm2
  refine⟨_,rfl,_,_,rfl,rfl,_,rfl,_,_,rfl,rfl,_,rfl,_,_,rfl,rfl,_,rfl,_,rfl,(by show 1<=sizeLine; decide),fun q1 n1=>?_⟩
  have s1:Same H2 (upd H2 q1 (.lst [.int lo])):=Same.new n1
  have e1:upd H2 q1 (.lst [.int lo]) q1=some (.lst [.int lo]):=Zaab
  have m1:q1≠p:=hp2.ne n1
  have hpa:=hp2.same s1
  generalize upd H2 q1 (.lst [.int lo])=G1 at s1 e1 hpa ⊢
  refine⟨_,rfl,(by show 1<=sizeLine; decide),fun q2 n2=>?_⟩
  have s2:Same G1 (upd G1 q2 (.tup [.int lo])):=Same.new n2
  have e2:upd G1 q2 (.tup [.int lo]) q2=some (.tup [.int lo]):=Zaab
  have m2:q2≠p:=hpa.ne n2
  have hpb:=hpa.same s2
  generalize upd G1 q2 (.tup [.int lo])=G2 at s2 e2 hpb ⊢
  refine⟨_,_,rfl,rfl,fun q3 n3=>?_⟩
  have s3:Same G2 (upd G2 q3 (.dK [])):=Same.new n3
  have e3:upd G2 q3 (.dK []) q3=some (.dK []):=Zaab
  have m3:q3≠p:=hpb.ne n3
  have hpc:=hpb.same s3
  generalize upd G2 q3 (.dK [])=G3 at s3 e3 hpc ⊢
  refine⟨Nat.zero_le _,fun q4 n4=>?_⟩
  have s4:Same G3 (upd G3 q4 (.lst [])):=Same.new n4
  have e4:upd G3 q4 (.lst []) q4=some (.lst []):=Zaab
  have m4:q4≠p:=hpc.ne n4
  have hpd:=hpc.same s4
  generalize upd G3 q4 (.lst [])=G4 at s4 e4 hpd ⊢
  refine⟨(by show 14<=sizeLine; decide),fun l nl=>?_⟩
  have s5:∀ o,Same G4 (upd G4 l (.lst o)):=fun o=>Same.new nl
  have hsA:=fun o=>((s2.trans s3).trans s4).trans (s5 o)
  obtain⟨v,Tv,ev,th,hn,hne⟩:=odd31 (K:=K) (i:=dw) m1 m2 m3 m4 (hsA [V.int (lo - 1),.int (hi+1),.int (0 - far),.int far,.bl true,.non,.str "3",.ref q1,.ref q2,.bl false,.int (0 - 9),.str "",.ref q3,.ref q4] _ _ e1) (((s3.trans s4).trans (s5 _)) _ _ e2) ((s4.trans (s5 _)) _ _ e3) ((s5 _) _ _ e4) w0 w1 g1 hl g2 hfar
  refine⟨_,rfl,_,rfl,l,_,_,v,rfl,rfl,SqL.of Zaab,ev,k v Tv _ th hn hne (hpd.same (s5 _)) (sm02.trans (Sm.of (s1.trans (hsA _))))⟩
end
end Fs33
namespace Fs33
open PySem L2 Lv
section
variable {P:Program}{w:World}{K:PySem.W.Frag}{mg:Str->Option Value}{base:Heap}
theorem scWord33:FnScope ["p","rows","caught","found","e"] ["p","rows"] (Zaac Zacq):=⟨rfl,rfl,rfl,by decide +kernel,rfl,by decide +kernel,by decide +kernel⟩
def ZacN (K:PySem.W.Frag):Sp:=fun vs H Q _=>∃ (v:V) (m:Nat),vs=[v,.int m]/\1<=m/\m<=400/\∃ T,Thing K H v T/\((NotIn 2 7 v T/\∀ H',Same H H'->Q (.str "ways") H')∨∃ (p:Nat) (q:Int × Nat),v=.int p/\2<=p/\p<=7/\Bst (num p) 301 m q/\((4000<tot p q.2/\∀ H',Same H H'->Q (.str "many") H')∨(tot p q.2<=4000/\∀ (l la:Addr) (ts:List Addr) (ks:List (List Int)) H',H' l=some (.tup [.int q.1,.int q.2,.ref la])->H' la=some (.tup (ts.map V.ref))->TBs H' ts (laidB (num p q.2) (ks.take m))->ks.Perm (trip 0 (num p q.2))->ks.Pairwise (fun p q=>lxB q p=false)->Laid (num p q.2) (ks.take m) (laidB (num p q.2) (ks.take m))->Same H H'->Q (.ref l) H')))
theorem Zahn {f f1:Addr}{fd d1:FuncData} (F:Fun K "_law_word" "_law_word" Zacq f fd) (T:Txt mg) (XX:Excs K mg) (tW:ExcTab K XX.reel XX.nWays XX.all) (tM:ExcTab K XX.reel XX.tMany XX.all) {f8:Addr}{d8:FuncData} (CB:CalE P w K mg base 7 "best_laying" ["p","rows"] [] (fun vs H Q E=>ZafT vs H Q E∨ZafS K XX.nWays XX.tMany vs H Q E) f8 d8) (CG:Cal P w K mg base 1 "_law_kind" ["caught"] (ZadO XX) f1 d1):FnOk P w K mg base CX0 8 f fd ["p","rows"] (ZacN K):=by
 refine okW F scWord33 (fun vs H Q E h=>?_) (fun cdv A outer s H vs Q E hr h=>?_)
 ·obtain⟨v,m,rfl,_⟩:=h
  rfl
 ·obtain⟨v,m,rfl,m1,m2,Tv,th,hc⟩:=h
  have hr1:Room 1 _:=hr.mono (by decide)
  have hr7:Room 7 _:=hr.mono (by decide)
  refine⟨_,(Zaag (ws (Zaaq (i:=2) scWord33.nd rfl (Or.inl rfl) ZacU))
   (Zaag (ws (Zaaq (i:=3) scWord33.nd rfl (Or.inl rfl) ZacU))
   (Zaag (ws (Zal2 (i:=4) scWord33.nd rfl rfl rfl XX.mReel (fun Ex pn' xe' hx=>(WSs.out (Zaan (ws (Zaaq (i:=3) scWord33.nd rfl (Or.inl rfl) (Zabg CB hr7 hx rfl (Zaaa (pv 0) (Zaaa (pv 1) Zaae))))))))
   (fun ea=>(WSs.out (Zaan (ws (Zaaq (i:=2) scWord33.nd rfl (Or.inl rfl) (pv 4))))))))
   (Zaag (ws_if (Zajj (Zaju (pv 2)))
   (Zaan (ws (Zaax (pv 3))))
   ZaaQ)
   (Zaan (ws (Zaax (Zaat CG hr1 rfl (Zaaa (pv 2) Zaae))))))))),?_⟩
  refine⟨_,rfl,_,rfl,?_⟩
  rcases hc with ⟨hn,k⟩ | ⟨p,q,rfl,p2,p7,hb,⟨hlt,k⟩ | ⟨hle,k⟩⟩
  ·exact .inr ⟨v,m,Tv,rfl,m1,m2,th,.inl ⟨hn,XX.nWays,rfl,tW.exm,fun ea hea=>⟨_,rfl,_,rfl,_,rfl,iteF ⟨_,rfl,ea,XX.nWays,0,rfl,Zaab,ZaiB (q:=0) XX rfl (by omega) tW,fun H' s=>k H' ((Same.new hea).trans s)⟩⟩⟩⟩
  ·exact .inr ⟨.int p,m,Tv,rfl,m1,m2,th,.inr ⟨p,q,rfl,p2,p7,hb,hlt,fun H1 s1=>⟨XX.tMany,rfl,tM.exm,fun ea hea=>⟨_,rfl,_,rfl,_,rfl,iteF ⟨_,rfl,ea,XX.tMany,2,rfl,Zaab,ZaiB (q:=4) XX rfl (by omega) tM,fun H' s=>k H' ((s1.trans (Same.new hea)).trans s)⟩⟩⟩⟩⟩
  ·exact .inl ⟨p, m, rfl, p2, p7, m1, m2, (fun q' hb' => by rw [← hb.same hb']; exact hle), fun l la ts ks q' H' hb' h1 h2 h3 h4 h5 h6 s => by
    have eq:=hb.same hb'
    subst eq
    exact⟨_,rfl,_,rfl,iteT ⟨_,rfl,k l la ts ks H' h1 h2 h3 h4 h5 h6 s⟩⟩⟩
theorem scLaw:FnScope ["script","at","pool","p","some","rows"] ["script"] (Zaac sLaw):=⟨rfl,rfl,rfl,by decide +kernel,rfl,by decide +kernel,by decide +kernel⟩
def ZacP:Sp:=fun vs H Q _=>∃ (p m:Nat),vs=[.int p,.int m]/\2<=p/\p<=7/\1<=m/\m<=400/\∀ H',Same H H'->Q (.bl true) H'
theorem ZajG {f f1 f2 f3 f4 f5:Addr}{fd d1 d2 d3 d4 d5:FuncData} (F:Fun K "law" "law" sLaw f fd) (T:Txt mg) (CO:Cal P w K mg base 2 "_law_pool" ["script","at"] (Zai5 K) f1 d1) (CK:Cal P w K mg base 1 "_law_take" ["pool","many"] Zaha f2 d2) (CT:Cal P w K mg base 9 "_law_right" ["p","rows"] ZacP f3 d3) (CX:Cal P w K mg base 8 "_law_word" ["p","rows"] (ZacN K) f4 d4) (CD:Cal P w K mg base 2 "_law_odd" ["pool","least","most"] (ZafQ K) f5 d5):FnOk P w K mg base CX0 10 f fd ["script"] (spLaw K):=by
 refine okW F scLaw (fun vs H Q E h=>?_) (fun cdv A outer s H vs Q E hr h=>?_)
 ·obtain⟨a,cs,rfl,_⟩:=h
  rfl
 ·obtain⟨a,cs,rfl,hS,hlen,k⟩:=h
  have hr1:Room 1 _:=hr.mono (by decide)
  have hr2:Room 2 _:=hr.mono (by decide)
  have hr8:Room 8 _:=hr.mono (by decide)
  have hr9:Room 9 _:=hr.mono (by decide)
  refine⟨_,(Zaag (ws (Zaa4 PassesOwn.never rfl (ZabY rfl T.range (Zaaa Zaah (Zaaa (Zaaj (Zaid rfl) rfl T.max b_max (Zaaa Zaah (Zaaa (Zaaj (Zabk rfl) rfl T.min b_min (Zaaa Zaah (Zaaa (Zaaj ZaaC rfl T.len PySem.boot_len (Zaaa (pv 0) Zaae)) Zaae))) Zaae))) Zaae))) (Zaak (i:=1) scLaw.nd rfl (Or.inl rfl))
   (WSs.out (Zaag (ws (Zaaq (i:=2) scLaw.nd rfl (Or.inl rfl) (Zaat CO hr2 rfl (Zaaa (pv 0) (Zaaa (pv 1) Zaae)))))
    (Zaag (ws (Zaaq (i:=3) scLaw.nd rfl (Or.inl rfl) (pe_op ZaaE Zaah (Zaat CK hr1 rfl (Zaaa (pv 2) (Zaaa Zaah Zaae))))))
    (Zaag (Zafx (i:=4) scLaw.nd rfl (Or.inl rfl) (Zadb (Zaau rfl (pe_op ZaaE Zaah (Zaat CK hr1 rfl (Zaaa (pv 2) (Zaaa Zaah Zaae)))) (Zaau rfl (pe_op ZaaE Zaah (Zaat CK hr1 rfl (Zaaa (pv 2) (Zaaa Zaah Zaae)))) (Zaau rfl (pe_op ZaaE Zaah (Zaat CK hr1 rfl (Zaaa (pv 2) (Zaaa Zaah Zaae)))) Zab4)))))
    (Zaag (ws_if (ZaaB op_eq (pv 1) Zaah (ZaaK _))
    (Zaan (ws (ZaaZ (pe_bm PySem.F.plainAttrs_list PySem.F.slot_list_append PySem.F.type_list_append ZabC (pv 4) (Zaaa Zaah Zaae)))))
    ZaaQ)
    (Zaag (ws (Zaa4 PassesOwn.never rfl (Zado (pv 4)) (Zaak (i:=5) scLaw.nd rfl (Or.inl rfl))
    (WSs.out (Zaan (ws_if (Zabm (Zaby (Zaat CT hr9 rfl (Zaaa (pv 3) (Zaaa (pv 5) Zaae)))))
     (wss ZaaV)
     ZaaQ)))))
    (Zaan (ws_if (ZaaB op_ne (Zaat CX hr8 rfl (Zaaa (Zaat CD hr2 rfl (Zaaa (pv 2) (Zaaa Zaah (Zaaa Zaah Zaae)))) (Zaaa (pe_op ZaaE Zaah (Zaat CK hr1 rfl (Zaaa (pv 2) (Zaaa Zaah Zaae)))) Zaae))) ZacT (ZaaK _))
    (wss ZaaV)
    ZaaQ))))))))))
   (Zaan (ws (Zaax pe_bl)))),?_⟩
  refine⟨_,rfl,a,_,rfl,.inl hS,_,_,rfl,_,_,rfl,_,_,rfl,⟨by decide,by decide,?_,?_⟩,?_⟩
  ·rw[List.length_map]; split <;> split <;> omega
  ·rw[List.length_map]; split <;> split <;> omega
  have em:((if (if ((cs.map V.int).length:Int)<3 then ((cs.map V.int).length:Int) else 3) > 1 then (if ((cs.map V.int).length:Int)<3 then ((cs.map V.int).length:Int) else 3) else 1) - 0).toNat<=4:=by
   rw[List.length_map]; split <;> split <;> omega
  generalize ((if (if ((cs.map V.int).length:Int)<3 then ((cs.map V.int).length:Int) else 3) > 1 then (if ((cs.map V.int).length:Int)<3 then ((cs.map V.int).length:Int) else 3) else 1) - 0).toNat=N at em ⊢
  refine ZaaP (fun i σ H2=>∃ o1 o2 o3 o4 o5:Option V,σ=[some (.ref a),o1,o2,o3,o4,o5]/\Same H H2) ⟨none,none,none,none,none,rfl,Same.refl _⟩ ?_ ?_
  ·rintro i σ H2 hi ⟨o1,o2,o3,o4,o5,rfl,s2⟩
   refine⟨_,rfl,_,rfl,a,cs,_,rfl,s2.seq hS,by omega,by omega,fun pl H3 hpl hp3 s3=>?_⟩
   have hpl0:H pl=none:=s2.free hpl
   have s03:=s2.trans s3
   refine⟨_,rfl,pl,6,rfl,hp3,by decide,by decide,fun dp H4 p0 p1 hp4 sm4=>⟨2,dp,rfl,rfl,?_⟩⟩
   have s04:=Sm.after s03 sm4 hpl0
   obtain⟨p,ep⟩:∃ p:Nat,2+dp=(p:Int):=⟨(2+dp).toNat,by omega⟩
   dsimp only
   rw[ep]
   refine⟨_,rfl,pl,2,rfl,hp4,by decide,by decide,fun d1 H5 a0 a1 hp5 sm5=>⟨_,_,rfl,rfl,?_⟩⟩
   refine⟨_,rfl,pl,40,rfl,hp5,by decide,by decide,fun d2 H6 b0 b1 hp6 sm6=>⟨_,_,rfl,rfl,?_⟩⟩
   refine⟨_,rfl,pl,400,rfl,hp6,by decide,by decide,fun d3 H7 c0 c1 hp7 sm7=>⟨_,_,rfl,rfl,(by show 3<=sizeLine; decide),fun acc nacc=>?_⟩⟩
   have s07:=Sm.after (Sm.after (Sm.after s04 sm5 hpl0) sm6 hpl0) sm7 hpl0
   have hap:acc≠pl:=fun z=>by
    obtain⟨x,y,e⟩:=hp7
    rw[z,e] at nacc
    cases nacc
   have ha0:H acc=none:=s07.free nacc
   dsimp only
   refine cutG (fun σ' H'=>∃ ms:List Int,σ'=[some (.ref a),some (.int (0+(i:Int))),some (.ref pl),some (.int (p:Int)),some (.ref acc),o5]/\H' acc=some (.lst (ms.map V.int))/\(∀ x∈ms,1<=x/\x<=400)/\Pool H' pl/\Same H H') (fun R hR=>?_) ?_
   ·have hm3 : ∀ x ∈ [1 + d1, 1 + d2, 1 + d3], 1 ≤ x ∧ x ≤ 400 := fun x hx => by
     simp only[List.mem_cons,List.not_mem_nil,or_false] at hx
     rcases hx with rfl | rfl | rfl <;> omega
    have e8:upd H7 acc (.lst [.int (1+d1),.int (1+d2),.int (1+d3)]) acc=some (.lst ([1+d1,1+d2,1+d3].map V.int)):=Zaab
    have hp8:Pool (upd H7 acc (.lst [.int (1+d1),.int (1+d2),.int (1+d3)])) pl:=hp7.put nacc
    have s08:Same H (upd H7 acc (.lst [.int (1+d1),.int (1+d2),.int (1+d3)])):=s07.trans (Same.new nacc)
    generalize upd H7 acc (.lst [.int (1+d1),.int (1+d2),.int (1+d3)])=H8 at e8 hp8 s08 ⊢
    refine⟨_,rfl,rfl,_,rfl,ite2 (fun _=>?_) fun _=>?_⟩
    ·refine⟨_,rfl,.inl ⟨rfl,_,SqL.of e8⟩,acc,_,_,rfl,rfl,e8,Zaap (by rw[List.length_map]; show 3<=1000; decide),?_⟩
     refine hR _ _ ⟨[1+d1,1+d2,1+d3]++[400],rfl,by rw[Zaab,List.map_append]; rfl,fun x hx=>?_,(by obtain⟨x,y,e⟩:=hp8; exact⟨x,y,by rw[Zaaf (Ne.symm hap)]; exact e⟩),s08.put ha0⟩
     rcases List.mem_append.mp hx with hx | hx
     ·exact hm3 x hx
     ·rw[List.mem_singleton.mp hx]
      decide
    ·exact hR _ _ ⟨_,rfl,e8,hm3,hp8,s08⟩
   rintro σ' H6 ⟨ms,rfl,hm6,hmb,hp6,s06⟩
   refine⟨_,rfl,acc,true,rfl,⟨_,SqL.of hm6⟩,?_⟩
   refine ZagD (b:=true) (xs:=ms.map V.int) (fun j σ Hy=>∃ o5:Option V,σ=[some (.ref a),some (.int (0+(i:Int))),some (.ref pl),some (.int (p:Int)),some (.ref acc),o5]/\Same H6 Hy) ⟨_,rfl,Same.refl _⟩ (fun j σ Hy _ ⟨_,_,sy⟩=>SqL.of (sy _ _ hm6)) ?_ ?_
   ·rintro j x σ Hy hx ⟨o5,rfl,sy⟩
    rw[List.getElem?_map] at hx
    obtain⟨m,hm1,rfl⟩:=Option.map_eq_some_iff.mp hx
    have hb:=hmb m (List.mem_of_getElem? hm1)
    obtain⟨m,rfl⟩:∃ n:Nat,m=(n:Int):=⟨m.toNat,by omega⟩
    exact⟨_,rfl,_,rfl,p,m,rfl,by omega,by omega,by omega,by omega,fun H7 s7=>⟨true,rfl,iteF ⟨_,rfl,sy.trans s7⟩⟩⟩
   ·rintro σ Hy ⟨o5,rfl,sy⟩
    refine⟨_,rfl,pl,2,7,rfl,hp6.same sy,by decide,by decide,by decide,fun v Tv H7 thv hnv hvp hp7 sm7=>⟨_,rfl,pl,400,rfl,hp7,by decide,by decide,fun dm H8 m0 m1 hp8 sm8=>⟨_,_,rfl,rfl,?_⟩⟩⟩
    obtain⟨dm,rfl⟩:∃ n:Nat,dm=(n:Int):=⟨dm.toNat,by omega⟩
    have th8:Thing K H8 v Tv:=thv.sm hvp sm8
    refine⟨v,1+dm,by rw[Int.natCast_add]; rfl,by omega,by omega,Tv,th8,.inl ⟨hnv,fun H9 s9=>⟨rfl,_,rfl,?_⟩⟩⟩
    rw[show (!decide (V.str "ways"=V.str "ways"))=false from by rw[decide_eq_true rfl]; rfl]
    exact iteF ⟨_,_,_,_,_,rfl,(Sm.after (Sm.after (s06.trans sy) sm7 hpl0) sm8 hpl0).trans s9⟩
  ·rintro σ H2 _
   exact k H2
end
end Fs33
namespace Fs33
open PySem L2 Lv
section
variable {P:Program}{w:World}{K:PySem.W.Frag}{mg:Str->Option Value}{base:Heap}
def ZafO:Sp:=fun vs H Q _=>∃ p n:Nat,vs=[.int p,.int n]/\2<=p/\p<=7/\n<=560/\∀ l qs H',H l=none->H' l=some (.lst (qs.map V.ref))->DDs H' qs (sq p n)->Same H H'->Q (.ref l) H'
def ZadJ:Sp:=fun vs H Q _=>∃ (p n m0:Nat) (l:Addr) (qs:List Addr),vs=[.int p,.int n,.ref l]/\2<=p/\p<=7/\n<=300/\n<=m0/\H l=some (.lst (qs.map V.ref))/\DDs H qs (sq p m0)/\∀ d kvs H',H d=none->H' d=some (.dK kvs)->Rep kvs (cn (num p n).flatten)->Same H H'->Q (.ref d) H'
theorem scSums:FnScope ["p","n","found","at","here","part","ahead","parts"] ["p","n"] (Zaac sSums):=⟨rfl,rfl,rfl,by decide +kernel,rfl,by decide +kernel,by decide +kernel⟩
theorem Zame {p i:Nat}:((if (1+(i:Int))<(p:Int) then 1+(i:Int) else (p:Int))+1 - 1).toNat=min p (i+1):=by
 split <;> omega
theorem Zak2 {f:Addr}{fd:FuncData} (F:Fun K "_law_sums" "_law_sums" sSums f fd) (T:Txt mg):FnOk P w K mg base CX0 1 f fd ["p","n"] ZafO:=by
 refine okW F scSums (fun vs H Q E h=>?_) (fun cdv A outer s H vs Q E hr h=>?_)
 ·obtain⟨p,n,rfl,_⟩:=h
  rfl
 ·obtain⟨p,n,rfl,h1,h2,h3,k⟩:=h
  have hu:=hu_of hr
  refine⟨_,(Zaag (Zafx (i:=2) scSums.nd rfl (Or.inl rfl) (Zadb (ZabJ rfl (ZadG Zae8 Zae8) Zab4)))
   (Zaag (ws (Zaa4 PassesOwn.never rfl (ZabY rfl T.range (Zaaa Zaah (Zaaa (pe_op ZaaE (pv 1) Zaah) Zaae))) (Zaak (i:=3) scSums.nd rfl (Or.inl rfl))
   (WSs.out (Zaag (ws (Zaaq (i:=4) scSums.nd rfl (Or.inl rfl) Zacd))
    (Zaag (ws (Zaa4 PassesOwn.never rfl (ZabY rfl T.range (Zaaa Zaah (Zaaa (pe_op ZaaE (Zaaj (Zabk rfl) rfl T.min b_min (Zaaa (pv 0) (Zaaa (pv 3) Zaae))) Zaah) Zaae))) (Zaak (i:=5) scSums.nd rfl (Or.inl rfl))
    (WSs.out (Zaag (ws (Zaaq (i:=6) scSums.nd rfl (Or.inl rfl) (pe_ix Zabh (pv 2) (pe_op ZabB (pv 3) (pv 5)) (fun _ _=>rfl))))
     (Zaan (Zakd (ws (Zaa4 PassesOwn.never rfl (Zaga (pv 6)) (Zaak (i:=7) scSums.nd rfl (Or.inl rfl))
     (WSs.out (Zaan (ws (Zaf7 hu (pv 4) (pe_op ZaaE (pv 7) Zaah) (pe_op ZaaE (Zad1 hu (pv 4) (pe_op ZaaE (pv 7) Zaah) Zaah ⟨rfl,rfl,rfl,rfl⟩) (ZaeD hu (pv 6) (pv 7) (fun _ _=>rfl))) rfl))))))))))))
    (Zaan (ws (ZaaZ (pe_bm PySem.F.plainAttrs_list PySem.F.slot_list_append PySem.F.type_list_append ZabC (pv 2) (Zaaa (pv 4) Zaae))))))))))
   (Zaan (ws (Zaax (pv 2)))))),?_⟩
  intro d0 hd0
  refine⟨Zaab,[(Sum.inl 0,.int 1)],rfl,by decide,(by show 1<=sizeLine; decide),fun l hl=>?_⟩
  rw[ZafB] at hl ⊢
  have r0:Rep (Zace [] [(Sum.inl 0,.int 1)]) (cn [0]):=(Rep.nil.put (m:=0) (c:=1) (by decide)).congr fun m=>by
   rw[Zadz,Zady]
   split <;> rfl
  generalize Zace [] [(Sum.inl 0,V.int 1)]=kv at r0 hl ⊢
  have s1:Same H (upd H d0 (.dK kv)):=Same.new hd0
  have e1:upd H d0 (.dK kv) d0=some (.dK kv):=Zaab
  generalize upd H d0 (.dK kv)=H1 at s1 e1 hl ⊢
  have s2:Same H1 (upd H1 l (.lst [.ref d0])):=Same.new hl
  have e2:upd H1 l (.lst [.ref d0]) l=some (.lst [.ref d0]):=Zaab
  have hl0:H l=none:=s1.free hl
  generalize upd H1 l (.lst [.ref d0])=H2 at s2 e2 ⊢
  refine⟨_,rfl,_,_,rfl,rfl,_,_,rfl,⟨by decide,by decide,by omega,by omega⟩,?_⟩
  have en:((n:Int)+1 - 1).toNat=n:=by omega
  rw[en]
  refine ZaaP (fun i σ H2=>∃ (qs:List Addr) (o3 o4 o5 o6 o7:Option V),σ=[some (.int p),some (.int n),some (.ref l),o3,o4,o5,o6,o7]/\H2 l=some (.lst (qs.map V.ref))/\DDs H2 qs (sq p i)/\Same H H2)
   ⟨[d0],none,none,none,none,none,rfl,e2,?_,s1.trans s2⟩ ?_ ?_
  ·have : sq p 0 = [[0]] := by
    show [rl p 0 0]=_
    rw[Zaf3]; rfl
   rw[this]
   exact DDs.nil.cons (s2 _ _ e1) r0
  ·rintro i σ H2 hi ⟨qs,o3,o4,o5,o6,o7,rfl,hl2,hq,s02⟩
   have hql:=hq.1
   rw[Zai3] at hql
   intro d hd
   have nld:l≠d:=Zaad hl2 hd
   have s3:Same H2 (upd H2 d (.dK [])):=Same.new hd
   have e3:upd H2 d (.dK []) d=some (.dK []):=Zaab
   generalize upd H2 d (.dK [])=H3 at s3 e3 ⊢
   refine⟨_,rfl,_,rfl,_,_,rfl,_,_,rfl,rfl,_,_,rfl,⟨by decide,by decide,?_,?_⟩,?_⟩
   ·split <;> omega
   ·split <;> omega
   rw[Zame]
   refine ZaaP (fun j σ H4=>∃ (kvs:List (Key × V)) (o5 o6 o7:Option V),σ=[some (.int p),some (.int n),some (.ref l),some (.int (1+(i:Int))),some (.ref d),o5,o6,o7]/\H4 d=some (.dK kvs)/\Rep kvs (fun m=>sm (fun t=>fz p (i+1 - t) (m - 1)) j)/\Sm d H3 H4)
    ⟨[],_,_,_,rfl,e3,Rep.nil,Sm.refl _ _⟩ ?_ ?_
   ·rintro j σ H4 hj ⟨kvs,o5,o6,o7,rfl,ed,rp,sm4⟩
    have hji:j<=i:=by omega
    have hl4:=sm4 _ _ (s3 _ _ hl2) nld
    obtain⟨r,hr'⟩:∃ r,qs[i - j]?=some r:=⟨_,List.getElem?_eq_getElem (by omega)⟩
    obtain⟨xs,ka,hxs,hka,rpa⟩:=hq.at hr'
    rw[sq_at (by omega)] at hxs
    cases hxs
    have nrd:r≠d:=Zaad hka hd
    have hka4:=sm4 _ _ (s3 _ _ hka) nrd
    refine⟨_,rfl,_,rfl,_,rfl,_,_,rfl,rfl,l,_,_,.ref r,rfl,rfl,SqL.of hl4,?_,?_⟩
    ·rw[show (1+(i:Int)) - (1+(j:Int))=((i - j:Nat):Int) by omega]
     exact ZabG (by rw[List.getElem?_map,hr']; rfl)
    refine .inl ⟨r,ka,hka4,fun o=>⟨_,rfl,r,o,ka,rfl,Zaab,?_⟩⟩
    refine ZagF (kvs:=ka) (fun t σ H5=>∃ (kvs:List (Key × V)) (o7:Option V),σ=[some (.int p),some (.int n),some (.ref l),some (.int (1+(i:Int))),some (.ref d),some (.int (1+(j:Int))),some (.ref r),o7]/\H5 r=some (.frz o (.dK ka))/\H5 d=some (.dK kvs)/\(∀ c u,H4 c=some u->c≠r->c≠d->H5 c=some u) /\
     Rep kvs (fun m=>sm (fun t=>fz p (i+1 - t) (m - 1)) j+tkn (fz p (i - j)) ((ka.take t).map (·.1)) (m - 1))) ⟨kvs,_,rfl,Zaab,by rw[Zaaf (Ne.symm nrd)]; exact ed,fun c u hc nc _=>by rw[Zaaf nc]; exact hc,rp.congr fun m=>by rw[List.take_zero,List.map_nil,Zaer,Int.add_zero]⟩
     (fun t σ H5 _ z=>by obtain⟨_,_,_,e,_⟩:=z; exact e) ?_ ?_
    ·rintro t kk vv σ H5 ht ⟨kvs,o7,rfl,er,ed5,sm5,rp5⟩
     obtain⟨m,rfl,rfl,hz⟩:=rpa.at (List.mem_of_getElem? ht)
     have hv:valV ka (Sum.inl m)=some (.int (fz p (i - j) m)):=ZacE rpa.2.1 (List.mem_of_getElem? ht)
     have hnot:=ZaeH rpa.2.1 ht
     refine⟨_,rfl,d,rfl,.inl ⟨kvs,.inl ed5⟩,_,rfl,_,_,rfl,rfl,_,DGet.k (k:=Sum.inl (m+1)) ed5,?_⟩
     rw[rp5.get (m+1)]
     refine⟨_,rfl,_,rfl,r,.int (fz p (i - j) m),rfl,by have:=DGet.kf (k:=Sum.inl m) er; rwa [hv] at this,?_⟩
     refine⟨_,_,rfl,rfl,_,rfl,_,rfl,_,_,rfl,rfl,d,_,rfl,DPut.k (k:=Sum.inl (m+1)) ed5 ?_,?_⟩
     ·have := rp5.len (B := 600) fun a ha => by
       by_cases z:sm (fun t=>fz p (i+1 - t) (a - 1)) j=0
       ·have:fz p (i - j) (a - 1)≠0:=fun y=>ha (by rw[z,ZacH y]; rfl)
        have:=fz_bd h1 this
        omega
       ·obtain⟨b,_,_,hb⟩:=sm_ne z
        have:=fz_bd h1 hb
        omega
      exact Zaap (by omega)
     ·have em:m+1 - 1=m:=by omega
      refine⟨_,_,rfl,by rw[Zaaf nrd]; exact er,Zaab,fun c u hc n1 n2=>by rw[Zaaf n2]; exact sm5 c u hc n1 n2,(rp5.put (m:=m+1) (c:=_+fz p (i - j) m) ?_).congr fun a=>?_⟩
      ·rw[em,ZabR hnot]
       have:=sm_nn (g:=fun t=>fz p (i+1 - t) m) (fun t=>fz_nn _ _ _) j
       have:=fz_nn p (i - j) m
       have q3:fz p (i - j) m≠0:=hz
       omega
      ·rw[Zab0 ht,ZacI hnot]
       by_cases e:a=m+1
       ·subst e
        rw[if_pos rfl,em,if_pos rfl,ZabR hnot]
        omega
       ·rw[if_neg e,if_neg (by omega)]
    ·rintro σ H5 ⟨kvs,o7,rfl,er,ed5,sm5,rp5⟩
     refine⟨er,kvs,_,_,_,rfl,by rw[Zaaf (Ne.symm nrd)]; exact ed5,rp5.congr fun m=>?_,fun c u hc nc=>?_⟩
     ·rw[List.take_length,sm,Zaes (g:=fz p (i - j)) rpa]
      have:i+1 - (j+1)=i - j:=by omega
      rw[this]
     ·have h4:=sm4 c u hc nc
      by_cases e:c=r
      ·subst e; rw[Zaab,<- hka4,h4]
      ·rw[Zaaf e]; exact sm5 c u h4 e nc
   ·rintro σ H4 ⟨kvs,o5,o6,o7,rfl,ed,rp,sm4⟩
    have hl4:=sm4 _ _ (s3 _ _ hl2) nld
    refine⟨_,rfl,.inl ⟨rfl,_,SqL.of hl4⟩,_,rfl,l,_,_,rfl,rfl,hl4,?_,?_⟩
    ·exact Zaap (by rw[List.length_map]; omega)
    ·have ndl:d≠l:=Ne.symm nld
     have rp':Rep kvs (cn (rl p (i+1) 0)):=rp.congr fun m=>(Zamr h1 (by omega) m).symm
     refine⟨qs++[d],_,_,_,_,_,rfl,by rw[Zaab]; simp,?_,fun c u hc=>?_⟩
     ·rw[Zakr]
      refine DDs.snoc ⟨by rw[hq.1],fun a r' ys h' h''=>?_⟩ (by rw[Zaaf ndl]; exact ed) rp'
      obtain⟨ka,hka,rpa⟩:=hq.2 a r' ys h' h''
      exact⟨ka,by rw[Zaaf (ne_of hka hl2 (fun z=>nomatch z))]; exact sm4 _ _ (s3 _ _ hka) (Zaad hka hd),rpa⟩
     ·have hdH:H d=none:=s02.free hd
      rw[Zaaf (Zaad hc hl0)]
      exact sm4 _ _ (s3 _ _ (s02 _ _ hc)) (Zaad hc hdH)
  ·rintro σ H2 ⟨qs,o3,o4,o5,o6,o7,rfl,hl2,hq,s02⟩
   exact⟨_,rfl,k l qs H2 hl0 hl2 hq s02⟩
theorem scSpr4:FnScope ["p","n","sums","found","part","ahead","parts","more"] ["p","n","sums"] (Zaac sSpr4):=⟨rfl,rfl,rfl,by decide +kernel,rfl,by decide +kernel,by decide +kernel⟩
theorem Zala {p n:Nat}:((if (n:Int)<(p:Int) then (n:Int) else (p:Int))+1 - 1).toNat=min p n:=by
 split <;> omega
theorem Zak3 {f:Addr}{fd:FuncData} (F:Fun K "_law_spread" "_law_spread" sSpr4 f fd) (T:Txt mg):FnOk P w K mg base CX0 1 f fd ["p","n","sums"] ZadJ:=by
 refine okW F scSpr4 (fun vs H Q E h=>?_) (fun cdv A outer s H vs Q E hr h=>?_)
 ·obtain⟨p,n,m0,l,qs,rfl,_⟩:=h
  rfl
 ·obtain⟨p,n,m0,l,qs,rfl,h1,h2,h3,hnm,hl,hq,k⟩:=h
  have hu:=hu_of hr
  refine⟨_,(Zaag (ws_if (ZaaB op_eq (pv 1) Zaah (ZaaK _))
   (Zaan (Zae4 (ZadG Zae8 Zae8)))
   ZaaQ)
   (Zaag (ws (Zaaq (i:=3) scSpr4.nd rfl (Or.inl rfl) Zacd))
   (Zaag (ws (Zaa4 PassesOwn.never rfl (ZabY rfl T.range (Zaaa Zaah (Zaaa (pe_op ZaaE (Zaaj (Zabk rfl) rfl T.min b_min (Zaaa (pv 0) (Zaaa (pv 1) Zaae))) Zaah) Zaae))) (Zaak (i:=4) scSpr4.nd rfl (Or.inl rfl))
   (WSs.out (Zaag (ws (Zaaq (i:=5) scSpr4.nd rfl (Or.inl rfl) (pe_ix Zabh (pv 2) (pe_op ZabB (pv 1) (pv 4)) (fun _ _=>rfl))))
    (Zaan (Zakd (ws (Zaa4 PassesOwn.never rfl (Zaga (pv 5)) (Zaak (i:=6) scSpr4.nd rfl (Or.inl rfl))
    (WSs.out (Zaag (ws (Zaaq (i:=7) scSpr4.nd rfl (Or.inl rfl) (pe_op Zabu (pe_op ZaaE (pe_op ZabB (pv 0) (pv 4)) Zaah) (ZaeD hu (pv 5) (pv 6) (fun _ _=>rfl)))))
     (Zaan (ws (Zaf7 hu (pv 3) (pe_op ZaaE (pv 6) Zaah) (pe_op ZaaE (Zad1 hu (pv 3) (pe_op ZaaE (pv 6) Zaah) Zaah ⟨rfl,rfl,rfl,rfl⟩) (pv 7)) rfl)))))))))))))
   (Zaan (ws (Zaax (pv 3))))))),?_⟩
  refine⟨_,rfl,rfl,_,rfl,ite2 (fun hn=>?_) fun hn=>?_⟩
  ·have hn0:n=0:=by simpa[scal] using hn
   subst hn0
   intro d hd
   refine⟨Zaab,[(Sum.inl 0,.int 1)],rfl,by decide,?_⟩
   rw[ZafB]
   have r0:Rep (Zace [] [(Sum.inl 0,.int 1)]) (cn [0]):=(Rep.nil.put (m:=0) (c:=1) (by decide)).congr fun m=>by
    rw[Zadz,Zady]
    split <;> rfl
   exact k d _ _ hd Zaab (r0.congr fun m=>(ZahX p m).symm) (Same.new hd)
  ·have hn0 : 0 < n := by
    rcases Nat.eq_zero_or_pos n with z | z
    ·subst z; exact absurd rfl hn
    ·exact z
   have hql:=hq.1
   rw[Zai3] at hql
   intro d hd
   have nld:l≠d:=Zaad hl hd
   have s3:Same H (upd H d (.dK [])):=Same.new hd
   have e3:upd H d (.dK []) d=some (.dK []):=Zaab
   generalize upd H d (.dK [])=H3 at s3 e3 ⊢
   refine⟨_,rfl,_,rfl,_,_,rfl,_,_,rfl,rfl,_,_,rfl,⟨by decide,by decide,?_,?_⟩,?_⟩
   ·split <;> omega
   ·split <;> omega
   rw[Zala]
   refine ZaaP (fun j σ H4=>∃ (kvs:List (Key × V)) (o4 o5 o6 o7:Option V),σ=[some (.int p),some (.int n),some (.ref l),some (.ref d),o4,o5,o6,o7]/\H4 d=some (.dK kvs)/\Rep kvs (fun m=>sm (fun t=>((p:Int) - t+1)*fz p (n - t) (m - 1)) j)/\Sm d H3 H4)
    ⟨[],_,_,_,_,rfl,e3,Rep.nil,Sm.refl _ _⟩ ?_ ?_
   ·rintro j σ H4 hj ⟨kvs,o4,o5,o6,o7,rfl,ed,rp,sm4⟩
    have hjn:j<n:=by omega
    have hjp:j<p:=by omega
    have hl4:=sm4 _ _ (s3 _ _ hl) nld
    obtain⟨r,hr'⟩:∃ r,qs[n - (j+1)]?=some r:=⟨_,List.getElem?_eq_getElem (by omega)⟩
    obtain⟨xs,ka,hxs,hka,rpa⟩:=hq.at hr'
    rw[sq_at (by omega)] at hxs
    cases hxs
    have nrd:r≠d:=Zaad hka hd
    have hka4:=sm4 _ _ (s3 _ _ hka) nrd
    refine⟨_,rfl,_,rfl,_,rfl,_,_,rfl,rfl,l,_,_,.ref r,rfl,rfl,SqL.of hl4,?_,?_⟩
    ·rw[show (n:Int) - (1+(j:Int))=((n - (j+1):Nat):Int) by omega]
     exact ZabG (by rw[List.getElem?_map,hr']; rfl)
    refine .inl ⟨r,ka,hka4,fun o=>⟨_,rfl,r,o,ka,rfl,Zaab,?_⟩⟩
    have hcc:(0:Int)<(p:Int) - (1+(j:Int))+1:=by omega
    have ec:(p:Int) - ((j+1:Nat):Int)+1=(p:Int) - (1+(j:Int))+1:=by omega
    refine ZagF (kvs:=ka) (fun t σ H5=>∃ (kvs:List (Key × V)) (o6 o7:Option V),σ=[some (.int p),some (.int n),some (.ref l),some (.ref d),some (.int (1+(j:Int))),some (.ref r),o6,o7]/\H5 r=some (.frz o (.dK ka))/\H5 d=some (.dK kvs)/\(∀ c u,H4 c=some u->c≠r->c≠d->H5 c=some u) /\
     Rep kvs (fun m=>sm (fun t=>((p:Int) - t+1)*fz p (n - t) (m - 1)) j+((p:Int) - (1+(j:Int))+1)*tkn (fz p (n - (j+1))) ((ka.take t).map (·.1)) (m - 1))) ⟨kvs,_,_,rfl,Zaab,by rw[Zaaf (Ne.symm nrd)]; exact ed,fun c u hc nc _=>by rw[Zaaf nc]; exact hc,rp.congr fun m=>by rw[List.take_zero,List.map_nil,Zaer,Int.mul_zero,Int.add_zero]⟩
     (fun t σ H5 _ z=>by obtain⟨_,_,_,_,e,_⟩:=z; exact e) ?_ ?_
    ·rintro t kk vv σ H5 ht ⟨kvs,o6,o7,rfl,er,ed5,sm5,rp5⟩
     obtain⟨m,rfl,rfl,hz⟩:=rpa.at (List.mem_of_getElem? ht)
     have hv:valV ka (Sum.inl m)=some (.int (fz p (n - (j+1)) m)):=ZacE rpa.2.1 (List.mem_of_getElem? ht)
     have hnot:=ZaeH rpa.2.1 ht
     refine⟨_,rfl,_,rfl,_,_,rfl,rfl,_,_,rfl,rfl,_,rfl,_,rfl,r,.int (fz p (n - (j+1)) m),rfl,by have:=DGet.kf (k:=Sum.inl m) er; rwa [hv] at this,?_⟩
     refine⟨_,_,rfl,rfl,.inl ⟨by omega,by omega⟩,?_⟩
     refine⟨_,rfl,d,rfl,.inl ⟨kvs,.inl ed5⟩,_,rfl,_,_,rfl,rfl,_,DGet.k (k:=Sum.inl (m+1)) ed5,?_⟩
     rw[rp5.get (m+1)]
     refine⟨_,rfl,_,_,rfl,rfl,_,rfl,_,rfl,_,_,rfl,rfl,d,_,rfl,DPut.k (k:=Sum.inl (m+1)) ed5 ?_,?_⟩
     ·have := rp5.len (B := 600) fun a ha => by
       by_cases z:sm (fun t=>((p:Int) - t+1)*fz p (n - t) (a - 1)) j=0
       ·have:fz p (n - (j+1)) (a - 1)≠0:=fun y=>ha (by rw[z,ZacH y,Int.mul_zero]; rfl)
        have:=fz_bd h1 this
        omega
       ·obtain⟨b,_,_,hb⟩:=sm_ne z
        have:=fz_bd h1 (fun y=>hb (by rw[y,Int.mul_zero]))
        omega
      exact Zaap (by omega)
     ·have em:m+1 - 1=m:=by omega
      refine⟨_,_,_,rfl,by rw[Zaaf nrd]; exact er,Zaab,fun c u hc n1 n2=>by rw[Zaaf n2]; exact sm5 c u hc n1 n2,(rp5.put (m:=m+1) (c:=_+((p:Int) - (1+(j:Int))+1)*fz p (n - (j+1)) m) ?_).congr fun a=>?_⟩
      ·rw[em,ZabR hnot,Int.mul_zero]
       have q1:0<=sm (fun t=>((p:Int) - t+1)*fz p (n - t) m) j:=by
        have:∀ b,b<=j->0<=sm (fun t=>((p:Int) - t+1)*fz p (n - t) m) b:=by
         intro b
         induction b with
         | zero=>intro _; exact Int.le_refl _
         | succ b ih=>
          intro hb
          have:=ih (by omega)
          have q:=Int.mul_nonneg (show (0:Int)<=(p:Int) - ((b+1:Nat):Int)+1 by omega) (fz_nn p (n - (b+1)) m)
          show 0<=sm (fun t=>((p:Int) - t+1)*fz p (n - t) m) b+((p:Int) - ((b+1:Nat):Int)+1)*fz p (n - (b+1)) m
          omega
        exact this j (Nat.le_refl _)
       have q2:0<((p:Int) - (1+(j:Int))+1)*fz p (n - (j+1)) m:=Int.mul_pos hcc (by have:=fz_nn p (n - (j+1)) m; have:fz p (n - (j+1)) m≠0:=hz; omega)
       omega
      ·rw[Zab0 ht,ZacI hnot]
       by_cases e:a=m+1
       ·subst e
        rw[if_pos rfl,em,if_pos rfl,ZabR hnot,Int.mul_zero]
        omega
       ·rw[if_neg e,if_neg (by omega)]
    ·rintro σ H5 ⟨kvs,o6,o7,rfl,er,ed5,sm5,rp5⟩
     refine⟨er,kvs,_,_,_,_,rfl,by rw[Zaaf (Ne.symm nrd)]; exact ed5,rp5.congr fun m=>?_,fun c u hc nc=>?_⟩
     ·rw[List.take_length,sm,Zaes (g:=fz p (n - (j+1))) rpa,ec]
     ·have h4:=sm4 c u hc nc
      by_cases e:c=r
      ·subst e; rw[Zaab,<- hka4,h4]
      ·rw[Zaaf e]; exact sm5 c u h4 e nc
   ·rintro σ H4 ⟨kvs,o4,o5,o6,o7,rfl,ed,rp,sm4⟩
    exact⟨_,rfl,k d kvs H4 hd ed (rp.congr fun m=>(Zaj1 h1 hn0 m).symm) fun c u hc=>sm4 _ _ (s3 _ _ hc) (Zaad hc hd)⟩
end
end Fs33
namespace Fs33
open PySem L2 Lv
section
variable {P:Program}{w:World}{K:PySem.W.Frag}{mg:Str->Option Value}{base:Heap}
theorem scLBest:FnScope ["p","rows","found","n","sums","spread","reading"] ["p","rows"] (Zaac ZadU):=⟨rfl,rfl,rfl,by decide +kernel,rfl,by decide +kernel,by decide +kernel⟩
theorem Zal5 {t:TT}{σ:L2.St}{H:Hp}{Kc:Bool->Hp->Prop} (A B:Prop) (h:∀ K':Bool->Hp->Prop,(A->K' true H)->(B->K' false H)->t σ H K') (hA:A->Kc true H) (hB:B->Kc false H):t σ H Kc:=h Kc hA hB
def Zaew:Sp:=fun vs H Q _=>∃ (p:Nat) (r:Int),vs=[.int p,.int r]/\2<=p/\p<=7/\1<=r/\r<=1000000000000/\∀ l q H',Bst (num p) 301 r q->H' l=some (.tup [.int q.1,.int q.2])->Same H H'->Q (.ref l) H'
theorem ZajF {f f1 f2 f3:Addr}{fd d1 d2 d3:FuncData} (F:Fun K "_law_best" "_law_best" ZadU f fd) (T:Txt mg) (CA:Cal P w K mg base 1 "_law_sums" ["p","n"] ZafO f1 d1) (CD:Cal P w K mg base 1 "_law_spread" ["p","n","sums"] ZadJ f2 d2) (CL:Cal P w K mg base 1 "_law_least" ["spread","rows"] ZacQ f3 d3):FnOk P w K mg base CX0 2 f fd ["p","rows"] Zaew:=by
 refine okW F scLBest (fun vs H Q E h=>?_) (fun cdv A outer s H vs Q E hr h=>?_)
 ·obtain⟨p,r,rfl,_⟩:=h
  rfl
 ·obtain⟨p,r,rfl,h1,h2,r1,r2,k⟩:=h
  have hr1:Room 1 _:=hr.mono (by decide)
  have hu:=hu_of hr
  refine⟨_,(Zaag (ws (Zaaq (i:=2) scLBest.nd rfl (Or.inl rfl) ZacU))
   (Zaag (ws (Zaaq (i:=3) scLBest.nd rfl (Or.inl rfl) Zaah))
   (Zaag (ws (Zaaq (i:=4) scLBest.nd rfl (Or.inl rfl) (Zaat CA hr1 rfl (Zaaa (pv 0) (Zaaa Zaah Zaae)))))
   (Zaag (ws (Zajk PassesOwn.never (PW.pt (pw_or (Zajj (Zaju (pv 2))) (Zab9 (ZaaB op_lt (pe_op Zabu (pv 1) (pe_op Zaiv (pe_op ZabB (pe_op ZaaE (pv 3) (pv 0)) Zaah) (pv 0))) (pe_ix Zabd (pv 2) Zaah (fun _ _=>rfl)) (ZaaK _)))))
   (WSs.out (Zaag (ws_if (ZaaB op_ge (pv 3) (Zaaj ZaaC rfl T.len PySem.boot_len (Zaaa (pv 4) Zaae)) (ZaaK _))
    (Zaan (ws (Zaaq (i:=4) scLBest.nd rfl (Or.inl rfl) (Zaat CA hr1 rfl (Zaaa (pv 0) (Zaaa (pe_op Zabu Zaah (pv 3)) Zaae))))))
    ZaaQ)
    (Zaag (ws (Zaaq (i:=5) scLBest.nd rfl (Or.inr rfl) (Zaat CD hr1 rfl (Zaaa (pv 0) (Zaaa (pv 3) (Zaaa (pv 4) Zaae))))))
    (Zaag (ws_if (ZaaB op_ge (Zaaj (ZaeW rfl) rfl T.sum b_sum (Zaaa (ZakT (Zaba (own:=["number"]) (js:=[5]) (CompOk.by (sc:=Zaac ZadU) (N:=["p","rows","found","n","sums","spread","reading"]) rfl rfl (by decide +kernel)) rfl (Zaga (pv 5)) Zaay (fun _ _ _ _ _=>(Zaak (i:=0) (by show (["number","spread"]:List Str).Nodup; decide +kernel) rfl (Or.inl rfl) (.inr rfl))) (fun _ _ _ _ _=>ZaaW) (fun _ _ _ _ _=>(ZaeD hu (pv 1) (pv 0) (fun _ _=>rfl))))) Zaae)) (pv 1) (ZaaK _))
    (Zaag (ws (Zaaq (i:=6) scLBest.nd rfl (Or.inl rfl) (Zaat CL hr1 rfl (Zaaa (pv 5) (Zaaa (pv 1) Zaae)))))
     (Zaan (ws_if (PW.pt (pw_or (Zajj (Zaju (pv 2))) (Zab9 (ZaaB op_lt (pv 6) (pe_ix Zabd (pv 2) Zaah (fun _ _=>rfl)) (ZaaK _)))))
     (Zaan (ws (Zaaq (i:=2) scLBest.nd rfl (Or.inl rfl) (Zacm (Zaaa (pv 6) (Zaaa (pv 3) Zaae))))))
     ZaaQ)))
    ZaaQ)
    (Zaan (ws (Zaaq (i:=3) scLBest.nd rfl (Or.inl rfl) (pe_op ZaaE (pv 3) Zaah))))))))))
   (Zaan (ws (Zaax (pv 2)))))))),?_⟩
  refine⟨_,rfl,p,40,rfl,h1,h2,by decide,fun l0 q0 H1 hl00 hl01 hq0 s1=>?_⟩
  refine⟨fun mm σ Hx=>∃ (n m0:Nat) (st:Option (Int × Nat)) (fv:V) (la:Addr) (qs:List Addr) (o5 o6:Option V),σ=[some (.int p),some (.int r),some fv,some (.int (n:Int)),some (.ref la),o5,o6]/\mm=400 - n/\n<=267/\BoV Hx fv st/\IsBest (gS (num p) r) n st/\Hx la=some (.lst (qs.map V.ref))/\DDs Hx qs (sq p m0)/\n<=m0+1/\Same H Hx,
   ⟨_,0,40,none,.non,l0,q0,none,none,rfl,rfl,by decide,rfl,fun n hn=>absurd hn (Nat.not_lt_zero _),hl01,hq0,by decide,s1⟩,?_⟩
  rintro mm σ Hx ⟨n,m0,st,fv,la,qs,o5,o6,rfl,rfl,hn267,hbv,hbest,hla,hqs,hnm,sx⟩
  have hceil:((n:Int)+(p:Int) - 1) / (p:Int)=ceilP p n:=rfl
  refine Zal5 (∀ q,st=some q->r*ceilP p n<q.1) (∃ q,st=some q/\¬ r*ceilP p n<q.1) (fun Kc hA hB=>?_) (fun hg=>?_) (fun ⟨q,eq,hng⟩=>?_)
  ·cases st with
   | none=>
    have ev:fv=.non:=hbv
    subst ev
    exact⟨_,rfl,_,rfl,iteT (hA fun q e=>nomatch e)⟩
   | some q=>
    obtain⟨a,rfl,ha⟩:=hbv
    refine⟨_,rfl,_,rfl,iteF ?_⟩
    refine⟨_,rfl,_,rfl,_,rfl,_,_,rfl,rfl,_,_,rfl,rfl,_,rfl,_,_,rfl,rfl,⟨by omega,by omega⟩,_,_,rfl,rfl,.inl ⟨by omega,by omega⟩,_,rfl,a,_,_,.int q.1,rfl,rfl,SqT.of ha,rfl,_,_,rfl,rfl,_,rfl,?_⟩
    rw[hceil]
    by_cases hlt:r*ceilP p n<q.1
    ·rw[decide_eq_true hlt]
     exact hA fun q' e=>by cases e; exact hlt
    ·rw[decide_eq_false hlt]
     exact hB ⟨q,rfl,hlt⟩
  ·have hn6:=Zamb h1 h2 r1 r2 hbest hg
   refine iteT ⟨fun σ' H'=>∃ m',m'<400 - n/\∃ (n m0:Nat) (st:Option (Int × Nat)) (fv:V) (la:Addr) (qs:List Addr) (o5 o6:Option V),σ'=[some (.int p),some (.int r),some fv,some (.int (n:Int)),some (.ref la),o5,o6]/\m'=400 - n/\n<=267/\BoV H' fv st/\IsBest (gS (num p) r) n st/\H' la=some (.lst (qs.map V.ref))/\DDs H' qs (sq p m0)/\n<=m0+1/\Same H H',fun σ' H' h=>h,?_⟩
   refine cut1 (fun σ' H'=>∃ (la:Addr) (qs:List Addr) (m0:Nat),σ'=[some (.int p),some (.int r),some fv,some (.int (n:Int)),some (.ref la),o5,o6]/\H' la=some (.lst (qs.map V.ref))/\DDs H' qs (sq p m0)/\n<=m0/\Same Hx H') (fun R hR=>?_) ?_
   ·have hql:=hqs.1
    rw[Zai3] at hql
    refine⟨_,rfl,_,rfl,la,_,rfl,.inl (SqL.of hla),_,_,rfl,rfl,_,rfl,?_⟩
    dsimp only
    rw[List.length_map,hql]
    by_cases hge:(n:Int) ≥ ((m0+1:Nat):Int)
    ·rw[decide_eq_true hge]
     refine iteT ?_
     refine⟨_,rfl,_,rfl,_,_,rfl,rfl,.inl ⟨by decide,by decide⟩,p,2*n,by rw[Int.natCast_mul]; rfl,h1,h2,by omega,fun l2 q2 H2 hl20 hl21 hq2 s2=>?_⟩
     exact hR _ _ ⟨l2,q2,2*n,rfl,hl21,hq2,by omega,s2⟩
    ·rw[decide_eq_false hge]
     exact iteF (hR _ _ ⟨la,qs,m0,rfl,hla,hqs,by omega,Same.refl _⟩)
   rintro σ' H' ⟨la',qs',m0',rfl,hla',hqs',hnm',sx'⟩
   refine⟨_,rfl,_,rfl,_,rfl,p,n,m0',la',qs',rfl,h1,h2,by omega,hnm',hla',hqs',fun d kvs H2 hd ed rp s2=>?_⟩
   dsimp only
   refine cutG (fun σ' H'=>∃ (fv':V) (o6:Option V),σ'=[some (.int p),some (.int r),some fv',some (.int (n:Int)),some (.ref la'),some (.ref d),o6]/\BoV H' fv' (Zabe (gS (num p) r) n st)/\Same H2 H') (fun R hR=>?_) ?_
   ·have hbv2:=(hbv.same sx').same s2
    refine .inl ⟨d,kvs,ed,fun o=>⟨_,rfl,d,o,kvs,rfl,Zaab,?_⟩⟩
    have hkl:kvs.length<=300+1:=rp.len fun m hm=>by have:=ZagY (Zaeg p n) m hm; omega
    have hnn:∀ acc,upd H2 d (.frz o (.dK kvs)) acc=none->acc≠d/\H2 acc=none:=fun acc z=>by
     have n2:acc≠d:=fun y=>by rw[y,Zaab] at z; cases z
     rw[Zaaf n2] at z
     exact⟨n2,z⟩
    refine Zah9 (kvs:=kvs) (fun acc i H3=>H3 acc=some (.lst ((((kvs.take i).map Lv.dec).map (·.2)).map V.int))/\H3 d=some (.frz o (.dK kvs))/\∀ c u,H2 c=some u->c≠d->H3 c=some u) ?_ (fun acc i H3 h0 _ z=>z.2.1) ?_ ?_
    ·intro acc h0
     obtain⟨n2,hacc⟩:=hnn acc h0
     refine⟨Zaab,by rw[Zaaf (Ne.symm n2),Zaab],fun c u hc nc=>?_⟩
     rw[Zaaf (Zaad hc hacc),Zaaf nc]; exact hc
    ·rintro acc i kk vv H3 h0 hi ⟨ea,er,sm⟩
     obtain⟨n2,hacc⟩:=hnn acc h0
     obtain⟨m,rfl,rfl,hz⟩:=rp.at (List.mem_of_getElem? hi)
     have hi':=(List.getElem?_eq_some_iff.mp hi).1
     have hv:valV kvs (Sum.inl m)=some (.int (cn (num p n).flatten m)):=ZacE rp.2.1 (List.mem_of_getElem? hi)
     refine⟨_,rfl,_,rfl,d,.int (cn (num p n).flatten m),rfl,by have:=DGet.kf (k:=Sum.inl m) er; rwa [hv] at this,_,ea,Zaap (by simp; omega),hi',?_,?_,fun c u hc nc=>?_⟩
     ·rw[Zaab,List.take_add_one,hi]
      simp[Lv.dec]
     ·rw[Zaaf (Ne.symm n2)]; exact er
     ·rw[Zaaf (Zaad hc hacc)]; exact sm c u hc nc
    rintro acc H3 h0 ⟨ea,er,sm⟩
    obtain⟨n2,hacc⟩:=hnn acc h0
    rw[List.take_length] at ea
    refine⟨er,acc,_,rfl,SqL.of (by rw[Zaaf n2]; exact ea),_,rfl,_,_,rfl,rfl,_,rfl,?_⟩
    have s3:Same H2 (upd H3 d (.dK kvs)):=fun c u hc=>by
     by_cases e:c=d
     ·subst e; rw[Zaab,<- ed,hc]
     ·rw[Zaaf e]; exact sm c u hc e
    dsimp only
    rw[ZakE rp,ZaeN]
    generalize upd H3 d (.dK kvs)=H4 at s3 ⊢
    have ed4:=s3 _ _ ed
    have hbv4:=hbv2.same s3
    by_cases hge:r<=tot p n
    ·rw[decide_eq_true (show r<=(cnt p n).sum from hge)]
     refine iteT ?_
     refine⟨_,rfl,_,rfl,d,kvs,p,n,r,rfl,h1,by omega,ed4,rp,by omega,fun M H5 hM s5=>?_⟩
     have hgv:=g_of h1 (by omega) r1 hge hM
     generalize (lsF M (0,r)).1=v at hgv ⊢
     cases st with
     | none=>
      have ev:fv=.non:=hbv
      subst ev
      refine⟨_,rfl,_,rfl,iteT ⟨_,rfl,_,rfl,(by show 2<=sizeLine; decide),fun t nt=>?_⟩⟩
      exact hR _ _ ⟨.ref t,_,rfl,by rw[show Zabe (gS (num p) r) n none=some (v,n) by unfold Zabe; rw[hgv]]; exact⟨t,rfl,Zaab⟩,(s3.trans s5).trans (Same.new nt)⟩
     | some q=>
      obtain⟨a,rfl,ha⟩:=hbv4
      have ha5:=s5 _ _ ha
      refine⟨_,rfl,_,rfl,iteF ⟨_,rfl,_,rfl,a,_,_,.int q.1,rfl,rfl,SqT.of ha5,rfl,_,_,rfl,rfl,_,rfl,?_⟩⟩
      dsimp only
      by_cases hlt:v<q.1
      ·rw[decide_eq_true hlt]
       refine iteT ⟨_,rfl,_,rfl,(by show 2<=sizeLine; decide),fun t nt=>?_⟩
       exact hR _ _ ⟨.ref t,_,rfl,by rw[show Zabe (gS (num p) r) n (some q)=some (v,n) by unfold Zabe; rw[hgv]; exact if_pos hlt]; exact⟨t,rfl,Zaab⟩,(s3.trans s5).trans (Same.new nt)⟩
      ·rw[decide_eq_false hlt]
       refine iteF ?_
       exact hR _ _ ⟨.ref a,_,rfl,by rw[show Zabe (gS (num p) r) n (some q)=some q by unfold Zabe; rw[hgv]; exact if_neg hlt]; exact⟨a,rfl,ha5⟩,s3.trans s5⟩
    ·rw[decide_eq_false (show ¬ r<=(cnt p n).sum from hge)]
     refine iteF ?_
     exact hR _ _ ⟨fv,_,rfl,by rw[show Zabe (gS (num p) r) n st=st by unfold Zabe; rw[Zamp h1 (by omega) r1 (by omega)]]; exact hbv4,s3⟩
   rintro σ'' H3 ⟨fv',o6',rfl,hbv',s3⟩
   have sx3:=(sx'.trans s2).trans s3
   refine⟨_,rfl,_,_,rfl,rfl,400 - (n+1),by omega,n+1,m0',_,fv',la',qs',_,_,rfl,rfl,by omega,hbv',hbest.step,((s2.trans s3) _ _ hla'),hqs'.same (s2.trans s3),by omega,sx.trans sx3⟩
  ·subst eq
   obtain⟨a,rfl,ha⟩:=hbv
   exact iteF ⟨_,rfl,k a q Hx (fin32 h1 r1 (by omega) hbest hng) ha sx⟩
end
end Fs33
namespace Fs33
open PySem L2 Lv
section
variable {P:Program}{w:World}{K:PySem.W.Frag}{mg:Str->Option Value}{base:Heap}
theorem scRight:FnScope ["p","rows","due","found","reading","many","numbers","reel"] ["p","rows"] (Zaac Zacl):=⟨rfl,rfl,rfl,by decide +kernel,rfl,by decide +kernel,by decide +kernel⟩
theorem ZalC {H:Hp}:∀ bs:List Bool,RdL H (bs.map V.bl) (bs.map PyData.bool)
 | []=>.nil
 | b::bs=>.cons (.bl b) (ZalC bs)
theorem tb_rd {H:Hp}:∀ {ts:List Addr}{B:List (List Bool)},ts.length=B.length->(∀ (j:Nat) r bs,ts[j]?=some r->B[j]?=some bs->H r=some (.tup (bs.map V.bl)))->RdL H (ts.map V.ref) (B.map fun bs=>.tuple (bs.map PyData.bool))
 | [],[],_,_=>.nil
 | t::ts,b::B,h,g=>.cons (.tup (g 0 t b rfl rfl) (ZalC b)) (tb_rd (by simpa using h) fun j r bs a c=>g (j+1) r bs (by simpa using a) (by simpa using c))
 | [],_::_,h,_=>by simp at h
 | _::_,[],h,_=>by simp at h
theorem ZaeY:∀ bs:List Bool,PyData.depthAll (bs.map PyData.bool)=0
 | []=>rfl
 | b::bs=>by simp only[List.map_cons,PyData.depthAll,PyData.depth,ZaeY bs]; rfl
theorem ZahN (a b:Int) (B:List (List Bool)):(PyData.tuple [.int a,.int b,.tuple (B.map fun bs=>.tuple (bs.map PyData.bool))]).depth<=10:=by
 have h:∀ B:List (List Bool),PyData.depthAll (B.map fun bs=>.tuple (bs.map PyData.bool))<=1:=by
  intro B
  induction B with
  | nil=>simp[PyData.depthAll]
  | cons c r ih=>simp only[List.map_cons,PyData.depthAll,PyData.depth,ZaeY]; omega
 have:=h B
 simp only[PyData.depth,PyData.depthAll]
 omega
theorem ZajT {K:PySem.W.Frag}:PySem.W.kitOne K (.type "bool") (.type "bool")=some true:=by rfl
theorem Zagh {f f1 f2 f3 f4 f5 f6:Addr}{fd d1 d2 d3 d4 d5 d6:FuncData} (F:Fun K "_law_right" "_law_right" Zacl f fd) (T:Txt mg) (CE:Cal P w K mg base 2 "_law_best" ["p","rows"] Zaew f1 d1) (CX:Cal P w K mg base 8 "_law_word" ["p","rows"] (ZacN K) f2 d2) (CC:Cal P w K mg base 1 "_law_counts" ["p","n"] ZabM f3 d3) (CH:Cal P w K mg base 1 "_law_whole" ["thing"] Zacp f4 d4) (CU:Cal P w K mg base 1 "_law_numbers" ["p","n"] Zai8 f5 d5) (CB:Cal P w K mg base 7 "best_laying" ["p","rows"] ZafT f6 d6):FnOk P w K mg base CX0 9 f fd ["p","rows"] ZacP:=by
 refine okW F scRight (fun vs H Q E h=>?_) (fun cdv A outer s H vs Q E hr h=>?_)
 ·obtain⟨p,m,rfl,_⟩:=h
  rfl
 ·obtain⟨p,m,rfl,p2,p7,m1,m2,k⟩:=h
  have hr1:Room 1 _:=hr.mono (by decide)
  have hr2:Room 2 _:=hr.mono (by decide)
  have hr7:Room 7 _:=hr.mono (by decide)
  have hr8:Room 8 _:=hr.mono (by decide)
  have hu0:(A.deeper (PyProof.Rows.envOfC "_law_right" (Zaac Zacl) s.heap.objs.size f cdv)).units<cLine:=by have:=hr.un; omega
  have hu1:(A.deeper (PyProof.Rows.envOfC "_law_right" (Zaac Zacl) s.heap.objs.size f cdv)).units+12<cLine:=by have:=hr.un; omega
  refine⟨_,(Zaag (ws (Zaaq (i:=2) scRight.nd rfl (Or.inl rfl) (Zaat CE hr2 rfl (Zaaa (pv 0) (Zaaa (pv 1) Zaae)))))
   (Zaag (ws (Zaaq (i:=3) scRight.nd rfl (Or.inl rfl) (Zaat CX hr8 rfl (Zaaa (pv 0) (Zaaa (pv 1) Zaae)))))
   (Zaag (ws_if (ZaaB op_gt (Zaaj (Zac4 rfl) rfl T.sum b_sum (Zaaa (Zaat CC hr1 rfl (Zaaa (pv 0) (Zaaa (pe_ix Zabd (pv 2) Zaah (fun _ _=>rfl)) Zaae))) Zaae)) Zaah (ZaaK _))
   (Zaan (ws (Zaax (Zacx op_eq (pv 3) ZacT (ZaaK _)))))
   ZaaQ)
   (Zaag (ws_if (PW.pt (pw_or (Zabm (Zaby (Zaaj ZaaJ rfl T.isinstance Zaas (Zaaa (pv 3) (Zaaa (pe_ty rfl T.tuple Zabc) Zaae))))) (pw_or (ZaaB op_ne (Zaaj ZaaC rfl T.len PySem.boot_len (Zaaa (pv 3) Zaae)) Zaah (ZaaK _)) (pw_or (ZaaB (Zal6 hu0) (Zabt Zahd (pv 3) Zacc (Zacb Zaah)) (pv 2) (ZaaK _)) (Zab9 (Zabm (Zaby (Zaaj ZaaJ rfl T.isinstance Zaas (Zaaa (pe_ix Zabd (pv 3) Zaah (fun _ _=>rfl)) (Zaaa (pe_ty rfl T.tuple Zabc) Zaae))))))))))
   (Zaan (ws (Zaax pe_bl)))
   ZaaQ)
   (Zaag (ws_if (PW.pt (pw_or (Zabm (Zaby (Zaat CH hr1 rfl (Zaaa (pe_ix Zabd (pv 3) Zaah (fun _ _=>rfl)) Zaae)))) (pw_or (Zabm (Zaby (Zaat CH hr1 rfl (Zaaa (pe_ix Zabd (pv 3) Zaah (fun _ _=>rfl)) Zaae)))) (Zab9 (ZaaB op_ne (Zaaj ZaaC rfl T.len PySem.boot_len (Zaaa (pe_ix Zabd (pv 3) Zaah (fun _ _=>rfl)) Zaae)) (pv 0) (ZaaK _))))))
   (Zaan (ws (Zaax pe_bl)))
   ZaaQ)
   (Zaag (ws (Zaaq (i:=4) scRight.nd rfl (Or.inl rfl) Zaah))
   (Zaag (ws (Zaaq (i:=5) scRight.nd rfl (Or.inl rfl) Zaah))
   (Zaag (ws (Zaa4 PassesOwn.never rfl (Zais rfl T.zip (Zaaa (Zaat CU hr1 rfl (Zaaa (pv 0) (Zaaa (pe_ix Zabd (pv 2) Zaah (fun _ _=>rfl)) Zaae))) (Zaaa (pe_ix Zabd (pv 3) Zaah (fun _ _=>rfl)) Zaae))) (ZadZ rfl (Zaaw (Zaak (i:=6) scRight.nd rfl (Or.inl rfl)) (Zaaw (Zaak (i:=7) scRight.nd rfl (Or.inl rfl)) Zabo)))
   (WSs.out (Zaag (ws_if (PW.pt (pw_or (Zabm (Zaby (Zaaj ZaaJ rfl T.isinstance Zaas (Zaaa (pv 7) (Zaaa (pe_ty rfl T.tuple Zabc) Zaae))))) (Zab9 (ZaaB op_ne (Zaaj ZaaC rfl T.len PySem.boot_len (Zaaa (pv 7) Zaae)) (Zaaj ZaaC rfl T.len PySem.boot_len (Zaaa (pv 6) Zaae)) (ZaaK _)))))
    (Zaan (ws (Zaax pe_bl)))
    ZaaQ)
    (Zaag (ws_if (Zabm (Zaby (Zaaj (Zaj7 rfl) rfl T.all b_all (Zaaa (Zaba (own:=["real"]) (js:=[]) (CompOk.by (sc:=Zaac Zacl) (N:=["p","rows","due","found","reading","many","numbers","reel"]) rfl rfl (by decide +kernel)) rfl (Zado (pv 7)) Zaay (fun _ _ _ _ _=>(Zaak (i:=0) (by show (["real"]:List Str).Nodup; decide +kernel) rfl (Or.inl rfl) (.inr rfl))) (fun _ _ _ _ _=>ZaaW) (fun _ _ _ _ _=>(Zaaj (Zaef K) rfl T.isinstance Zaas (Zaaa (pv 0) (Zaaa (pe_ty rfl T.bool Zaka) Zaae))))) Zaae))))
    (Zaan (ws (Zaax pe_bl)))
    ZaaQ)
    (Zaag (ws (Zaaq (i:=5) scRight.nd rfl (Or.inl rfl) (pe_op ZaaE (pv 5) (Zal3 PySem.F.slot_tuple_count PySem.F.type_tuple_count ZahF (pv 7) (Zaaa pe_bl Zaae)))))
    (Zaan (ws (Zaaq (i:=4) scRight.nd rfl (Or.inl rfl) (pe_op ZaaE (pv 4) (Zaaj (ZaeW rfl) rfl T.sum b_sum (Zaaa (Zaba (own:=["number","real"]) (js:=[]) (CompOk.by (sc:=Zaac Zacl) (N:=["p","rows","due","found","reading","many","numbers","reel"]) rfl rfl (by decide +kernel)) rfl (Zais rfl T.zip (Zaaa (pv 6) (Zaaa (pv 7) Zaae))) (ZaeM (i:=0) (k:=1) (K:=K)) (fun _ _ _ _ _=>(ZaeC K rfl (Zaaw (Zaak (i:=0) (by show (["number","real"]:List Str).Nodup; decide +kernel) rfl (Or.inl rfl) (.inr rfl)) (Zaaw (Zaak (i:=1) (by show (["number","real"]:List Str).Nodup; decide +kernel) rfl (Or.inl rfl) (.inr rfl)) Zabo)))) (fun _ _ _ _ _=>(ZakJ (Zaby (pv 1)))) (fun _ _ _ _ _=>(pv 0))) Zaae))))))))))))
   (Zaan (ws (Zaax (Zahl (Zacx op_eq (pv 5) (pv 1) (ZaaK _)) (Zahl (Zacx op_eq (pv 4) (pe_ix Zabd (pv 2) Zaah (fun _ _=>rfl)) (ZaaK _)) (Zajq (Zacx (Zal8 hu1) (Zaat CB hr7 rfl (Zaaa (pv 0) (Zaaa (pv 1) Zaae))) (pv 3) (ZaaK _)))))))))))))))),?_⟩
  refine⟨_,rfl,_,rfl,p,m,rfl,p2,p7,by omega,by omega,fun du q H1 hb hdu s1=>?_⟩
  have hq3:=hb.lt
  by_cases hbig:4000<tot p q.2
  ·refine⟨_,rfl,_,rfl,.int p,m,rfl,m1,m2,"int",⟨.int _,by decide⟩,.inr ⟨p,q,rfl,p2,p7,hb,.inl ⟨hbig,fun H2 s2=>?_⟩⟩⟩
   refine⟨_,rfl,_,rfl,du,_,_,.int q.2,rfl,rfl,SqT.of (s2 _ _ hdu),rfl,p,q.2,rfl,p2,p7,by omega,fun lc H3 lc0 hlc s3=>⟨lc,_,rfl,SqT.of hlc,_,_,rfl,rfl,_,rfl,?_⟩⟩
   dsimp only
   rw[decide_eq_true (show (4000:Int)<(cnt p q.2).sum from hbig)]
   refine iteT ⟨_,rfl,rfl,?_⟩
   rw[show decide (V.str "many"=V.str "many")=true from decide_eq_true rfl]
   exact k H3 ((s1.trans s2).trans s3)
  ·refine⟨_,rfl,_,rfl,.int p,m,rfl,m1,m2,"int",⟨.int _,by decide⟩,.inr ⟨p,q,rfl,p2,p7,hb,.inr ⟨by omega,fun l la ts ks H2 hl hla hB hkp hks hLd s2=>?_⟩⟩⟩
   refine⟨_,rfl,_,rfl,du,_,_,.int q.2,rfl,rfl,SqT.of (s2 _ _ hdu),rfl,p,q.2,rfl,p2,p7,by omega,fun lc H3 lc0 hlc s3=>⟨lc,_,rfl,SqT.of hlc,_,_,rfl,rfl,_,rfl,?_⟩⟩
   dsimp only
   rw[decide_eq_false (show ¬ (4000:Int)<(cnt p q.2).sum from hbig)]
   refine iteF ?_
   have hl3:=s3 _ _ hl
   refine⟨_,rfl,.ref l,"tuple",_,true,rfl,(.tup hl3),Zaa0,true,rfl,iteF ?_⟩
   refine⟨_,rfl,l,_,rfl,.inr (SqT.of hl3),rfl,_,rfl,iteF ?_⟩
   have hdu3:=s3 _ _ (s2 _ _ hdu)
   refine⟨_,rfl,2,rfl,l,_,rfl,SqT.of hl3,(by show ¬ (HT.sIx 3 0 none=0/\HT.sIx 3 3 (some 2)=3); decide),fun sl nsl=>?_⟩
   have s4:Same H3 (upd H3 sl (.tup (cutV [V.int q.1,.int q.2,.ref la] none (some 2)))):=Same.new nsl
   have e4:upd H3 sl (.tup (cutV [V.int q.1,.int q.2,.ref la] none (some 2))) sl=some (.tup ([q.1,(q.2:Int)].map V.int)):=Zaab
   generalize upd H3 sl (.tup (cutV [V.int q.1,.int q.2,.ref la] none (some 2)))=H4 at s4 e4 ⊢
   have hdu4:=s4 _ _ hdu3
   have hl4:=s4 _ _ hl3
   have hla4:=s4 _ _ (s3 _ _ hla)
   refine⟨_,rfl,sl,du,[q.1,(q.2:Int)],[q.1,(q.2:Int)],rfl,rfl,SqT.of e4,SqT.of hdu4,_,rfl,?_⟩
   rw[show (!decide ([q.1,(q.2:Int)]=[q.1,(q.2:Int)]))=false from by rw[decide_eq_true rfl]; rfl]
   refine iteF ?_
   refine⟨_,rfl,l,_,2,.ref la,rfl,rfl,SqT.of hl4,rfl,.ref la,"tuple",_,true,rfl,(.tup hla4),Zaa0,true,rfl,iteF ?_⟩
   refine⟨_,rfl,l,_,0,.int q.1,rfl,rfl,SqT.of hl4,rfl,q.1,rfl,true,rfl,iteF ?_⟩
   refine⟨_,rfl,l,_,1,.int q.2,rfl,rfl,SqT.of hl4,rfl,q.2,rfl,true,rfl,iteF ?_⟩
   refine⟨_,rfl,l,_,2,.ref la,rfl,rfl,SqT.of hl4,rfl,la,_,rfl,.inr (SqT.of hla4),_,rfl,rfl,_,rfl,?_⟩
   have hNl:(num p q.2).length=p:=Zabb (by omega) _
   have hBl:(laidB (num p q.2) (ks.take m)).length=p:=by
    have:=congrArg List.length hLd.len
    unfold lensB at this
    rw[List.length_map,List.length_map,hNl] at this
    exact this
   have htl:ts.length=p:=by rw[hB.1,hBl]
   rw[show (!decide (V.int (((ts.map V.ref).length:Nat):Int)=V.int (p:Int)))=false from by rw[List.length_map,htl,decide_eq_true rfl]; rfl]
   refine iteF ?_
   refine⟨_,rfl,_,rfl,du,_,1,.int q.2,rfl,rfl,SqT.of hdu4,rfl,p,q.2,rfl,p2,p7,by omega,by omega,fun ln qs H5 ln0 hln hLL s5=>?_⟩
   have hl5:=s5 _ _ hl4
   have hla5:=s5 _ _ hla4
   have hB5:=((hB.same s3).same s4).same s5
   refine⟨_,rfl,l,_,2,.ref la,rfl,rfl,SqT.of hl5,rfl,true,false,ln,la,rfl,⟨_,SqL.of hln⟩,⟨_,SqT.of hla5⟩,?_⟩
   have hql:qs.length=p:=by rw[hLL.1,hNl]
   generalize hBB:laidB (num p q.2) (ks.take m)=B at hB5 hLd hBl
   generalize hNN:num p q.2=N at hLL hLd hNl
   refine Zalt (xs:=qs.map V.ref) (ys:=ts.map V.ref) (by rw[List.length_map,List.length_map]; omega) (fun i σ Hx=>∃ o6 o7:Option V,σ=[some (.int p),some (.int m),some (.ref du),some (.ref l),some (.int (Zab8 (N.take i) (B.take i))),some (.int (((B.take i).flatten.count true:Nat):Int)),o6,o7]/\Same H5 Hx)
    ⟨_,_,rfl,Same.refl _⟩ (fun i σ Hx _ ⟨_,_,_,sx⟩=>⟨SqL.of (sx _ _ hln),SqT.of (sx _ _ hla5)⟩) ?_ ?_
   ·rintro i x y pa σ Hx hx hy ⟨o6,o7,rfl,sx⟩ hpa
    obtain⟨q',hq',rfl⟩:=Zacf hx
    obtain⟨t',ht',rfl⟩:=Zacf hy
    have hi:i<qs.length:=(List.getElem?_eq_some_iff.mp hq').1
    obtain⟨xs,eN⟩:∃ xs,N[i]?=some xs:=⟨_,List.getElem?_eq_getElem (by omega)⟩
    obtain⟨bs,eB⟩:∃ bs,B[i]?=some bs:=⟨_,List.getElem?_eq_getElem (by omega)⟩
    have hlen:bs.length=xs.length:=by
     have h1:(lensB B)[i]?=some (bs.length:Int):=by unfold lensB; rw[List.getElem?_map,eB]; rfl
     rw[hLd.len,List.getElem?_map,eN] at h1
     have:(xs.length:Int)=bs.length:=Option.some.inj h1
     omega
    have hxs4:xs.length<=4000:=by
     have h1:=Zagt (List.mem_of_getElem? eN)
     rw[<- hNN] at h1
     have h2:=Zaa7 p q.2
     omega
    have s6:Same Hx (upd Hx pa (.tup [.ref q',.ref t'])):=Same.new hpa
    have e6:upd Hx pa (.tup [.ref q',.ref t']) pa=some (.tup [.ref q',.ref t']):=Zaab
    generalize upd Hx pa (.tup [.ref q',.ref t'])=H6 at s6 e6 ⊢
    have sx6:=sx.trans s6
    have hq6:=sx6 _ _ (hLL.2 i q' xs hq' eN)
    have ht6:=sx6 _ _ (hB5.2 i t' bs ht' eB)
    refine⟨pa,_,rfl,SqT.of e6,rfl,_,_,rfl,_,_,rfl,rfl,?_⟩
    refine⟨_,rfl,.ref t',"tuple",_,true,rfl,(.tup ht6),Zaa0,true,rfl,iteF ?_⟩
    refine⟨_,rfl,t',_,rfl,.inr (SqT.of ht6),_,rfl,q',_,rfl,.inl (SqL.of hq6),rfl,_,rfl,?_⟩
    rw[show (!decide (V.int (((bs.map V.bl).length:Nat):Int)=V.int (((xs.map V.int).length:Nat):Int)))=false from by rw[List.length_map,List.length_map,hlen,decide_eq_true rfl]; rfl]
    refine iteF ?_
    refine⟨_,rfl,t',false,rfl,⟨_,SqT.of ht6⟩,?_⟩
    refine Zah8 ((bs.map fun _=>true).map V.bl) (show SqB false K H6 t' (bs.map V.bl) from SqT.of ht6) (by simp) (by rw[List.length_map]; omega) (fun j x y hx hy H7 s7 R hR=>?_) fun acc H7 acc0 s7 hacc=>?_
    ·rw[List.getElem?_map] at hx
     obtain⟨b',hb',rfl⟩:=Option.map_eq_some_iff.mp hx
     rw[List.map_map,List.getElem?_map,hb'] at hy
     cases hy
     exact⟨_,rfl,.bl b',"bool",_,true,rfl,.bl b',ZajT,hR H7 (Same.refl _)⟩
    have eall:(bs.map fun _=>true).all id=true:=by rw[List.all_map]; simp
    refine⟨acc,_,rfl,SqL.of hacc,_,rfl,?_⟩
    rw[eall]
    refine iteF ?_
    have ht7:=s7 _ _ ht6
    have hq7:=s7 _ _ hq6
    have ecnt:(B.take (i+1)).flatten.count true=(B.take i).flatten.count true+bs.count true:=by
     rw[List.take_add_one,eB,List.flatten_append,List.count_append]
     simp
    have erd:Zab8 (N.take (i+1)) (B.take (i+1))=Zab8 (N.take i) (B.take i)+(sel xs bs).sum:=by
     unfold Zab8
     rw[List.take_add_one,List.take_add_one,eN,eB,Option.toList_some,Option.toList_some,List.zipWith_append (by rw[List.length_take,List.length_take]; omega),List.sum_append]
     simp
    refine⟨_,rfl,_,rfl,⟨t',_,rfl,ht7⟩,t',bs,true,rfl,rfl,ht7,_,_,rfl,rfl,?_⟩
    refine⟨_,rfl,_,rfl,_,rfl,true,false,q',t',rfl,⟨_,SqL.of hq7⟩,⟨_,SqT.of ht7⟩,?_⟩
    refine Zaj5 (xs:=xs.map V.int) (ys:=bs.map V.bl) (by rw[List.length_map,List.length_map]; omega) (fun acc j H8=>Same H7 H8/\H8 acc=some (.lst ((selK xs bs j).map V.int))) (fun acc h0=>⟨Same.new h0,by rw[Zaab]; simp[selK]⟩) (fun acc j H8 h0 _ z=>⟨z.1.seq (SqL.of hq7),z.1.tup (SqT.of ht7)⟩) ?_ ?_
    ·rintro acc j x y pb H8 h0 hx hy ⟨s8,hac8⟩ hpb
     rw[List.getElem?_map] at hx hy
     obtain⟨x',hx',rfl⟩:=Option.map_eq_some_iff.mp hx
     obtain⟨y',hy',rfl⟩:=Option.map_eq_some_iff.mp hy
     have hj:=(List.getElem?_eq_some_iff.mp hx').1
     have hab:acc≠pb:=fun z=>by rw[<- z,hac8] at hpb; cases hpb
     have hac9:upd H8 pb (.tup [.int x',.bl y']) acc=some (.lst ((selK xs bs j).map V.int)):=by rw[Zaaf hab]; exact hac8
     have es:=Zahe hx' hy'
     refine⟨pb,_,rfl,SqT.of Zaab,rfl,_,_,rfl,_,_,rfl,rfl,_,rfl,y',rfl,?_⟩
     cases y' with
     | true=>
      refine iteT ⟨_,rfl,_,hac9,?_,by rw[List.length_map]; exact hj,(s8.trans (Same.new hpb)).put h0,?_⟩
      ·rw[List.length_map]
       have:=Zaja xs bs j
       rw[sizeLine_eq]
       omega
      ·rw[Zaab,es]
       simp
     | false=>
      refine iteF ⟨by rw[List.length_map]; exact hj,s8.trans (Same.new hpb),?_⟩
      rw[es]
      simpa using hac9
    rintro acc2 H8 h02 ⟨s8,hac8⟩
    rw[List.length_map,Zajb hlen.symm] at hac8
    refine⟨acc2,_,rfl,SqL.of hac8,_,_,rfl,rfl,?_⟩
    refine⟨some (.ref q'),some (.ref t'),?_,(sx6.trans s7).trans s8⟩
    rw[ecnt,erd,Int.natCast_add]
    rfl
   ·rintro σ Hx ⟨o6,o7,rfl,sx⟩
    have eN:N.take (qs.map V.ref).length=N:=List.take_of_length_le (by rw[List.length_map]; omega)
    have eB:B.take (qs.map V.ref).length=B:=List.take_of_length_le (by rw[List.length_map]; omega)
    rw[eN,eB]
    obtain⟨hmle,hlst⟩:=(ZabD p2).lv.of (show q.2<=300 by omega) (by omega) hb.eq
    rw[hNN] at hmle hlst hkp
    have hkl:ks.length=N.flatten.length:=by rw[hkp.length_eq,ZabL]
    have hcnt:B.flatten.count true=m:=by rw[hLd.cnt,List.length_take]; omega
    have hrd:Zab8 N B=q.1:=by
     rw[hLd.rd,List.map_take]
     refine Lst.uniq (Zale (xs:=N.flatten) ?_ ?_ (by omega) (by rw[List.length_map]; omega)) hlst
     ·rw[<- ZafF N 0]
      exact hkp.map _
     ·refine List.pairwise_map.mpr (hks.imp_of_mem fun {x y} hx hy h=>?_)
      obtain⟨r1,j1,x1,z1,_,_,rfl⟩:=trip_memL.mp (hkp.subset hx)
      obtain⟨r2,j2,x2,z2,_,_,rfl⟩:=trip_memL.mp (hkp.subset hy)
      exact Zald h
    rw[hcnt,hrd]
    refine⟨_,rfl,_,rfl,rfl,_,rfl,?_⟩
    rw[decide_eq_true rfl]
    refine iteT ⟨_,rfl,_,rfl,du,_,0,.int q.1,rfl,rfl,SqT.of (sx _ _ (s5 _ _ hdu4)),rfl,rfl,_,rfl,?_⟩
    rw[decide_eq_true rfl]
    refine iteT ?_
    refine⟨_,rfl,_,rfl,p,m,rfl,p2,p7,m1,m2,(fun q' hb'=>by rw[<- hb.same hb']; omega),fun l' la' ts' ks' q' H' hb' hl' hla' hB' hkp' hks' _ s'=>?_⟩
    have eq:=hb.same hb'
    subst eq
    rw[hNN] at hB' hkp'
    have ek:ks'=ks:=List.Perm.eq_of_pairwise (le:=fun a b=>lxB b a=false) (fun a b _ _ h1 h2=>ZabZ _ _ h2 h1) hks' hks (hkp'.trans hkp.symm)
    rw[ek] at hB'
    have hBB':laidB N (ks.take m)=B:=by rw[<- hNN]; exact hBB
    rw[hBB'] at hB'
    refine⟨_,rfl,l',l,.tuple [.int q.1,.int q.2,.tuple (B.map fun bs=>.tuple (bs.map PyData.bool))],rfl,rfl,.tup hl' (.cons (.int _) (.cons (.int _) (.cons (.tup hla' (tb_rd hB'.1 hB'.2)) .nil))),.tup (s' _ _ (sx _ _ hl5)) (.cons (.int _) (.cons (.int _) (.cons (.tup (s' _ _ (sx _ _ hla5)) (tb_rd (hB5.same (sx.trans s')).1 (hB5.same (sx.trans s')).2)) .nil))),ZahN _ _ _,?_⟩
    exact k H' ((((((s1.trans s2).trans s3).trans s4).trans s5).trans sx).trans s')
end
end Fs33
namespace Fs33
open PySem L2 Lv
section
variable {P:Program}{w:World}{K:PySem.W.Frag}{mg:Str->Option Value}{base:Heap}
theorem scLNum:FnScope ["p","n","reels","turn","more"] ["p","n"] (Zaac sLNum):=⟨rfl,rfl,rfl,by decide +kernel,rfl,by decide +kernel,by decide +kernel⟩
theorem Zak6 {f:Addr}{fd:FuncData} (F:Fun K "_law_numbers" "_law_numbers" sLNum f fd) (T:Txt mg):FnOk P w K mg base CX0 1 f fd ["p","n"] Zai8:=by
 refine F.ok scLNum (fun vs H Q E h=>?_) (fun cdv A outer s H vs Q E hr h=>?_)
 ·obtain⟨p,n,rfl,_⟩:=h
  rfl
 ·obtain⟨p,n,rfl,h1,h2,h3,h4,k⟩:=h
  refine⟨_,Zaam (Zaaq (i:=2) scLNum.nd rfl (Or.inl rfl) (pe_op Zacn (Zabn (Zaaa (Zabn (Zaaa Zaah Zaae)) Zaae)) (pe_op Zahm (Zabn (Zaaa (Zabn Zaae) Zaae)) (pe_op ZabB (pv 0) Zaah))))
   (Zaam (Zaa4 PassesOwn.never rfl (Zaa5 rfl T.range (Zaaa (pv 1) Zaae)) (Zaak (i:=3) scLNum.nd rfl (Or.inl rfl))
    (Zaam (Zaaq (i:=4) scLNum.nd rfl (Or.inr rfl) (Zaba (own:=["number"]) (js:=[]) (CompOk.by (sc:=Zaac sLNum) (N:=["p","n","reels","turn","more"]) rfl rfl (by decide +kernel)) rfl (Zadp (pe_ix Zabh (pv 2) Zaah (fun _ _=>rfl))) Zaay
     (fun _ _ _ _ _=>Zaak (i:=0) (by show (["number"]:List Str).Nodup; decide +kernel) rfl (Or.inl rfl) (.inr rfl)) (fun _ _ _ _ _=>ZaaW) (fun _ _ _ _ _=>pe_op ZaaE (pv 0) Zaah)))
    (Zaar (Zaaq (i:=2) scLNum.nd rfl (Or.inl rfl) (pe_op Zacn
     (Zaba (own:=["reel"]) (js:=[4]) (CompOk.by (sc:=Zaac sLNum) (N:=["p","n","reels","turn","more"]) rfl rfl (by decide +kernel)) rfl (Zadp (Zabt ZafY (pv 2) (Zacb Zaah) Zacc)) Zaay
      (fun _ _ _ _ _=>Zaak (i:=0) (by show (["reel","more"]:List Str).Nodup; decide +kernel) rfl (Or.inl rfl) (.inr rfl)) (fun _ _ _ _ _=>ZaaW) (fun _ _ _ _ _=>pe_op Zacn (pv 1) (pv 0)))
     (Zabn (Zaaa (pv 4) Zaae)))))))
   (Zaar (Zaax (pv 2)))),?_⟩
  refine⟨(by show 1<=sizeLine; decide),fun q0 e0=>⟨(by show 1<=sizeLine; decide),fun p1 e1=>⟨Nat.zero_le _,fun q1 f1=>⟨(by show 1<=sizeLine; decide),fun p2 e2=>⟨_,rfl,_,_,rfl,rfl,?_⟩⟩⟩⟩⟩
  have t0:Same H (upd H q0 (.lst [.int 0])):=Same.new e0
  have t1:=t0.trans (Same.new (o:=.lst [.ref q0]) e1)
  have t2:=t1.trans (Same.new (o:=.lst []) f1)
  have t3:=t2.trans (Same.new (o:=.lst [.ref q1]) e2)
  have a0:(upd (upd (upd (upd H q0 (.lst [.int 0])) p1 (.lst [.ref q0])) q1 (.lst [])) p2 (.lst [.ref q1])) q0=some (.lst [.int 0]):=((Same.new e1).trans ((Same.new f1).trans (Same.new e2))) q0 _ Zaab
  have a1:(upd (upd (upd (upd H q0 (.lst [.int 0])) p1 (.lst [.ref q0])) q1 (.lst [])) p2 (.lst [.ref q1])) p1=some (.lst [.ref q0]):=((Same.new f1).trans (Same.new e2)) p1 _ Zaab
  have a2:(upd (upd (upd (upd H q0 (.lst [.int 0])) p1 (.lst [.ref q0])) q1 (.lst [])) p2 (.lst [.ref q1])) q1=some (.lst []):=(Same.new e2) q1 _ Zaab
  have a3:(upd (upd (upd (upd H q0 (.lst [.int 0])) p1 (.lst [.ref q0])) q1 (.lst [])) p2 (.lst [.ref q1])) p2=some (.lst [.ref q1]):=Zaab
  generalize (upd (upd (upd (upd H q0 (.lst [.int 0])) p1 (.lst [.ref q0])) q1 (.lst [])) p2 (.lst [.ref q1]))=H1 at t3 a0 a1 a2 a3 ⊢
  refine⟨p2,(p:Int) - 1,_,rfl,rfl,a3,by omega,by omega,?_,fun p3 e3=>?_⟩
  ·exact Nat.le_of_lt (Zaap (by show 1*((p:Int) - 1).toNat<=1000; omega))
  have ez:(List.replicate ((p:Int) - 1).toNat [V.ref q1]).flatten=List.replicate (p - 1) (V.ref q1):=by
   rw[show ((p:Int) - 1).toNat=p - 1 by omega]
   exact List.flatten_replicate_singleton
  rw[ez]
  have s3:=Same.new (o:=.lst (List.replicate (p - 1) (V.ref q1))) e3
  refine⟨p1,p3,_,_,rfl,rfl,s3 p1 _ a1,Zaab,?_,fun l e4=>?_⟩
  ·exact Nat.le_of_lt (Zaap (by rw[List.length_replicate]; show 1+(p - 1)<=1000; omega))
  have s5:=s3.trans (Same.new (o:=.lst ([.ref q0]++List.replicate (p - 1) (V.ref q1))) e4)
  have hl0:H l=none:=(t3.trans s3).free e4
  refine⟨_,rfl,n,rfl,by omega,by omega,ZaaP (fun i σ H2=>∃ (l:Addr) (qs:List Addr) (o o':Option V),σ=[some (.int p),some (.int n),some (.ref l),o,o']/\H l=none/\H2 l=some (.lst (qs.map V.ref))/\LLs H2 qs (num p i)/\Same H H2)
   ⟨l,q0::List.replicate (p - 1) q1,none,none,rfl,hl0,by rw[Zaab]; simp,⟨by simp[num,num0],fun j r xs ha hb=>?_⟩,t3.trans s5⟩ ?_ ?_⟩
  ·cases j with
   | zero=>
    have:r=q0:=by simpa using ha.symm
    have:xs=[0]:=by simpa[num,num0] using hb.symm
    subst r xs
    exact s5 q0 _ a0
   | succ j=>
    have:r=q1:=Zaey (j:=j) (by simpa using ha)
    have:xs=[]:=Zaey (j:=j) (by simpa[num,num0] using hb)
    subst r xs
    exact s5 q1 _ a2
  ·rintro i σ H2 hi ⟨l,qs,o,o',rfl,hl0,hl2,hq,s2⟩
   have htot:=ZafH (p:=p) h1 (show i<=n by omega)
   have hlen:=Zabb (p:=p) (by omega) i
   have hz:∀ xs∈num p i,xs.length<=4000:=fun xs hx=>by have:=Zak8 hx; omega
   have ex:num p (i+1)=nextN (num p i):=rfl
   rw[ex]
   generalize num p i=N at hq hlen hz ⊢
   obtain⟨x0,xr,rfl⟩:∃ x0 xr,N=x0::xr:=by
    cases N with
    | nil=>simp at hlen; omega
    | cons x y=>exact⟨x,y,rfl⟩
   obtain⟨r0,rr,rfl⟩:∃ r0 rr,qs=r0::rr:=by
    cases qs with
    | nil=>have:=hq.1; simp at this
    | cons x y=>exact⟨x,y,rfl⟩
   have hr0:H2 r0=some (.lst (x0.map V.int)):=hq.2 0 r0 x0 rfl rfl
   have hrl:rr.length=xr.length:=by have:=hq.1; simpa using this
   have hxr:xr.length<=6:=by simp at hlen; omega
   have hx0:x0.length<=4000:=hz x0 (by simp)
   have hxz:∀ xs∈xr,xs.length<=4000:=fun xs hx=>hz xs (by simp[hx])
   refine⟨_,rfl,l,_,0,.ref r0,rfl,rfl,SqL.of hl2,ZabG (j:=0) rfl,r0,rfl,⟨_,SqL.of hr0⟩,?_⟩
   refine Zac3 (xs:=x0.map V.int) (fun acc j H3=>Same H2 H3/\H3 acc=some (.lst (((x0.take j).map (·+1)).map V.int))) (fun acc h0=>⟨Same.new h0,Zaab⟩) (fun acc j H3 h0 _ p=>p.1.seq (SqL.of hr0)) ?_ ?_
   ·rintro acc j x H3 h0 hx ⟨s3,hacc⟩
    obtain⟨z,hz',rfl⟩:=Zacy hx
    have hj:=(List.getElem?_eq_some_iff.mp hz').1
    refine⟨_,rfl,z,1,rfl,rfl,_,hacc,?_,by rw[List.length_map]; exact hj,s3.put h0,?_⟩
    ·exact ZaaU (by simp; omega)
    ·rw[Zaab,List.take_add_one,hz',Option.toList_some,List.map_append,List.map_append]
     rfl
   rintro ml H3 hml ⟨s3,hm3⟩
   rw[List.length_map,List.take_length] at hm3
   refine⟨_,rfl,1,rfl,l,_,rfl,SqL.of (s3 l _ hl2),fun p1 e1=>⟨p1,rfl,⟨_,SqL.of Zaab⟩,?_⟩⟩
   have ecut:cutV ((r0::rr).map V.ref) (some 1) none=rr.map V.ref:=by
    unfold cutV
    show (((r0::rr).map V.ref).drop (HT.sIx ((r0::rr).map V.ref).length 0 (some ((1:Nat):Int)))).take (HT.sIx ((r0::rr).map V.ref).length ((r0::rr).map V.ref).length none - HT.sIx ((r0::rr).map V.ref).length 0 (some ((1:Nat):Int)))=_
    rw[HT.sIx_nat]
    rw[show min 1 ((r0::rr).map V.ref).length=1 by simp]
    show (rr.map V.ref).take (((r0::rr).map V.ref).length - 1)=_
    rw[List.take_of_length_le (by simp)]
   rw[ecut]
   have s4:=s3.trans (Same.new (o:=.lst (rr.map V.ref)) e1)
   have hm4:=(Same.new (o:=.lst (rr.map V.ref)) e1) ml _ hm3
   have hp14:(upd H3 p1 (.lst (rr.map V.ref))) p1=some (.lst (rr.map V.ref)):=Zaab
   generalize (upd H3 p1 (.lst (rr.map V.ref)))=H4 at s4 hm4 hp14 ⊢
   have hr:∀ (j:Nat) r xs,rr[j]?=some r->xr[j]?=some xs->H2 r=some (.lst (xs.map V.int)):=fun j r xs a b=>hq.2 (j+1) r xs a b
   refine Zac3 (xs:=rr.map V.ref) (fun acc j H5=>Same H4 H5/\∃ us:List Addr,H5 acc=some (.lst (us.map V.ref))/\acc ∉ us/\LLs H5 us ((xr.take j).map (x0.map (·+1)++·))) (fun acc h0=>⟨Same.new h0,[],Zaab,by simp,rfl,fun j r xs a b=>by simp at a⟩) (fun acc j H5 h0 _ p=>p.1.seq (SqL.of hp14)) ?_ ?_
   ·rintro acc j x H5 h0 hx ⟨s5,us,hacc,hnin,hu⟩
    obtain⟨r,hr',rfl⟩:=Zaa3 hx
    have hj:=(List.getElem?_eq_some_iff.mp hr').1
    have hjx:j<xr.length:=by omega
    have hrx:H5 r=some (.lst (xr[j].map V.int)):=(s4.trans s5) r _ (hr j r _ hr' (List.getElem?_eq_getElem hjx))
    have hm5:=s5 ml _ hm4
    have hxi:xr[j].length<=4000:=hxz _ (List.getElem_mem hjx)
    have hus:us.length<=6:=by have:=hu.1; simp at this; omega
    have e2:(xr.take (j+1)).map (x0.map (·+1)++·)=(xr.take j).map (x0.map (·+1)++·)++[x0.map (·+1)++xr[j]]:=by
     rw[List.take_succ_eq_append_getElem hjx,List.map_append]
     rfl
    rw[e2]
    refine⟨_,rfl,_,rfl,ml,r,_,_,rfl,rfl,hm5,hrx,?_,fun pn en=>?_⟩
    ·exact Nat.le_of_lt (ZaaU (by simp; omega))
    have hpa:acc≠pn:=Zaad hacc en
    have hacc6:=(Same.new (o:=.lst ((x0.map (·+1)).map V.int++xr[j].map V.int)) en) acc _ hacc
    refine⟨_,hacc6,ZaaU (by simp; omega),by rw[List.length_map]; exact hj,(s5.trans (Same.new en)).put h0,us++[pn],by rw[Zaab]; simp,by simp[hnin,hpa],?_⟩
    refine ((hu.same (Same.new en)).lst hnin).snoc ?_
    rw[Zaaf (Ne.symm hpa),Zaab]
    simp
   ·rintro acc H5 h0 ⟨s5,us,hacc,hnin,hu⟩
    rw[List.length_map,hrl,List.take_length] at hu
    have hm5:=s5 ml _ hm4
    have hus:us.length<=6:=by have:=hu.1; simp at this; omega
    refine⟨_,rfl,(by show 1<=sizeLine; decide),fun p2 e2=>?_⟩
    refine⟨acc,p2,_,_,rfl,rfl,(Same.new e2) acc _ hacc,Zaab,?_,fun p3 e3=>?_⟩
    ·exact Nat.le_of_lt (ZaaU (by simp; omega))
    have sz:=(Same.new (o:=.lst [V.ref ml]) e2).trans (Same.new (o:=.lst (us.map V.ref++[V.ref ml])) e3)
    have s6:=(s2.trans s4).trans (s5.trans sz)
    refine⟨p3,us++[ml],_,_,rfl,((s2.trans s4).trans (s5.trans (Same.new e2))).free e3,by rw[Zaab]; simp,?_,s6⟩
    exact (hu.same sz).snoc (sz ml _ hm5)
  ·rintro σ H2 ⟨l,qs,o,o',rfl,hl0,hl2,hq,s2⟩
   refine⟨_,rfl,k l qs H2 hl0 hl2 ?_ s2⟩
   simpa using hq
end
end Fs33
namespace Fs33
open PySem L2 Lv
theorem len1 {P:List Value->Prop} (us:List Value) (hl:us.length=1) (h:∀ a0:Value,P [a0]):P us:=by
 match us,hl with
 | [a0],_=>exact h a0
theorem len2 {P:List Value->Prop} (us:List Value) (hl:us.length=2) (h:∀ a0 a1:Value,P [a0,a1]):P us:=by
 match us,hl with
 | [a0,a1],_=>exact h a0 a1
theorem len3 {P:List Value->Prop} (us:List Value) (hl:us.length=3) (h:∀ a0 a1 a2:Value,P [a0,a1,a2]):P us:=by
 match us,hl with
 | [a0,a1,a2],_=>exact h a0 a1 a2
theorem len4 {P:List Value->Prop} (us:List Value) (hl:us.length=4) (h:∀ a0 a1 a2 a3:Value,P [a0,a1,a2,a3]):P us:=by
 match us,hl with
 | [a0,a1,a2,a3],_=>exact h a0 a1 a2 a3
theorem all_mk {l : PySem.W.OpenLaw} {w : World} {K : PySem.W.Frag} {h : Heap} {mg : Str → Option Value} {fa f0 f1 f2 f3 f4 f5 f6 f7 f8 f9 f10 f11 f12 f13 f14 f15 f16 f17 f18 f19 f20 f21 f22 f23 f24 f25 f26 f27 f28 f29 f30 f31 f32 f33 f34 f35 f36 f37 f38 : Addr} {tk0 tk1 tk2 tk3 tk4 : Tok} (X : K.In h) (G : h.Ns mainGlobals mg) (hfa : mg "law" = some (.ref fa))
  {od0 an0 od1 an1 od2 an2 od3 an3 od4 an4 od5 an5 od6 an6 od7 an7 od8 an8 od9 an9 od10 an10 od11 an11 od12 an12 od13 an13 od14 an14 od15 an15 od16 an16 od17 an17 od18 an18 od19 an19 od20 an20 od21 an21 od22 an22 od23 an23 od24 an24 od25 an25 od26 an26 od27 an27 od28 an28 od29 an29 od30 an30 od31 an31 od32 an32 od33 an33 od34 an34 od35 an35 od36 an36 od37 an37 od38 an38:Option Addr}{sl0 sl1 sl2 sl3 sl4 sl5 sl6 sl7 sl8 sl9 sl10 sl11 sl12 sl13 sl14 sl15 sl16 sl17 sl18 sl19 sl20 sl21 sl22 sl23 sl24 sl25 sl26 sl27 sl28 sl29 sl30 sl31 sl32 sl33 sl34 sl35 sl36 sl37 sl38:Array (Option Value)}{oc0 kV0 dc0 pm0 cd0 ct0 oc1 kV1 dc1 pm1 cd1 ct1 oc2 kV2 dc2 pm2 cd2 ct2 oc3 kV3 dc3 pm3 cd3 ct3 oc4 kV4 dc4 pm4 cd4 ct4 oc5 kV5 dc5 pm5 cd5 ct5 oc6 kV6 dc6 pm6 cd6 ct6 oc7 kV7 dc7 pm7 cd7 ct7 oc8 kV8 dc8 pm8 cd8 ct8 oc9 kV9 dc9 pm9 cd9 ct9 oc10 kV10 dc10 pm10 cd10 ct10 oc11 kV11 dc11 pm11 cd11 ct11 oc12 kV12 dc12 pm12 cd12 ct12 oc13 kV13 dc13 pm13 cd13 ct13 oc14 kV14 dc14 pm14 cd14 ct14 oc15 kV15 dc15 pm15 cd15 ct15 oc16 kV16 dc16 pm16 cd16 ct16 oc17 kV17 dc17 pm17 cd17 ct17 oc18 kV18 dc18 pm18 cd18 ct18 oc19 kV19 dc19 pm19 cd19 ct19 oc20 kV20 dc20 pm20 cd20 ct20 oc21 kV21 dc21 pm21 cd21 ct21 oc22 kV22 dc22 pm22 cd22 ct22 oc23 kV23 dc23 pm23 cd23 ct23 oc24 kV24 dc24 pm24 cd24 ct24 oc25 kV25 dc25 pm25 cd25 ct25 oc26 kV26 dc26 pm26 cd26 ct26 oc27 kV27 dc27 pm27 cd27 ct27 oc28 kV28 dc28 pm28 cd28 ct28 oc29 kV29 dc29 pm29 cd29 ct29 oc30 kV30 dc30 pm30 cd30 ct30 oc31 kV31 dc31 pm31 cd31 ct31 oc32 kV32 dc32 pm32 cd32 ct32 oc33 kV33 dc33 pm33 cd33 ct33 oc34 kV34 dc34 pm34 cd34 ct34 oc35 kV35 dc35 pm35 cd35 ct35 oc36 kV36 dc36 pm36 cd36 ct36 oc37 kV37 dc37 pm37 cd37 ct37 oc38 kV38 dc38 pm38 cd38 ct38:Value}
  {da2:Addr}{doc2:Value}{dod2:Option Addr}{dn2:Nat}{dsl2:Array (Option Value)}{dt2_0:Tok}
  (a0:PySem.W.nsIn K mainGlobals "is_whole"=some (some (.ref f0))) (l0:K.lookup f0=some ⟨oc0,od0,.func (PySem.W.fnOf "is_whole" "is_whole" (Zaal Zafa) (Zaai Zafa) (Zaac Zafa) .none kV0 dc0 pm0 an0 cd0 ct0),sl0⟩) (c0:PySem.W.codeIn K cd0 "is_whole"=true) (k0:PySem.W.keepIn K (.ref f0)=true)
  (a1:PySem.W.nsIn K mainGlobals "check_ways"=some (some (.ref f1))) (l1:K.lookup f1=some ⟨oc1,od1,.func (PySem.W.fnOf "check_ways" "check_ways" (Zaal sWays) (Zaai sWays) (Zaac sWays) .none kV1 dc1 pm1 an1 cd1 ct1),sl1⟩) (c1:PySem.W.codeIn K cd1 "check_ways"=true) (k1:PySem.W.keepIn K (.ref f1)=true)
  (a2:PySem.W.nsIn K mainGlobals "check_level"=some (some (.ref f2))) (l2:K.lookup f2=some ⟨oc2,od2,.func (PySem.W.fnOf "check_level" "check_level" (Zaal Zadl) (Zaai Zadl) (Zaac Zadl) (.ref da2) kV2 dc2 pm2 an2 cd2 ct2),sl2⟩) (c2:PySem.W.codeIn K cd2 "check_level"=true) (k2:PySem.W.keepIn K (.ref f2)=true)
  (d2:K.lookup da2=some ⟨doc2,dod2,.seq #[.int 300 dt2_0] dn2,dsl2⟩)
  (a3:PySem.W.nsIn K mainGlobals "first_counts"=some (some (.ref f3))) (l3:K.lookup f3=some ⟨oc3,od3,.func (PySem.W.fnOf "first_counts" "first_counts" (Zaal Zafe) (Zaai Zafe) (Zaac Zafe) .none kV3 dc3 pm3 an3 cd3 ct3),sl3⟩) (c3:PySem.W.codeIn K cd3 "first_counts"=true) (k3:PySem.W.keepIn K (.ref f3)=true)
  (a4:PySem.W.nsIn K mainGlobals "next_counts"=some (some (.ref f4))) (l4:K.lookup f4=some ⟨oc4,od4,.func (PySem.W.fnOf "next_counts" "next_counts" (Zaal sNext) (Zaai sNext) (Zaac sNext) .none kV4 dc4 pm4 an4 cd4 ct4),sl4⟩) (c4:PySem.W.codeIn K cd4 "next_counts"=true) (k4:PySem.W.keepIn K (.ref f4)=true)
  (a5:PySem.W.nsIn K mainGlobals "level_counts"=some (some (.ref f5))) (l5:K.lookup f5=some ⟨oc5,od5,.func (PySem.W.fnOf "level_counts" "level_counts" (Zaal Zab7) (Zaai Zab7) (Zaac Zab7) .none kV5 dc5 pm5 an5 cd5 ct5),sl5⟩) (c5:PySem.W.codeIn K cd5 "level_counts"=true) (k5:PySem.W.keepIn K (.ref f5)=true)
  (a6:PySem.W.nsIn K mainGlobals "level_total"=some (some (.ref f6))) (l6:K.lookup f6=some ⟨oc6,od6,.func (PySem.W.fnOf "level_total" "level_total" (Zaal ZadS) (Zaai ZadS) (Zaac ZadS) .none kV6 dc6 pm6 an6 cd6 ct6),sl6⟩) (c6:PySem.W.codeIn K cd6 "level_total"=true) (k6:PySem.W.keepIn K (.ref f6)=true)
  (a7:PySem.W.nsIn K mainGlobals "check_total"=some (some (.ref f7))) (l7:K.lookup f7=some ⟨oc7,od7,.func (PySem.W.fnOf "check_total" "check_total" (Zaal sTot) (Zaai sTot) (Zaac sTot) .none kV7 dc7 pm7 an7 cd7 ct7),sl7⟩) (c7:PySem.W.codeIn K cd7 "check_total"=true) (k7:PySem.W.keepIn K (.ref f7)=true)
  (a8:PySem.W.nsIn K mainGlobals "check_places"=some (some (.ref f8))) (l8:K.lookup f8=some ⟨oc8,od8,.func (PySem.W.fnOf "check_places" "check_places" (Zaal Zab6) (Zaai Zab6) (Zaac Zab6) .none kV8 dc8 pm8 an8 cd8 ct8),sl8⟩) (c8:PySem.W.codeIn K cd8 "check_places"=true) (k8:PySem.W.keepIn K (.ref f8)=true)
  (a9:PySem.W.nsIn K mainGlobals "first_numbers"=some (some (.ref f9))) (l9:K.lookup f9=some ⟨oc9,od9,.func (PySem.W.fnOf "first_numbers" "first_numbers" (Zaal Zacv) (Zaai Zacv) (Zaac Zacv) .none kV9 dc9 pm9 an9 cd9 ct9),sl9⟩) (c9:PySem.W.codeIn K cd9 "first_numbers"=true) (k9:PySem.W.keepIn K (.ref f9)=true)
  (a10:PySem.W.nsIn K mainGlobals "next_numbers"=some (some (.ref f10))) (l10:K.lookup f10=some ⟨oc10,od10,.func (PySem.W.fnOf "next_numbers" "next_numbers" (Zaal Zadk) (Zaai Zadk) (Zaac Zadk) .none kV10 dc10 pm10 an10 cd10 ct10),sl10⟩) (c10:PySem.W.codeIn K cd10 "next_numbers"=true) (k10:PySem.W.keepIn K (.ref f10)=true)
  (a11:PySem.W.nsIn K mainGlobals "numbers_after"=some (some (.ref f11))) (l11:K.lookup f11=some ⟨oc11,od11,.func (PySem.W.fnOf "numbers_after" "numbers_after" (Zaal Zafg) (Zaai Zafg) (Zaac Zafg) .none kV11 dc11 pm11 an11 cd11 ct11),sl11⟩) (c11:PySem.W.codeIn K cd11 "numbers_after"=true) (k11:PySem.W.keepIn K (.ref f11)=true)
  (a12:PySem.W.nsIn K mainGlobals "numbers_of"=some (some (.ref f12))) (l12:K.lookup f12=some ⟨oc12,od12,.func (PySem.W.fnOf "numbers_of" "numbers_of" (Zaal Zafc) (Zaai Zafc) (Zaac Zafc) .none kV12 dc12 pm12 an12 cd12 ct12),sl12⟩) (c12:PySem.W.codeIn K cd12 "numbers_of"=true) (k12:PySem.W.keepIn K (.ref f12)=true)
  (a13:PySem.W.nsIn K mainGlobals "level_numbers"=some (some (.ref f13))) (l13:K.lookup f13=some ⟨oc13,od13,.func (PySem.W.fnOf "level_numbers" "level_numbers" (Zaal sLN) (Zaai sLN) (Zaac sLN) .none kV13 dc13 pm13 an13 cd13 ct13),sl13⟩) (c13:PySem.W.codeIn K cd13 "level_numbers"=true) (k13:PySem.W.keepIn K (.ref f13)=true)
  (a14:PySem.W.nsIn K mainGlobals "least_places"=some (some (.ref f14))) (l14:K.lookup f14=some ⟨oc14,od14,.func (PySem.W.fnOf "least_places" "least_places" (Zaal Zacs) (Zaai Zacs) (Zaac Zacs) .none kV14 dc14 pm14 an14 cd14 ct14),sl14⟩) (c14:PySem.W.codeIn K cd14 "least_places"=true) (k14:PySem.W.keepIn K (.ref f14)=true)
  (a15:PySem.W.nsIn K mainGlobals "first_spreads"=some (some (.ref f15))) (l15:K.lookup f15=some ⟨oc15,od15,.func (PySem.W.fnOf "first_spreads" "first_spreads" (Zaal Zacu) (Zaai Zacu) (Zaac Zacu) .none kV15 dc15 pm15 an15 cd15 ct15),sl15⟩) (c15:PySem.W.codeIn K cd15 "first_spreads"=true) (k15:PySem.W.keepIn K (.ref f15)=true)
  (a16:PySem.W.nsIn K mainGlobals "both_spreads"=some (some (.ref f16))) (l16:K.lookup f16=some ⟨oc16,od16,.func (PySem.W.fnOf "both_spreads" "both_spreads" (Zaal Zaff) (Zaai Zaff) (Zaac Zaff) .none kV16 dc16 pm16 an16 cd16 ct16),sl16⟩) (c16:PySem.W.codeIn K cd16 "both_spreads"=true) (k16:PySem.W.keepIn K (.ref f16)=true)
  (a17:PySem.W.nsIn K mainGlobals "next_spreads"=some (some (.ref f17))) (l17:K.lookup f17=some ⟨oc17,od17,.func (PySem.W.fnOf "next_spreads" "next_spreads" (Zaal ZadT) (Zaai ZadT) (Zaac ZadT) .none kV17 dc17 pm17 an17 cd17 ct17),sl17⟩) (c17:PySem.W.codeIn K cd17 "next_spreads"=true) (k17:PySem.W.keepIn K (.ref f17)=true)
  (a18:PySem.W.nsIn K mainGlobals "spread_over"=some (some (.ref f18))) (l18:K.lookup f18=some ⟨oc18,od18,.func (PySem.W.fnOf "spread_over" "spread_over" (Zaal Zafb) (Zaai Zafb) (Zaac Zafb) .none kV18 dc18 pm18 an18 cd18 ct18),sl18⟩) (c18:PySem.W.codeIn K cd18 "spread_over"=true) (k18:PySem.W.keepIn K (.ref f18)=true)
  (a19:PySem.W.nsIn K mainGlobals "least_of_spread"=some (some (.ref f19))) (l19:K.lookup f19=some ⟨oc19,od19,.func (PySem.W.fnOf "least_of_spread" "least_of_spread" (Zaal Zacr) (Zaai Zacr) (Zaac Zacr) .none kV19 dc19 pm19 an19 cd19 ct19),sl19⟩) (c19:PySem.W.codeIn K cd19 "least_of_spread"=true) (k19:PySem.W.keepIn K (.ref f19)=true)
  (a20:PySem.W.nsIn K mainGlobals "best_over"=some (some (.ref f20))) (l20:K.lookup f20=some ⟨oc20,od20,.func (PySem.W.fnOf "best_over" "best_over" (Zaal sBo) (Zaai sBo) (Zaac sBo) .none kV20 dc20 pm20 an20 cd20 ct20),sl20⟩) (c20:PySem.W.codeIn K cd20 "best_over"=true) (k20:PySem.W.keepIn K (.ref f20)=true)
  (a21:PySem.W.nsIn K mainGlobals "best_reading"=some (some (.ref f21))) (l21:K.lookup f21=some ⟨oc21,od21,.func (PySem.W.fnOf "best_reading" "best_reading" (Zaal sBR) (Zaai sBR) (Zaac sBR) .none kV21 dc21 pm21 an21 cd21 ct21),sl21⟩) (c21:PySem.W.codeIn K cd21 "best_reading"=true) (k21:PySem.W.keepIn K (.ref f21)=true)
  (a22:PySem.W.nsIn K mainGlobals "laid_least"=some (some (.ref f22))) (l22:K.lookup f22=some ⟨oc22,od22,.func (PySem.W.fnOf "laid_least" "laid_least" (Zaal Zadm) (Zaai Zadm) (Zaac Zadm) .none kV22 dc22 pm22 an22 cd22 ct22),sl22⟩) (c22:PySem.W.codeIn K cd22 "laid_least"=true) (k22:PySem.W.keepIn K (.ref f22)=true)
  (a23:PySem.W.nsIn K mainGlobals "best_laying"=some (some (.ref f23))) (l23:K.lookup f23=some ⟨oc23,od23,.func (PySem.W.fnOf "best_laying" "best_laying" (Zaal sBLay) (Zaai sBLay) (Zaac sBLay) .none kV23 dc23 pm23 an23 cd23 ct23),sl23⟩) (c23:PySem.W.codeIn K cd23 "best_laying"=true) (k23:PySem.W.keepIn K (.ref f23)=true)
  (a24:PySem.W.nsIn K mainGlobals "_law_cell_at"=some (some (.ref f24))) (l24:K.lookup f24=some ⟨oc24,od24,.func (PySem.W.fnOf "_law_cell_at" "_law_cell_at" (Zaal Zacw) (Zaai Zacw) (Zaac Zacw) .none kV24 dc24 pm24 an24 cd24 ct24),sl24⟩) (c24:PySem.W.codeIn K cd24 "_law_cell_at"=true) (k24:PySem.W.keepIn K (.ref f24)=true)
  (a25:PySem.W.nsIn K mainGlobals "_law_pool"=some (some (.ref f25))) (l25:K.lookup f25=some ⟨oc25,od25,.func (PySem.W.fnOf "_law_pool" "_law_pool" (Zaal sPool) (Zaai sPool) (Zaac sPool) .none kV25 dc25 pm25 an25 cd25 ct25),sl25⟩) (c25:PySem.W.codeIn K cd25 "_law_pool"=true) (k25:PySem.W.keepIn K (.ref f25)=true)
  (a26:PySem.W.nsIn K mainGlobals "_law_take"=some (some (.ref f26))) (l26:K.lookup f26=some ⟨oc26,od26,.func (PySem.W.fnOf "_law_take" "_law_take" (Zaal sTake) (Zaai sTake) (Zaac sTake) .none kV26 dc26 pm26 an26 cd26 ct26),sl26⟩) (c26:PySem.W.codeIn K cd26 "_law_take"=true) (k26:PySem.W.keepIn K (.ref f26)=true)
  (a27:PySem.W.nsIn K mainGlobals "_law_whole"=some (some (.ref f27))) (l27:K.lookup f27=some ⟨oc27,od27,.func (PySem.W.fnOf "_law_whole" "_law_whole" (Zaal Zact) (Zaai Zact) (Zaac Zact) .none kV27 dc27 pm27 an27 cd27 ct27),sl27⟩) (c27:PySem.W.codeIn K cd27 "_law_whole"=true) (k27:PySem.W.keepIn K (.ref f27)=true)
  (a28:PySem.W.nsIn K mainGlobals "_law_counts"=some (some (.ref f28))) (l28:K.lookup f28=some ⟨oc28,od28,.func (PySem.W.fnOf "_law_counts" "_law_counts" (Zaal Zabr) (Zaai Zabr) (Zaac Zabr) .none kV28 dc28 pm28 an28 cd28 ct28),sl28⟩) (c28:PySem.W.codeIn K cd28 "_law_counts"=true) (k28:PySem.W.keepIn K (.ref f28)=true)
  (a29:PySem.W.nsIn K mainGlobals "_law_numbers"=some (some (.ref f29))) (l29:K.lookup f29=some ⟨oc29,od29,.func (PySem.W.fnOf "_law_numbers" "_law_numbers" (Zaal sLNum) (Zaai sLNum) (Zaac sLNum) .none kV29 dc29 pm29 an29 cd29 ct29),sl29⟩) (c29:PySem.W.codeIn K cd29 "_law_numbers"=true) (k29:PySem.W.keepIn K (.ref f29)=true)
  (a30:PySem.W.nsIn K mainGlobals "_law_sums"=some (some (.ref f30))) (l30:K.lookup f30=some ⟨oc30,od30,.func (PySem.W.fnOf "_law_sums" "_law_sums" (Zaal sSums) (Zaai sSums) (Zaac sSums) .none kV30 dc30 pm30 an30 cd30 ct30),sl30⟩) (c30:PySem.W.codeIn K cd30 "_law_sums"=true) (k30:PySem.W.keepIn K (.ref f30)=true)
  (a31:PySem.W.nsIn K mainGlobals "_law_spread"=some (some (.ref f31))) (l31:K.lookup f31=some ⟨oc31,od31,.func (PySem.W.fnOf "_law_spread" "_law_spread" (Zaal sSpr4) (Zaai sSpr4) (Zaac sSpr4) .none kV31 dc31 pm31 an31 cd31 ct31),sl31⟩) (c31:PySem.W.codeIn K cd31 "_law_spread"=true) (k31:PySem.W.keepIn K (.ref f31)=true)
  (a32:PySem.W.nsIn K mainGlobals "_law_least"=some (some (.ref f32))) (l32:K.lookup f32=some ⟨oc32,od32,.func (PySem.W.fnOf "_law_least" "_law_least" (Zaal Zafd) (Zaai Zafd) (Zaac Zafd) .none kV32 dc32 pm32 an32 cd32 ct32),sl32⟩) (c32:PySem.W.codeIn K cd32 "_law_least"=true) (k32:PySem.W.keepIn K (.ref f32)=true)
  (a33:PySem.W.nsIn K mainGlobals "_law_best"=some (some (.ref f33))) (l33:K.lookup f33=some ⟨oc33,od33,.func (PySem.W.fnOf "_law_best" "_law_best" (Zaal ZadU) (Zaai ZadU) (Zaac ZadU) .none kV33 dc33 pm33 an33 cd33 ct33),sl33⟩) (c33:PySem.W.codeIn K cd33 "_law_best"=true) (k33:PySem.W.keepIn K (.ref f33)=true)
  (a34:PySem.W.nsIn K mainGlobals "_law_odd"=some (some (.ref f34))) (l34:K.lookup f34=some ⟨oc34,od34,.func (PySem.W.fnOf "_law_odd" "_law_odd" (Zaal sOdd) (Zaai sOdd) (Zaac sOdd) .none kV34 dc34 pm34 an34 cd34 ct34),sl34⟩) (c34:PySem.W.codeIn K cd34 "_law_odd"=true) (k34:PySem.W.keepIn K (.ref f34)=true)
  (a35:PySem.W.nsIn K mainGlobals "_law_kind"=some (some (.ref f35))) (l35:K.lookup f35=some ⟨oc35,od35,.func (PySem.W.fnOf "_law_kind" "_law_kind" (Zaal sKind) (Zaai sKind) (Zaac sKind) .none kV35 dc35 pm35 an35 cd35 ct35),sl35⟩) (c35:PySem.W.codeIn K cd35 "_law_kind"=true) (k35:PySem.W.keepIn K (.ref f35)=true)
  (a36:PySem.W.nsIn K mainGlobals "_law_word"=some (some (.ref f36))) (l36:K.lookup f36=some ⟨oc36,od36,.func (PySem.W.fnOf "_law_word" "_law_word" (Zaal Zacq) (Zaai Zacq) (Zaac Zacq) .none kV36 dc36 pm36 an36 cd36 ct36),sl36⟩) (c36:PySem.W.codeIn K cd36 "_law_word"=true) (k36:PySem.W.keepIn K (.ref f36)=true)
  (a37:PySem.W.nsIn K mainGlobals "_law_right"=some (some (.ref f37))) (l37:K.lookup f37=some ⟨oc37,od37,.func (PySem.W.fnOf "_law_right" "_law_right" (Zaal Zacl) (Zaai Zacl) (Zaac Zacl) .none kV37 dc37 pm37 an37 cd37 ct37),sl37⟩) (c37:PySem.W.codeIn K cd37 "_law_right"=true) (k37:PySem.W.keepIn K (.ref f37)=true)
  (a38:PySem.W.nsIn K mainGlobals "law"=some (some (.ref f38))) (l38:K.lookup f38=some ⟨oc38,od38,.func (PySem.W.fnOf "law" "law" (Zaal sLaw) (Zaai sLaw) (Zaac sLaw) .none kV38 dc38 pm38 an38 cd38 ct38),sl38⟩) (c38:PySem.W.codeIn K cd38 "law"=true) (k38:PySem.W.keepIn K (.ref f38)=true)
  (y0:PySem.W.nsIn K mainGlobals "LEAST_WAYS"=some (some (.int 2 tk0)))
  (y1:PySem.W.nsIn K mainGlobals "MOST_WAYS"=some (some (.int 7 tk1)))
  (y2:PySem.W.nsIn K mainGlobals "LAST_LEVEL"=some (some (.int 300 tk2)))
  (y3:PySem.W.nsIn K mainGlobals "MOST_PLACES"=some (some (.int 4000 tk3)))
  (y4:PySem.W.nsIn K mainGlobals "MOST_LAID"=some (some (.int 400 tk4)))
  {ec0 ec1 ec2 ec3 ec4 ec5 ec6 ec7 ec8 ec9 ec10 ec11 ec12:Addr}
  (ex0:PySem.W.nsIn K mainGlobals "ReelError"=some (some (.ref ec0)))
  (ex1:PySem.W.nsIn K mainGlobals "NoWays"=some (some (.ref ec1)))
  (ex2:PySem.W.nsIn K mainGlobals "NoRoom"=some (some (.ref ec2)))
  (ex3:PySem.W.nsIn K mainGlobals "NoLevel"=some (some (.ref ec3)))
  (ex4:PySem.W.nsIn K mainGlobals "NoStanding"=some (some (.ref ec4)))
  (ex5:PySem.W.nsIn K mainGlobals "TooMany"=some (some (.ref ec5)))
  (ex6:PySem.W.nsIn K mainGlobals "TooFew"=some (some (.ref ec6)))
  (ex7:PySem.W.nsIn K mainGlobals "NoPlace"=some (some (.ref ec7)))
  (ex8:PySem.W.nsIn K mainGlobals "NoText"=some (some (.ref ec8)))
  (ex9:PySem.W.nsIn K mainGlobals "NoLine"=some (some (.ref ec9)))
  (ex10:PySem.W.nsIn K mainGlobals "NoBack"=some (some (.ref ec10)))
  (ex11:PySem.W.nsIn K mainGlobals "NoPhase"=some (some (.ref ec11)))
  (ex12:PySem.W.nsIn K mainGlobals "Clash"=some (some (.ref ec12)))
  (exnd:([ec1,ec2,ec3,ec4,ec5,ec6,ec7,ec8,ec9,ec10,ec11,ec12]:List Addr).Nodup)
  (etNoWays:ZagH K ec0 ec1 [ec1,ec2,ec3,ec4,ec5,ec6,ec7,ec8,ec9,ec10,ec11,ec12]=true)
  (etNoLevel:ZagH K ec0 ec3 [ec1,ec2,ec3,ec4,ec5,ec6,ec7,ec8,ec9,ec10,ec11,ec12]=true)
  (etTooMany:ZagH K ec0 ec5 [ec1,ec2,ec3,ec4,ec5,ec6,ec7,ec8,ec9,ec10,ec11,ec12]=true)
  (z0:PySem.W.nsIn K mainGlobals "isinstance"=some none) (z1:PySem.W.nsIn K mainGlobals "int"=some none) (z2:PySem.W.nsIn K mainGlobals "bool"=some none) (z3:PySem.W.nsIn K mainGlobals "list"=some none) (z4:PySem.W.nsIn K mainGlobals "tuple"=some none) (z5:PySem.W.nsIn K mainGlobals "min"=some none) (z6:PySem.W.nsIn K mainGlobals "max"=some none) (z7:PySem.W.nsIn K mainGlobals "len"=some none) (z8:PySem.W.nsIn K mainGlobals "range"=some none) (z9:PySem.W.nsIn K mainGlobals "all"=some none) (z10:PySem.W.nsIn K mainGlobals "sum"=some none) (z11:PySem.W.nsIn K mainGlobals "sorted"=some none) (z12:PySem.W.nsIn K mainGlobals "zip"=some none) (zdict:PySem.W.nsIn K mainGlobals "dict"=some none) (zValueError:PySem.W.nsIn K mainGlobals "ValueError"=some none) (zenumerate:PySem.W.nsIn K mainGlobals "enumerate"=some none) :
  ∃ fd:FuncData,(∀ (s:Shared) (v:Value),BindsTo s fd ⟨[v],[]⟩ [("script",v)])/\∀ base:Heap,K.In base->base.Ns mainGlobals mg->FnOk l.prog w K mg base CX0 10 fa fd ["script"] (spLaw K):=by
 have e:=hfa.symm.trans (PySem.W.mg_of X G a38)
 cases e
 have T:Txt mg:=⟨PySem.W.mg_none_of X G z0,PySem.W.mg_none_of X G z1,PySem.W.mg_none_of X G z2,PySem.W.mg_none_of X G z3,PySem.W.mg_none_of X G z4,PySem.W.mg_none_of X G z5,PySem.W.mg_none_of X G z6,PySem.W.mg_none_of X G z7,PySem.W.mg_none_of X G z8,PySem.W.mg_none_of X G z9,PySem.W.mg_none_of X G z10,PySem.W.mg_none_of X G z11,PySem.W.mg_none_of X G z12⟩
 have F0:=Zaaz (st:=Zafa) l0 c0 k0
 have b0:=F0.binds (ps:=["thing"]) fun _ _ _ _ _ _ us hl=>@len1 (fun us=>bindArgs _ ⟨us,[]⟩=pure (List.zip _ us)) us hl fun _=>rfl
 have F1:=Zaaz (st:=sWays) l1 c1 k1
 have b1:=F1.binds (ps:=["p"]) fun _ _ _ _ _ _ us hl=>@len1 (fun us=>bindArgs _ ⟨us,[]⟩=pure (List.zip _ us)) us hl fun _=>rfl
 have F2:=Zals (st:=Zadl) l2 c2 k2
 have b2:=F2.binds (ps:=["n","last"]) d2 rfl [.int 300 dt2_0] ["n"] rfl fun _ _ _ _ _ _ us hl=>match us,hl with | [_],_=>⟨_,rfl,rfl⟩
 have F3:=Zaaz (st:=Zafe) l3 c3 k3
 have b3:=F3.binds (ps:=["p"]) fun _ _ _ _ _ _ us hl=>@len1 (fun us=>bindArgs _ ⟨us,[]⟩=pure (List.zip _ us)) us hl fun _=>rfl
 have F4:=Zaaz (st:=sNext) l4 c4 k4
 have b4:=F4.binds (ps:=["counts"]) fun _ _ _ _ _ _ us hl=>@len1 (fun us=>bindArgs _ ⟨us,[]⟩=pure (List.zip _ us)) us hl fun _=>rfl
 have F5:=Zaaz (st:=Zab7) l5 c5 k5
 have b5:=F5.binds (ps:=["p","n"]) fun _ _ _ _ _ _ us hl=>@len2 (fun us=>bindArgs _ ⟨us,[]⟩=pure (List.zip _ us)) us hl fun _ _=>rfl
 have F6:=Zaaz (st:=ZadS) l6 c6 k6
 have b6:=F6.binds (ps:=["p","n"]) fun _ _ _ _ _ _ us hl=>@len2 (fun us=>bindArgs _ ⟨us,[]⟩=pure (List.zip _ us)) us hl fun _ _=>rfl
 have F7:=Zaaz (st:=sTot) l7 c7 k7
 have b7:=F7.binds (ps:=["total"]) fun _ _ _ _ _ _ us hl=>@len1 (fun us=>bindArgs _ ⟨us,[]⟩=pure (List.zip _ us)) us hl fun _=>rfl
 have F8:=Zaaz (st:=Zab6) l8 c8 k8
 have b8:=F8.binds (ps:=["p","n"]) fun _ _ _ _ _ _ us hl=>@len2 (fun us=>bindArgs _ ⟨us,[]⟩=pure (List.zip _ us)) us hl fun _ _=>rfl
 have F9:=Zaaz (st:=Zacv) l9 c9 k9
 have b9:=F9.binds (ps:=["p"]) fun _ _ _ _ _ _ us hl=>@len1 (fun us=>bindArgs _ ⟨us,[]⟩=pure (List.zip _ us)) us hl fun _=>rfl
 have F10:=Zaaz (st:=Zadk) l10 c10 k10
 have b10:=F10.binds (ps:=["numbers"]) fun _ _ _ _ _ _ us hl=>@len1 (fun us=>bindArgs _ ⟨us,[]⟩=pure (List.zip _ us)) us hl fun _=>rfl
 have F11:=Zaaz (st:=Zafg) l11 c11 k11
 have b11:=F11.binds (ps:=["p","n","following"]) fun _ _ _ _ _ _ us hl=>@len3 (fun us=>bindArgs _ ⟨us,[]⟩=pure (List.zip _ us)) us hl fun _ _ _=>rfl
 have F12:=Zaaz (st:=Zafc) l12 c12 k12
 have b12:=F12.binds (ps:=["p","n"]) fun _ _ _ _ _ _ us hl=>@len2 (fun us=>bindArgs _ ⟨us,[]⟩=pure (List.zip _ us)) us hl fun _ _=>rfl
 have F13:=Zaaz (st:=sLN) l13 c13 k13
 have b13:=F13.binds (ps:=["p","n"]) fun _ _ _ _ _ _ us hl=>@len2 (fun us=>bindArgs _ ⟨us,[]⟩=pure (List.zip _ us)) us hl fun _ _=>rfl
 have F14:=Zaaz (st:=Zacs) l14 c14 k14
 have b14:=F14.binds (ps:=["numbers","many"]) fun _ _ _ _ _ _ us hl=>@len2 (fun us=>bindArgs _ ⟨us,[]⟩=pure (List.zip _ us)) us hl fun _ _=>rfl
 have F15:=Zaaz (st:=Zacu) l15 c15 k15
 have b15:=F15.binds (ps:=["p"]) fun _ _ _ _ _ _ us hl=>@len1 (fun us=>bindArgs _ ⟨us,[]⟩=pure (List.zip _ us)) us hl fun _=>rfl
 have F16:=Zaaz (st:=Zaff) l16 c16 k16
 have b16:=F16.binds (ps:=["one","other"]) fun _ _ _ _ _ _ us hl=>@len2 (fun us=>bindArgs _ ⟨us,[]⟩=pure (List.zip _ us)) us hl fun _ _=>rfl
 have F17:=Zaaz (st:=ZadT) l17 c17 k17
 have b17:=F17.binds (ps:=["spreads"]) fun _ _ _ _ _ _ us hl=>@len1 (fun us=>bindArgs _ ⟨us,[]⟩=pure (List.zip _ us)) us hl fun _=>rfl
 have F18:=Zaaz (st:=Zafb) l18 c18 k18
 have b18:=F18.binds (ps:=["spreads"]) fun _ _ _ _ _ _ us hl=>@len1 (fun us=>bindArgs _ ⟨us,[]⟩=pure (List.zip _ us)) us hl fun _=>rfl
 have F19:=Zaaz (st:=Zacr) l19 c19 k19
 have b19:=F19.binds (ps:=["spread","rows"]) fun _ _ _ _ _ _ us hl=>@len2 (fun us=>bindArgs _ ⟨us,[]⟩=pure (List.zip _ us)) us hl fun _ _=>rfl
 have F20:=Zaaz (st:=sBo) l20 c20 k20
 have b20:=F20.binds (ps:=["p","rows","last","following"]) fun _ _ _ _ _ _ us hl=>@len4 (fun us=>bindArgs _ ⟨us,[]⟩=pure (List.zip _ us)) us hl fun _ _ _ _=>rfl
 have F21:=Zaaz (st:=sBR) l21 c21 k21
 have b21:=F21.binds (ps:=["p","rows"]) fun _ _ _ _ _ _ us hl=>@len2 (fun us=>bindArgs _ ⟨us,[]⟩=pure (List.zip _ us)) us hl fun _ _=>rfl
 have F22:=Zaaz (st:=Zadm) l22 c22 k22
 have b22:=F22.binds (ps:=["numbers","rows"]) fun _ _ _ _ _ _ us hl=>@len2 (fun us=>bindArgs _ ⟨us,[]⟩=pure (List.zip _ us)) us hl fun _ _=>rfl
 have F23:=Zaaz (st:=sBLay) l23 c23 k23
 have b23:=F23.binds (ps:=["p","rows"]) fun _ _ _ _ _ _ us hl=>@len2 (fun us=>bindArgs _ ⟨us,[]⟩=pure (List.zip _ us)) us hl fun _ _=>rfl
 have F24:=Zaaz (st:=Zacw) l24 c24 k24
 have b24:=F24.binds (ps:=["script","k"]) fun _ _ _ _ _ _ us hl=>@len2 (fun us=>bindArgs _ ⟨us,[]⟩=pure (List.zip _ us)) us hl fun _ _=>rfl
 have F25:=Zaaz (st:=sPool) l25 c25 k25
 have b25:=F25.binds (ps:=["script","at"]) fun _ _ _ _ _ _ us hl=>@len2 (fun us=>bindArgs _ ⟨us,[]⟩=pure (List.zip _ us)) us hl fun _ _=>rfl
 have F26:=Zaaz (st:=sTake) l26 c26 k26
 have b26:=F26.binds (ps:=["pool","many"]) fun _ _ _ _ _ _ us hl=>@len2 (fun us=>bindArgs _ ⟨us,[]⟩=pure (List.zip _ us)) us hl fun _ _=>rfl
 have F27:=Zaaz (st:=Zact) l27 c27 k27
 have b27:=F27.binds (ps:=["thing"]) fun _ _ _ _ _ _ us hl=>@len1 (fun us=>bindArgs _ ⟨us,[]⟩=pure (List.zip _ us)) us hl fun _=>rfl
 have F28:=Zaaz (st:=Zabr) l28 c28 k28
 have b28:=F28.binds (ps:=["p","n"]) fun _ _ _ _ _ _ us hl=>@len2 (fun us=>bindArgs _ ⟨us,[]⟩=pure (List.zip _ us)) us hl fun _ _=>rfl
 have F29:=Zaaz (st:=sLNum) l29 c29 k29
 have b29:=F29.binds (ps:=["p","n"]) fun _ _ _ _ _ _ us hl=>@len2 (fun us=>bindArgs _ ⟨us,[]⟩=pure (List.zip _ us)) us hl fun _ _=>rfl
 have F30:=Zaaz (st:=sSums) l30 c30 k30
 have b30:=F30.binds (ps:=["p","n"]) fun _ _ _ _ _ _ us hl=>@len2 (fun us=>bindArgs _ ⟨us,[]⟩=pure (List.zip _ us)) us hl fun _ _=>rfl
 have F31:=Zaaz (st:=sSpr4) l31 c31 k31
 have b31:=F31.binds (ps:=["p","n","sums"]) fun _ _ _ _ _ _ us hl=>@len3 (fun us=>bindArgs _ ⟨us,[]⟩=pure (List.zip _ us)) us hl fun _ _ _=>rfl
 have F32:=Zaaz (st:=Zafd) l32 c32 k32
 have b32:=F32.binds (ps:=["spread","rows"]) fun _ _ _ _ _ _ us hl=>@len2 (fun us=>bindArgs _ ⟨us,[]⟩=pure (List.zip _ us)) us hl fun _ _=>rfl
 have F33:=Zaaz (st:=ZadU) l33 c33 k33
 have b33:=F33.binds (ps:=["p","rows"]) fun _ _ _ _ _ _ us hl=>@len2 (fun us=>bindArgs _ ⟨us,[]⟩=pure (List.zip _ us)) us hl fun _ _=>rfl
 have F34:=Zaaz (st:=sOdd) l34 c34 k34
 have b34:=F34.binds (ps:=["pool","least","most"]) fun _ _ _ _ _ _ us hl=>@len3 (fun us=>bindArgs _ ⟨us,[]⟩=pure (List.zip _ us)) us hl fun _ _ _=>rfl
 have F35:=Zaaz (st:=sKind) l35 c35 k35
 have b35:=F35.binds (ps:=["caught"]) fun _ _ _ _ _ _ us hl=>@len1 (fun us=>bindArgs _ ⟨us,[]⟩=pure (List.zip _ us)) us hl fun _=>rfl
 have F36:=Zaaz (st:=Zacq) l36 c36 k36
 have b36:=F36.binds (ps:=["p","rows"]) fun _ _ _ _ _ _ us hl=>@len2 (fun us=>bindArgs _ ⟨us,[]⟩=pure (List.zip _ us)) us hl fun _ _=>rfl
 have F37:=Zaaz (st:=Zacl) l37 c37 k37
 have b37:=F37.binds (ps:=["p","rows"]) fun _ _ _ _ _ _ us hl=>@len2 (fun us=>bindArgs _ ⟨us,[]⟩=pure (List.zip _ us)) us hl fun _ _=>rfl
 have F38:=Zaaz (st:=sLaw) l38 c38 k38
 refine⟨PySem.W.fnOf "law" "law" (Zaal sLaw) (Zaai sLaw) (Zaac sLaw) .none kV38 dc38 pm38 an38 cd38 ct38,fun s v=>.of_eq rfl,fun base _ _=>?_⟩
 have m:=fun {x:Str}{v:Value} (a:PySem.W.nsIn K mainGlobals x=some (some v))=>PySem.W.mg_of X G a
 have mLEAST_WAYS:=m y0
 have mMOST_WAYS:=m y1
 have mLAST_LEVEL:=m y2
 have mMOST_PLACES:=m y3
 have mMOST_LAID:=m y4
 let XX:Excs K mg:=⟨ec0,ec1,ec2,ec3,ec4,ec5,ec6,ec7,ec8,ec9,ec10,ec11,ec12,m ex0,m ex1,m ex2,m ex3,m ex4,m ex5,m ex6,m ex7,m ex8,m ex9,m ex10,m ex11,m ex12,exnd⟩
 have tabNoWays:ExcTab K XX.reel XX.nWays XX.all:=ExcTab.of etNoWays
 have tabNoLevel:ExcTab K XX.reel XX.nLevel XX.all:=ExcTab.of etNoLevel
 have tabTooMany:ExcTab K XX.reel XX.tMany XX.all:=ExcTab.of etTooMany
 have Cis_whole:Cal l.prog w K mg base 1 "is_whole" ["thing"] (ZacO K) _ _:=⟨ZaeE F0 T,m a0,k0,b0⟩
 have Cwhole:Cal l.prog w K mg base 1 "is_whole" ["thing"] Zacp _ _:=⟨(ZaeE F0 T).imp (fun vs H Q E ⟨i,e,q⟩=>⟨.int i,"int",e,⟨.int i,by decide⟩,q⟩),m a0,k0,b0⟩
 have Cways:Cal l.prog w K mg base 2 "check_ways" ["p"] ZafN _ _:=⟨ZakZ F1 T mLEAST_WAYS mMOST_WAYS Cwhole,m a1,k1,b1⟩
 have CwaysE:CalE l.prog w K mg base 2 "check_ways" ["p"] [] (Zahb K 2 7 XX.nWays) _ _:=⟨Zajy F1 T XX tabNoWays.ok mLEAST_WAYS mMOST_WAYS Cis_whole,m a1,k1,[],b1,.nil⟩
 have Ccheck_level:CalD l.prog w K mg base 2 "check_level" ["n","last"] [.int 300] ZadL _ _:=⟨ZajE F2 T Cwhole,m a2,k2,⟨_,b2,.cons ⟨_,rfl⟩ (.nil)⟩⟩
 have ClvlE:CalE l.prog w K mg base 2 "check_level" ["n","last"] [.int 300] (Zai7 K 300 XX.nLevel) _ _:=⟨Zahr F2 T XX tabNoLevel.ok Cis_whole,m a2,k2,_,b2,.cons ⟨_,rfl⟩ (.nil)⟩
 have Cfirst_counts:Cal l.prog w K mg base 1 "first_counts" ["p"] ZafR _ _:=⟨ZajH F3 T,m a3,k3,b3⟩
 have Cnext_counts:Cal l.prog w K mg base 1 "next_counts" ["counts"] (Zai6 K) _ _:=⟨Zak5 F4 T,m a4,k4,b4⟩
 have Clevel_counts:Cal l.prog w K mg base 3 "level_counts" ["p","n"] ZabM _ _:=⟨Zahx F5 T Cways Ccheck_level Cfirst_counts Cnext_counts,m a5,k5,b5⟩
 have ClcB:CalE l.prog w K mg base 3 "level_counts" ["p","n"] [] (spWL K XX.nWays XX.nLevel) _ _:=⟨Zagl F5 CwaysE ClvlE,m a5,k5,[],b5,.nil⟩
 have Clevel_total:Cal l.prog w K mg base 4 "level_total" ["p","n"] Zadf _ _:=⟨Zagg F6 T Clevel_counts,m a6,k6,b6⟩
 have Clt:CalE l.prog w K mg base 4 "level_total" ["p","n"] [] (fun vs H Q E=>Zadf vs H Q E∨spWL K XX.nWays XX.nLevel vs H Q E) _ _:=⟨FnOk.or (FnOk.toE (Zagg F6 T Clevel_counts)) (Zaho F6 T ClcB),m a6,k6,[],b6,.nil⟩
 have Ccheck_total:Cal l.prog w K mg base 1 "check_total" ["total"] spTot _ _:=⟨Zal9 F7 T mMOST_PLACES,m a7,k7,b7⟩
 have CtotE:CalE l.prog w K mg base 1 "check_total" ["total"] [] (Zai4 XX.tMany) _ _:=⟨Zak0 F7 XX tabTooMany.ok mMOST_PLACES,m a7,k7,[],b7,.nil⟩
 have Ccheck_places:Cal l.prog w K mg base 5 "check_places" ["p","n"] ZadK _ _:=⟨Zahp F8 T Clevel_total Ccheck_total,m a8,k8,b8⟩
 have CplE:CalE l.prog w K mg base 5 "check_places" ["p","n"] [] (spPlE K XX.nWays XX.nLevel XX.tMany) _ _:=⟨Zagi F8 Clt CtotE,m a8,k8,[],b8,.nil⟩
 have Cfirst_numbers:Cal l.prog w K mg base 1 "first_numbers" ["p"] ZadQ _ _:=⟨Zahw F9 T,m a9,k9,b9⟩
 have Cnext_numbers:Cal l.prog w K mg base 1 "next_numbers" ["numbers"] Zaev _ _:=⟨ZajD F10 T,m a10,k10,b10⟩
 have Cnumbers_after:Cal l.prog w K mg base 2 "numbers_after" ["p","n","following"] (ZafU _) _ _:=⟨ZajK F11 T Cfirst_numbers Cnext_numbers,m a11,k11,b11⟩
 have Cnumbers_of:Cal l.prog w K mg base 3 "numbers_of" ["p","n"] spNum _ _:=⟨ZajB F12 T Cnext_numbers Cnumbers_after,m a12,k12,b12⟩
 have Clevel_numbers:Cal l.prog w K mg base 6 "level_numbers" ["p","n"] spNum _ _:=⟨ok_ln F13 T Ccheck_places Cnumbers_of,m a13,k13,b13⟩
 have ClnE:CalE l.prog w K mg base 6 "level_numbers" ["p","n"] [] (spPlE K XX.nWays XX.nLevel XX.tMany) _ _:=⟨Zama F13 CplE,m a13,k13,[],b13,.nil⟩
 have Cleast_places:Cal l.prog w K mg base 1 "least_places" ["numbers","many"] ZadN _ _:=⟨Zaht F14 T (PySem.W.mg_none_of X G zenumerate),m a14,k14,b14⟩
 have Cfirst_spreads:Cal l.prog w K mg base 1 "first_spreads" ["p"] ZadP _ _:=⟨Zahv F15 T,m a15,k15,b15⟩
 have Cboth_spreads:Cal l.prog w K mg base 1 "both_spreads" ["one","other"] Zaex _ _:=⟨ZajI F16 T (PySem.W.mg_none_of X G zdict),m a16,k16,b16⟩
 have Cnext_spreads:Cal l.prog w K mg base 2 "next_spreads" ["spreads"] (Zaeu nextN) _ _:=⟨ZajC F17 T Cboth_spreads,m a17,k17,b17⟩
 have Cspread_over:Cal l.prog w K mg base 2 "spread_over" ["spreads"] ZafP _ _:=⟨Zajz F18 T Cboth_spreads,m a18,k18,b18⟩
 have Cleast_of_spread:Cal l.prog w K mg base 1 "least_of_spread" ["spread","rows"] ZadM _ _:=⟨Zahs F19 T,m a19,k19,b19⟩
 have Cbest_over:Cal l.prog w K mg base 3 "best_over" ["p","rows","last","following"] (spBo _ num) _ _:=⟨ok_bo (fun _=>rfl) (fun _ _=>rfl) (fun p n _=>Zaeg p n) (fun p n h=>Zabb (by omega) n) (fun p n h=>(ZabD h).lv.ne n) F20 T Cfirst_spreads Cnext_spreads Cspread_over Cleast_of_spread,m a20,k20,b20⟩
 have Cbest_reading:Cal l.prog w K mg base 4 "best_reading" ["p","rows"] spBR _ _:=⟨ok_br F21 mLAST_LEVEL Cways Cnext_spreads Cbest_over,m a21,k21,b21⟩
 have CbrB:CalE l.prog w K mg base 4 "best_reading" ["p","rows"] [] spBR _ _:=⟨FnOk.toE (ok_br F21 mLAST_LEVEL Cways Cnext_spreads Cbest_over),m a21,k21,[],b21,.nil⟩
 have Claid_least:Cal l.prog w K mg base 2 "laid_least" ["numbers","rows"] Zadg _ _:=⟨Zagk F22 T Cleast_places,m a22,k22,b22⟩
 have CllB:CalE l.prog w K mg base 2 "laid_least" ["numbers","rows"] [] Zadg _ _:=⟨FnOk.toE (Zagk F22 T Cleast_places),m a22,k22,[],b22,.nil⟩
 have Cbest_laying:Cal l.prog w K mg base 7 "best_laying" ["p","rows"] ZafT _ _:=⟨Zaix F23 T mMOST_LAID Cways Cbest_reading Clevel_numbers Claid_least,m a23,k23,b23⟩
 have CblB:CalE l.prog w K mg base 7 "best_laying" ["p","rows"] [] (fun vs H Q E=>ZafT vs H Q E∨ZafS K XX.nWays XX.tMany vs H Q E) _ _:=⟨FnOk.or (FnOk.toE (Zaix F23 T mMOST_LAID Cways Cbest_reading Clevel_numbers Claid_least)) (ZajJ F23 T mMOST_LAID CwaysE CbrB ClnE CllB),m a23,k23,[],b23,.nil⟩
 have C_law_cell_at:Cal l.prog w K mg base 1 "_law_cell_at" ["script","k"] (Zai9 K) _ _:=⟨Zahy F24 T,m a24,k24,b24⟩
 have C_law_pool:Cal l.prog w K mg base 2 "_law_pool" ["script","at"] (Zai5 K) _ _:=⟨Zak4 F25 T C_law_cell_at,m a25,k25,b25⟩
 have C_law_take:Cal l.prog w K mg base 1 "_law_take" ["pool","many"] Zaha _ _:=⟨Zak1 F26 T,m a26,k26,b26⟩
 have C_law_whole:Cal l.prog w K mg base 1 "_law_whole" ["thing"] Zacp _ _:=⟨Zahq F27 T,m a27,k27,b27⟩
 have C_law_counts:Cal l.prog w K mg base 1 "_law_counts" ["p","n"] ZabM _ _:=⟨Zagj F28 T,m a28,k28,b28⟩
 have C_law_numbers:Cal l.prog w K mg base 1 "_law_numbers" ["p","n"] Zai8 _ _:=⟨Zak6 F29 T,m a29,k29,b29⟩
 have C_law_sums:Cal l.prog w K mg base 1 "_law_sums" ["p","n"] ZafO _ _:=⟨Zak2 F30 T,m a30,k30,b30⟩
 have C_law_spread:Cal l.prog w K mg base 1 "_law_spread" ["p","n","sums"] ZadJ _ _:=⟨Zak3 F31 T,m a31,k31,b31⟩
 have C_law_least:Cal l.prog w K mg base 1 "_law_least" ["spread","rows"] ZacQ _ _:=⟨Zafj F32 T,m a32,k32,b32⟩
 have C_law_best:Cal l.prog w K mg base 2 "_law_best" ["p","rows"] Zaew _ _:=⟨ZajF F33 T C_law_sums C_law_spread C_law_least,m a33,k33,b33⟩
 have C_law_odd:Cal l.prog w K mg base 2 "_law_odd" ["pool","least","most"] (ZafQ K) _ _:=⟨ZajA F34 T C_law_take,m a34,k34,b34⟩
 have C_law_kind:Cal l.prog w K mg base 1 "_law_kind" ["caught"] (ZadO XX) _ _:=⟨Zahu F35 T (PySem.W.mg_none_of X G zValueError) XX,m a35,k35,b35⟩
 have C_law_word:Cal l.prog w K mg base 8 "_law_word" ["p","rows"] (ZacN K) _ _:=⟨Zahn F36 T XX tabNoWays tabTooMany CblB C_law_kind,m a36,k36,b36⟩
 have C_law_right:Cal l.prog w K mg base 9 "_law_right" ["p","rows"] ZacP _ _:=⟨Zagh F37 T C_law_best C_law_word C_law_counts C_law_whole C_law_numbers Cbest_laying,m a37,k37,b37⟩
 exact ZajG F38 T C_law_pool C_law_take C_law_right C_law_word C_law_odd
theorem walk {l : PySem.W.OpenLaw} {q : Program} {loose : List Str} {XP : (Str → Option Value) → Heap → Prop} {YP : World → Heap → Prop} {d : DefRec} {K : Params → PySem.W.Frag} (hn : l.most = some 63) (hdf : d.params.defaults = [])
  (hY:∀ (w:World) (h:Heap),YP w h->(K w.params).In h)
  (F:∀ (w:World) (mg:Str->Option Value) (fa:Addr) (h:Heap),(K w.params).In h->h.Ns mainGlobals mg->mg d.name=some (.ref fa) ->
   ∃ fd:FuncData,(∀ (s:Shared) (u:Value),BindsTo s fd ⟨[u],[]⟩ [("script",u)])/\∀ base:Heap,(K w.params).In base->base.Ns mainGlobals mg->FnOk l.prog w (K w.params) mg base CX0 10 fa fd ["script"] (spLaw (K w.params))) :
  PySem.W.WalkO q loose XP YP l.row.toRowW d [] (fun f vs=>PySem.call f vs) :=
 L2.walk_of (n:=63) (k:=10) (x:="script") (CX:=fun _=>CX0) (sp:=fun w=>spLaw (K w.params)) hn (by decide) hdf ⟨rfl,by decide,by decide,rfl⟩ hY F (fun _ _ a ns hl _ hS=>⟨a,ns,rfl,hS,hl,fun _=>rfl⟩) fun _ _ _ _ _ z=>z
end Fs33
def PySem.W.Fast.tw15681833613296480430 : Unit := ()
def PySem.W.Fast.tw3699362345419868876 : Unit := ()
def PySem.W.Fast.tw5034561179574948267 : Unit := ()
def PySem.W.Fast.tw10901088987558448247 : Unit := ()
def PySem.W.Fast.tw4220106569114097978 : Unit := ()
def PySem.W.Fast.tw15203862379964192945 : Unit := ()
def PySem.W.Fast.tw9758380038714905680 : Unit := ()
def PySem.W.Fast.tw8260323373806009028 : Unit := ()
def PySem.W.Fast.tw16408865579149730943 : Unit := ()
def PySem.W.Fast.tw6889178843914342708 : Unit := ()
def PySem.W.Fast.tw6440927687367920413 : Unit := ()
def PySem.W.Fast.tw3833396829714504508 : Unit := ()
def PySem.W.Fast.tw2627339261207268787 : Unit := ()
def PySem.W.Fast.tw5535908011216990118 : Unit := ()
def PySem.W.Fast.tw8467294024148222383 : Unit := ()
def PySem.W.Fast.tw5279134951254424745 : Unit := ()
def PySem.W.Fast.tw3087426573815100485 : Unit := ()
def PySem.W.Fast.tw9281485094849350262 : Unit := ()
def PySem.W.Fast.tw5402096450373752631 : Unit := ()
def PySem.W.Fast.tw17353017333255849512 : Unit := ()
def PySem.W.Fast.tw4689115673214168450 : Unit := ()
def PySem.W.Fast.tw4528068866658016237 : Unit := ()
def PySem.W.Fast.tw9826498615740211506 : Unit := ()
def PySem.W.Fast.tw18224993218352841679 : Unit := ()
def PySem.W.Fast.tw17781028865475360848 : Unit := ()
def PySem.W.Fast.tw2452090265986317728 : Unit := ()
def PySem.W.Fast.tw16231100658866519217 : Unit := ()
def PySem.W.Fast.tw12057371803193036651 : Unit := ()
def PySem.W.Fast.tw9754550476045057974 : Unit := ()
def PySem.W.Fast.tw7726164182229039404 : Unit := ()
def PySem.W.Fast.tw11259543391816309734 : Unit := ()
def PySem.W.Fast.tw15572925716434949204 : Unit := ()
def PySem.W.Fast.tw10335190078509001122 : Unit := ()
def PySem.W.Fast.tw1846044656510104889 : Unit := ()
def PySem.W.Fast.tw8814799680816154271 : Unit := ()
def PySem.W.Fast.tw10645969500012442613 : Unit := ()
def PySem.W.Fast.tw4518016663423675016 : Unit := ()
def PySem.W.Fast.tw16636034792446775527 : Unit := ()
def PySem.W.Fast.tw17126291787505144212 : Unit := ()
def PySem.W.Fast.tw18132431085923476487 : Unit := ()
def PySem.W.Fast.tw8686088225653929842 : Unit := ()
def PySem.W.Fast.tw1966505172277288727 : Unit := ()
def PySem.W.Fast.tw8345862439778072965 : Unit := ()
def PySem.W.Fast.tw1589987827996674732 : Unit := ()
def PySem.W.Fast.tw5118477480766054690 : Unit := ()
def PySem.W.Fast.tw17079471444603391868 : Unit := ()
def PySem.W.Fast.tw14998992499772556206 : Unit := ()
def PySem.W.Fast.tw4386916233653389572 : Unit := ()
def PySem.W.Fast.tw789814210444194017 : Unit := ()
def PySem.W.Fast.tw9343545510169535885 : Unit := ()
def PySem.W.Fast.tw2204007014351978529 : Unit := ()
def PySem.W.Fast.tw3931376034794239009 : Unit := ()
def PySem.W.Fast.tw4844612973389558481 : Unit := ()
def PySem.W.Fast.tw3692978429751281303 : Unit := ()
def PySem.W.Fast.tw177998619303030604 : Unit := ()
def PySem.W.Fast.tw3315887129105532394 : Unit := ()
def PySem.W.Fast.tw954145973331397907 : Unit := ()
def PySem.W.Fast.tw13741173657727488398 : Unit := ()
def PySem.W.Fast.tw16881580083590510750 : Unit := ()
def PySem.W.Fast.tw13623208455864555024 : Unit := ()
def PySem.W.Fast.tw4606459822467604945 : Unit := ()
def PySem.W.Fast.tw17924044476240072390 : Unit := ()
def PySem.W.Fast.tw7117793519471634734 : Unit := ()
def PySem.W.Fast.tw15172179868731639750 : Unit := ()
def PySem.W.Fast.tw10623982426975661642 : Unit := ()
def PySem.W.Fast.tw6353980387099297775 : Unit := ()
def PySem.W.Fast.tw4503967929832534377 : Unit := ()
def PySem.W.Fast.tw12136067537507832213 : Unit := ()
def PySem.W.Fast.tw8616089243991035182 : Unit := ()
def PySem.W.Fast.tw6245805877123802029 : Unit := ()
def PySem.W.Fast.tw4492252599445443334 : Unit := ()
def PySem.W.Fast.tw15493234414735424236 : Unit := ()
def PySem.W.Fast.tw4655244169561304211 : Unit := ()
def PySem.W.Fast.tw6197145330023188357 : Unit := ()
def PySem.W.Fast.tw5362129585540275416 : Unit := ()
def PySem.W.Fast.tw14174368395973116237 : Unit := ()
def PySem.W.Fast.tw16435742301837797529 : Unit := ()
def PySem.W.Fast.tw9840324532193923974 : Unit := ()
def PySem.W.Fast.tw14355044312869494762 : Unit := ()
def PySem.W.Fast.tw6458809632389252665 : Unit := ()
def PySem.W.Fast.tw4144578360563314998 : Unit := ()
def PySem.W.Fast.tw7851876729801616960 : Unit := ()
def PySem.W.Fast.tw2527484617272127053 : Unit := ()
def PySem.W.Fast.tw17466778657053998887 : Unit := ()
def PySem.W.Fast.tw10855443681803449031 : Unit := ()
def PySem.W.Fast.tw6097265772901658279 : Unit := ()
def PySem.W.Fast.tw9299310253800307633 : Unit := ()
def PySem.W.Fast.tw11724760763712886289 : Unit := ()
def PySem.W.Fast.tw12003333478842049248 : Unit := ()
def PySem.W.Fast.tw8619792833328018896 : Unit := ()
def PySem.W.Fast.tw7172319532956938151 : Unit := ()
def PySem.W.Fast.tw562241346017018337 : Unit := ()
def PySem.W.Fast.tw18300536486546817517 : Unit := ()
def PySem.W.Fast.tw884796074151316993 : Unit := ()
def PySem.W.Fast.tw5239976017841273316 : Unit := ()
def PySem.W.Fast.tw10180340709882959628 : Unit := ()
def PySem.W.Fast.tw17632244866669924776 : Unit := ()
def PySem.W.Fast.tw14978812351489965781 : Unit := ()
def PySem.W.Fast.tw17325170101156404801 : Unit := ()
def PySem.W.Fast.tw17419705882217094455 : Unit := ()
def PySem.W.Fast.tw15608165073630725309 : Unit := ()
def PySem.W.Fast.tw5138115459476616169 : Unit := ()
def PySem.W.Fast.tw11626144061834047022 : Unit := ()
def PySem.W.Fast.tw1352221186059639423 : Unit := ()
def PySem.W.Fast.tw5377525842363047910 : Unit := ()
def PySem.W.Fast.tw11550318135163159523 : Unit := ()
def PySem.W.Fast.tw767331941109926020 : Unit := ()
def PySem.W.Fast.tw18280683364946858488 : Unit := ()
def PySem.W.Fast.tw10984730395600906400 : Unit := ()
def PySem.W.Fast.tw13668655947391043870 : Unit := ()
def PySem.W.Fast.tw4976065072701183949 : Unit := ()
def PySem.W.Fast.tw3514481367711490635 : Unit := ()
def PySem.W.Fast.tw13010525550577754906 : Unit := ()
def PySem.W.Fast.tw7758979788609200776 : Unit := ()
def PySem.W.Fast.tw9100369921754205322 : Unit := ()
def PySem.W.Fast.tw11027776103106373581 : Unit := ()
def PySem.W.Fast.tw1879116858299430418 : Unit := ()
def PySem.W.Fast.tw14385518318022129360 : Unit := ()
def PySem.W.Fast.tw13335008850170096160 : Unit := ()
def PySem.W.Fast.tw2251045380827031305 : Unit := ()
def PySem.W.Fast.tw1654704557835690104 : Unit := ()
def PySem.W.Fast.tw13076835560952094135 : Unit := ()
def PySem.W.Fast.tw11288329834053038492 : Unit := ()
def PySem.W.Fast.tw2141271579681386144 : Unit := ()
def PySem.W.Fast.tw15158393686753487274 : Unit := ()
def PySem.W.Fast.tw5505659165362781785 : Unit := ()
def PySem.W.Fast.tw16435377514354571723 : Unit := ()
def PySem.W.Fast.tw9735817653701227897 : Unit := ()
def PySem.W.Fast.tw7437527213048761288 : Unit := ()
def PySem.W.Fast.tw16462206436834666076 : Unit := ()
def PySem.W.Fast.tw1875764217046211832 : Unit := ()
def PySem.W.Fast.tw4119253725121579618 : Unit := ()
def PySem.W.Fast.tw4547062251533079267 : Unit := ()
def PySem.W.Fast.tw4045865687754486267 : Unit := ()
def PySem.W.Fast.tw18156591069023537860 : Unit := ()
def PySem.W.Fast.tw13604374997647771560 : Unit := ()
def PySem.W.Fast.tw9015938721318614217 : Unit := ()
def PySem.W.Fast.tw1081116903934109674 : Unit := ()
def PySem.W.Fast.tw7080949577982883300 : Unit := ()
def PySem.W.Fast.tw7073223331844377943 : Unit := ()
def PySem.W.Fast.tw8130316670209792883 : Unit := ()
def PySem.W.Fast.tw15126986457896166432 : Unit := ()
def PySem.W.Fast.tw13655484863997748299 : Unit := ()
def PySem.W.Fast.tw16605150114617558536 : Unit := ()
def PySem.W.Fast.tw6262179069078220257 : Unit := ()
def PySem.W.Fast.tw17680754088479078070 : Unit := ()
def PySem.W.Fast.tw4772111315855086563 : Unit := ()
def PySem.W.Fast.tw499102515543945833 : Unit := ()
def PySem.W.Fast.tw6578165075810938294 : Unit := ()
def PySem.W.Fast.tw14035486689764737872 : Unit := ()
def PySem.W.Fast.tw17978617351589297703 : Unit := ()
def PySem.W.Fast.tw8618091514999255961 : Unit := ()
def PySem.W.Fast.tw5071822588360493915 : Unit := ()
def PySem.W.Fast.tw10028363586039448902 : Unit := ()
def PySem.W.Fast.tw11448103502096165148 : Unit := ()
def PySem.W.Fast.tw17654191629589364368 : Unit := ()
def PySem.W.Fast.tw14160848172688892007 : Unit := ()
def PySem.W.Fast.tw186234935089845086 : Unit := ()
def PySem.W.Fast.tw15758335209850671681 : Unit := ()
def PySem.W.Fast.tw4962749039210621623 : Unit := ()
def PySem.W.Fast.tw4980683387245693193 : Unit := ()
def PySem.W.Fast.tw1297708016431212859 : Unit := ()
def PySem.W.Fast.tw18070635933318526931 : Unit := ()
def PySem.W.Fast.tw7639511487298588967 : Unit := ()
def PySem.W.Fast.tw12214664346610704834 : Unit := ()
def PySem.W.Fast.tw10572540290614268161 : Unit := ()
def PySem.W.Fast.tw10422167628153561418 : Unit := ()
def PySem.W.Fast.tw6597029504135047909 : Unit := ()
def PySem.W.Fast.tw11404140862638574677 : Unit := ()
def PySem.W.Fast.tw8743997913481036283 : Unit := ()
open PySem PySem.W PyProof.Rows
set_option maxRecDepth 100000 in
set_option maxHeartbeats 0 in
theorem PySem.Challenge.cw_fewreels_k33_best_layings_told_holds : PySem.Challenge.rw_fewreels_k33_best_layings_told.Holds := by
  w_on; o_law; k_head; (case hw => w_witness2)
  k_fill
  refine Fs33.walk (l := PySem.Challenge.rw_fewreels_k33_best_layings_told) rfl rfl (fun w h Y => PySem.W.kIn_of Y) ?F
  case F =>
    intro w mg fa h KX G hmg
    refine' Fs33.all_mk KX G hmg ?a0 ?l0 ?c0 ?k0 ?a1 ?l1 ?c1 ?k1 ?a2 ?l2 ?c2 ?k2 ?d2 ?a3 ?l3 ?c3 ?k3 ?a4 ?l4 ?c4 ?k4 ?a5 ?l5 ?c5 ?k5 ?a6 ?l6 ?c6 ?k6 ?a7 ?l7 ?c7 ?k7 ?a8 ?l8 ?c8 ?k8 ?a9 ?l9 ?c9 ?k9 ?a10 ?l10 ?c10 ?k10 ?a11 ?l11 ?c11 ?k11 ?a12 ?l12 ?c12 ?k12 ?a13 ?l13 ?c13 ?k13 ?a14 ?l14 ?c14 ?k14 ?a15 ?l15 ?c15 ?k15 ?a16 ?l16 ?c16 ?k16 ?a17 ?l17 ?c17 ?k17 ?a18 ?l18 ?c18 ?k18 ?a19 ?l19 ?c19 ?k19 ?a20 ?l20 ?c20 ?k20 ?a21 ?l21 ?c21 ?k21 ?a22 ?l22 ?c22 ?k22 ?a23 ?l23 ?c23 ?k23 ?a24 ?l24 ?c24 ?k24 ?a25 ?l25 ?c25 ?k25 ?a26 ?l26 ?c26 ?k26 ?a27 ?l27 ?c27 ?k27 ?a28 ?l28 ?c28 ?k28 ?a29 ?l29 ?c29 ?k29 ?a30 ?l30 ?c30 ?k30 ?a31 ?l31 ?c31 ?k31 ?a32 ?l32 ?c32 ?k32 ?a33 ?l33 ?c33 ?k33 ?a34 ?l34 ?c34 ?k34 ?a35 ?l35 ?c35 ?k35 ?a36 ?l36 ?c36 ?k36 ?a37 ?l37 ?c37 ?k37 ?a38 ?l38 ?c38 ?k38 ?y0 ?y1 ?y2 ?y3 ?y4 ?ex0 ?ex1 ?ex2 ?ex3 ?ex4 ?ex5 ?ex6 ?ex7 ?ex8 ?ex9 ?ex10 ?ex11 ?ex12 ?exnd ?etNoWays ?etNoLevel ?etTooMany ?z0 ?z1 ?z2 ?z3 ?z4 ?z5 ?z6 ?z7 ?z8 ?z9 ?z10 ?z11 ?z12 ?zdict ?zValueError ?zenumerate
    (case a0 => k_is); (case l0 => k_is); (case c0 => k_is); (case k0 => k_is); (case a1 => k_is); (case l1 => k_is)
    (case c1 => k_is); (case k1 => k_is); (case a2 => k_is); (case l2 => k_is); (case c2 => k_is); (case k2 => k_is)
    (case d2 => k_is); (case a3 => k_is); (case l3 => k_is); (case c3 => k_is); (case k3 => k_is); (case a4 => k_is)
    (case l4 => k_is); (case c4 => k_is); (case k4 => k_is); (case a5 => k_is); (case l5 => k_is); (case c5 => k_is)
    (case k5 => k_is); (case a6 => k_is); (case l6 => k_is); (case c6 => k_is); (case k6 => k_is); (case a7 => k_is)
    (case l7 => k_is); (case c7 => k_is); (case k7 => k_is); (case a8 => k_is); (case l8 => k_is); (case c8 => k_is)
    (case k8 => k_is); (case a9 => k_is); (case l9 => k_is); (case c9 => k_is); (case k9 => k_is); (case a10 => k_is)
    (case l10 => k_is); (case c10 => k_is); (case k10 => k_is); (case a11 => k_is); (case l11 => k_is); (case c11 => k_is)
    (case k11 => k_is); (case a12 => k_is); (case l12 => k_is); (case c12 => k_is); (case k12 => k_is); (case a13 => k_is)
    (case l13 => k_is); (case c13 => k_is); (case k13 => k_is); (case a14 => k_is); (case l14 => k_is); (case c14 => k_is)
    (case k14 => k_is); (case a15 => k_is); (case l15 => k_is); (case c15 => k_is); (case k15 => k_is); (case a16 => k_is)
    (case l16 => k_is); (case c16 => k_is); (case k16 => k_is); (case a17 => k_is); (case l17 => k_is); (case c17 => k_is)
    (case k17 => k_is); (case a18 => k_is); (case l18 => k_is); (case c18 => k_is); (case k18 => k_is); (case a19 => k_is)
    (case l19 => k_is); (case c19 => k_is); (case k19 => k_is); (case a20 => k_is); (case l20 => k_is); (case c20 => k_is)
    (case k20 => k_is); (case a21 => k_is); (case l21 => k_is); (case c21 => k_is); (case k21 => k_is); (case a22 => k_is)
    (case l22 => k_is); (case c22 => k_is); (case k22 => k_is); (case a23 => k_is); (case l23 => k_is); (case c23 => k_is)
    (case k23 => k_is); (case a24 => k_is); (case l24 => k_is); (case c24 => k_is); (case k24 => k_is); (case a25 => k_is)
    (case l25 => k_is); (case c25 => k_is); (case k25 => k_is); (case a26 => k_is); (case l26 => k_is); (case c26 => k_is)
    (case k26 => k_is); (case a27 => k_is); (case l27 => k_is); (case c27 => k_is); (case k27 => k_is); (case a28 => k_is)
    (case l28 => k_is); (case c28 => k_is); (case k28 => k_is); (case a29 => k_is); (case l29 => k_is); (case c29 => k_is)
    (case k29 => k_is); (case a30 => k_is); (case l30 => k_is); (case c30 => k_is); (case k30 => k_is); (case a31 => k_is)
    (case l31 => k_is); (case c31 => k_is); (case k31 => k_is); (case a32 => k_is); (case l32 => k_is); (case c32 => k_is)
    (case k32 => k_is); (case a33 => k_is); (case l33 => k_is); (case c33 => k_is); (case k33 => k_is); (case a34 => k_is)
    (case l34 => k_is); (case c34 => k_is); (case k34 => k_is); (case a35 => k_is); (case l35 => k_is); (case c35 => k_is)
    (case k35 => k_is); (case a36 => k_is); (case l36 => k_is); (case c36 => k_is); (case k36 => k_is); (case a37 => k_is)
    (case l37 => k_is); (case c37 => k_is); (case k37 => k_is); (case a38 => k_is); (case l38 => k_is); (case c38 => k_is)
    (case k38 => k_is); (case y0 => k_is); (case y1 => k_is); (case y2 => k_is); (case y3 => k_is); (case y4 => k_is)
    (case ex0 => k_is); (case ex1 => k_is); (case ex2 => k_is); (case ex3 => k_is); (case ex4 => k_is); (case ex5 => k_is)
    (case ex6 => k_is); (case ex7 => k_is); (case ex8 => k_is); (case ex9 => k_is); (case ex10 => k_is); (case ex11 => k_is)
    (case ex12 => k_is); (case z0 => k_is); (case z1 => k_is); (case z2 => k_is); (case z3 => k_is); (case z4 => k_is)
    (case z5 => k_is); (case z6 => k_is); (case z7 => k_is); (case z8 => k_is); (case z9 => k_is); (case z10 => k_is)
    (case z11 => k_is); (case z12 => k_is); (case zdict => k_is); (case zValueError => k_is); (case zenumerate => k_is)
    (case exnd => decide)
    (case etNoWays => with_unfolding_all rfl)
    (case etNoLevel => with_unfolding_all rfl)
    (case etTooMany => with_unfolding_all rfl)
