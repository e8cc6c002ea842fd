import PyProof.Rows.All
import Wide.All
import OpenK.AllK
import Wide.FinOn
import Lean
import PyProof.EqAt
import PyProof.EqKinds
import PyProof.TupleCall
import PyProof.NeKinds
import PyProof.Draws
import PyProof.SumWalkG
import PyProof.ListRange
import PyProof.ZipIter
import PyProof.Rows.SortRev
import KE.IntBitsLaws
import PyProof.ListMulRoad
import PyProof.TupleKey
import PyProof.StationsW
import PyProof.RulesAs
import PyProof.NsDelKeeps
import PyProof.Rows.Own
import PyProof.Rows.Catch
import KE.KTryMore
import KE.KIsNot
import OpenK.KDescr
import PyProof.ExcAttrAll.ValueError
import PyProof.FString
import KE.KItemsList
import KE.KPairComp
import PyProof.DictWalks
import PyProof.Rows.SortShellK
import KE.KSortTup
import KE.KDictSum
import PyProof.ReprRoads
import PyProof.ReprLen
import PyProof.CallStr
import PyProof.Rows.RuleIs
import PyProof.Rows.SeqMore2
import KE.KRevIter
import PyProof.Rows.TupAdd
import PyProof.StrLawsRepr
import PyProof.RulesTry
import PyProof.InstStoreFacts
import OpenK.KMake
import PyProof.FactsAll.range_2
import PyProof.RangeFor
import PyProof.Rows.StrJoin2
import PyProof.Rows.Range3
import PySem.Challenge.RW_fewreels_k75_held_lengths_told
set_option Elab.async false
set_option linter.all false
set_option maxRecDepth 100000
namespace L2
open PySem PySem.Spec PyProof.Rows
abbrev Key:=Sum Int Str
def keyIs:Key->Value->Bool
  | .inl k,v=>Value.isInt k v
  | .inr x,v=>Value.isStrOf x v
def keyH (w:World):Key->Int
  | .inl k=>hashInt k
  | .inr x=>hashStr w x
theorem keyIs_shape:∀ {k:Key}{v:Value},keyIs k v=true->(∃ i t,k=Sum.inl i/\v=Value.int i t)∨(∃ x t,k=Sum.inr x/\v=Value.str x t)
  | .inl i,v,h=>by
    obtain⟨t,e⟩:=Value.isInt_shape (k:=i) (v:=v) h
    exact .inl ⟨i,t,rfl,e⟩
  | .inr x,v,h=>by
    obtain⟨t,e⟩:=Value.isStrOf_shape (x:=x) (v:=v) h
    exact .inr ⟨x,t,rfl,e⟩
theorem key_ll (a b:Int):decide ((Sum.inl a:Key)=Sum.inl b)=(a == b):=by
  by_cases e:a=b
  · subst e;simp
  · have h:¬ (Sum.inl a:Key)=Sum.inl b:=fun q=>e (Sum.inl.inj q)
    rw[decide_eq_false h]
    exact (beq_eq_false_iff_ne.mpr e).symm
theorem key_rr (a b:Str):decide ((Sum.inr a:Key)=Sum.inr b)=decide (a=b):=by
  by_cases e:a=b
  · subst e;simp
  · have h:¬ (Sum.inr a:Key)=Sum.inr b:=fun q=>e (Sum.inr.inj q)
    rw[decide_eq_false h,decide_eq_false e]
theorem key_lr (a:Int) (b:Str):decide ((Sum.inl a:Key)=Sum.inr b)=false:=decide_eq_false (fun q=>nomatch q)
theorem key_rl (a:Str) (b:Int):decide ((Sum.inr a:Key)=Sum.inl b)=false:=decide_eq_false (fun q=>nomatch q)
def mixKind (prog:Program) (w:World):PySem.KeyKind prog w Key where
  is:=keyIs
  hash:=keyH w
  inj:=fun v a b ha hb=>by
    rcases keyIs_shape ha with ⟨i,t,rfl,rfl⟩ | ⟨x,t,rfl,rfl⟩
    · rcases keyIs_shape hb with ⟨j,u,rfl,e⟩ | ⟨y,u,rfl,e⟩
      · injection e with e1 _;rw[e1]
      · exact nomatch e
    · rcases keyIs_shape hb with ⟨j,u,rfl,e⟩ | ⟨y,u,rfl,e⟩
      · exact nomatch e
      · injection e with e1 _;rw[e1]
  byValue:=fun k v h=>by
    rcases keyIs_shape h with ⟨i,t,rfl,rfl⟩ | ⟨x,t,rfl,rfl⟩ <;> rfl
  pyHash:=fun hv h=>by
    rcases keyIs_shape hv with ⟨i,t,rfl,rfl⟩ | ⟨x,t,rfl,rfl⟩
    · exact wpAny_pyHash_int h
    · exact wpAny_pyHash_str h
  eqBool:=fun hu hv h=>by
    rcases keyIs_shape hu with ⟨i,t,rfl,rfl⟩ | ⟨x,t,rfl,rfl⟩
    · rcases keyIs_shape hv with ⟨j,u,rfl,rfl⟩ | ⟨y,u,rfl,rfl⟩
      · rw[key_ll] at h;exact wpAny_eqBool_int h
      · rw[key_lr] at h;exact SeqAt.EqAt.int_str i t y u _ _ _ _ h
    · rcases keyIs_shape hv with ⟨j,u,rfl,rfl⟩ | ⟨y,u,rfl,rfl⟩
      · rw[key_rl] at h;exact SeqAt.EqAt.str_int x t j u _ _ _ _ h
      · rw[key_rr] at h;exact wpAny_eqBool_str h
  «strs»:=fun k x t v h=>by
    rcases keyIs_shape h with ⟨i,u,rfl,e⟩ | ⟨y,u,rfl,e⟩
    · exact nomatch e
    · injection e with e1 _
      subst e1
      cases v <;> rfl
end L2
namespace L2
open PySem PySem.Spec PyProof.Rows
inductive V where
  | non | bl (b:Bool) | int (i:Int) | str (x:Str) | byt (b:Array UInt8) | flt (b:UInt64) | ref (a:Addr) | ty (n:String)
  deriving DecidableEq
def RelV:V->Value->Prop
  | .non,u=>u=Value.none
  | .bl b,u=>u=Value.bool b
  | .int i,u=>∃ t,u=Value.int i t
  | .str x,u=>∃ t,u=Value.str x t
  | .byt b,u=>∃ t,u=Value.bytes b t
  | .flt b,u=>∃ t,u=Value.float b t
  | .ref a,u=>u=Value.ref a
  | .ty n,u=>u=Value.type n
abbrev Vals:List V->List Value->Prop:=Paired RelV
theorem Vals.length {xs:List V}{us:List Value} (r:Vals xs us):xs.length=us.length:=Paired.length r
theorem Vals.get:∀ {xs:List V}{us:List Value}{i:Nat}{x:V},Vals xs us->xs[i]?=some x->∃ u,us[i]?=some u/\RelV x u
  | _,_,_,_,.nil,e=>by simp at e
  | _,_,0,_,.cons r _,e=>by simp at e;subst e;exact⟨_,rfl,r⟩
  | _,_,i+1,x,.cons _ t,e=>by
    obtain⟨u,h1,h2⟩:=Vals.get (i:=i) (x:=x) t (by simpa using e)
    exact⟨u,by simpa using h1,h2⟩
theorem Vals.set {x:V}{u:Value} (r:RelV x u):∀ {xs:List V}{us:List Value} (i:Nat),Vals xs us->Vals (xs.set i x) (us.set i u)
  | _,_,_,.nil=>.nil
  | _,_,0,.cons _ t=>.cons r t
  | _,_,i+1,.cons q t=>.cons q (Vals.set r i t)
theorem Vals.append:∀ {xs ys:List V}{us ws:List Value},Vals xs us->Vals ys ws->Vals (xs++ys) (us++ws)
  | _,_,_,_,.nil,s=>s
  | _,_,_,_,.cons r t,s=>.cons r (Vals.append t s)
theorem Vals.take:∀ {xs:List V}{us:List Value} (n:Nat),Vals xs us->Vals (xs.take n) (us.take n)
  | _,_,0,_=>.nil
  | _,_,_+1,.nil=>.nil
  | _,_,n+1,.cons r t=>.cons r (Vals.take n t)
theorem Vals.drop:∀ {xs:List V}{us:List Value} (n:Nat),Vals xs us->Vals (xs.drop n) (us.drop n)
  | _,_,0,r=>r
  | _,_,_+1,.nil=>.nil
  | _,_,n+1,.cons _ t=>Vals.drop n t
theorem Vals.none_of:∀ {xs:List V}{us:List Value}{i:Nat},Vals xs us->xs[i]?=none->us[i]?=none:=fun {xs us i} r e=>by
  have h1:=r.length
  have h2:xs.length<=i:=List.getElem?_eq_none_iff.mp e
  exact List.getElem?_eq_none_iff.mpr (by omega)
def RelO:Option V->Option Value->Prop
  | some v,some u=>RelV v u
  | none,none=>True
  | _,_=>False
def KV {κ:Type}:List (κ × V)->List (κ × Value)->Prop:=Paired fun (p:κ × V) (q:κ × Value)=>p.1=q.1/\RelV p.2 q.2
def kV:Key->V
  | .inl i=>.int i
  | .inr x=>.str x
inductive HO where
  | lst (xs:List V)
  | tup (xs:List V)
  | dK (kvs:List (Key × V)) | dT (kvs:List (List Key × V))
  | set (S:Int->Bool) (n:Nat)
  | ins (C dx:Addr) (fs:List (Str × V))
  | own (x:Addr)
  | xd (fs:List (Str × V))
  | met (f x:Addr)
  | rng (lo hi:Int)
  | frz (o:Obj) (u:HO)
  | tbl (ps:Array Value)
  | ext (φ:Heap->Prop)
abbrev Hp:=Addr->Option HO
def upd (H:Hp) (a:Addr) (o:HO):Hp:=fun b=>if b=a then some o else H b
theorem upd_same {H:Hp}{a:Addr}{o:HO}:upd H a o a=some o:=by unfold upd;rw[if_pos rfl]
theorem upd_ne {H:Hp}{a b:Addr}{o:HO} (h:b≠a):upd H a o b=H b:=by unfold upd;rw[if_neg h]
theorem ne_of_none {H:Hp}{a b:Addr}{o:HO} (h:H a=some o) (h':H b=none):a≠b:=by
  intro e;subst e;rw[h] at h';cases h'
def IsTupD (h:Heap) (a:Addr) (items:Array Value):Prop:=∃ o,h.get? a=some o/\o.cls=.type "tuple"/\o.dict=none/\∃ n,o.data=.seq items n
theorem IsTupD.tup {h:Heap}{a:Addr}{items:Array Value} (x:IsTupD h a items):IsTup h a items:=let ⟨o,e,c,_,d⟩:=x;⟨o,e,c,d⟩
theorem IsTupD.new (h:Heap) (items:Array Value):IsTupD (h.push { cls:=.type "tuple",data:=.seq items }) h.objs.size items:=⟨_,Heap.get?_push_size _ rfl,rfl,rfl,_,rfl⟩
section
variable (P:Program) (w:World)
def ObjOk (H:Hp) (h:Heap) (a:Addr):HO->Prop
  | .lst xs=>xs.length<=sizeLine/\∃ (its:List Value) (n:Nat),Vals xs its/\h.get? a=some { cls:=.type "list",data:=.seq its.toArray n }
  | .tup xs=>xs.length<=sizeLine/\∃ its:List Value,Vals xs its/\IsTupD h a its.toArray
  | .dK kvs=>kvs.length<=sizeLine/\(a == sysModules)=false/\∃ vs,KV kvs vs/\h.DictOf (mixKind P w) a vs
  | .dT kvs=>kvs.length<=sizeLine/\(a == sysModules)=false/\∃ xs:List (List Key × Addr × Value),
      Paired (fun (p:List Key × V) (q:List Key × Addr × Value)=>p.1=q.1/\H q.2.1=some (.tup (p.1.map kV))/\RelV p.2 q.2.2) kvs xs /\
      ∃ o es ep,h.get? a=some o/\o.ExactDict/\o.data=.dict es ep/\es.toList=xs.map (entryOfKey (tupleKind (mixKind P w)))/\(xs.map (·.1)).Nodup
  | .set S n=>h.SetOf (intKind P w) a S n
  | .ins C dx fs=>H dx=some (.own a)/\fs.length<=1000/\dx≠a/\h.get? a=some (PySem.W.instObj C dx) /\
      ∃ mA,h.Ns1 dx mA/\(∀ f,RelO (fs.lookup f) (mA f))/\PySem.Within mA (fs.map (·.1))
  | .own _=>∃ o,h.get? a=some o
  | .xd fs=>∃ mA,h.Ns1 a mA/\∀ f,RelO (fs.lookup f) (mA f)
  | .rng lo hi=>∃ t u v,h.get? a=some { cls:=.type "range",data:=.fields #[.int lo t,.int hi u,.int 1 v] }
  | .frz o u=>h.get? a=some o/\ObjOk H h a u
  | .tbl ps=>h.get? a=some { cls:=.none,data:=.fields ps }
  | .met f x=>h.get? a=some (PySem.W.methodObj (.ref f) (.ref x))
  | .ext φ=>φ h/\(∃ o,h.get? a=some o)/\∀ h1 h2:Heap,φ h1->(∀ o,h1.get? a=some o->h2.get? a=some o)->φ h2
def HOk (H:Hp) (h:Heap):Prop:=∀ a o,H a=some o->ObjOk P w H h a o
end
section
variable {P:Program}{w:World}{H H':Hp}{h h':Heap}{a:Addr}{o:HO}
theorem ObjOk.lt (x:ObjOk P w H h a o):a<h.objs.size:=by
  cases o with
  | lst xs=>obtain⟨_,_,_,_,e⟩:=x;exact Heap.lt_size e
  | tup xs=>obtain⟨_,_,_,p⟩:=x;exact p.tup.lt
  | dK kvs=>obtain⟨_,_,_,_,o,_,_,e,_⟩:=x;exact Heap.lt_size e
  | dT kvs=>obtain⟨_,_,_,_,o,_,_,e,_⟩:=x;exact Heap.lt_size e
  | set S n=>obtain⟨o,_,_,_,e,_⟩:=x;exact Heap.lt_size e
  | ins C dx fs=>obtain⟨_,_,_,e,_⟩:=x;exact Heap.lt_size e
  | own y=>obtain⟨_,e⟩:=x;exact Heap.lt_size e
  | xd fs=>obtain⟨_,⟨_,_,_,e,_⟩,_⟩:=x;exact Heap.lt_size e
  | rng lo hi=>obtain⟨_,_,_,e⟩:=x;exact Heap.lt_size e
  | frz ob u=>obtain⟨e,_⟩:=x;exact Heap.lt_size e
  | tbl ps=>exact Heap.lt_size (show h.get? a=some _ from x)
  | met f y=>exact Heap.lt_size (show h.get? a=some _ from x)
  | ext φ=>obtain⟨_,⟨_,e⟩,_⟩:=x;exact Heap.lt_size e
theorem Paired.mapP {α β:Type}{F G:α->β->Prop}:∀ {l₁:List α}{l₂:List β},Paired F l₁ l₂->(∀ a b,F a b->G a b)->Paired G l₁ l₂
  | _,_,.nil,_=>.nil
  | _,_,.cons r t,f=>.cons (f _ _ r) (Paired.mapP t f)
theorem ObjOk.stay (x:ObjOk P w H h a o) (k:∀ b u,(b=a∨H b=some (.own a))->h.get? b=some u->h'.get? b=some u)
    (ho:∀ b,H b=some (.own a)->H' b=some (.own a)) (ht:∀ b xs,H b=some (.tup xs)->H' b=some (.tup xs)):ObjOk P w H' h' a o:=by
  induction o with
  | lst xs=>obtain⟨z,its,n,r,e⟩:=x;exact⟨z,its,n,r,k _ _ (.inl rfl) e⟩
  | tup xs=>obtain⟨z,its,r,ob,e,c⟩:=x;exact⟨z,its,r,ob,k _ _ (.inl rfl) e,c⟩
  | dK kvs=>obtain⟨z,y,vs,r,ob,es,ep,e,c⟩:=x;exact⟨z,y,vs,r,ob,es,ep,k _ _ (.inl rfl) e,c⟩
  | dT kvs=>
    obtain⟨z,y,xs,r,ob,es,ep,e,c⟩:=x
    exact⟨z,y,xs,Paired.mapP r fun p q z=>⟨z.1,ht _ _ z.2.1,z.2.2⟩,ob,es,ep,k _ _ (.inl rfl) e,c⟩
  | set S n=>obtain⟨ob,es,ep,t,e,c⟩:=x;exact⟨ob,es,ep,t,k _ _ (.inl rfl) e,c⟩
  | ins C dx fs=>
    obtain⟨d,z,ne,e,mA,⟨od,es,ep,e2,c⟩,r⟩:=x
    exact⟨ho _ d,z,ne,k _ _ (.inl rfl) e,mA,⟨od,es,ep,k _ _ (.inr d) e2,c⟩,r⟩
  | own y=>obtain⟨ob,e⟩:=x;exact⟨ob,k _ _ (.inl rfl) e⟩
  | xd fs=>obtain⟨mA,⟨od,es,ep,e,c⟩,r⟩:=x;exact⟨mA,⟨od,es,ep,k _ _ (.inl rfl) e,c⟩,r⟩
  | rng lo hi=>obtain⟨t,u,v,e⟩:=x;exact⟨t,u,v,k _ _ (.inl rfl) e⟩
  | frz ob u ih=>obtain⟨e,q⟩:=x;exact⟨k _ _ (.inl rfl) e,ih q⟩
  | tbl ps=>
    have e:h.get? a=some { cls:=.none,data:=.fields ps }:=x
    show h'.get? a=some { cls:=.none,data:=.fields ps }
    exact k a _ (.inl rfl) e
  | met f y=>
    have e:h.get? a=some (PySem.W.methodObj (.ref f) (.ref y)):=x
    show h'.get? a=some (PySem.W.methodObj (.ref f) (.ref y))
    exact k a _ (.inl rfl) e
  | ext φ=>obtain⟨p,⟨o,e⟩,st⟩:=x;exact⟨st _ _ p fun o q=>k _ _ (.inl rfl) q,⟨o,k _ _ (.inl rfl) e⟩,st⟩
theorem HOk.lt (x:HOk P w H h) (e:H a=some o):a<h.objs.size:=(x a o e).lt
theorem HOk.fresh (x:HOk P w H h) (e:h.objs.size<=a):H a=none:=by
  cases q:H a with
  | none=>rfl
  | some u=>exact absurd (Nat.lt_of_lt_of_le (x.lt q) e) (Nat.lt_irrefl _)
theorem HOk.kept (x:HOk P w H h) (k:∀ b u,h.get? b=some u->h'.get? b=some u):HOk P w H h':=fun a o e=>
  (x a o e).stay (fun b u _ q=>k b u q) (fun _ q=>q) fun _ _ q=>q
theorem HOk.laid (x:HOk P w H h) (k:∀ b u,h.get? b=some u->h'.get? b=some u) (hp:h.objs.size<=a) (new:ObjOk P w (upd H a o) h' a o):HOk P w (upd H a o) h':=fun b u e=>by
  have hn:=x.fresh hp
  by_cases hb:b=a
  · subst hb;rw[upd_same] at e;cases e;exact new
  · rw[upd_ne hb] at e
    exact (x b u e).stay (fun c v _ q=>k c v q) (fun c q=>by rw[upd_ne (ne_of_none q hn)];exact q) fun c xs q=>by rw[upd_ne (ne_of_none q hn)];exact q
end
def Rd (H:Hp) (a:Addr) (u:HO):Prop:=H a=some u∨∃ o,H a=some (.frz o u)
theorem Rd.ok {P:Program}{w:World}{H:Hp}{h:Heap}{a:Addr}{u:HO} (r:Rd H a u) (x:HOk P w H h):ObjOk P w H h a u:=by
  rcases r with r | ⟨o,r⟩
  · exact x a u r
  · obtain⟨_,q⟩:=x a _ r
    exact q
def Mut:Option HO->Prop
  | some (.lst _)=>True
  | some (.dK _)=>True
  | some (.dT _)=>True
  | some (.set _ _)=>True
  | some (.ins _ _ _)=>True
  | some (.ext _)=>True
  | _=>False
section
variable {P:Program}{w:World}{H:Hp}{h h':Heap}{x e:Addr}{o':HO}
theorem HOk.write (ok:HOk P w H h) (mu:Mut (H x)) (he:e=x∨H e=some (.own x)) (k:∀ b u,b≠e->h.get? b=some u->h'.get? b=some u) (heo:∃ u,h'.get? e=some u)
    (new:ObjOk P w (upd H x o') h' x o'):HOk P w (upd H x o') h':=fun b u q=>by
  have nown:∀ c y,H c=some (.own y)->c≠x:=fun c y r z=>by subst z;rw[r] at mu;exact mu
  have ntup:∀ c xs,H c=some (.tup xs)->c≠x:=fun c xs r z=>by subst z;rw[r] at mu;exact mu
  by_cases hb:b=x
  · subst hb;rw[upd_same] at q;cases q;exact new
  · rw[upd_ne hb] at q
    by_cases hbe:b=e
    · have q':H b=some (.own x):=by
        rcases he with z | z
        · exact absurd (hbe.trans z) hb
        · rw[hbe];exact z
      rw[q] at q';cases q'
      obtain⟨v,hv⟩:=heo
      exact⟨v,by rw[hbe];exact hv⟩
    · refine (ok b u q).stay (fun c v hc r=>k c v ?_ r) (fun c r=>by rw[upd_ne (nown c b r)];exact r) fun c xs r=>by rw[upd_ne (ntup c xs r)];exact r
      rcases hc with rfl | hc
      · exact hbe
      · rintro rfl
        rcases he with z | z
        · exact nown c b hc z
        · rw[hc] at z;cases z;exact hb rfl
end
structure Un (fs ex:List Addr) (H H':Hp) (h h':Heap):Prop where
  keep:∀ b o,h.get? b=some o->H b=none->b ∉ fs->b ∉ ex->h'.get? b=some o
  slot:∀ b o,h.get? b=some o->H b=none->b∈fs->b ∉ ex->∃ sl,h'.get? b=some { o with slots:=sl }
  free:∀ b o,h.get? b=some o->H b=none->b ∉ ex->H' b=none
  there:∀ b o,h.get? b=some o->b ∉ ex->∃ o',h'.get? b=some o'
  tups:∀ b xs,H b=some (.tup xs)->H' b=some (.tup xs)
  frzs:∀ b o u,H b=some (.frz o u)->H' b=some (.frz o u)
  tbls:∀ b ps,H b=some (.tbl ps)->∃ more,H' b=some (.tbl (ps++more))
section
variable {fs fs' ex ex':List Addr}{H H1 H2:Hp}{h h1 h2 h':Heap}{a x e:Addr}{o:HO}
theorem Un.any (u:Un fs ex H H1 h h1) {b:Addr}{ob:Obj} (q:h.get? b=some ob) (n:H b=none) (hx:b ∉ ex):∃ sl,h1.get? b=some { ob with slots:=sl }:=by
  by_cases hb:b∈fs
  · exact u.slot b ob q n hb hx
  · exact⟨ob.slots,u.keep b ob q n hb hx⟩
theorem Un.kept (k:∀ b u,h.get? b=some u->h'.get? b=some u):Un fs ex H H h h' :=
  ⟨fun b ob q _ _ _=>k b ob q,fun b ob q _ _ _=>⟨ob.slots,k b ob q⟩,fun _ _ _ n _=>n,fun b ob q _=>⟨ob,k b ob q⟩,fun _ _ q=>q,fun _ _ _ q=>q,fun _ ps q=>⟨#[],by rw[q];simp⟩⟩
theorem Un.refl:Un fs ex H H h h:=Un.kept fun _ _ q=>q
theorem Un.laid (k:∀ b u,h.get? b=some u->h'.get? b=some u) (hp:h.objs.size<=a) (hn:H a=none):Un fs ex H (upd H a o) h h' where
  keep:=fun b u q _ _ _=>k b u q
  slot:=fun b u q _ _ _=>⟨u.slots,k b u q⟩
  free:=fun b u q n _=>by rw[upd_ne (Nat.ne_of_lt (Nat.lt_of_lt_of_le (Heap.lt_size q) hp))];exact n
  there:=fun b u q _=>⟨u,k b u q⟩
  tups:=fun b xs q=>by rw[upd_ne (ne_of_none q hn)];exact q
  frzs:=fun b u xs q=>by rw[upd_ne (ne_of_none q hn)];exact q
  tbls:=fun b ps q=>⟨#[],by rw[upd_ne (ne_of_none q hn),q];simp⟩
theorem Un.write (mu:Mut (H x)) (he:e=x∨H e=some (.own x)) (k:∀ b u,b≠e->h.get? b=some u->h'.get? b=some u) (heo:∃ u,h'.get? e=some u):Un fs ex H (upd H x o) h h':=by
  have hx:∀ b,H b=none->b≠x:=fun b n z=>by subst z;rw[n] at mu;exact mu
  have hb:∀ b,H b=none->b≠e:=fun b n z=>by
    subst z
    rcases he with r | r
    · exact hx b n r
    · rw[n] at r;cases r
  have hm:∀ b u,H b=some u->¬ Mut (some u)->b≠x:=fun b u q nm z=>by subst z;rw[q] at mu;exact nm mu
  refine⟨fun b u q n _ _=>k b u (hb b n) q,fun b u q n _ _=>⟨u.slots,k b u (hb b n) q⟩,fun b u q n _=>by rw[upd_ne (hx b n)];exact n,fun b u q _=>?_,
    fun b xs q=>by rw[upd_ne (hm b _ q fun z=>z)];exact q,fun b u xs q=>by rw[upd_ne (hm b _ q fun z=>z)];exact q,fun b ps q=>⟨#[],by rw[upd_ne (hm b _ q fun z=>z),q];simp⟩⟩
  by_cases hbe:b=e
  · subst hbe;exact heo
  · exact⟨u,k b u hbe q⟩
end
def trk (h:Heap) (H:Hp):List Addr:=(List.range h.objs.size).filter fun a=>(H a).isSome
def hidT (h:Heap) (H:Hp):Heap:=PySem.W.hideAll h (trk h H)
theorem hidT_size (h:Heap) (H:Hp):(hidT h H).objs.size=h.objs.size:=PySem.W.hideAll_size _ _
theorem hidT_get {h:Heap}{H:Hp}{b:Addr}{o:Obj} (e:h.get? b=some o) (n:H b=none):(hidT h H).get? b=some o :=
  PySem.W.hideAll_get _ e fun hm=>by
    have q:(H b).isSome=true:=(List.mem_filter.mp hm).2
    rw[n] at q;simp at q
theorem of_hidT {h:Heap}{H:Hp}{b:Addr}{o:Obj} (e:(hidT h H).get? b=some o):h.get? b=some o/\H b=none:=by
  have e':h.get? b=some o:=PySem.W.of_hideAll (trk h H) e
  refine⟨e',?_⟩
  cases q:H b with
  | none=>rfl
  | some x=>
    have hm:b∈trk h H:=List.mem_filter.mpr ⟨List.mem_range.mpr (Heap.lt_size e'),by simp[q]⟩
    have z:(hidT h H).get? b=none:=PySem.W.hideAll_none (trk h H) hm
    rw[z] at e;cases e
def allNews (g h:Heap) (L:Addr):List (Addr × Obj):=(List.range h.objs.size).filterMap fun a=>if a=L∨(g.get? a).isSome=true then none else (h.get? a).map fun o=>(a,o)
def rest (g h:Heap) (L d:Addr):List (Addr × Obj):=(allNews g h L).filter fun p=>decide (p.1≠d)
end L2
namespace L2
open PySem PySem.Spec PyProof.Rows
structure Mod (K:PySem.W.Frag) (mg:Str->Option Value) (base:Heap):Prop where
  kin:K.In base
  glob:base.Ns mainGlobals mg
  blt:∃ mb,base.Ns builtinsNs mb/\∀ x:Str,x≠"__name__"->mb x=bootBuiltins x
  nolimit:base.NoLimit
structure Cx where
  prog:Program
  w:World
  K:PySem.W.Frag
  mg:Str->Option Value
  base:Heap
  A:Around
  N:List Str
  s₀:Shared
  H₀:Hp
  env:Env
  outer:List Env
  stack:List Env
  ex:List Addr
  fn:Str->Bool
  calm:Bool
  pn:List (Addr × Obj)
  xe:Value->Shared->Prop
def frs (l:List Env):List Addr:=l.filterMap (·.frame)
abbrev Cx.fs (X:Cx):List Addr:=frs X.outer
def Vis (sc:Scope) (x:Str):Prop:=sc.names.lookup x=some .local ∨ sc.names.lookup x=some .cell∨sc.names.lookup x=some .free
def Loc (sc:Scope) (x:Str):Prop:=sc.names.lookup x=some .local ∨ sc.names.lookup x=some .cell
def Look (env:Env) (h:Heap) (m:Str->Option Value) (x:Str) (u:Value):Prop :=
  (env.kindOf x=some .local /\ m x=some u)∨((env.kindOf x=some .cell∨env.kindOf x=some .free)/\∃ c,env.cells.lookup x=some c/\h.IsCell c (some u))
structure Cx.Ok (X:Cx):Prop where
  mod:Mod X.K X.mg X.base
  kind:X.env.scope.kind=.function
  glob:X.env.globals=mainGlobals
  blt:X.env.builtins=builtinsNs
  above:X.s₀.heap.objs.size<=X.env.locals
  inj:∀ x y c,X.env.cells.lookup x=some c->X.env.cells.lookup y=some c->x=y
  has:∀ x,(X.env.kindOf x=some .cell∨X.env.kindOf x=some .free)->∃ c,X.env.cells.lookup x=some c
  cab:∀ x c,X.fn x=true->X.env.cells.lookup x=some c->X.s₀.heap.objs.size<=c
  hd:X.calm=true->X.A.handled=none
  frames:X.A.frames=some X.stack
  stk:X.stack=X.outer∨(X.stack=X.env::X.outer/\X.env.frame=some X.env.locals)
  exf:∀ b∈X.ex,b≠X.env.locals/\∀ x c,X.env.cells.lookup x=some c->c≠b
  bs:∀ b o,X.base.get? b=some o->X.s₀.heap.get? b=some o/\X.H₀ b=none
  bsz:X.base.objs.size<=X.s₀.heap.objs.size
  noex:∀ b o,X.base.get? b=some o->b ∉ X.ex
  exfs:∀ b∈X.ex,b ∉ X.fs
  funs:X.s₀.heap.FunFrames X.base X.outer
  frf:∀ b∈X.fs,X.H₀ b=none
structure Inv (X:Cx) (pins:List (Addr × Obj)) (σ:List (Option V)) (H:Hp) (s:Shared):Prop where
  ok:X.Ok
  os:s.os=X.s₀.os
  bare:AllBare s.gens
  base:Un X.fs X.ex X.H₀ H X.s₀.heap s.heap
  loc:∃ m,s.heap.Ns X.env.locals m/\∀ (i:Nat) (x:Str) (v:V),X.N[i]?=some x->σ[i]?=some (some v)->Vis X.env.scope x->∃ u,RelV v u/\Look X.env s.heap m x u
  cell:∀ x c,X.env.cells.lookup x=some c->∃ v,s.heap.IsCell c v
  free:H X.env.locals=none
  freeC:∀ x c,X.env.cells.lookup x=some c->H c=none
  pin:∀ p∈X.pn++pins,s.heap.get? p.1=some p.2/\H p.1=none/\p.1≠X.env.locals/\p.1 ∉ X.fs/\∀ v,p.2.data≠.cell v
  hok:HOk X.prog X.w H s.heap
  len:σ.length=X.N.length
section
variable {X:Cx}{pins:List (Addr × Obj)}{σ:List (Option V)}{H H':Hp}{s:Shared}{h':Heap}
theorem Cx.Ok.nofr (ok:X.Ok) {b:Addr}{o:Obj} (e:X.base.get? b=some o):b ∉ X.fs:=fun hb=>by
  have:=(ok.funs.mem hb).1
  rw[e] at this;cases this
theorem Inv.bs (I:Inv X pins σ H s):∀ b o,X.base.get? b=some o->s.heap.get? b=some o/\H b=none:=fun b o e=>
  ⟨I.base.keep b o (I.ok.bs b o e).1 (I.ok.bs b o e).2 (I.ok.nofr e) (I.ok.noex b o e),I.base.free b o (I.ok.bs b o e).1 (I.ok.bs b o e).2 (I.ok.noex b o e)⟩
theorem Inv.bk (I:Inv X pins σ H s):∀ b o,X.base.get? b=some o->s.heap.get? b=some o:=fun b o e=>(I.bs b o e).1
theorem Inv.mod (I:Inv X pins σ H s):Mod X.K X.mg X.base:=I.ok.mod
theorem Inv.kIn (I:Inv X pins σ H s):X.K.In s.heap:=I.ok.mod.kin.keeps I.bk
theorem Inv.lt (I:Inv X pins σ H s):X.env.locals<s.heap.objs.size:=let ⟨_,hn,_⟩:=I.loc;hn.lt
theorem Inv.sz (I:Inv X pins σ H s):X.s₀.heap.objs.size<=s.heap.objs.size:=Nat.le_trans I.ok.above (Nat.le_of_lt I.lt)
theorem Inv.nofs (I:Inv X pins σ H s) {a:Addr} (h:s.heap.objs.size<=a):a ∉ X.fs:=fun hb=>by
  obtain⟨_,o,ho,_⟩:=I.ok.funs.mem hb
  exact absurd (Nat.lt_of_lt_of_le (Heap.lt_size ho) (Nat.le_trans I.sz h)) (Nat.lt_irrefl _)
theorem Inv.cne (I:Inv X pins σ H s):∀ x c,X.env.cells.lookup x=some c->c≠X.env.locals:=fun x c e z=>by
  obtain⟨v,o,ho,hd⟩:=I.cell x c e
  obtain⟨m,⟨o',es,ep,ho',hd',_⟩,_⟩:=I.loc
  rw[z,ho'] at ho;cases ho;rw[hd'] at hd;cases hd
theorem Inv.funs (I:Inv X pins σ H s):s.heap.FunFrames X.base X.outer:=by
  have all:∀ (l:List Env),(∀ b∈frs l,b∈X.fs)->X.s₀.heap.FunFrames X.base l->s.heap.FunFrames X.base l:=by
    intro l
    induction l with
    | nil=>intro _ _;trivial
    | cons env r ih=>
      intro hs hl
      obtain⟨hk,⟨L,o,hf,hn,ho,hd⟩,hr⟩:=hl
      have hL:L∈X.fs:=hs L (by unfold frs;rw[List.filterMap_cons,hf];exact List.mem_cons_self)
      obtain⟨sl,e⟩:=I.base.slot L o ho (I.ok.frf L hL) hL fun z=>I.ok.exfs L z hL
      exact⟨hk,⟨L,_,hf,hn,e,hd⟩,ih (fun b hb=>hs b (by unfold frs;rw[List.filterMap_cons,hf];exact List.mem_cons_of_mem _ hb)) hr⟩
  exact all X.outer (fun _ hb=>hb) I.ok.funs
theorem Inv.stack (I:Inv X pins σ H s):s.heap.FunFrames X.base X.stack:=by
  rcases I.ok.stk with e | ⟨e,hf⟩
  · rw[e];exact I.funs
  · rw[e]
    obtain⟨m,hn,_⟩:=I.loc
    refine .cons (by rw[I.ok.kind];decide) hf hn ?_ I.funs
    exact Heap.get?_none_of_le (Nat.le_trans I.ok.bsz I.ok.above)
theorem Inv.stkSub (I:Inv X pins σ H s):∀ b∈frs X.stack,b∈X.env.locals::X.fs:=fun b hb=>by
  rcases I.ok.stk with e | ⟨e,hf⟩
  · rw[e] at hb;exact List.mem_cons_of_mem _ hb
  · rw[e] at hb
    unfold frs at hb
    rw[List.filterMap_cons,hf] at hb
    exact hb
theorem Inv.stkFree (I:Inv X pins σ H s):∀ b∈frs X.stack,H b=none:=fun b hb=>by
  rcases List.mem_cons.mp (I.stkSub b hb) with e | hb
  · rw[e];exact I.free
  · obtain⟨_,o,ho,_⟩:=I.ok.funs.mem hb
    exact I.base.free b o ho (I.ok.frf b hb) fun z=>I.ok.exfs b z hb
theorem Inv.step {g':Array GenState}{t':Nat}{d':Drawn}{ch:List Addr} (I:Inv X pins σ H s)
    (hch:∀ b∈ch,(b∈X.ex∨X.s₀.heap.objs.size<=b)/\b≠X.env.locals/\(∀ x c,X.env.cells.lookup x=some c->c≠b)/\∀ p∈X.pn++pins,p.1≠b)
    (keep:∀ b o,b≠X.env.locals->b ∉ X.fs->b ∉ ch->s.heap.get? b=some o->H b=none->h'.get? b=some o)
    (slot:∀ b o,b≠X.env.locals->b∈X.fs->b ∉ ch->s.heap.get? b=some o->H b=none->∃ sl,h'.get? b=some { o with slots:=sl }) (free:∀ b o,b ∉ ch->s.heap.get? b=some o->H b=none->H' b=none)
    (there:∀ b o,b ∉ ch->s.heap.get? b=some o->∃ o',h'.get? b=some o')
    (tups:∀ b xs,H b=some (.tup xs)->H' b=some (.tup xs)) (frzs:∀ b o u,H b=some (.frz o u)->H' b=some (.frz o u)) (tbls:∀ b ps,H b=some (.tbl ps)->∃ more,H' b=some (.tbl (ps++more)))
    (ns:∀ m,s.heap.Ns X.env.locals m->h'.Ns X.env.locals m) (hok:HOk X.prog X.w H' h') (hg:AllBare g') :
    Inv X pins σ H' { s with heap:=h',gens:=g',drawn:=d',toks:=t' }:=by
  have neL:∀ b o,X.s₀.heap.get? b=some o->b≠X.env.locals:=fun b o e=>Nat.ne_of_lt (Nat.lt_of_lt_of_le (Heap.lt_size e) I.ok.above)
  have neC:∀ b o,X.s₀.heap.get? b=some o->b ∉ X.ex->b ∉ ch:=fun b o e hx hb=>by
    rcases (hch b hb).1 with z | z
    · exact hx z
    · exact absurd (Nat.lt_of_lt_of_le (Heap.lt_size e) z) (Nat.lt_irrefl _)
  have cellK:∀ x c,X.env.cells.lookup x=some c->∀ v,s.heap.IsCell c v->h'.IsCell c v:=fun x c e v ⟨o,ho,hd⟩=>by
    have nch:c ∉ ch:=fun z=>(hch c z).2.2.1 x c e rfl
    by_cases hc:c∈X.fs
    · obtain⟨sl,q⟩:=slot c o (I.cne x c e) hc nch ho (I.freeC x c e)
      exact⟨_,q,hd⟩
    · exact⟨o,keep c o (I.cne x c e) hc nch ho (I.freeC x c e),hd⟩
  refine⟨I.ok,I.os,hg,⟨fun b o e n hb hx=>?_,fun b o e n hb hx=>?_,fun b o e n hx=>?_,fun b o e hx=>?_,fun b xs e=>tups b xs (I.base.tups b xs e),fun b o xs e=>frzs b o xs (I.base.frzs b o xs e),fun b ps e=>?_⟩,?_,fun x c e=>?_,?_,fun x c e=>?_,fun p hp=>?_,hok,I.len⟩
  · exact keep b o (neL b o e) hb (neC b o e hx) (I.base.keep b o e n hb hx) (I.base.free b o e n hx)
  · obtain⟨sl,e1⟩:=I.base.slot b o e n hb hx
    obtain⟨sl',e2⟩:=slot b _ (neL b o e) hb (neC b o e hx) e1 (I.base.free b o e n hx)
    exact⟨sl',e2⟩
  · obtain⟨o',e1⟩:=I.base.there b o e hx
    exact free b o' (neC b o e hx) e1 (I.base.free b o e n hx)
  · obtain⟨o',e1⟩:=I.base.there b o e hx
    exact there b o' (neC b o e hx) e1
  · obtain⟨m1,e1⟩:=I.base.tbls b ps e
    obtain⟨m2,e2⟩:=tbls b _ e1
    exact⟨m1++m2,by rw[e2,Array.append_assoc]⟩
  · obtain⟨m,hn,hl⟩:=I.loc
    refine⟨m,ns m hn,fun i x v e1 e2 e3=>?_⟩
    obtain⟨u,r,l⟩:=hl i x v e1 e2 e3
    refine⟨u,r,?_⟩
    rcases l with l | ⟨k,c,e,z⟩
    · exact .inl l
    · exact .inr ⟨k,c,e,cellK x c e _ z⟩
  · obtain⟨v,z⟩:=I.cell x c e
    exact⟨v,cellK x c e v z⟩
  · obtain⟨m,⟨o,_,_,ho,_⟩,_⟩:=I.loc
    exact free _ o (fun z=>(hch _ z).2.1 rfl) ho I.free
  · obtain⟨v,o,ho,hd⟩:=I.cell x c e
    exact free c o (fun z=>(hch c z).2.2.1 x c e rfl) ho (I.freeC x c e)
  · obtain⟨e,n,ne,nf,d⟩:=I.pin p hp
    have nch:p.1 ∉ ch:=fun z=>(hch p.1 z).2.2.2 p hp rfl
    exact⟨keep p.1 p.2 ne nf nch e n,free p.1 p.2 nch e n,ne,nf,d⟩
theorem Inv.un {t':Nat} (I:Inv X pins σ H s) (u:Un X.fs [] H H' s.heap h') (hok:HOk X.prog X.w H' h'):Inv X pins σ H' { s with heap:=h',toks:=t' }:=by
  obtain⟨m,⟨o,es,ep,ho,r⟩,_⟩:=id I.loc
  obtain⟨sl,hL⟩:=u.any ho I.free (by simp)
  exact I.step (g':=s.gens) (d':=s.drawn) (ch:=[]) (fun _ z=>nomatch z) (fun b o _ hb _ e n=>u.keep b o e n hb (by simp)) (fun b o _ hb _ e n=>u.slot b o e n hb (by simp)) (fun b o _ e n=>u.free b o e n (by simp)) (fun b o _ e=>u.there b o e (by simp)) u.tups u.frzs u.tbls (fun m' hm=>by
    obtain⟨o',es',ep',ho',r'⟩:=hm
    rw[ho] at ho';cases ho'
    exact⟨_,es',ep',hL,r'⟩) hok I.bare
theorem Inv.call {g':Array GenState}{t':Nat}{d':Drawn}{ch:List Addr} (I:Inv X pins σ H s) (u:Un (frs X.stack) ch H H' s.heap h') (hok:HOk X.prog X.w H' h') (hg:AllBare g')
    (hch:∀ b∈ch,(b∈X.ex∨X.s₀.heap.objs.size<=b)/\b≠X.env.locals/\(∀ x c,X.env.cells.lookup x=some c->c≠b)/\∀ p∈X.pn++pins,p.1≠b) :
    Inv X pins σ H' { s with heap:=h',gens:=g',drawn:=d',toks:=t' }:=by
  obtain⟨m,⟨o,es,ep,ho,r⟩,_⟩:=id I.loc
  obtain⟨sl,hL⟩:=u.any ho I.free fun z=>(hch _ z).2.1 rfl
  exact I.step (ch:=ch) hch (fun b o hL hb hc e n=>u.keep b o e n (fun z=>(List.mem_cons.mp (I.stkSub b z)).elim hL hb) hc) (fun b o _ _ hc e n=>u.any e n hc) (fun b o hc e n=>u.free b o e n hc) (fun b o hc e=>u.there b o e hc) u.tups u.frzs u.tbls (fun m' hm=>by
    obtain⟨o',es',ep',ho',r'⟩:=hm
    rw[ho] at ho';cases ho'
    exact⟨_,es',ep',hL,r'⟩) hok hg
theorem Inv.turned {t':Nat}{it:Addr} (I:Inv X pins σ H s) (k:∀ b o,b≠it->s.heap.get? b=some o->h'.get? b=some o) (hn:H it=none) (hL:it≠X.env.locals)
    (h1:it∈X.ex∨X.s₀.heap.objs.size<=it) (h2:∀ x c,X.env.cells.lookup x=some c->c≠it) (h3:∀ p∈X.pn++pins,p.1≠it):Inv X pins σ H { s with heap:=h',toks:=t' }:=by
  have nit:∀ b u,H b=some u->b≠it:=fun b u e z=>by rw[z,hn] at e;cases e
  refine I.step (g':=s.gens) (d':=s.drawn) (ch:=[it]) (fun b hb=>?_) (fun b o _ _ hc e _=>k b o (fun z=>hc (by simp[z])) e) (fun b o _ _ hc e _=>⟨o.slots,k b o (fun z=>hc (by simp[z])) e⟩) (fun _ _ _ _ n=>n)
    (fun b o hc e=>⟨o,k b o (fun z=>hc (by simp[z])) e⟩) (fun _ _ e=>e) (fun _ _ _ e=>e) (fun b ps e=>⟨#[],by rw[e];simp⟩) (fun m hm=>?_) (fun b u e=>?_) I.bare
  · have e:b=it:=by simpa using hb
    subst e
    exact⟨h1,hL,h2,h3⟩
  · obtain⟨o,es,ep,ho,r⟩:=hm
    exact⟨o,es,ep,k _ o (Ne.symm hL) ho,r⟩
  · refine (I.hok b u e).stay (fun c v hc q=>k c v ?_ q) (fun _ q=>q) fun _ _ q=>q
    rcases hc with z | z
    · rw[z];exact nit b u e
    · exact nit c _ z
theorem Inv.tok (I:Inv X pins σ H s) (t:Nat):Inv X pins σ H { s with toks:=t }:=I.un (h':=s.heap) (t':=t) Un.refl I.hok
theorem Inv.kept {t':Nat} (I:Inv X pins σ H s) (k:∀ b u,s.heap.get? b=some u->h'.get? b=some u):Inv X pins σ H { s with heap:=h',toks:=t' }:=I.un (Un.kept k) (I.hok.kept k)
theorem Inv.laid {a:Addr}{o:HO}{t':Nat} (I:Inv X pins σ H s) (k:∀ b u,s.heap.get? b=some u->h'.get? b=some u) (hp:s.heap.objs.size<=a) (new:ObjOk X.prog X.w (upd H a o) h' a o) :
    Inv X pins σ (upd H a o) { s with heap:=h',toks:=t' }:=I.un (Un.laid k hp (I.hok.fresh hp)) (I.hok.laid k hp new)
theorem Inv.write {x e:Addr}{o:HO}{t':Nat} (I:Inv X pins σ H s) (mu:Mut (H x)) (he:e=x∨H e=some (.own x)) (k:∀ b u,b≠e->s.heap.get? b=some u->h'.get? b=some u) (heo:∃ u,h'.get? e=some u)
    (new:ObjOk X.prog X.w (upd H x o) h' x o):Inv X pins σ (upd H x o) { s with heap:=h',toks:=t' }:=I.un (Un.write mu he k heo) (I.hok.write mu he k heo new)
theorem Inv.weak {σ':List (Option V)} (I:Inv X pins σ H s) (hl:σ'.length=σ.length) (w:∀ (i:Nat) v,σ'[i]?=some (some v)->σ[i]?=some (some v)):Inv X pins σ' H s :=
  ⟨I.ok,I.os,I.bare,I.base,let ⟨m,hn,hl'⟩:=I.loc;⟨m,hn,fun i x v e1 e2 e3=>hl' i x v e1 (w i v e2) e3⟩,I.cell,I.free,I.freeC,I.pin,I.hok,hl.trans I.len⟩
theorem Inv.pins_of {pins':List (Addr × Obj)} (I:Inv X pins σ H s) (h:∀ p∈pins',s.heap.get? p.1=some p.2/\H p.1=none/\p.1≠X.env.locals/\p.1 ∉ X.fs/\∀ v,p.2.data≠.cell v):Inv X pins' σ H s :=
  ⟨I.ok,I.os,I.bare,I.base,I.loc,I.cell,I.free,I.freeC,fun p hp=>(List.mem_append.mp hp).elim (fun z=>I.pin p (List.mem_append_left _ z)) (h p),I.hok,I.len⟩
theorem nodup_ix {N:List Str} (hN:N.Nodup) {i j:Nat}{x:Str} (a:N[i]?=some x) (b:N[j]?=some x):i=j:=by
  obtain⟨h1,e1⟩:=List.getElem?_eq_some_iff.mp a
  obtain⟨h2,e2⟩:=List.getElem?_eq_some_iff.mp b
  exact (List.getElem_inj hN).mp (e1.trans e2.symm)
theorem store_ok2 {M:Model}{A:Around}{E:Value->Shared->Prop}{i:Nat}{x:Str}{v:V}{u:Value}{Q:Unit->Shared->Prop} (I:Inv X pins σ H s) (hN:X.N.Nodup) (hi:X.N[i]?=some x) (hx:Loc X.env.scope x) (r:RelV v u)
    (h:∀ s',Inv X pins (σ.set i (some v)) H s'->(∃ a,Heap.SameBut a s.heap s'.heap/\(a=X.env.locals∨X.env.cells.lookup x=some a))->Q () s') (hf:X.fn x=true∨X.env.scope.names.lookup x=some .local:=by first | exact .inl rfl | exact .inr rfl | assumption):wpAny M A (storeName X.env x u) Q E s:=by
  obtain⟨m,hn,hl⟩:=id I.loc
  have hcls:(X.env.scope.kind == .class || (X.env.scope.kind == .module && X.env.locals != X.env.globals))=false:=by rw[I.ok.kind];rfl
  have hiσ:i<σ.length:=by rw[I.len];exact (List.getElem?_eq_some_iff.mp hi).1
  have cne:=I.cne
  have tracked:∀ {a:Addr}{h':Heap},(∃ o,s.heap.get? a=some o/\H a=none)->Heap.SameBut a s.heap h'->HOk X.prog X.w H h':=fun {a h'} ha hs b ob e=>by
    obtain⟨_,_,hfree⟩:=ha
    refine (I.hok b ob e).stay (fun c w' hc q=>(hs.2 c ?_).trans q) (fun _ q=>q) fun _ _ q=>q
    rintro rfl
    rcases hc with rfl | hc
    · rw[hfree] at e;cases e
    · rw[hfree] at hc;cases hc
  rcases hx with hk | hk
  · refine wpAny_storeName_local hk hn (fun h' hn' hs=>?_) hcls
    obtain⟨oL,_,_,hoL,_⟩:=id hn
    refine h _ ⟨I.ok,I.os,I.bare,⟨fun b o e n hb hx=>?_,fun b o e n hb hx=>?_,I.base.free,fun b o e hx=>?_,I.base.tups,I.base.frzs,I.base.tbls⟩,⟨_,hn',fun j y v' e1 e2 e3=>?_⟩,fun y c e=>?_,I.free,I.freeC,fun p hp=>?_,tracked ⟨oL,hoL,I.free⟩ hs,by simpa using I.len⟩ ⟨_,hs,.inl rfl⟩
    · exact (hs.2 b (Nat.ne_of_lt (Nat.lt_of_lt_of_le (Heap.lt_size e) I.ok.above))).trans (I.base.keep b o e n hb hx)
    · obtain⟨sl,e1⟩:=I.base.slot b o e n hb hx
      exact⟨sl,(hs.2 b (Nat.ne_of_lt (Nat.lt_of_lt_of_le (Heap.lt_size e) I.ok.above))).trans e1⟩
    · obtain⟨o',e1⟩:=I.base.there b o e hx
      exact⟨o',(hs.2 b (Nat.ne_of_lt (Nat.lt_of_lt_of_le (Heap.lt_size e) I.ok.above))).trans e1⟩
    · by_cases hj:j=i
      · subst hj
        rw[hi] at e1;cases e1
        rw[List.getElem?_set_self hiσ] at e2
        cases e2
        exact⟨u,r,.inl ⟨hk,by simp⟩⟩
      · rw[List.getElem?_set_ne (Ne.symm hj)] at e2
        obtain⟨u',r',q⟩:=hl j y v' e1 e2 e3
        refine⟨u',r',?_⟩
        rcases q with ⟨k,e⟩ | ⟨k,c,e,z⟩
        · refine .inl ⟨k,?_⟩
          have:y≠x:=fun e=>hj (nodup_ix hN e1 (e ▸ hi))
          simp[this,e]
        · exact .inr ⟨k,c,e,z.sameBut hs (cne y c e)⟩
    · obtain⟨w',z⟩:=I.cell y c e
      exact⟨w',z.sameBut hs (cne y c e)⟩
    · obtain⟨e,n,ne,nf,d⟩:=I.pin p hp
      exact⟨(hs.2 p.1 ne).trans e,n,ne,nf,d⟩
  · have hfn:X.fn x=true:=by
      rcases hf with z | z
      · exact z
      · rw[z] at hk;cases hk
    obtain⟨c,hc⟩:=I.ok.has x (.inl hk)
    obtain⟨w',z⟩:=I.cell x c hc
    refine wpAny_storeName_cell I.ok.kind hk hc z (fun h' hc' hs=>?_)
    obtain⟨oc,hoc,hocd⟩:=id z
    refine h { s with heap:=h' } ⟨I.ok,I.os,I.bare,⟨fun b o e n hb hx=>?_,fun b o e n hb hx=>?_,I.base.free,fun b o e hx=>?_,I.base.tups,I.base.frzs,I.base.tbls⟩,⟨m,hn.sameBut hs (Ne.symm (cne x c hc)),fun j y v' e1 e2 e3=>?_⟩,fun y c' e=>?_,I.free,I.freeC,fun p hp=>?_,tracked ⟨oc,hoc,I.freeC x c hc⟩ hs,by simpa using I.len⟩ ⟨c,hs,.inr hc⟩
    · exact (hs.2 b (Nat.ne_of_lt (Nat.lt_of_lt_of_le (Heap.lt_size e) (I.ok.cab x c hfn hc)))).trans (I.base.keep b o e n hb hx)
    · obtain⟨sl,e1⟩:=I.base.slot b o e n hb hx
      exact⟨sl,(hs.2 b (Nat.ne_of_lt (Nat.lt_of_lt_of_le (Heap.lt_size e) (I.ok.cab x c hfn hc)))).trans e1⟩
    · obtain⟨o',e1⟩:=I.base.there b o e hx
      exact⟨o',(hs.2 b (Nat.ne_of_lt (Nat.lt_of_lt_of_le (Heap.lt_size e) (I.ok.cab x c hfn hc)))).trans e1⟩
    · by_cases hj:j=i
      · subst hj
        rw[hi] at e1;cases e1
        rw[List.getElem?_set_self hiσ] at e2
        cases e2
        exact⟨u,r,.inr ⟨.inl hk,c,hc,hc'⟩⟩
      · rw[List.getElem?_set_ne (Ne.symm hj)] at e2
        obtain⟨u',r',q⟩:=hl j y v' e1 e2 e3
        refine⟨u',r',?_⟩
        rcases q with q | ⟨k,c',e,z'⟩
        · exact .inl q
        · refine .inr ⟨k,c',e,z'.sameBut hs ?_⟩
          rintro rfl
          exact hj (nodup_ix hN e1 (I.ok.inj _ _ _ e hc ▸ hi))
    · by_cases hcc:c'=c
      · subst hcc;exact⟨_,hc'⟩
      · obtain⟨w2,z2⟩:=I.cell y c' e
        exact⟨w2,z2.sameBut hs hcc⟩
    · obtain⟨e,n,ne,nf,d⟩:=I.pin p hp
      refine⟨(hs.2 p.1 ?_).trans e,n,ne,nf,d⟩
      intro q
      rw[q,hoc] at e
      have q':oc=p.2:=Option.some.inj e
      exact d w' (by rw[<- q'];exact hocd)
theorem store_ok {M:Model}{A:Around}{E:Value->Shared->Prop}{i:Nat}{x:Str}{v:V}{u:Value}{Q:Unit->Shared->Prop} (I:Inv X pins σ H s) (hN:X.N.Nodup) (hi:X.N[i]?=some x) (hx:Loc X.env.scope x) (r:RelV v u)
    (h:∀ s',Inv X pins (σ.set i (some v)) H s'->Q () s') (hf:X.fn x=true∨X.env.scope.names.lookup x=some .local:=by first | exact .inl rfl | exact .inr rfl | assumption):wpAny M A (storeName X.env x u) Q E s :=
  store_ok2 I hN hi hx r (fun s' I' _=>h s' I') hf
theorem Inv.call' {s':Shared}{ch:List Addr} (I:Inv X pins σ H s) (ho:s'.os=s.os) (u:Un (frs X.stack) ch H H' s.heap s'.heap) (hok:HOk X.prog X.w H' s'.heap) (hg:AllBare s'.gens)
    (hch:∀ b∈ch,(b∈X.ex∨X.s₀.heap.objs.size<=b)/\b≠X.env.locals/\(∀ x c,X.env.cells.lookup x=some c->c≠b)/\∀ p∈X.pn++pins,p.1≠b):Inv X pins σ H' s':=by
  obtain⟨h',g',d',t',o'⟩:=s'
  have e:o'=s.os:=ho
  subst e
  exact I.call (g':=g') (t':=t') (d':=d') u hok hg hch
end
abbrev XK:=Value->Option Addr->Hp->Prop
abbrev St:=List (Option V)
abbrev VK:=V->Hp->Prop
abbrev TE:=St->Hp->VK->Prop
abbrev TT:=St->Hp->(Bool->Hp->Prop)->Prop
abbrev TA:=St->Hp->(List V->Hp->Prop)->Prop
structure Ends where
  nx:St->Hp->Prop
  rt:VK
  bk:St->Hp->Prop:=fun _ _=>False
  ct:St->Hp->Prop:=fun _ _=>False
abbrev TS:=Ends->St->Hp->Prop
def EP (X:Cx) (pins:List (Addr × Obj)) (σ:St) (Q:VK) (u:Value) (s':Shared):Prop:=∃ v H',Inv X pins σ H' s'/\RelV v u/\Q v H'
def TP (X:Cx) (pins:List (Addr × Obj)) (σ:St) (Q:Bool->Hp->Prop) (b:Bool) (s':Shared):Prop:=∃ H',Inv X pins σ H' s'/\Q b H'
def AP (X:Cx) (pins:List (Addr × Obj)) (σ:St) (Q:List V->Hp->Prop) (us:List Value) (s':Shared):Prop:=∃ vs H',Inv X pins σ H' s'/\Vals vs us/\Q vs H'
def SP (X:Cx) (pins:List (Addr × Obj)) (D:Ends) (f:Flow) (s':Shared):Prop :=
  match f with
  | .next=>∃ σ' H',Inv X pins σ' H' s'/\D.nx σ' H'
  | .brk=>∃ σ' H',Inv X pins σ' H' s'/\D.bk σ' H'
  | .cont=>∃ σ' H',Inv X pins σ' H' s'/\D.ct σ' H'
  | .ret u=>∃ v σ' H',Inv X pins σ' H' s'/\RelV v u/\D.rt v H'
def PE (X:Cx) (e:Expr) (t:TE):Prop :=
  ∀ (pins:List (Addr × Obj)) (s:Shared) (σ:St) (H:Hp) (Q:VK),Inv X pins σ H s->t σ H Q->wpAny (model X.prog X.w) X.A (eval e X.env) (EP X pins σ Q) X.xe s
def PT (X:Cx) (e:Expr) (t:TT):Prop :=
  ∀ (pins:List (Addr × Obj)) (s:Shared) (σ:St) (H:Hp) (Q:Bool->Hp->Prop),Inv X pins σ H s->t σ H Q->wpAny (model X.prog X.w) X.A (isTrue e X.env (eval e X.env)) (TP X pins σ Q) X.xe s
def PW (X:Cx) (e:Expr) (t:TT):Prop :=
  ∀ (whole:Sem Value) (pins:List (Addr × Obj)) (s:Shared) (σ:St) (H:Hp) (Q:Bool->Hp->Prop),Inv X pins σ H s->t σ H Q->wpAny (model X.prog X.w) X.A (isTrue e X.env whole) (TP X pins σ Q) X.xe s
theorem PW.pt {X:Cx}{e:Expr}{t:TT} (h:PW X e t):PT X e t:=h _
def PA (X:Cx) (es:List Expr) (t:TA):Prop :=
  ∀ (pos:Pos) (pins:List (Addr × Obj)) (s:Shared) (σ:St) (H:Hp) (Q:List V->Hp->Prop),Inv X pins σ H s->t σ H Q->wpAny (model X.prog X.w) X.A (spliced (backTo pos (starEach es X.env))) (AP X pins σ Q) X.xe s
def PS (X:Cx) (st:Stmt) (t:TS):Prop :=
  ∀ (pins:List (Addr × Obj)) (s:Shared) (σ:St) (H:Hp) (D:Ends),Inv X pins σ H s->t D σ H->wpAny (model X.prog X.w) X.A (exec st X.env) (SP X pins D) X.xe s
def PSs (X:Cx) (st:List Stmt) (t:TS):Prop :=
  ∀ (pins:List (Addr × Obj)) (s:Shared) (σ:St) (H:Hp) (D:Ends),Inv X pins σ H s->t D σ H->wpAny (model X.prog X.w) X.A (execs st X.env) (SP X pins D) X.xe s
theorem thn {α:Type}{t:Sem α}{Q Q':α->Shared->Prop}{M:Model}{A:Around}{E:Value->Shared->Prop}{s:Shared} (h:wpAny M A t Q E s) (hQ:∀ a s,Q a s->Q' a s):wpAny M A t Q' E s:=wpAny_mono h hQ fun _ _ x=>x
end L2
namespace L2
open PySem PySem.Spec PyProof.Rows
section
variable {X:Cx}
def tVar (i:Nat):TE:=fun σ H Q=>∃ v,σ[i]?=some (some v)/\Q v H
def tC (v:V):TE:=fun _ H Q=>Q v H
theorem pe_var {i:Nat}{x:Str}{pos:Pos} (hN:X.N[i]?=some x) (hv:Vis X.env.scope x) (hd:(x == ("__debug__":Str))=false:=by decide) (hcd:(x == ("__classdict__":Str))=false:=by decide):PE X (.Name x pos) (tVar i):=by
  intro pins s σ H Q I h
  obtain⟨v,e,h⟩:=h
  obtain⟨m,hn,hl⟩:=I.loc
  obtain⟨u,r,l⟩:=hl i x v hN e hv
  have fin:EP X pins σ Q u s:=⟨v,H,I,r,h⟩
  rcases l with ⟨hk,hm⟩ | ⟨hk,c,hc,hcell⟩
  · exact wpAny_Name (wpAny_loadName_local I.ok.kind hk hn hm fin) hd
  · rcases hk with hk | hk
    · exact wpAny_Name (wpAny_loadName_cell I.ok.kind hk hc hcell fin) hd
    · exact wpAny_Name (wpAny_loadName_free I.ok.kind hk hc hcell fin hcd) hd
theorem pe_int {i j pos}:PE X (.Constant (.int i) j pos) (tC (.int i)):=fun _ _ _ H _ I h=>wpAny_Constant_int ⟨.int i,H,I.tok _,⟨_,rfl⟩,h⟩
theorem pe_bl {b j pos}:PE X (.Constant (.bool b) j pos) (tC (.bl b)):=fun _ _ _ H _ I h=>Constant_bool ⟨.bl b,H,I,rfl,h⟩
theorem pe_non {j pos}:PE X (.Constant .none j pos) (tC .non):=fun _ _ _ H _ I h=>Constant_none ⟨.non,H,I,rfl,h⟩
theorem pe_str {x j pos}:PE X (.Constant (.str x) j pos) (tC (.str x)):=fun _ _ _ H _ I h=>Calls.Constant_str ⟨.str x,H,I.tok _,⟨_,rfl⟩,h⟩
def Gl (X:Cx) (x:Str):Prop:=X.env.kindOf x=some .globalImplicit
theorem ld_glob {E:Value->Shared->Prop}{pins:List (Addr × Obj)}{s:Shared}{σ:St}{H:Hp}{x:Str}{u:Value}{pos:Pos}{Q:Value->Shared->Prop} (I:Inv X pins σ H s) (hg:Gl X x) (hm:X.mg x=some u) (h:Q u s)
    (hd:(x == ("__debug__":Str))=false:=by decide):wpAny (model X.prog X.w) X.A (eval (.Name x pos) X.env) Q E s :=
  Calls.Name_function_global I.ok.kind hg (Calls.loadGlobal_global (by rw[I.ok.glob];exact I.mod.glob.keeps I.bk) hm h) hd
theorem ld_blt {E:Value->Shared->Prop}{pins:List (Addr × Obj)}{s:Shared}{σ:St}{H:Hp}{x:Str}{u:Value}{pos:Pos}{Q:Value->Shared->Prop} (I:Inv X pins σ H s) (hg:Gl X x) (hm:X.mg x=none) (hv:bootBuiltins x=some u) (h:Q u s)
    (hn:x≠"__name__":=by decide) (hd:(x == ("__debug__":Str))=false:=by decide):wpAny (model X.prog X.w) X.A (eval (.Name x pos) X.env) Q E s:=by
  obtain⟨mb,h1,h2⟩:=I.mod.blt
  exact Calls.Name_function_global I.ok.kind hg (Calls.loadGlobal_builtin (by rw[I.ok.glob];exact I.mod.glob.keeps I.bk) hm (by rw[I.ok.blt];exact h1.keeps I.bk) ((h2 x hn).trans hv) h) hd
theorem pe_glob {x:Str}{v:V}{u:Value}{pos:Pos} (hg:Gl X x) (hm:X.mg x=some u) (r:RelV v u) (hd:(x == ("__debug__":Str))=false:=by decide):PE X (.Name x pos) (tC v) :=
  fun _ _ _ H _ I h=>ld_glob I hg hm ⟨v,H,I,r,h⟩ hd
theorem pe_bltn {x:Str}{v:V}{u:Value}{pos:Pos} (hg:Gl X x) (hm:X.mg x=none) (hv:bootBuiltins x=some u) (r:RelV v u) (hn:x≠"__name__":=by decide) (hd:(x == ("__debug__":Str))=false:=by decide):PE X (.Name x pos) (tC v) :=
  fun _ _ _ H _ I h=>ld_blt I hg hm hv ⟨v,H,I,r,h⟩ hn hd
variable {a b:Expr}{ta tb:TE}{pos:Pos}
def PC (X:Cx) (op:CmpOp) (a b:Expr) (t:TE):Prop :=
  ∀ (pins:List (Addr × Obj)) (s:Shared) (σ:St) (H:Hp) (Q:VK),Inv X pins σ H s->t σ H Q ->
    wpAny (model X.prog X.w) X.A (eval a X.env) (fun v s₁=>wpAny (model X.prog X.w) X.A (eval b X.env) (fun u s₂=>wpAny (model X.prog X.w) X.A (compareOp op v u) (EP X pins σ Q) X.xe s₂) X.xe s₁) X.xe s
theorem nobehind (b:Expr) {op:CmpOp} (h:op≠.In) (h2:op≠.NotIn):behindInMarks op b=false:=by
  have e1:(op == CmpOp.In)=false:=by cases op <;> first | rfl | exact absurd rfl h
  have e2:(op == CmpOp.NotIn)=false:=by cases op <;> first | rfl | exact absurd rfl h2
  cases b <;> simp[behindInMarks,e1,e2]
def tIsN (ta:TE):TE:=fun σ H Q=>ta σ H fun x H1=>Q (.bl (decide (x=.non))) H1
theorem RelV.none_iff {x:V}{v:Value} (r:RelV x v):(v == Value.none)=decide (x=.non):=by
  cases x with
  | non=>cases r;rfl
  | bl _=>cases r;rfl
  | int _=>obtain⟨t,rfl⟩:=r;rfl
  | str _=>obtain⟨t,rfl⟩:=r;rfl
  | byt _=>obtain⟨t,rfl⟩:=r;rfl
  | flt _=>obtain⟨t,rfl⟩:=r;rfl
  | ref _=>cases r;rfl
  | ty _=>cases r;rfl
theorem pc_isN {j pos'} (ha:PE X a ta):PC X .Is a (.Constant .none j pos') (tIsN ta):=by
  intro pins s σ H Q I h
  refine thn (ha pins s σ H _ I h) fun v s1 ⟨x,H1,I1,r1,q1⟩=>?_
  exact Constant_none (is_none_gen ⟨.bl _,H1,I1,by rw[r1.none_iff];rfl,q1⟩)
def tB (t:TE):TT:=fun σ H Q=>t σ H fun x H1=>∃ c,x=.bl c/\Q c H1
theorem pe_cmp {op:CmpOp}{t:TE} (h:PC X op a b t) (h1:behindInMarks op b=false:=by first | exact nobehind _ (by decide) (by decide) | rfl):PE X (.Compare a [op] [b] pos) t:=fun pins s σ H Q I hw=>wpAny_Compare1 (h pins s σ H Q I hw) h1
theorem pt_cmp {op:CmpOp}{t:TE} (h:PC X op a b t) (h1:behindInMarks op b=false:=by first | exact nobehind _ (by decide) (by decide) | rfl):PT X (.Compare a [op] [b] pos) (tB t):=by
  intro pins s σ H Q I hw
  refine wpAny_isTrue_Compare1 (thn (h pins s σ H _ I hw) fun v s1 h1=>thn h1 fun u s2 h2=>thn h2 fun c s3 ⟨x,H1,I1,r1,q1⟩=>?_) h1
  obtain⟨d,rfl,q⟩:=q1
  cases r1
  exact wpAny_truthy_bool ⟨H1,I1,q⟩
theorem pt_val {e:Expr}{t:TE} (h:PE X e t) (he:∀ whole,isTrue e X.env whole=(do let v <- whole;standAt e.pos;holding [v] (truthy v)):=by intro _;rfl):PT X e (tB t):=by
  intro pins s σ H Q I hw
  refine isTrue_plain (thn (h pins s σ H _ I hw) fun v s1 ⟨x,H1,I1,r1,q1⟩=>?_) (he _)
  obtain⟨d,rfl,q⟩:=q1
  cases r1
  exact wpAny_truthy_bool ⟨H1,I1,q⟩
variable {tA tB':TT}{rest:List Expr}
def tOr (t u:TT):TT:=fun σ H Q=>t σ H fun c H1=>if c=true then Q true H1 else u σ H1 Q
def tNot (t:TT):TT:=fun σ H Q=>t σ H fun c H1=>Q (!c) H1
theorem pw_or1 (ha:PT X a tA):PW X (.BoolOp .Or [a] pos) tA:=by
  intro wh pins s σ H Q I h
  refine isTrue_or (thn (ha pins s σ H Q I h) fun c s1 e=>?_)
  cases c with
  | false=>exact isTrue_or_nil e
  | true=>exact e
theorem pw_or (ha:PT X a tA) (hb:PW X (.BoolOp .Or (b::rest) pos) tB'):PW X (.BoolOp .Or (a::b::rest) pos) (tOr tA tB'):=by
  intro wh pins s σ H Q I h
  refine isTrue_or (thn (ha pins s σ H _ I h) fun c s1 ⟨H1,I1,q1⟩=>?_)
  cases c with
  | true=>exact⟨H1,I1,q1⟩
  | false=>exact hb wh pins s1 σ H1 Q I1 q1
theorem pt_not (ha:PT X a tA):PT X (.UnaryOp .Not a pos) (tNot tA):=by
  intro pins s σ H Q I h
  exact isTrue_not (ha pins s σ H (fun c H1=>Q (!c) H1) I h)
def tAndV (ta tb:TE):TE:=fun σ H Q=>ta σ H fun x H1=>∃ c,x=.bl c/\if c=true then tb σ H1 Q else Q (.bl false) H1
def tOrV (ta tb:TE):TE:=fun σ H Q=>ta σ H fun x H1=>∃ c,x=.bl c/\if c=true then Q (.bl true) H1 else tb σ H1 Q
def tNotV (ta:TE):TE:=fun σ H Q=>ta σ H fun x H1=>∃ c,x=.bl c/\Q (.bl (!c)) H1
theorem pe_one {op}{t:TE} (h:PE X a t):PE X (.BoolOp op [a] pos) t:=fun pins s σ H Q I hw=>BoolOp_one (h pins s σ H Q I hw)
theorem pe_and (ha:PE X a ta) (hb:PE X (.BoolOp .And (b::rest) pos) tb):PE X (.BoolOp .And (a::b::rest) pos) (tAndV ta tb):=by
  intro pins s σ H Q I h
  refine BoolOp_and (thn (ha pins s σ H _ I h) fun v s1 ⟨x,H1,I1,r1,q1⟩=>?_)
  obtain⟨c,rfl,q1⟩:=q1
  cases r1
  refine wpAny_truthy_bool ?_
  cases c with
  | true=>exact hb pins s1 σ H1 Q I1 q1
  | false=>exact⟨.bl false,H1,I1,rfl,q1⟩
theorem pe_or (ha:PE X a ta) (hb:PE X (.BoolOp .Or (b::rest) pos) tb):PE X (.BoolOp .Or (a::b::rest) pos) (tOrV ta tb):=by
  intro pins s σ H Q I h
  refine BoolOp_or (thn (ha pins s σ H _ I h) fun v s1 ⟨x,H1,I1,r1,q1⟩=>?_)
  obtain⟨c,rfl,q1⟩:=q1
  cases r1
  refine wpAny_truthy_bool ?_
  cases c with
  | false=>exact hb pins s1 σ H1 Q I1 q1
  | true=>exact⟨.bl true,H1,I1,rfl,q1⟩
theorem pe_not (ha:PE X a ta):PE X (.UnaryOp .Not a pos) (tNotV ta):=by
  intro pins s σ H Q I h
  refine UnaryOp_ (thn (ha pins s σ H _ I h) fun v s1 ⟨x,H1,I1,r1,q1⟩=>?_)
  obtain⟨c,rfl,q1⟩:=q1
  cases r1
  exact not_of (wpAny_truthy_bool ⟨.bl (!c),H1,I1,rfl,q1⟩)
def tIf (t:TT) (ta tb:TE):TE:=fun σ H Q=>t σ H fun c H1=>if c=true then ta σ H1 Q else tb σ H1 Q
theorem pe_ifExp {c:Expr} (hc:PT X c tA) (ha:PE X a ta) (hb:PE X b tb):PE X (.IfExp c a b pos) (tIf tA ta tb):=by
  intro pins s σ H Q I h
  refine wpAny_IfExp (thn (hc pins s σ H _ I h) fun d s1 ⟨H1,I1,q1⟩=>?_)
  cases d with
  | true=>exact ha pins s1 σ H1 Q I1 q1
  | false=>exact hb pins s1 σ H1 Q I1 q1
end
end L2
namespace L2
open PySem PySem.Spec PyProof.Rows
def SqL (K:PySem.W.Frag) (H:Hp) (a:Addr) (xs:List V):Prop :=
  Rd H a (.lst xs) ∨
    ∃ (o:Obj) (its:Array Value) (n:Nat),K.lookup a=some o/\o.cls=.type "list"/\o.dict=none/\o.data=.seq its n/\its.size<=sizeLine/\Vals xs its.toList
def SqT (K:PySem.W.Frag) (H:Hp) (a:Addr) (xs:List V):Prop :=
  Rd H a (.tup xs) ∨
    ∃ (o:Obj) (its:Array Value) (n:Nat),K.lookup a=some o/\o.cls=.type "tuple"/\o.data=.seq its n/\its.size<=sizeLine/\Vals xs its.toList
def absV:Value->Option V
  | .none=>some .non
  | .bool b=>some (.bl b)
  | .int i _=>some (.int i)
  | .str x _=>some (.str x)
  | .bytes b _=>some (.byt b)
  | .float b _=>some (.flt b)
  | .ref a=>some (.ref a)
  | .type n=>some (.ty n)
  | _=>none
theorem RelV.abs {x:V}{u:Value} (r:RelV x u):absV u=some x:=by
  cases x with
  | non=>cases r;rfl
  | bl _=>cases r;rfl
  | int _=>obtain⟨t,rfl⟩:=r;rfl
  | str _=>obtain⟨t,rfl⟩:=r;rfl
  | byt _=>obtain⟨t,rfl⟩:=r;rfl
  | flt _=>obtain⟨t,rfl⟩:=r;rfl
  | ref _=>cases r;rfl
  | ty _=>cases r;rfl
theorem RelV.inj {x y:V}{u:Value} (r:RelV x u) (q:RelV y u):x=y:=Option.some.inj (r.abs.symm.trans q.abs)
theorem Vals.inj:∀ {xs ys:List V}{us:List Value},Vals xs us->Vals ys us->xs=ys
  | _,_,_,.nil,.nil=>rfl
  | _,_,_,.cons r t,.cons r' t'=>by rw[r.inj r',Vals.inj t t']
section
variable {X:Cx}{pins:List (Addr × Obj)}{σ:St}{H:Hp}{s:Shared}{a:Addr}{xs ys:List V}
theorem SqL.of {K:PySem.W.Frag} (h:H a=some (.lst xs)):SqL K H a xs:=.inl (.inl h)
theorem SqT.of {K:PySem.W.Frag} (h:H a=some (.tup xs)):SqT K H a xs:=.inl (.inl h)
theorem Inv.list (I:Inv X pins σ H s) (h:SqL X.K H a xs):∃ its:List Value,Vals xs its/\PlainL s.heap a its.toArray/\xs.length<=sizeLine:=by
  rcases h with h | ⟨o,its,n,hk,hc,hd,hs,hz,r⟩
  · obtain⟨z,its,n,r,e⟩:=h.ok I.hok
    exact⟨its,r,⟨_,n,e,rfl,rfl,rfl⟩,z⟩
  · refine⟨its.toList,r,⟨o,n,I.kIn a o hk,hc,hd,by simpa using hs⟩,?_⟩
    have e:=r.length
    simp only[Array.length_toList] at e
    omega
theorem Inv.tuple (I:Inv X pins σ H s) (h:SqT X.K H a xs):∃ its:List Value,Vals xs its/\IsTup s.heap a its.toArray/\xs.length<=sizeLine:=by
  rcases h with h | ⟨o,its,n,hk,hc,hs,hz,r⟩
  · obtain⟨z,its,r,p⟩:=h.ok I.hok
    exact⟨its,r,p.tup,z⟩
  · refine⟨its.toList,r,⟨o,I.kIn a o hk,hc,n,by simpa using hs⟩,?_⟩
    have e:=r.length
    simp only[Array.length_toList] at e
    omega
theorem Inv.list_inj (I:Inv X pins σ H s) (h:SqL X.K H a xs) (h':SqL X.K H a ys):xs=ys:=by
  obtain⟨its,r,⟨o,n,e,_,_,d⟩,_⟩:=I.list h
  obtain⟨its',r',⟨o',n',e',_,_,d'⟩,_⟩:=I.list h'
  rw[e] at e';cases e'
  rw[d] at d'
  injection d' with d1 _
  have:its=its':=by simpa using congrArg Array.toList d1
  subst this
  exact r.inj r'
theorem Inv.tuple_inj (I:Inv X pins σ H s) (h:SqT X.K H a xs) (h':SqT X.K H a ys):xs=ys:=by
  obtain⟨its,r,⟨o,e,_,n,d⟩,_⟩:=I.tuple h
  obtain⟨its',r',⟨o',e',_,n',d'⟩,_⟩:=I.tuple h'
  rw[e] at e';cases e'
  rw[d] at d'
  injection d' with d1 _
  have:its=its':=by simpa using congrArg Array.toList d1
  subst this
  exact r.inj r'
end
abbrev Cx.wish (X:Cx) (E:Value->Shared->Prop):Cx:={ X with xe:=E }
abbrev Cx.nox (X:Cx):Cx:=X.wish fun _ _=>False
theorem Cx.Ok.wish {X:Cx} (ok:X.Ok) (E:Value->Shared->Prop):(X.wish E).Ok :=
  ⟨ok.mod,ok.kind,ok.glob,ok.blt,ok.above,ok.inj,ok.has,ok.cab,ok.hd,ok.frames,ok.stk,ok.exf,ok.bs,ok.bsz,ok.noex,ok.exfs,ok.funs,ok.frf⟩
theorem Cx.Ok.unwish {X:Cx}{E:Value->Shared->Prop} (ok:(X.wish E).Ok):X.Ok :=
  ⟨ok.mod,ok.kind,ok.glob,ok.blt,ok.above,ok.inj,ok.has,ok.cab,ok.hd,ok.frames,ok.stk,ok.exf,ok.bs,ok.bsz,ok.noex,ok.exfs,ok.funs,ok.frf⟩
section
variable {X:Cx}{pins:List (Addr × Obj)}{σ:St}{H:Hp}{s:Shared}{E:Value->Shared->Prop}
theorem Inv.wish (I:Inv X pins σ H s) (E:Value->Shared->Prop):Inv (X.wish E) pins σ H s:=⟨I.ok.wish E,I.os,I.bare,I.base,I.loc,I.cell,I.free,I.freeC,I.pin,I.hok,I.len⟩
theorem Inv.unwish (I:Inv (X.wish E) pins σ H s):Inv X pins σ H s:=⟨I.ok.unwish,I.os,I.bare,I.base,I.loc,I.cell,I.free,I.freeC,I.pin,I.hok,I.len⟩
theorem SP.unwish {D:Ends}{f:Flow}{s':Shared} (h:SP (X.wish E) pins D f s'):SP X pins D f s':=by
  cases f with
  | next=>obtain⟨σ',H',I,q⟩:=h;exact⟨σ',H',I.unwish,q⟩
  | brk=>obtain⟨σ',H',I,q⟩:=h;exact⟨σ',H',I.unwish,q⟩
  | cont=>obtain⟨σ',H',I,q⟩:=h;exact⟨σ',H',I.unwish,q⟩
  | ret u=>obtain⟨v,σ',H',I,r,q⟩:=h;exact⟨v,σ',H',I.unwish,r,q⟩
theorem PSs.nox {st:List Stmt}{t:TS} (h:PSs X.nox st t):PSs X st t:=fun pins s σ H D I hw=>
  wpAny_mono (h pins s σ H D (I.wish _) hw) (fun _ _ q=>q.unwish) fun _ _ z=>False.elim z
end
section
variable {X:Cx}{st:Stmt}{rest:List Stmt}{t u:TS}{e:Expr}{te:TE}{pos:Pos}
def tNext:TS:=fun D σ H=>D.nx σ H
def tSeq (t u:TS):TS:=fun D σ H=>t { D with nx:=u D } σ H
theorem pss_nil:PSs X [] tNext:=fun _ _ σ H _ I h=>wpAny_execs_nil ⟨σ,H,I,h⟩
theorem pss_cons (h1:PS X st t) (h2:PSs X rest u):PSs X (st::rest) (tSeq t u):=by
  intro pins s σ H D I h
  refine wpAny_execs_cons (thn (h1 pins s σ H { D with nx:=u D } I h) fun f s1 q=>?_)
  cases f with
  | next=>
    obtain⟨σ',H',I',q⟩:=q
    exact h2 pins s1 σ' H' D I' q
  | ret v=>exact q
  | brk=>exact q
  | cont=>exact q
theorem pss_one (h1:PS X st t):PSs X [st] t:=by
  intro pins s σ H D I h
  refine wpAny_execs_cons (thn (h1 pins s σ H D I h) fun f s1 q=>?_)
  cases f with
  | next=>exact wpAny_execs_nil q
  | ret v=>exact q
  | brk=>exact q
  | cont=>exact q
theorem Inv.quiet {pins:List (Addr × Obj)}{σ:St}{H:Hp}{s:Shared} (I:Inv X pins σ H s):interactive X.env=false:=by simp[interactive,I.ok.kind]
def tDrop (te:TE):TS:=fun D σ H=>te σ H fun _ H1=>D.nx σ H1
theorem ps_expr (he:PE X e te) (hs:swapsWith e none pos.line X.env=pure false:=by rfl):PS X (.Expr e pos) (tDrop te):=by
  intro pins s σ H D I h
  exact wpAny_Expr_any (thn (he pins s σ H _ I h) fun v s1 ⟨x,H1,I1,r1,q1⟩=>⟨σ,H1,I1,q1⟩) I.quiet hs
def tRet (te:TE):TS:=fun D σ H=>te σ H D.rt
theorem ps_ret (he:PE X e te):PS X (.Return (some e) pos) (tRet te):=by
  intro pins s σ H D I h
  exact wpAny_Return_some (thn (he pins s σ H _ I h) fun v s1 ⟨x,H1,I1,r1,q1⟩=>⟨x,σ,H1,I1,r1,q1⟩)
def tIfS (c:TT) (t u:TS):TS:=fun D σ H=>c σ H fun b H1=>if b=true then t D σ H1 else u D σ H1
theorem ps_if {c:Expr}{a b:List Stmt}{tc:TT} (hc:PT X c tc) (ha:PSs X a t) (hb:PSs X b u):PS X (.If c a b pos) (tIfS tc t u):=by
  intro pins s σ H D I h
  refine wpAny_If (thn (hc pins s σ H _ I h) fun d s1 ⟨H1,I1,q1⟩=>?_)
  cases d with
  | true=>exact ha pins s1 σ H1 D I1 q1
  | false=>exact hb pins s1 σ H1 D I1 q1
def tNever:TS:=fun _ _ _=>False
theorem pss_never {sts:List Stmt}:PSs X sts tNever:=fun _ _ _ _ _ _ h=>h.elim
end
abbrev TG:=V->St->Hp->(St->Hp->Prop)->Prop
abbrev TGs:=List V->St->Hp->(St->Hp->Prop)->Prop
def PG (X:Cx) (target:Expr) (t:TG):Prop :=
  ∀ (pins:List (Addr × Obj)) (s:Shared) (σ:St) (H:Hp) (v:V) (u:Value) (Q:St->Hp->Prop),Inv X pins σ H s->RelV v u->t v σ H Q ->
    wpAny (model X.prog X.w) X.A (assign target X.env u) (fun _ s'=>∃ σ' H',Inv X pins σ' H' s'/\Q σ' H') X.xe s
def PGs (X:Cx) (ts:List Expr) (t:TGs):Prop :=
  ∀ (pins:List (Addr × Obj)) (s:Shared) (σ:St) (H:Hp) (vs:List V) (us:List Value) (Q:St->Hp->Prop),Inv X pins σ H s->Vals vs us->t vs σ H Q ->
    wpAny (model X.prog X.w) X.A (assignInOrder ((assignEach ts X.env).map (·.2)) us) (fun _ s'=>∃ σ' H',Inv X pins σ' H' s'/\Q σ' H') X.xe s
abbrev TSet:=V->V->V->Hp->(Hp->Prop)->Prop
def PSet (X:Cx) (t:TSet):Prop :=
  ∀ (pins:List (Addr × Obj)) (s:Shared) (σ:St) (H:Hp) (o i v:V) (ov iv u:Value) (Q:Hp->Prop),Inv X pins σ H s->RelV o ov->RelV i iv->RelV v u->t o i v H Q ->
    wpAny (model X.prog X.w) X.A (setItem ov iv u) (fun _ s'=>∃ H',Inv X pins σ H' s'/\Q H') X.xe s
abbrev TIp:=V->V->Hp->VK->Prop
def PIp (X:Cx) (op:Operator) (t:TIp):Prop :=
  ∀ (pins:List (Addr × Obj)) (s:Shared) (σ:St) (H:Hp) (x y:V) (v u:Value) (Q:VK),Inv X pins σ H s->RelV x v->RelV y u->t x y H Q ->
    wpAny (model X.prog X.w) X.A (inplaceOp op v u) (EP X pins σ Q) X.xe s
section
variable {X:Cx}{pos:Pos}
def gName (i:Nat):TG:=fun v σ H Q=>Q (σ.set i (some v)) H
theorem pg_name {i:Nat}{x:Str} (hN:X.N.Nodup) (hi:X.N[i]?=some x) (hx:Loc X.env.scope x) (hf:X.fn x=true∨X.env.scope.names.lookup x=some .local:=by first | exact .inl rfl | exact .inr rfl | assumption):PG X (.Name x pos) (gName i):=by
  intro pins s σ H v u Q I r h
  exact wpAny_assign_Name (store_ok I hN hi hx r (fun s' I'=>⟨_,H,I',h⟩) hf)
def gNil:TGs:=fun vs σ H Q=>vs=[]/\Q σ H
def gCons (t:TG) (u:TGs):TGs:=fun vs σ H Q=>∃ v r,vs=v::r/\t v σ H fun σ' H'=>u r σ' H' Q
theorem pgs_nil:PGs X [] gNil:=by
  intro pins s σ H vs us Q I r h
  obtain⟨e,h⟩:=h
  subst e
  cases r
  exact assignInOrder_nil ⟨σ,H,I,h⟩
theorem pgs_cons {e:Expr}{es:List Expr}{t:TG}{u:TGs} (h1:PG X e t) (h2:PGs X es u)
    (hs:(assignEach (e::es) X.env).map (·.2)=assign e X.env::(assignEach es X.env).map (·.2):=by rfl):PGs X (e::es) (gCons t u):=by
  intro pins s σ H vs us Q I r h
  obtain⟨v,vr,e1,h⟩:=h
  subst e1
  cases r with
  | cons r rr=>
    rw[hs]
    refine assignInOrder_cons (thn (h1 pins s σ H _ _ _ I r h) fun _ s1 ⟨σ1,H1,I1,q1⟩=>?_)
    exact h2 pins s1 σ1 H1 _ _ Q I1 rr q1
def gTup (K:PySem.W.Frag) (n:Nat) (t:TGs):TG:=fun v σ H Q=>∃ a xs,v=.ref a/\SqT K H a xs/\xs.length=n/\t xs σ H Q
theorem pg_tup {es:List Expr}{k:Nat}{t:TGs}{n:Nat} (hc:X.calm=true) (h:PGs X es t)
    (hn:(assignEach es X.env).length=n:=by rfl) (hst:(assignEach es X.env).findIdx? (·.1)=none:=by rfl):PG X (.Tuple es k pos) (gTup X.K n t):=by
  intro pins s σ H v u Q I r hw
  obtain⟨a,xs,e1,hq,hl,hw⟩:=hw
  subst e1
  cases r
  obtain⟨its,rv,ht,hz⟩:=I.tuple hq
  refine assign_Tuple_tuple (I.ok.hd hc) ht (by simp[hn,<- hl,rv.length]) hst fun h' hx=>?_
  have I1:Inv X pins σ H { s with heap:=h' }:=I.kept (t':=s.toks) fun b o e=>hx b o (Nat.ne_of_lt (Heap.lt_size e)) e
  exact h pins _ σ H xs _ Q I1 (by simpa using rv) hw
def gSub (to ti:TE) (t:TSet):TG:=fun v σ H Q=>to σ H fun o H1=>ti σ H1 fun i H2=>t o i v H2 fun H3=>Q σ H3
theorem pg_sub {o i:Expr}{to ti:TE}{t:TSet} (ho:PE X o to) (hi:PE X i ti) (hs:PSet X t)
    (ha:∀ v,assign (.Subscript o i pos) X.env v=(do
      let ov <- holding [v] (eval o X.env)
      let iv <- holding [v,ov] (eval i X.env)
      standAt pos
      holding [v,ov,iv] (setItem ov iv v)
      release [v,ov,iv] []):=by intro _;rfl):PG X (.Subscript o i pos) (gSub to ti t):=by
  intro pins s σ H v u Q I r h
  rw[ha]
  refine wpAny_bind (wpAny_holding (thn (ho pins s σ H _ I h) fun ov s1 ⟨x,H1,I1,r1,q1⟩=>?_))
  refine wpAny_bind (wpAny_holding (thn (hi pins s1 σ H1 _ I1 q1) fun iv s2 ⟨y,H2,I2,r2,q2⟩=>?_))
  refine wpAny_bind (wpAny_standAt (wpAny_bind (wpAny_holding (thn (hs pins s2 σ H2 x y v ov iv u _ I2 r1 r2 r q2) fun _ s3 ⟨H3,I3,q3⟩=>?_))))
  exact wpAny_release ⟨σ,H3,I3,q3⟩
def tAsg (te:TE) (g:TG):TS:=fun D σ H=>te σ H fun x H1=>g x σ H1 D.nx
theorem ps_asg {tg e:Expr}{te:TE}{g:TG} (he:PE X e te) (hg:PG X tg g) (hs:swapsWithSole [tg] e pos.line X.env=pure false:=by rfl) (hw:swappedStores [tg] e X.env=pure none:=by rfl)
    (h1:(assignEach [tg] X.env).map (·.2)=[assign tg X.env]:=by rfl):PS X (.Assign [tg] e pos) (tAsg te g):=by
  intro pins s σ H D I h
  refine wpAny_Assign_stores (thn (he pins s σ H _ I h) fun v s1 ⟨x,H1,I1,r1,q1⟩=>?_) hs hw
  rw[h1]
  exact thn (hg pins s1 σ H1 x v _ I1 r1 q1) fun _ s2 q=>q
theorem ps_set {i:Nat}{x:Str}{e:Expr}{te:TE}{pos':Pos} (hN:X.N.Nodup) (hi:X.N[i]?=some x) (hx:Loc X.env.scope x) (he:PE X e te) (hs:swapsWith e (some (.Name x pos')) pos.line X.env=pure false:=by rfl) (hf:X.fn x=true∨X.env.scope.names.lookup x=some .local:=by first | exact .inl rfl | exact .inr rfl | assumption) :
    PS X (.Assign [.Name x pos'] e pos) (tAsg te (gName i)):=by
  intro pins s σ H D I h
  refine wpAny_Assign_Name (thn (he pins s σ H _ I h) fun v s1 ⟨y,H1,I1,r1,q1⟩=>?_) hs
  exact store_ok I1 hN hi hx r1 (fun s2 I2=>⟨_,H1,I2,q1⟩) hf
def tAug (i:Nat) (te:TE) (ti:TIp):TS:=fun D σ H=>∃ x,σ[i]?=some (some x)/\te σ H fun y H1=>ti x y H1 fun z H2=>D.nx (σ.set i (some z)) H2
theorem ps_aug {i:Nat}{x:Str}{e:Expr}{te:TE}{op:Operator}{ti:TIp}{pos':Pos} (hN:X.N.Nodup) (hi:X.N[i]?=some x) (hx:Loc X.env.scope x) (he:PE X e te) (ho:PIp X op ti) (hf:X.fn x=true∨X.env.scope.names.lookup x=some .local:=by first | exact .inl rfl | exact .inr rfl | assumption) :
    PS X (.AugAssign (.Name x pos') op e pos) (tAug i te ti):=by
  intro pins s σ H D I h
  obtain⟨v,e1,h⟩:=h
  obtain⟨m,hn,hl⟩:=I.loc
  have vis:Vis X.env.scope x:=by rcases hx with k | k;exact .inl k;exact .inr (.inl k)
  obtain⟨u,r,l⟩:=hl i x v hi e1 vis
  refine wpAny_AugAssign_Name ?_
  have go:wpAny (model X.prog X.w) X.A (eval e X.env) (fun w s₂=>wpAny (model X.prog X.w) X.A (inplaceOp op u w) (fun r s₃=>wpAny (model X.prog X.w) X.A (storeName X.env x r) (fun _=>SP X pins D .next) X.xe s₃) X.xe s₂) X.xe s:=by
    refine thn (he pins s σ H _ I h) fun w s1 ⟨y,H1,I1,r1,q1⟩=>?_
    refine thn (ho pins s1 σ H1 v y u w _ I1 r r1 q1) fun z s2 ⟨zv,H2,I2,r2,q2⟩=>?_
    exact store_ok I2 hN hi hx r2 (fun s3 I3=>⟨_,H2,I3,q2⟩) hf
  rcases l with ⟨hk,hm⟩ | ⟨hk,c,hc,hcell⟩
  · exact wpAny_loadName_local I.ok.kind hk hn hm go
  · rcases hk with hk | hk
    · exact wpAny_loadName_cell I.ok.kind hk hc hcell go
    · rcases hx with k | k
      · have:X.env.scope.names.lookup x=some .free:=hk
        rw[k] at this;cases this
      · have:X.env.scope.names.lookup x=some .free:=hk
        rw[k] at this;cases this
def ipI (f:Int->Int->Int):TIp:=fun x y H Q=>∃ i j,x=.int i/\y=.int j/\Q (.int (f i j)) H
theorem ip_add:PIp X .Add (ipI fun i j=>i+j):=by
  intro pins s σ H x y v u Q I r1 r2 h
  obtain⟨i,j,e1,e2,q⟩:=h
  subst e1;subst e2
  obtain⟨t,rfl⟩:=r1
  obtain⟨t',rfl⟩:=r2
  exact iadd_int ⟨.int _,H,I.tok _,⟨_,rfl⟩,q⟩
end
section
variable {X:Cx}{pos:Pos}
def tWhile (c:TT) (tb:TS):TS:=fun D σ H=>∃ W:Nat->St->Hp->Prop,(∃ m,W m σ H)/\∀ m σ H,W m σ H ->
  c σ H fun b H1=>if b=true then ∃ N:St->Hp->Prop,(∀ σ' H',N σ' H'->∃ m',m'<m/\W m' σ' H')/\tb { D with nx:=N,ct:=N,bk:=D.nx } σ H1 else D.nx σ H1
theorem ps_while {c:Expr}{body:List Stmt}{tc:TT}{tb:TS} (hp:PassesOwn (model X.prog X.w) X.A X.env X.xe) (hc:PT X c tc) (hb:PSs X body tb):PS X (.While c body [] pos) (tWhile tc tb):=by
  intro pins s σ H D I h
  obtain⟨W,⟨m0,w0⟩,turn⟩:=h
  refine wpAny_While (codeAny_whileLoop (fun n s'=>∃ σ' H',Inv X pins σ' H' s'/\W n σ' H') ?_ m0 ⟨σ,H,I,w0⟩)
  rintro n s1 ⟨σ1,H1,I1,w1⟩
  refine wpAny_passesOwn hp (thn (hc pins s1 σ1 H1 _ I1 (turn n σ1 H1 w1)) fun b s2 ⟨H2,I2,q2⟩=>?_)
  cases b with
  | true=>
    obtain⟨N,hN,q2⟩:=q2
    rw[if_pos rfl]
    refine wpAny_passesOwn hp (thn (hb pins s2 σ1 H2 _ I2 q2) fun f s3 q3=>?_)
    cases f with
    | next=>
      obtain⟨σ3,H3,I3,n3⟩:=q3
      obtain⟨m',hm,w3⟩:=hN σ3 H3 n3
      exact⟨m',hm,σ3,H3,I3,w3⟩
    | cont=>
      obtain⟨σ3,H3,I3,n3⟩:=q3
      obtain⟨m',hm,w3⟩:=hN σ3 H3 n3
      exact⟨m',hm,σ3,H3,I3,w3⟩
    | brk=>exact q3
    | ret v=>exact q3
  | false=>
    rw[if_neg Bool.false_ne_true]
    exact wpAny_execs_nil ⟨σ1,H2,I2,q2⟩
end
structure It where
  go:Nat->Hp->Prop
  yld:Nat->Hp->V->Hp->Prop
  stop:Nat->Hp->Prop
def FpOk (X:Cx) (pins:List (Addr × Obj)) (H:Hp) (b:Addr):Prop :=
  H b=none/\b≠X.env.locals/\b ∉ X.fs/\(b∈X.ex∨X.s₀.heap.objs.size<=b)/\(∀ x c,X.env.cells.lookup x=some c->c≠b)/\∀ p∈X.pn++pins,p.1≠b
theorem Inv.fpOk {X:Cx}{pins:List (Addr × Obj)}{σ:St}{H H':Hp}{s:Shared}{b:Addr} (I:Inv X pins σ H s) (hb:s.heap.objs.size<=b) (hn:H' b=none):FpOk X pins H' b:=by
  refine⟨hn,Nat.ne_of_gt (Nat.lt_of_lt_of_le I.lt hb),I.nofs hb,.inr (Nat.le_trans I.sz hb),fun x c e z=>?_,fun p hp z=>?_⟩
  · obtain⟨v,q⟩:=I.cell x c e
    exact absurd (Nat.lt_of_lt_of_le q.lt (by rw[z];exact hb)) (Nat.lt_irrefl _)
  · exact absurd (Nat.lt_of_lt_of_le (Heap.lt_size (I.pin p hp).1) (by rw[z];exact hb)) (Nat.lt_irrefl _)
structure Turn (P:Program) (w:World) (K:PySem.W.Frag) (tg:Expr) (J:It) (fp:List Addr) (it:Addr) (tn:Nat->Heap->Prop):Prop where
  mem:it∈fp
  obj:∀ i h,tn i h->∀ b∈fp,∃ o,h.get? b=some o/\∀ v,o.data≠.cell v
  keep:∀ i h h',tn i h->(∀ b∈fp,∀ o,h.get? b=some o->h'.get? b=some o)->tn i h'
  item:∀ (X:Cx),X.prog=P->X.w=w->X.K=K->X.calm=true->∀ (i:Nat) (pins:List (Addr × Obj)) (s:Shared) (σ:St) (H:Hp) (E:Value->Shared->Prop),Inv X pins σ H s->(∀ b∈fp,FpOk X pins H b)->tn i s.heap->J.go i H ->
    wpAny (model P w) X.A (pyNext (.ref it)) (fun r s1=>∃ u,r=some u /\
      wpAny (model P w) X.A (letOwnedTupleGo tg (.ref it) u) (fun _ s2=>∃ x H',Inv X pins σ H' s2/\RelV x u/\J.yld i H x H'/\tn (i+1) s2.heap/\∀ b∈fp,H' b=none) E s1) E s
  done:∀ (X:Cx),X.prog=P->X.w=w->X.K=K->X.calm=true->∀ (i:Nat) (pins:List (Addr × Obj)) (s:Shared) (σ:St) (H:Hp) (E:Value->Shared->Prop),Inv X pins σ H s->(∀ b∈fp,FpOk X pins H b)->tn i s.heap->J.stop i H ->
    wpAny (model P w) X.A (pyNext (.ref it)) (fun r s1=>r=none/\Inv X pins σ H s1) E s
  self:∀ (A:Around) (i:Nat) (s:Shared) (Q:Value->Shared->Prop) (E:Value->Shared->Prop),tn i s.heap->Q (.ref it) s->wpAny (model P w) A (pyIter (.ref it)) Q E s
abbrev TI:=St->Hp->(It->Hp->Prop)->Prop
def PIE (X:Cx) (pins:List (Addr × Obj)) (σ:St) (tg:Expr) (R:It->Hp->Prop) (itv:Value) (s2:Shared):Prop :=
  ∃ (it:Addr) (fp:List Addr) (tn:Nat->Heap->Prop) (J:It) (H':Hp),itv=.ref it/\Inv X pins σ H' s2/\Turn X.prog X.w X.K tg J fp it tn/\tn 0 s2.heap/\(∀ b∈fp,FpOk X pins H' b)/\R J H'
def PI (X:Cx) (tg iter:Expr) (wi:TI):Prop :=
  ∀ (pins:List (Addr × Obj)) (s:Shared) (σ:St) (H:Hp) (R:It->Hp->Prop),Inv X pins σ H s->wi σ H R ->
    wpAny (model X.prog X.w) X.A (eval iter X.env) (fun v s1=>wpAny (model X.prog X.w) X.A (pyIter v) (PIE X pins σ tg R) X.xe s1) X.xe s
theorem go_of {M:Model}{A:Around}{E:Value->Shared->Prop}{s:Shared}{tg:Expr}{it:Addr}{u:Value}{o:Obj}{n:String}{vs:Array Value}{Q:Unit->Shared->Prop} (ho:s.heap.get? it=some o) (hc:o.cls=.type n) (hd:o.data=.fields vs)
    (hn:["enumerate","zip","dict_itemiterator","dict_reverseitemiterator","odict_iterator","itertools.zip_longest","itertools.pairwise"].contains n=false) (hQ:Q () s):wpAny M A (letOwnedTupleGo tg (.ref it) u) Q E s:=by
  unfold letOwnedTupleGo
  cases tg <;> first
    | exact wpAny_pure hQ
    | (cases u <;> first
        | exact wpAny_pure hQ
        | (refine wpAny_bind (wpAny_load ho ?_)
           rw[hc,hd]
           show wpAny M A (if (["enumerate","zip","dict_itemiterator","dict_reverseitemiterator","odict_iterator","itertools.zip_longest","itertools.pairwise"].contains n && vs[0]? == some (rawInt _))=true then _ else _) Q E s
           rw[if_neg (by intro h;rw[hn,Bool.false_and] at h;cases h)]
           exact wpAny_pure hQ))
def Itl (K:PySem.W.Frag) (a:Addr):It :=
  ⟨fun i H=>∃ xs x,SqL K H a xs/\xs[i]?=some x,fun i H x H'=>H'=H/\∀ xs,SqL K H a xs->xs[i]?=some x,fun i H=>∃ xs,SqL K H a xs/\xs.length<=i⟩
def Itt (K:PySem.W.Frag) (a:Addr):It :=
  ⟨fun i H=>∃ xs x,SqT K H a xs/\xs[i]?=some x,fun i H x H'=>H'=H/\∀ xs,SqT K H a xs->xs[i]?=some x,fun i H=>∃ xs,SqT K H a xs/\xs.length<=i⟩
def Itr (lo:Int) (n:Nat):It:=⟨fun i _=>i<n,fun i H x H'=>H'=H/\x=.int (lo+i),fun i _=>n<=i⟩
theorem turn_list {P:Program}{w:World}{K:PySem.W.Frag}{tg:Expr} (a it:Addr):Turn P w K tg (Itl K a) [it] it (fun i h=>h.IsListIter it a i) where
  mem:=by simp
  obj:=fun i h st b hb=>by
    have e:b=it:=by simpa using hb
    subst e
    obtain⟨o,e,c,d⟩:=st
    exact⟨o,e,fun v z=>by rw[d] at z;cases z⟩
  keep:=fun i h h' st k=>st.at fun o e=>k it (by simp) o e
  item:=by
    intro X hP hw hK hc i pins s σ H E I hf st hg
    subst hP hw hK
    obtain⟨xs,x,hq,hx⟩:=hg
    obtain⟨its,rv,p,hz⟩:=I.list hq
    obtain⟨u,hu,ru⟩:=rv.get hx
    obtain⟨f0,f1,f2,f3,f4,f5⟩:=hf it (by simp)
    refine wpAny_pyNext_list_item st p.isList (x:=u) (by simpa using hu) fun h' st' sb=>?_
    have I1:Inv X pins σ H { s with heap:=h' }:=I.turned (t':=s.toks) (fun b o hb e=>(sb.2 b hb).trans e) f0 f1 f3 f4 f5
    obtain⟨o,e,c,d⟩:=id st'
    exact⟨u,rfl,go_of (s:={ s with heap:=h' }) e c d (by decide) ⟨x,H,I1,ru,⟨rfl,fun ys hy=>by rw[I.list_inj hy hq];exact hx⟩,st',fun b hb=>(hf b hb).1⟩⟩
  done:=by
    intro X hP hw hK hc i pins s σ H E I hf st hg
    subst hP hw hK
    obtain⟨xs,hq,hx⟩:=hg
    obtain⟨its,rv,p,hz⟩:=I.list hq
    obtain⟨f0,f1,f2,f3,f4,f5⟩:=hf it (by simp)
    have hl:=rv.length
    exact wpAny_pyNext_list_end (I.ok.hd hc) st p.isList (by simp;omega) fun h' eb=>⟨rfl,I.turned (t':=s.toks) (fun b o hb e=>eb b o hb e) f0 f1 f3 f4 f5⟩
  self:=fun _ _ _ _ _ st h=>wpAny_pyIter_listiter st h
theorem turn_tuple {P:Program}{w:World}{K:PySem.W.Frag}{tg:Expr} (a it:Addr):Turn P w K tg (Itt K a) [it] it (fun i h=>h.IsTupleIter it a i) where
  mem:=by simp
  obj:=fun i h st b hb=>by
    have e:b=it:=by simpa using hb
    subst e
    obtain⟨o,e,c,d⟩:=st
    exact⟨o,e,fun v z=>by rw[d] at z;cases z⟩
  keep:=fun i h h' st k=>st.at fun o e=>k it (by simp) o e
  item:=by
    intro X hP hw hK hc i pins s σ H E I hf st hg
    subst hP hw hK
    obtain⟨xs,x,hq,hx⟩:=hg
    obtain⟨its,rv,p,hz⟩:=I.tuple hq
    obtain⟨u,hu,ru⟩:=rv.get hx
    obtain⟨f0,f1,f2,f3,f4,f5⟩:=hf it (by simp)
    refine wpAny_pyNext_tuple_item st (show s.heap.IsTuple a its.toArray from p) (x:=u) (by simpa using hu) fun h' st' sb=>?_
    have I1:Inv X pins σ H { s with heap:=h' }:=I.turned (t':=s.toks) (fun b o hb e=>(sb.2 b hb).trans e) f0 f1 f3 f4 f5
    obtain⟨o,e,c,d⟩:=id st'
    exact⟨u,rfl,go_of (s:={ s with heap:=h' }) e c d (by decide) ⟨x,H,I1,ru,⟨rfl,fun ys hy=>by rw[I.tuple_inj hy hq];exact hx⟩,st',fun b hb=>(hf b hb).1⟩⟩
  done:=by
    intro X hP hw hK hc i pins s σ H E I hf st hg
    subst hP hw hK
    obtain⟨xs,hq,hx⟩:=hg
    obtain⟨its,rv,p,hz⟩:=I.tuple hq
    obtain⟨f0,f1,f2,f3,f4,f5⟩:=hf it (by simp)
    have hl:=rv.length
    exact wpAny_pyNext_tuple_end (I.ok.hd hc) st (show s.heap.IsTuple a its.toArray from p) (by simp;omega) fun h' eb=>⟨rfl,I.turned (t':=s.toks) (fun b o hb e=>eb b o hb e) f0 f1 f3 f4 f5⟩
  self:=fun _ _ _ _ _ st h=>wpAny_pyIter_tupleiter st h
theorem turn_range {P:Program}{w:World}{K:PySem.W.Frag}{tg:Expr} (it:Addr) (lo:Int) (n:Nat):Turn P w K tg (Itr lo n) [it] it (fun i h=>IsRangeIter h it (lo+(i:Nat)*1) ((n:Int) - (i:Nat)) 1) where
  mem:=by simp
  obj:=fun i h st b hb=>by
    have e:b=it:=by simpa using hb
    subst e
    exact⟨_,st,fun v z=>by
      have z':Data.fields _=Data.cell v:=z
      cases z'⟩
  keep:=fun i h h' st k=>k it (by simp) _ st
  item:=by
    intro X hP hw hK hc i pins s σ H E I hf st hg
    subst hP hw hK
    obtain⟨f0,f1,f2,f3,f4,f5⟩:=hf it (by simp)
    have W:=Walks.range (prog:=X.prog) (w:=X.w) (I.ok.hd hc) it lo 1 n
    refine W.item i s _ _ hg st fun v h' tk hv st' kk=>?_
    obtain⟨t,rfl⟩:=hv
    have I1:Inv X pins σ H { s with heap:=h',toks:=tk }:=I.turned (fun b o hb e=>kk b o (by simpa using hb) e) f0 f1 f3 f4 f5
    refine⟨_,rfl,go_of (s:={ s with heap:=h',toks:=tk }) (n:="range_iterator") st' rfl rfl (by decide) ⟨.int (lo+i),H,I1,⟨t,?_⟩,⟨rfl,rfl⟩,st',fun b hb=>(hf b hb).1⟩⟩
    rw[Int.mul_one]
  done:=by
    intro X hP hw hK hc i pins s σ H E I hf st hg
    subst hP hw hK
    obtain⟨f0,f1,f2,f3,f4,f5⟩:=hf it (by simp)
    exact wpAny_pyNext_range_end (I.ok.hd hc) st (by have:n<=i:=hg;omega) fun h' eb=>⟨rfl,I.turned (t':=s.toks) (fun b o hb e=>eb b o hb e) f0 f1 f3 f4 f5⟩
  self:=fun _ _ _ _ _ st h=>wpAny_pyIter_rangeiter st h
end L2
namespace L2
open PySem PySem.Spec PyProof.Rows
section
variable {X:Cx}{tg:Expr}
def iTup (K:PySem.W.Frag) (tl:TE):TI:=fun σ H R=>tl σ H fun x H1=>∃ a,x=.ref a/\(∃ xs,SqT K H1 a xs)/\R (Itt K a) H1
theorem pi_tup {l:Expr}{tl:TE} (hl:PE X l tl):PI X tg l (iTup X.K tl):=by
  intro pins s σ H R I h
  refine thn (hl pins s σ H _ I h) fun v s1 ⟨x,H1,I1,r1,q1⟩=>?_
  obtain⟨a,e,⟨xs,hq⟩,q⟩:=q1
  subst e
  cases r1
  obtain⟨its,rv,p,hz⟩:=I1.tuple hq
  refine wpAny_pyIter_tuple (show s1.heap.IsTuple a its.toArray from p) ?_
  refine⟨s1.heap.objs.size,[s1.heap.objs.size],_,_,H1,rfl,I1.kept (t':=s1.toks) fun b o e=>Heap.get?_push_of_some _ e,turn_tuple a _,⟨_,Heap.get?_push_size _ rfl,rfl,rfl⟩,fun b hb=>?_,q⟩
  have e:b=s1.heap.objs.size:=by simpa using hb
  subst e
  exact I1.fpOk (Nat.le_refl _) (I1.hok.fresh (Nat.le_refl _))
theorem range_it {pins:List (Addr × Obj)}{σ:St}{H:Hp}{s:Shared}{R:It->Hp->Prop}{E:Value->Shared->Prop}{lo hi:Int}{t u v:Tok}{tk:Nat} (I:Inv X pins σ H s) (h1:-(2 ^ 62)<=lo) (h2:lo<2 ^ 62) (h3:-(2 ^ 62)<=hi) (h4:hi<2 ^ 62)
    (q:R (Itr lo (hi - lo).toNat) H):wpAny (model X.prog X.w) X.A (pyIter (.ref s.heap.objs.size)) (PIE X pins σ tg R) E { s with heap:=s.heap.push { cls:=.type "range",data:=.fields #[.int lo t,.int hi u,.int 1 v] },toks:=tk }:=by
  refine wpAny_pyIter_range (IsRange.new ..) (small_one h1 h2 h3 h4) ?_
  have I1:Inv X pins σ H { s with heap:=s.heap.push { cls:=.type "range",data:=.fields #[.int lo t,.int hi u,.int 1 v] },toks:=tk }:=I.kept fun b o e=>Heap.get?_push_of_some _ e
  refine⟨(s.heap.push { cls:=.type "range",data:=.fields #[.int lo t,.int hi u,.int 1 v] }).objs.size,[(s.heap.push { cls:=.type "range",data:=.fields #[.int lo t,.int hi u,.int 1 v] }).objs.size],_,_,H,rfl,
    I1.kept (t':=tk) fun b o e=>Heap.get?_push_of_some _ e,turn_range _ lo (hi - lo).toNat,?_,fun b hb=>?_,q⟩
  · have e1:lo+((0:Nat):Int)*1=lo:=by simp
    have e2:(((hi - lo).toNat:Nat):Int) - ((0:Nat):Int)=Builtin.Range.rangeSize lo hi 1:=by rw[rangeSize_one];split <;> omega
    show IsRangeIter _ _ (lo+((0:Nat):Int)*1) ((((hi - lo).toNat:Nat):Int) - ((0:Nat):Int)) 1
    rw[e1,e2]
    exact Heap.get?_push_size _ rfl
  · have e:b=(s.heap.push { cls:=.type "range",data:=.fields #[.int lo t,.int hi u,.int 1 v] }).objs.size:=by simpa using hb
    subst e
    exact I1.fpOk (Nat.le_refl _) (I1.hok.fresh (Nat.le_refl _))
def iRng1 (ta:TA):TI:=fun σ H R=>ta σ H fun vs H1=>∃ j:Int,vs=[.int j]/\-(2 ^ 62)<=j/\j<2 ^ 62/\R (Itr 0 j.toNat) H1
theorem pi_range1 {a:Expr}{ta:TA}{p pos:Pos} (hg:Gl X "range") (hm:X.mg "range"=none) (ha:PA X [a] ta) (hs:starEach [a] X.env=[(false,eval a X.env)]:=by rfl):PI X tg (.Call (.Name "range" p) [a] [] pos) (iRng1 ta):=by
  intro pins s σ H R I h
  refine Call_ (ld_blt I hg hm boot_range (PyProof.Rows.callWith_type1 (thn (ha pos pins s σ H _ I h) fun us s1 ⟨vs,H1,I1,r1,q1⟩=>?_) hs rfl))
  obtain⟨j,e,q1,q2,q⟩:=q1
  subst e
  cases r1 with
  | cons r rr=>
    cases rr
    obtain⟨t,rfl⟩:=r
    exact call_range_1 (range_it I1 (by omega) (by omega) q1 q2 (by simpa using q))
def tFor (wi:TI) (g:TG) (tb:TS):TS:=fun D σ H=>wi σ H fun J H1=>∃ W:Nat->Nat->St->Hp->Prop,(∃ m,W 0 m σ H1)/\∀ i m σ H,W i m σ H ->
  (J.stop i H/\D.nx σ H)∨(J.go i H/\∃ N:St->Hp->Prop,(∀ σ' H',N σ' H'->∃ m',m'<m/\W (i+1) m' σ' H')/\∀ x H',J.yld i H x H'->g x σ H' fun σ2 H2=>tb { D with nx:=N,ct:=N,bk:=D.nx } σ2 H2)
def pinsAt (fp:List Addr) (h:Heap):List (Addr × Obj):=fp.filterMap fun b=>(h.get? b).map fun o=>(b,o)
theorem mem_pinsAt {fp:List Addr}{h:Heap}{b:Addr}{o:Obj} (hb:b∈fp) (e:h.get? b=some o):(b,o)∈pinsAt fp h:=List.mem_filterMap.mpr ⟨b,hb,by rw[e];rfl⟩
theorem of_pinsAt {fp:List Addr}{h:Heap}{p:Addr × Obj} (hp:p∈pinsAt fp h):p.1∈fp/\h.get? p.1=some p.2:=by
  obtain⟨b,hb,e⟩:=List.mem_filterMap.mp hp
  cases q:h.get? b with
  | none=>rw[q] at e;cases e
  | some o=>
    rw[q] at e
    have e':(b,o)=p:=Option.some.inj e
    subst e'
    exact⟨hb,q⟩
theorem Inv.pinned {pins:List (Addr × Obj)}{σ:St}{H:Hp}{s:Shared}{fp:List Addr} (I:Inv X pins σ H s) (hf:∀ b∈fp,FpOk X pins H b) (ho:∀ b∈fp,∃ o,s.heap.get? b=some o/\∀ v,o.data≠.cell v):Inv X (pins++pinsAt fp s.heap) σ H s :=
  I.pins_of fun p hp=>(List.mem_append.mp hp).elim (fun z=>I.pin p (List.mem_append_right _ z)) fun z=>by
    obtain⟨hb,e⟩:=of_pinsAt z
    obtain⟨f0,f1,f2,_⟩:=hf p.1 hb
    obtain⟨o,e',d⟩:=ho p.1 hb
    rw[e] at e';cases e'
    exact⟨e,f0,f1,f2,d⟩
theorem Inv.unpinned {pins pl:List (Addr × Obj)}{σ:St}{H:Hp}{s:Shared} (I:Inv X (pins++pl) σ H s):Inv X pins σ H s:=I.pins_of fun p hp=>I.pin p (List.mem_append_right _ (List.mem_append_left _ hp))
theorem ps_for {iter:Expr}{body:List Stmt}{wi:TI}{g:TG}{tb:TS}{pos:Pos} (hp:PassesOwn (model X.prog X.w) X.A X.env X.xe) (hc:X.calm=true) (hi:PI X tg iter wi) (hg:PG X tg g) (hb:PSs X body tb)
    (hs:∀ x,foldedSetIterable iter X.env x=pure x:=by intro _;rfl):PS X (.For tg iter body [] pos) (tFor wi g tb):=by
  intro pins s σ H D I h
  refine wpAny_For (thn (hi pins s σ H _ I h) fun v s1 h1=>thn h1 fun itv s2 h2=>?_) hs
  obtain⟨it,fp,tn,J,H2,e,I2,T,st2,f2,W,⟨m0,w0⟩,turn⟩:=h2
  subst e
  have stat:∀ {H':Hp},(∀ b∈fp,H' b=none)->∀ b∈fp,FpOk X pins H' b:=fun hn b hb=>⟨hn b hb,(f2 b hb).2⟩
  refine codeAny_forLoop_any (fun n s'=>∃ i σ' H',Inv X pins σ' H' s'/\tn i s'.heap/\(∀ b∈fp,H' b=none)/\W i n σ' H') ?_ m0 ⟨0,σ,H2,I2,st2,fun b hb=>(f2 b hb).1,w0⟩
  rintro n s3 ⟨i,σ3,H3,I3,st3,fr3,w3⟩
  rcases turn i n σ3 H3 w3 with ⟨stop,qn⟩ | ⟨go,N,hN,step⟩
  · refine wpAny_passesOwn hp (thn (T.done X rfl rfl rfl hc i pins s3 σ3 H3 X.xe I3 (stat fr3) st3 stop) fun r s4 ⟨hr,I4⟩=>?_)
    subst hr
    exact wpAny_execs_nil ⟨σ3,H3,I4,qn⟩
  · refine wpAny_passesOwn hp (thn (T.item X rfl rfl rfl hc i pins s3 σ3 H3 X.xe I3 (stat fr3) st3 go) fun r s4 ⟨u,hr,h4⟩=>?_)
    subst hr
    refine wpAny_passesOwn hp (thn h4 fun _ s5 ⟨x,H5,I5,r5,y5,st5,fr5⟩=>?_)
    have I5':=I5.pinned (stat fr5) (T.obj _ _ st5)
    refine wpAny_passesOwn hp (thn (hg _ s5 σ3 H5 x u _ I5' r5 (step x H5 y5)) fun _ s6 ⟨σ6,H6,I6,q6⟩=>?_)
    refine wpAny_passesOwn hp (thn (hb _ s6 σ6 H6 _ I6 q6) fun f s7 q7=>?_)
    have again:∀ {σ7:St}{H7:Hp},Inv X (pins++pinsAt fp s5.heap) σ7 H7 s7->N σ7 H7->∃ m,m<n/\∃ i σ' H',Inv X pins σ' H' s7/\tn i s7.heap/\(∀ b∈fp,H' b=none)/\W i m σ' H':=fun {σ7 H7} I7 n7=>by
      obtain⟨m',hm,w7⟩:=hN σ7 H7 n7
      refine⟨m',hm,i+1,σ7,H7,I7.unpinned,T.keep _ _ _ st5 fun b hb o e=>(I7.pin (b,o) (List.mem_append_right _ (List.mem_append_right _ (mem_pinsAt hb e)))).1,fun b hb=>?_,w7⟩
      obtain⟨o,e,d⟩:=T.obj _ _ st5 b hb
      exact (I7.pin (b,o) (List.mem_append_right _ (List.mem_append_right _ (mem_pinsAt hb e)))).2.1
    cases f with
    | next=>obtain⟨σ7,H7,I7,n7⟩:=q7;exact again I7 n7
    | cont=>obtain⟨σ7,H7,I7,n7⟩:=q7;exact again I7 n7
    | brk=>obtain⟨σ7,H7,I7,q7⟩:=q7;exact⟨σ7,H7,I7.unpinned,q7⟩
    | ret v=>obtain⟨x7,σ7,H7,I7,r7,q7⟩:=q7;exact⟨x7,σ7,H7,I7.unpinned,r7,q7⟩
end
theorem for_tup {K:PySem.W.Frag}{a:Addr}{xs:List V}{g:TG}{tb:TS}{D:Ends}{σ:St}{H:Hp} (Pv:Nat->St->Hp->Prop) (h0:Pv 0 σ H) (hl:∀ i σ H,i<=xs.length->Pv i σ H->SqT K H a xs)
    (hs:∀ i x σ H,xs[i]?=some x->Pv i σ H->g x σ H fun σ2 H2=>tb { D with nx:=Pv (i+1),ct:=Pv (i+1),bk:=D.nx } σ2 H2) (hd:∀ σ H,Pv xs.length σ H->D.nx σ H) :
    ∃ W:Nat->Nat->St->Hp->Prop,(∃ m,W 0 m σ H)/\∀ i m σ H,W i m σ H ->
      ((Itt K a).stop i H/\D.nx σ H)∨((Itt K a).go i H/\∃ N:St->Hp->Prop,(∀ σ' H',N σ' H'->∃ m',m'<m/\W (i+1) m' σ' H')/\∀ x H',(Itt K a).yld i H x H'->g x σ H' fun σ2 H2=>tb { D with nx:=N,ct:=N,bk:=D.nx } σ2 H2):=by
  refine⟨fun i m σ H=>m=xs.length - i/\i<=xs.length/\Pv i σ H,⟨xs.length,by simp,Nat.zero_le _,h0⟩,?_⟩
  rintro i m σ H ⟨rfl,hi,p⟩
  have q:=hl i σ H hi p
  by_cases hlt:i<xs.length
  · refine .inr ⟨⟨xs,xs[i],q,by simp[hlt]⟩,Pv (i+1),fun σ' H' p'=>⟨xs.length - (i+1),by omega,rfl,hlt,p'⟩,fun x H' y=>?_⟩
    obtain⟨e,y⟩:=y
    subst e
    exact hs i x σ _ (y xs q) p
  · have e:i=xs.length:=by omega
    subst e
    exact .inl ⟨⟨xs,q,Nat.le_refl _⟩,hd σ H p⟩
theorem for_range {lo:Int}{n:Nat}{g:TG}{tb:TS}{D:Ends}{σ:St}{H:Hp} (Pv:Nat->St->Hp->Prop) (h0:Pv 0 σ H)
    (hs:∀ i σ H,i<n->Pv i σ H->g (.int (lo+i)) σ H fun σ2 H2=>tb { D with nx:=Pv (i+1),ct:=Pv (i+1),bk:=D.nx } σ2 H2) (hd:∀ σ H,Pv n σ H->D.nx σ H) :
    ∃ W:Nat->Nat->St->Hp->Prop,(∃ m,W 0 m σ H)/\∀ i m σ H,W i m σ H ->
      ((Itr lo n).stop i H/\D.nx σ H)∨((Itr lo n).go i H/\∃ N:St->Hp->Prop,(∀ σ' H',N σ' H'->∃ m',m'<m/\W (i+1) m' σ' H')/\∀ x H',(Itr lo n).yld i H x H'->g x σ H' fun σ2 H2=>tb { D with nx:=N,ct:=N,bk:=D.nx } σ2 H2):=by
  refine⟨fun i m σ H=>m=n - i/\i<=n/\Pv i σ H,⟨n,by simp,Nat.zero_le _,h0⟩,?_⟩
  rintro i m σ H ⟨rfl,hi,p⟩
  by_cases hlt:i<n
  · refine .inr ⟨hlt,Pv (i+1),fun σ' H' p'=>⟨n - (i+1),by omega,rfl,hlt,p'⟩,fun x H' y=>?_⟩
    obtain⟨e,y⟩:=y
    subst e y
    exact hs i σ _ hlt p
  · have e:i=n:=by omega
    subst e
    exact .inl ⟨Nat.le_refl _,hd σ H p⟩
end L2
namespace L2
open PySem PySem.Spec PyProof.Rows
abbrev R2:=V->V->Hp->VK->Prop
def OpR (X:Cx) (f:Value->Value->Sem Value) (r:R2):Prop :=
  ∀ (pins:List (Addr × Obj)) (s:Shared) (σ:St) (H:Hp) (x y:V) (v u:Value) (Q:VK),Inv X pins σ H s->RelV x v->RelV y u->r x y H Q ->
    wpAny (model X.prog X.w) X.A (f v u) (EP X pins σ Q) X.xe s
def UnR (X:Cx) (f:Value->Sem Value) (r:V->Hp->VK->Prop):Prop :=
  ∀ (pins:List (Addr × Obj)) (s:Shared) (σ:St) (H:Hp) (x:V) (v:Value) (Q:VK),Inv X pins σ H s->RelV x v->r x H Q ->
    wpAny (model X.prog X.w) X.A (f v) (EP X pins σ Q) X.xe s
def CallR (X:Cx) (f:Value) (r:List V->Hp->VK->Prop):Prop :=
  ∀ (pins:List (Addr × Obj)) (s:Shared) (σ:St) (H:Hp) (xs:List V) (us:List Value) (Q:VK),Inv X pins σ H s->Vals xs us->r xs H Q ->
    wpAny (model X.prog X.w) X.A (call f us) (EP X pins σ Q) X.xe s
def tOp (r:R2) (ta tb:TE):TE:=fun σ H Q=>ta σ H fun x H1=>tb σ H1 fun y H2=>r x y H2 Q
def tUn (r:V->Hp->VK->Prop) (ta:TE):TE:=fun σ H Q=>ta σ H fun x H1=>r x H1 Q
def rI (C:Int->Int->Prop) (g:Int->Int->V):R2:=fun x y H Q=>∃ i j,x=.int i/\y=.int j/\C i j/\Q (g i j) H
def rI0 (g:Int->Int->V):R2:=fun x y H Q=>∃ i j,x=.int i/\y=.int j/\Q (g i j) H
def rU (g:Int->V):V->Hp->VK->Prop:=fun x H Q=>∃ i,x=.int i/\Q (g i) H
section
variable {X:Cx}{a b c:Expr}{ta tb tc:TE}{pos:Pos}
theorem binT (ha:PE X a ta) (hb:PE X b tb) {pins:List (Addr × Obj)}{s:Shared}{σ:St}{H:Hp}{R:V->V->Hp->Prop} (I:Inv X pins σ H s)
    (h:ta σ H fun x H1=>tb σ H1 fun y H2=>R x y H2) {Q:Value->Shared->Prop}{f:Value->Value->Sem Value}
    (hf:∀ v u s2 x y H2,Inv X pins σ H2 s2->RelV x v->RelV y u->R x y H2->wpAny (model X.prog X.w) X.A (f v u) Q X.xe s2) :
    wpAny (model X.prog X.w) X.A (eval a X.env) (fun v s₁=>wpAny (model X.prog X.w) X.A (eval b X.env) (fun u s₂=>wpAny (model X.prog X.w) X.A (f v u) Q X.xe s₂) X.xe s₁) X.xe s:=by
  refine thn (ha pins s σ H _ I h) fun v s1 ⟨x,H1,I1,r1,q1⟩=>?_
  refine thn (hb pins s1 σ H1 _ I1 q1) fun u s2 ⟨y,H2,I2,r2,q2⟩=>?_
  exact hf v u s2 x y H2 I2 r1 r2 q2
theorem pe_op {op:Operator}{r:R2} (ho:OpR X (binaryOp op) r) (ha:PE X a ta) (hb:PE X b tb):PE X (.BinOp a op b pos) (tOp r ta tb):=by
  intro pins s σ H Q I h
  exact wpAny_BinOp (binT ha hb I h fun v u s2 x y H2 I2 rx ry q=>ho pins s2 σ H2 x y v u Q I2 rx ry q)
theorem pe_un {op:UnaryOp}{r:V->Hp->VK->Prop} (ho:UnR X (unaryOp op) r) (ha:PE X a ta):PE X (.UnaryOp op a pos) (tUn r ta):=by
  intro pins s σ H Q I h
  exact UnaryOp_ (thn (ha pins s σ H _ I h) fun v s1 ⟨x,H1,I1,r1,q1⟩=>ho pins s1 σ H1 x v Q I1 r1 q1)
theorem opI {f:Value->Value->Sem Value}{C:Int->Int->Prop}{g:Int->Int->Int}
    (rule:∀ (i j:Int) (t u:Tok) (s:Shared) (Q:Value->Shared->Prop) (E:Value->Shared->Prop),C i j->Q (.int (g i j) s.toks) { s with toks:=s.toks+1 }->wpAny (model X.prog X.w) X.A (f (.int i t) (.int j u)) Q E s) :
    OpR X f (rI C fun i j=>.int (g i j)):=by
  intro pins s σ H x y v u Q I rx ry h
  obtain⟨i,j,rfl,rfl,hc,q⟩:=h
  obtain⟨t,rfl⟩:=rx
  obtain⟨t',rfl⟩:=ry
  exact rule i j t t' s _ _ hc ⟨.int (g i j),H,I.tok _,⟨_,rfl⟩,q⟩
theorem opI0 {f:Value->Value->Sem Value}{g:Int->Int->Int}
    (rule:∀ (i j:Int) (t u:Tok) (s:Shared) (Q:Value->Shared->Prop) (E:Value->Shared->Prop),Q (.int (g i j) s.toks) { s with toks:=s.toks+1 }->wpAny (model X.prog X.w) X.A (f (.int i t) (.int j u)) Q E s) :
    OpR X f (rI0 fun i j=>.int (g i j)):=by
  intro pins s σ H x y v u Q I rx ry h
  obtain⟨i,j,rfl,rfl,q⟩:=h
  obtain⟨t,rfl⟩:=rx
  obtain⟨t',rfl⟩:=ry
  exact rule i j t t' s _ _ ⟨.int (g i j),H,I.tok _,⟨_,rfl⟩,q⟩
theorem opB0 {f:Value->Value->Sem Value}{g:Int->Int->Bool}
    (rule:∀ (i j:Int) (t u:Tok) (s:Shared) (Q:Value->Shared->Prop) (E:Value->Shared->Prop),Q (.bool (g i j)) s->wpAny (model X.prog X.w) X.A (f (.int i t) (.int j u)) Q E s) :
    OpR X f (rI0 fun i j=>.bl (g i j)):=by
  intro pins s σ H x y v u Q I rx ry h
  obtain⟨i,j,rfl,rfl,q⟩:=h
  obtain⟨t,rfl⟩:=rx
  obtain⟨t',rfl⟩:=ry
  exact rule i j t t' s _ _ ⟨.bl (g i j),H,I,rfl,q⟩
def CDiv (i j:Int):Prop:=0<j/\j<1073741824
def CPow (i j:Int):Prop:=0<=j/\j<=1000000/\i.natAbs<2 ^ 64
def CMul (i j:Int):Prop:=(-(2 ^ 64)<i/\i<2 ^ 64)∨(-(2 ^ 64)<j/\j<2 ^ 64)
theorem CMul.ok {i j:Int} (h:CMul i j):IntMulOk i j:=by
  rcases h with ⟨h1,h2⟩ | ⟨h1,h2⟩
  · exact .of_left (intBits_le_64 h1 h2)
  · exact .of_right (intBits_le_64 h1 h2)
theorem op_add:OpR X (binaryOp .Add) (rI0 fun i j=>.int (i+j)):=opI0 fun _ _ _ _ _ _ _ q=>add_int q
theorem op_sub:OpR X (binaryOp .Sub) (rI0 fun i j=>.int (i - j)):=opI0 fun _ _ _ _ _ _ _ q=>sub_int q
theorem op_mul:OpR X (binaryOp .Mult) (rI CMul fun i j=>.int (i*j)):=opI fun _ _ _ _ _ _ _ hc q=>mul_int q hc.ok
theorem op_fdiv:OpR X (binaryOp .FloorDiv) (rI CDiv fun i j=>.int (i / j)):=opI fun i j _ _ _ _ _ hc q=>by
  have h1:(0:Int)<j:=hc.1
  have h2:j<1073741824:=hc.2
  exact floordiv_int (by omega) (by rw[Int.fdiv_eq_ediv_of_nonneg i (by omega)];exact q) (.inl (PyProof.noPylong_small (by omega)))
theorem op_mod:OpR X (binaryOp .Mod) (rI (fun _ j=>0<j) fun i j=>.int (i % j)):=opI fun i j _ _ _ _ _ hc q=>by
  have h1:(0:Int)<j:=hc
  exact mod_int' (by omega) (by rw[Int.fmod_eq_emod_of_nonneg i (by omega)];exact q)
theorem op_pow:OpR X (binaryOp .Pow) (rI CPow fun i j=>.int (i ^ j.toNat)):=opI fun _ _ _ _ _ _ _ hc q=>pow_int_small hc.1 hc.2.1 hc.2.2 q
theorem iop_mul:OpR X (inplaceOp .Mult) (rI CMul fun i j=>.int (i*j)):=opI fun _ _ _ _ _ _ _ hc q=>imul_int q hc.ok
theorem unI {f:Value->Sem Value}{g:Int->Int}
    (rule:∀ (i:Int) (t:Tok) (s:Shared) (Q:Value->Shared->Prop) (E:Value->Shared->Prop),Q (.int (g i) s.toks) { s with toks:=s.toks+1 }->wpAny (model X.prog X.w) X.A (f (.int i t)) Q E s) :
    UnR X f (rU fun i=>.int (g i)):=by
  intro pins s σ H x v Q I rx h
  obtain⟨i,rfl,q⟩:=h
  obtain⟨t,rfl⟩:=rx
  exact rule i t s _ _ ⟨.int (g i),H,I.tok _,⟨_,rfl⟩,q⟩
theorem un_neg:UnR X (unaryOp .USub) (rU fun i=>.int (-i)):=unI fun _ _ _ _ _ q=>neg_int q
end
def scal:V->V->Bool
  | .non,.non=>true | .non,.int _=>true | .int _,.non=>true | .non,.bl _=>true | .bl _,.non=>true | .non,.str _=>true | .str _,.non=>true
  | .int _,.int _=>true | .bl _,.bl _=>true | .str _,.str _=>true | .byt _,.byt _=>true
  | .int _,.str _=>true | .str _,.int _=>true | .bl _,.str _=>true | .str _,.bl _=>true
  | _,_=>false
def rEq:R2:=fun x y H Q=>scal x y=true/\Q (.bl (decide (x=y))) H
def rNe:R2:=fun x y H Q=>scal x y=true/\Q (.bl (!decide (x=y))) H
theorem dec_int {i j:Int}:decide (V.int i=V.int j)=(i == j):=by
  rw[Bool.eq_iff_iff]
  simp
theorem dec_bl {i j:Bool}:decide (V.bl i=V.bl j)=(i == j):=by
  rw[Bool.eq_iff_iff]
  simp
theorem dec_str {i j:Str}:decide (V.str i=V.str j)=(i == j):=by
  rw[Bool.eq_iff_iff]
  simp
theorem dec_byt {i j:Array UInt8}:decide (V.byt i=V.byt j)=(i.toList == j.toList):=by
  rw[Bool.eq_iff_iff]
  cases i
  cases j
  simp
section
variable {X:Cx}{a b c:Expr}{ta tb tc:TE}{pos:Pos}
theorem fin_bl {pins:List (Addr × Obj)}{σ:St}{H:Hp}{s:Shared}{Q:VK}{k k':Bool} (I:Inv X pins σ H s) (q:Q (.bl k) H) (e:k=k'):EP X pins σ Q (.bool k') s:=by
  subst e
  exact⟨.bl k,H,I,rfl,q⟩
theorem op_eq:OpR X (compareOp .Eq) rEq:=by
  intro pins s σ H x y v u Q I rx ry h
  obtain⟨hs,q⟩:=h
  cases x with
  | non=>
    cases rx
    cases y with
    | non=>cases ry;exact PySem.EqNone.eq_none_none (fin_bl I q (by simp))
    | bl j=>cases ry;exact PySem.EqNone.eq_none_bool (fin_bl I q (by simp))
    | int j=>obtain⟨t',rfl⟩:=ry;exact PySem.EqNone.eq_none_int (fin_bl I q (by simp))
    | str j=>obtain⟨t',rfl⟩:=ry;exact PySem.EqNone.eq_none_str (fin_bl I q (by simp))
    | _=>exact absurd (show false=true from hs) Bool.false_ne_true
  | bl i=>
    cases rx
    cases y with
    | non=>cases ry;exact PySem.EqNone.eq_bool_none (fin_bl I q (by simp))
    | bl j=>cases ry;exact eq_bool (fin_bl I q dec_bl)
    | str j=>obtain⟨t',rfl⟩:=ry;exact PySem.EqMixed.eq_bool_str (fin_bl I q (by simp))
    | _=>exact absurd (show false=true from hs) Bool.false_ne_true
  | int i=>
    obtain⟨t,rfl⟩:=rx
    cases y with
    | non=>cases ry;exact PySem.EqNone.eq_int_none (fin_bl I q (by simp))
    | int j=>obtain⟨t',rfl⟩:=ry;exact eq_int (fin_bl I q dec_int)
    | str j=>obtain⟨t',rfl⟩:=ry;exact PySem.EqMixed.eq_int_str (fin_bl I q (by simp))
    | _=>exact absurd (show false=true from hs) Bool.false_ne_true
  | str i=>
    obtain⟨t,rfl⟩:=rx
    cases y with
    | non=>cases ry;exact PySem.EqNone.eq_str_none (fin_bl I q (by simp))
    | bl j=>cases ry;exact PySem.EqMixed.eq_str_bool (fin_bl I q (by simp))
    | int j=>obtain⟨t',rfl⟩:=ry;exact PySem.EqMixed.eq_str_int (fin_bl I q (by simp))
    | str j=>obtain⟨t',rfl⟩:=ry;exact eq_str (fin_bl I q dec_str)
    | _=>exact absurd (show false=true from hs) Bool.false_ne_true
  | byt i=>
    obtain⟨t,rfl⟩:=rx
    cases y with
    | byt j=>obtain⟨t',rfl⟩:=ry;exact PySem.W.eq_bytes (fin_bl I q dec_byt)
    | _=>exact absurd (show false=true from hs) Bool.false_ne_true
  | _=>cases y <;> exact absurd (show false=true from hs) Bool.false_ne_true
theorem op_ne:OpR X (compareOp .NotEq) rNe:=by
  intro pins s σ H x y v u Q I rx ry h
  obtain⟨hs,q⟩:=h
  cases x with
  | non=>
    cases rx
    cases y with
    | non=>cases ry;exact PySem.EqNone.ne_none_none (fin_bl I q (by simp))
    | bl j=>cases ry;exact PySem.EqNone.ne_none_bool (fin_bl I q (by simp))
    | int j=>obtain⟨t',rfl⟩:=ry;exact PySem.EqNone.ne_none_int (fin_bl I q (by simp))
    | str j=>obtain⟨t',rfl⟩:=ry;exact PySem.EqNone.ne_none_str (fin_bl I q (by simp))
    | _=>exact absurd (show false=true from hs) Bool.false_ne_true
  | bl i=>
    cases rx
    cases y with
    | non=>cases ry;exact PySem.EqNone.ne_bool_none (fin_bl I q (by simp))
    | bl j=>cases ry;exact ne_bool (fin_bl I q (congrArg not dec_bl))
    | str j=>obtain⟨t',rfl⟩:=ry;exact PySem.EqMixed.ne_bool_str (fin_bl I q (by simp))
    | _=>exact absurd (show false=true from hs) Bool.false_ne_true
  | int i=>
    obtain⟨t,rfl⟩:=rx
    cases y with
    | non=>cases ry;exact PySem.EqNone.ne_int_none (fin_bl I q (by simp))
    | int j=>obtain⟨t',rfl⟩:=ry;exact ne_int (fin_bl I q (congrArg not dec_int))
    | str j=>obtain⟨t',rfl⟩:=ry;exact PySem.EqMixed.ne_int_str (fin_bl I q (by simp))
    | _=>exact absurd (show false=true from hs) Bool.false_ne_true
  | str i=>
    obtain⟨t,rfl⟩:=rx
    cases y with
    | non=>cases ry;exact PySem.EqNone.ne_str_none (fin_bl I q (by simp))
    | bl j=>cases ry;exact PySem.EqMixed.ne_str_bool (fin_bl I q (by simp))
    | int j=>obtain⟨t',rfl⟩:=ry;exact PySem.EqMixed.ne_str_int (fin_bl I q (by simp))
    | str j=>obtain⟨t',rfl⟩:=ry;exact ne_str (fin_bl I q (congrArg not dec_str))
    | _=>exact absurd (show false=true from hs) Bool.false_ne_true
  | byt i=>
    obtain⟨t,rfl⟩:=rx
    cases y with
    | byt j=>obtain⟨t',rfl⟩:=ry;exact PySem.W.ne_bytes (fin_bl I q (congrArg not dec_byt))
    | _=>exact absurd (show false=true from hs) Bool.false_ne_true
  | _=>cases y <;> exact absurd (show false=true from hs) Bool.false_ne_true
theorem op_lt:OpR X (compareOp .Lt) (rI0 fun i j=>.bl (decide (i<j))):=opB0 fun _ _ _ _ _ _ _ q=>lt_int q
theorem op_le:OpR X (compareOp .LtE) (rI0 fun i j=>.bl (decide (i<=j))):=opB0 fun _ _ _ _ _ _ _ q=>le_int q
theorem op_gt:OpR X (compareOp .Gt) (rI0 fun i j=>.bl (decide (j<i))):=opB0 fun _ _ _ _ _ _ _ q=>gt_int q
theorem op_ge:OpR X (compareOp .GtE) (rI0 fun i j=>.bl (decide (j<=i))):=opB0 fun _ _ _ _ _ _ _ q=>ge_int q
theorem nomark (b:Expr) {op:CmpOp} (h:op≠.In:=by decide) (h2:op≠.NotIn:=by decide):behindInMarks op b=false:=by
  have e1:(op == CmpOp.In)=false:=by cases op <;> first | rfl | exact absurd rfl h
  have e2:(op == CmpOp.NotIn)=false:=by cases op <;> first | rfl | exact absurd rfl h2
  cases b <;> simp[behindInMarks,e1,e2]
theorem pe_cmpR {op:CmpOp}{r:R2} (ho:OpR X (compareOp op) r) (ha:PE X a ta) (hb:PE X b tb) (hm:behindInMarks op b=false):PE X (.Compare a [op] [b] pos) (tOp r ta tb):=by
  intro pins s σ H Q I h
  exact wpAny_Compare1 (binT ha hb I h fun v u s2 x y H2 I2 rx ry q=>ho pins s2 σ H2 x y v u Q I2 rx ry q) hm
def tTest (t:TE):TT:=fun σ H Q=>t σ H fun x H'=>∃ k,x=.bl k/\Q k H'
theorem pt_cmpR {op:CmpOp}{r:R2} (ho:OpR X (compareOp op) r) (ha:PE X a ta) (hb:PE X b tb) (hm:behindInMarks op b=false):PT X (.Compare a [op] [b] pos) (tTest (tOp r ta tb)):=by
  intro pins s σ H Q I h
  refine wpAny_isTrue_Compare1 (thn (ha pins s σ H _ I h) fun v s1 ⟨x,H1,I1,r1,q1⟩=>thn (hb pins s1 σ H1 _ I1 q1) fun u s2 ⟨y,H2,I2,r2,q2⟩=>
    thn (ho pins s2 σ H2 x y v u _ I2 r1 r2 q2) fun c s3 ⟨z,H3,I3,r3,k,e,q3⟩=>?_) hm
  subst e
  cases r3
  exact wpAny_truthy_bool ⟨H3,I3,q3⟩
def tChain (r r':R2) (ta tb tc:TE):TE:=fun σ H Q=>ta σ H fun x H1=>tb σ H1 fun y H2=>r x y H2 fun z H3=>∃ k,z=.bl k /\
  (if k=true then tc σ H3 fun w' H4=>r' y w' H4 Q else Q (.bl false) H3)
theorem pt_chain {op op':CmpOp}{r r':R2} (ho:OpR X (compareOp op) r) (ho':OpR X (compareOp op') r') (ha:PE X a ta) (hb:PE X b tb) (hc:PE X c tc)
    (hm:lastMarks [op,op'] [b,c]=false:=by with_unfolding_all rfl):PT X (.Compare a [op,op'] [b,c] pos) (tTest (tChain r r' ta tb tc)):=by
  intro pins s σ H Q I h
  refine isTrue_chain (thn (ha pins s σ H _ I h) fun v s1 ⟨x,H1,I1,r1,q1⟩=>test_link (thn (hb pins s1 σ H1 _ I1 q1) fun u s2 ⟨y,H2,I2,r2,q2⟩=>
    thn (ho pins s2 σ H2 x y v u _ I2 r1 r2 q2) fun d s3 ⟨z,H3,I3,r3,k,e,q3⟩=>?_)) hm
  subst e
  cases r3
  refine wpAny_truthy_bool ?_
  cases k with
  | false=>
    obtain⟨k',e',q'⟩:=q3
    cases e'
    exact ite_ff ⟨H3,I3,q'⟩
  | true=>
    refine ite_tt (test_last (thn (hc pins s3 σ H3 _ I3 q3) fun w' s4 ⟨z',H4,I4,r4,q4⟩=>thn (ho' pins s4 σ H4 y z' u w' _ I4 r2 r4 q4) fun d' s5 ⟨z2,H5,I5,r5,k2,e2,q5⟩=>?_))
    subst e2
    cases r5
    exact wpAny_truthy_bool ⟨H5,I5,q5⟩
theorem line63:(sizeLine:Nat)<2 ^ 63:=by rw[sizeLine_eq];decide
theorem vals1 {x:V}{us:List Value} (r:Vals [x] us):∃ u,us=[u]/\RelV x u:=by
  cases r with
  | cons r1 r2=>cases r2;exact⟨_,rfl,r1⟩
theorem vals2 {x y:V}{us:List Value} (r:Vals [x,y] us):∃ u w',us=[u,w']/\RelV x u/\RelV y w':=by
  cases r with
  | cons r1 r2=>
    cases r2 with
    | cons r3 r4=>cases r4;exact⟨_,_,rfl,r1,r3⟩
theorem call_max2 (hc:X.calm=true):CallR X (.builtin "max") (fun xs H Q=>∃ i j,xs=[.int i,.int j]/\Q (.int (if j > i then j else i)) H):=by
  intro pins s σ H xs us Q I r h
  obtain⟨i,j,rfl,q⟩:=h
  obtain⟨u,w',rfl,⟨t,rfl⟩,⟨t',rfl⟩⟩:=vals2 r
  refine max_two_ints (I.ok.hd hc) fun h' tk k=>⟨_,H,I.kept k,?_,q⟩
  by_cases hj:j > i
  · rw[if_pos hj,if_pos hj];exact⟨_,rfl⟩
  · rw[if_neg hj,if_neg hj];exact⟨_,rfl⟩
theorem call_min2 (hc:X.calm=true):CallR X (.builtin "min") (fun xs H Q=>∃ i j,xs=[.int i,.int j]/\Q (.int (if j<i then j else i)) H):=by
  intro pins s σ H xs us Q I r h
  obtain⟨i,j,rfl,q⟩:=h
  obtain⟨u,w',rfl,⟨t,rfl⟩,⟨t',rfl⟩⟩:=vals2 r
  refine min_two_ints (I.ok.hd hc) fun h' tk k=>⟨_,H,I.kept k,?_,q⟩
  by_cases hj:j<i
  · rw[if_pos hj,if_pos hj];exact⟨_,rfl⟩
  · rw[if_neg hj,if_neg hj];exact⟨_,rfl⟩
theorem call_int1:CallR X (.type "int") (fun xs H Q=>(∃ i,xs=[.int i]/\Q (.int i) H)∨∃ k,xs=[.bl k]/\Q (.int (if k then 1 else 0)) H):=by
  intro pins s σ H xs us Q I r h
  rcases h with ⟨i,rfl,q⟩ | ⟨k,rfl,q⟩
  · obtain⟨u,rfl,t,rfl⟩:=vals1 r
    exact call_int_int ⟨.int i,H,I,⟨_,rfl⟩,q⟩
  · obtain⟨u,rfl,r1⟩:=vals1 r
    cases r1
    exact call_int_bool ⟨.int (if k then 1 else 0),H,I.tok _,⟨_,rfl⟩,q⟩
end
end L2
namespace L2
open PySem PySem.Spec PyProof.Rows
structure ObjM (h:Heap) (x dx C:Addr) (mA:Str->Option Value):Prop where
  obj:h.get? x=some (PySem.W.instObj C dx)
  ns:h.Ns1 dx mA
  ne:dx≠x
theorem lookIn_ns {h:Heap}{dx:Addr}{mA:Str->Option Value} (n:h.Ns1 dx mA):∃ od,h.get? dx=some od/\∀ name,PySem.W.lookIn name od=some (mA name):=by
  obtain⟨o,es,ep,ho,hd,hk,_,hm⟩:=n
  refine⟨o,ho,fun name=>?_⟩
  have e:=hm name
  unfold nsFind findBy at e
  rw[<- Array.find?_toList] at e
  unfold PySem.W.lookIn
  rw[hd]
  dsimp only
  split
  · rename_i y q
    rw[q] at e
    exact congrArg some e
  · rename_i q
    rw[q] at e
    have a:es.toList.any (·.refKey)=false:=by
      rw[List.any_eq_false]
      intro y hy
      obtain⟨z,t,hkey⟩:=hk y (Array.mem_toList_iff.mp hy)
      simp[DictEntry.refKey,hkey]
    have a':¬ es.toList.any (·.refKey)=true:=by rw[a];exact Bool.false_ne_true
    rw[if_neg a']
    exact congrArg some e
theorem ObjM.look {h:Heap}{x dx C:Addr}{mA:Str->Option Value} (I:ObjM h x dx C mA):∃ od,PySem.W.InstAt h x (PySem.W.instObj C dx) C (some od)/\∀ name,PySem.W.lookIn name od=some (mA name) :=
  let ⟨od,ho,hl⟩:=lookIn_ns I.ns
  ⟨od,⟨I.obj,rfl,rfl,ho⟩,hl⟩
section
variable {prog:Program}{w:World}{A:Around}{E:Value->Shared->Prop}{s:Shared}{K:PySem.W.Frag}{x dx C f:Addr}{mA:Str->Option Value}{name:Str}{v:Value}
end
section
variable {P:Program}{w:World}{H H':Hp}{h h':Heap}{a C dx:Addr}{fs fs':List (Str × V)}
theorem ins_get (hok:HOk P w H h) (e:H a=some (.ins C dx fs)):∃ mA,ObjM h a dx C mA/\(∀ f,RelO (fs.lookup f) (mA f))/\PySem.Within mA (fs.map (·.1))/\fs.length<=1000/\H dx=some (.own a):=by
  obtain⟨d,z,ne,ob,mA,n,r,q⟩:=(show ObjOk P w H h a (.ins C dx fs) from hok a _ e)
  exact⟨mA,⟨ob,n,ne⟩,r,q,z,d⟩
end
structure Cls (K:PySem.W.Frag) (C:Addr):Prop where
  pg:PySem.W.plainGet K C Str.empty=true
  hd:PySem.W.hasDictIn K C=true
  po:PySem.W.plainOver K C=true
  sa:PySem.W.findIn K (.ref C) "__setattr__"=some (some (.builtin "object.__setattr__"))
theorem Cls.get {K:PySem.W.Frag}{C:Addr} (c:Cls K C) (f:Str):PySem.W.plainGet K C f=true:=c.pg
structure Con (K:PySem.W.Frag) (C:Addr) (f:Str) (v:V) (u:Value):Prop where
  at_:PySem.W.findIn K (.ref C) f=some (some u)
  rel:RelV v u
  get:PySem.W.specialIn K u "__get__"=some none
  cp:PySem.W.copiedNames.contains f=false
structure Meth (K:PySem.W.Frag) (C:Addr) (m:Str) (f:Addr):Prop where
  at_:PySem.W.findIn K (.ref C) m=some (some (.ref f))
  fn:PySem.W.isFn K (.ref f)=true
  kp:PySem.W.keepIn K (.ref f)=true
section
variable {X:Cx}{pins:List (Addr × Obj)}{σ:St}{H:Hp}{s:Shared}{a C dx:Addr}{fs:List (Str × V)}{f:Str}{v:V}{A:Around}{E:Value->Shared->Prop}
end
section
variable {X:Cx}{o e value:Expr}{f:Str}{pos pos' tpos:Pos}{ta tv:TE}
end
section
variable {X:Cx}{pins:List (Addr × Obj)}{σ:St}{H:Hp}{s:Shared}{A:Around}{E:Value->Shared->Prop}{Q:Value->Shared->Prop}{c:Value}{b:Bool}
inductive TyOf (K:PySem.W.Frag) (H:Hp):V->Value->Prop where
  | non:TyOf K H .non (.type "NoneType")
  | bl (x:Bool):TyOf K H (.bl x) (.type "bool")
  | int (i:Int):TyOf K H (.int i) (.type "int")
  | str (x:Str):TyOf K H (.str x) (.type "str")
  | flt (x:UInt64):TyOf K H (.flt x) (.type "float")
  | lst {a:Addr}{xs:List V} (e:H a=some (.lst xs)):TyOf K H (.ref a) (.type "list")
  | frz {a:Addr}{o:Obj}{xs:List V} (e:H a=some (.frz o (.lst xs))):TyOf K H (.ref a) (.type "list")
  | tup {a:Addr}{xs:List V} (e:H a=some (.tup xs)):TyOf K H (.ref a) (.type "tuple")
  | dK {a:Addr}{kvs:List (Key × V)} (e:H a=some (.dK kvs)):TyOf K H (.ref a) (.type "dict")
  | dT {a:Addr}{kvs:List (List Key × V)} (e:H a=some (.dT kvs)):TyOf K H (.ref a) (.type "dict")
  | ins {a C dx:Addr}{fs:List (Str × V)} (e:H a=some (.ins C dx fs)) (cl:Cls K C) (ha:PySem.W.findIn K (.ref C) "__class__"=some (some (.builtin "object.__class__")))
      (hn:PySem.W.specialIn K (.builtin "object.__class__") "__get__"=some (some (.builtin "getset_descriptor.__get__"))) (htk:PySem.W.takesIn K (.builtin "object.__class__")=some true)
      (hm:PySem.W.mroIn K C (.type "object")=some true):TyOf K H (.ref a) (.ref C)
theorem isinst_ok {x:V}{u t:Value} (I:Inv X pins σ H s) (rx:RelV x u) (ty:TyOf X.K H x t) (e:PySem.W.kitOne X.K t c=some b) (h:∀ tk,Q (.bool b) { s with toks:=tk }) :
    wpAny (model X.prog X.w) A (call (.builtin "isinstance") [u,c]) Q E s:=by
  cases ty with
  | non=>cases (show u=Value.none from rx);exact PySem.W.kia_one PySem.W.kitx_none I.kIn True.intro e (fun z=>nomatch z) h
  | bl y=>cases (show u=Value.bool y from rx);exact PySem.W.kia_one PySem.W.kitx_bool I.kIn True.intro e (fun z=>nomatch z) h
  | int i=>obtain⟨t,q⟩:=(show ∃ t,u=Value.int i t from rx);cases q;exact PySem.W.kia_one PySem.W.kitx_int I.kIn True.intro e (fun z=>nomatch z) h
  | str y=>obtain⟨t,q⟩:=(show ∃ t,u=Value.str y t from rx);cases q;exact PySem.W.kia_one PySem.W.kitx_str I.kIn True.intro e (fun z=>nomatch z) h
  | flt y=>obtain⟨t,q⟩:=(show ∃ t,u=Value.float y t from rx);cases q;exact PySem.W.kia_one PySem.W.kitx_float I.kIn True.intro e (fun z=>nomatch z) h
  | @lst a xs ea=>
    cases (show u=Value.ref a from rx)
    obtain⟨_,_,n,_,h1⟩:=(show ObjOk X.prog X.w H s.heap a (.lst xs) from I.hok a _ ea)
    exact PySem.W.kia_one PySem.W.kitx_list I.kIn ⟨_,h1,rfl⟩ e (fun z=>nomatch z) h
  | @frz a ob xs ea=>
    cases (show u=Value.ref a from rx)
    obtain⟨_,_,_,n,_,h1⟩:=(show ObjOk X.prog X.w H s.heap a (.frz ob (.lst xs)) from I.hok a _ ea)
    exact PySem.W.kia_one PySem.W.kitx_list I.kIn ⟨_,h1,rfl⟩ e (fun z=>nomatch z) h
  | @tup a xs ea=>
    cases (show u=Value.ref a from rx)
    obtain⟨_,_,_,p⟩:=(show ObjOk X.prog X.w H s.heap a (.tup xs) from I.hok a _ ea)
    obtain⟨o,h1,h2,_⟩:=p
    exact PySem.W.kia_one PySem.W.kitx_tuple I.kIn ⟨o,h1,h2⟩ e (fun z=>nomatch z) h
  | @dK a kvs ea=>
    cases (show u=Value.ref a from rx)
    obtain⟨_,_,vs,_,p⟩:=(show ObjOk X.prog X.w H s.heap a (.dK kvs) from I.hok a _ ea)
    obtain⟨o,es,ep,h1,h2,_⟩:=p
    exact PySem.W.kia_one PySem.W.kitx_dict I.kIn ⟨o,h1,h2.1⟩ e (fun z=>nomatch z) h
  | @dT a kvs ea=>
    cases (show u=Value.ref a from rx)
    obtain⟨_,_,xs,_,o,es,ep,h1,h2,_⟩:=(show ObjOk X.prog X.w H s.heap a (.dT kvs) from I.hok a _ ea)
    exact PySem.W.kia_one PySem.W.kitx_dict I.kIn ⟨o,h1,h2.1⟩ e (fun z=>nomatch z) h
  | @ins a C dx fs ea cl ha hn htk hm=>
    cases (show u=Value.ref a from rx)
    obtain⟨mA,O,_⟩:=ins_get I.hok ea
    obtain⟨od,J,_⟩:=O.look
    exact PySem.W.kia_one (PySem.W.kitx_own (cl.get _) cl.hd ha hn htk hm) I.kIn J e (fun z=>nomatch z) h
end
end L2
namespace L2
open PySem PySem.Spec PyProof.Rows
structure Room (k:Nat) (A:Around):Prop where
  hd:A.handled=none
  dp:A.depth+3*k+5<recursionLimit
  un:A.units+16*k+200<cLine
  gd:A.guards=some []
theorem Room.mono {j k:Nat}{A:Around} (r:Room k A) (h:j<=k):Room j A:=⟨r.hd,by have:=r.dp;omega,by have:=r.un;omega,r.gd⟩
theorem Room.deeper {k:Nat}{A:Around} (r:Room (k+1) A) (env:Env):Room k (A.deeper env) :=
  ⟨r.hd,by have:=r.dp;show A.depth+1+3*k+5<_;omega,by have:=r.un;show A.units+3+16*k+200<_;omega,r.gd⟩
theorem Room.depth {k:Nat}{A:Around} (r:Room k A):A.depth<recursionLimit:=by have:=r.dp;omega
def tNil:TA:=fun _ H Q=>Q [] H
def tCons (ta:TE) (tr:TA):TA:=fun σ H Q=>ta σ H fun x H1=>tr σ H1 fun xs H2=>Q (x::xs) H2
section
variable {X:Cx}{e:Expr}{es:List Expr}{te:TE}{t:TA}{pos:Pos}
theorem pa_nil:PA X [] tNil:=fun _ _ _ _ H Q I h=>Calls.spliced_nil ⟨[],H,I,.nil,h⟩
theorem pa_cons (ha:PE X e te) (hr:PA X es t) (hs:starEach (e::es) X.env=(false,eval e X.env)::starEach es X.env:=by rfl):PA X (e::es) (tCons te t):=by
  intro pos pins s σ H Q I h
  rw[hs]
  show wpAny _ _ (spliced ((false,eval e X.env)::backTo pos (starEach es X.env))) _ _ s
  refine Calls.spliced_cons (thn (ha pins s σ H _ I h) fun u s1 ⟨x,H1,I1,r1,q1⟩=>?_)
  exact thn (hr pos pins s1 σ H1 _ I1 q1) fun us s2 ⟨xs,H2,I2,r2,q2⟩=>⟨x::xs,H2,I2,.cons r1 r2,q2⟩
def tTup (t:TA):TE:=fun σ H Q=>t σ H fun xs H1=>xs.length<=sizeLine/\∀ p,H1 p=none->Q (.ref p) (upd H1 p (.tup xs))
def tLst (t:TA):TE:=fun σ H Q=>t σ H fun xs H1=>xs.length<=sizeLine/\∀ p,H1 p=none->Q (.ref p) (upd H1 p (.lst xs))
theorem pe_tup {x1} (h:PA X es t):PE X (.Tuple es x1 pos) (tTup t):=by
  intro pins s σ H Q I hq
  refine wpAny_Tuple_spliced (thn (h pos pins s σ H _ I hq) fun us s1 ⟨xs,H1,I1,r,z,q⟩=>⟨by rw[<- r.length];exact z,?_⟩)
  have hf:H1 s1.heap.objs.size=none:=I1.hok.fresh (Nat.le_refl _)
  refine⟨.ref s1.heap.objs.size,upd H1 s1.heap.objs.size (.tup xs),I1.laid (t':=s1.toks) (fun b u e=>Heap.get?_push_of_some _ e) (Nat.le_refl _) ?_,rfl,q _ hf⟩
  exact⟨z,us,r,⟨_,Heap.get?_push_size _ rfl,rfl,rfl,_,rfl⟩⟩
theorem pe_lst (h:PA X es t):PE X (.List es pos) (tLst t):=by
  intro pins s σ H Q I hq
  refine wpAny_List_spliced (thn (h pos pins s σ H _ I hq) fun us s1 ⟨xs,H1,I1,r,z,q⟩=>⟨by rw[<- r.length];exact z,?_⟩)
  have hf:H1 s1.heap.objs.size=none:=I1.hok.fresh (Nat.le_refl _)
  refine⟨.ref s1.heap.objs.size,upd H1 s1.heap.objs.size (.lst xs),I1.laid (t':=s1.toks) (fun b u e=>Heap.get?_push_of_some _ e) (Nat.le_refl _) ?_,rfl,q _ hf⟩
  exact⟨z,us,0,r,Heap.get?_push_size _ rfl⟩
end
abbrev Sp:=List V->Hp->VK->XK->Prop
abbrev CXT:=List Env->Hp->Shared->XK->Value->Shared->Prop
structure Env0 (P:Program) (w:World) (K:PySem.W.Frag) (mg:Str->Option Value) (base:Heap) (A:Around) (outer:List Env) (s:Shared) (H:Hp):Prop where
  frames:A.frames=some outer
  mod:Mod K mg base
  bs:∀ b o,base.get? b=some o->s.heap.get? b=some o/\H b=none
  bsz:base.objs.size<=s.heap.objs.size
  funs:s.heap.FunFrames base outer
  frf:∀ b∈frs outer,H b=none
  hok:HOk P w H s.heap
  bare:AllBare s.gens
def CE (outer:List Env) (P:Program) (w:World) (H:Hp) (s:Shared) (Q:VK) (u:Value) (s':Shared):Prop :=
  ∃ v H',s'.os=s.os/\AllBare s'.gens/\Un (frs outer) [] H H' s.heap s'.heap/\HOk P w H' s'.heap/\RelV v u/\Q v H'
def CR (CX:CXT) (outer:List Env) (P:Program) (w:World) (H:Hp) (s:Shared) (Q:VK) (E:XK) (r:Result) (s':Shared):Prop :=
  match r with
  | .ok (.ret u)=>CE outer P w H s Q u s'
  | .ok _=>False
  | .error e=>CX outer H s E e s'
structure FnOk (P:Program) (w:World) (K:PySem.W.Frag) (mg:Str->Option Value) (base:Heap) (CX:CXT) (k:Nat) (f:Addr) (fd:FuncData) (ps:List Str) (sp:Sp):Prop where
  len:∀ vs H Q E,sp vs H Q E->vs.length=ps.length
  run:∀ (A:Around) (outer:List Env) (s:Shared) (H:Hp) (args:Args) (us:List Value) (vs:List V) (Q:VK) (E:XK),Room k A->Env0 P w K mg base A outer s H->BindsTo s fd args (ps.zip us)->Vals vs us->sp vs H Q E ->
    codeAny (model P w) A (.call (.ref f) args) (CR CX outer P w H s Q E) s
theorem FnOk.imp {P:Program}{w:World}{K:PySem.W.Frag}{mg:Str->Option Value}{base:Heap}{CX:CXT}{k:Nat}{f:Addr}{fd:FuncData}{ps:List Str}{sp sp':Sp} (F:FnOk P w K mg base CX k f fd ps sp)
    (h:∀ vs H Q E,sp' vs H Q E->sp vs H Q E):FnOk P w K mg base CX k f fd ps sp' :=
  ⟨fun vs H Q E q=>F.len vs H Q E (h _ _ _ _ q),fun A outer s H args us vs Q E hr he hb hv hs=>F.run A outer s H args us vs Q E hr he hb hv (h _ _ _ _ hs)⟩
section
variable {X:Cx}{pins:List (Addr × Obj)}{σ:St}{H:Hp}{s s':Shared}
theorem Inv.env0 (I:Inv X pins σ H s):Env0 X.prog X.w X.K X.mg X.base X.A X.stack s H :=
  ⟨I.ok.frames,I.ok.mod,I.bs,Nat.le_trans I.ok.bsz I.sz,I.stack,I.stkFree,I.hok,I.bare⟩
theorem Inv.after {Q:VK}{u:Value} (I:Inv X pins σ H s) (h:CE X.stack X.prog X.w H s Q u s'):EP X pins σ Q u s':=by
  obtain⟨v,H',os,bare,un,hok,r,q⟩:=h
  obtain⟨hh,g,d,t,os'⟩:=s'
  obtain rfl:os'=s.os:=os
  exact⟨v,H',I.call (h':=hh) (g':=g) (d':=d) (t':=t) (ch:=[]) un hok bare (fun b z=>absurd z (by simp)),r,q⟩
end
def tCall (sp:Sp) (dvs:List V) (E:XK) (t:TA):TE:=fun σ H Q=>t σ H fun vs H1=>sp (vs++dvs) H1 Q E
def Binds (K:PySem.W.Frag) (fd:FuncData) (ps:List Str) (ds:List Value):Prop :=
  ∀ (s:Shared) (us:List Value),K.In s.heap->(us++ds).length=ps.length->BindsTo s fd ⟨us,[]⟩ (ps.zip (us++ds))
theorem Binds.all {K:PySem.W.Frag}{fd:FuncData}{ps:List Str} (h:∀ us:List Value,us.length=ps.length->bindArgs fd ⟨us,[]⟩=pure (ps.zip us)):Binds K fd ps []:=fun s us _ hl=>by
  rw[List.append_nil] at hl ⊢
  exact .of_eq (h us hl)
def Passes (CX:CXT) (X:Cx) (E:XK):Prop:=∀ (pins:List (Addr × Obj)) (σ:St) (H:Hp) (s:Shared) (e:Value) (s':Shared),Inv X pins σ H s->CX X.stack H s E e s'->X.xe e s'
section
variable {X:Cx}{CX:CXT}{k:Nat}{f C:Addr}{fd:FuncData}{ps:List Str}{sp:Sp}{dvs:List V}{ds:List Value}{E:XK}{x m:Str}{p pos apos:Pos}{e o:Expr}{es:List Expr}{ta:TE}{t:TA}
theorem run_fn {pins:List (Addr × Obj)}{σ:St}{H:Hp}{s:Shared}{Q:VK}{us:List Value}{vs:List V} (F:FnOk X.prog X.w X.K X.mg X.base CX k f fd ps sp) (hr:Room k X.A) (hb:Binds X.K fd ps ds) (hd:Vals dvs ds) (hx:Passes CX X E)
    (I:Inv X pins σ H s) (r:Vals vs us) (h:sp (vs++dvs) H Q E):wpAny (model X.prog X.w) X.A (call (.ref f) us) (EP X pins σ Q) X.xe s:=by
  have r2:Vals (vs++dvs) (us++ds):=r.append hd
  have hl:(us++ds).length=ps.length:=by rw[<- r2.length];exact F.len _ _ _ _ h
  refine wpAny_call (codeAny_mono (F.run X.A X.stack s H ⟨us,[]⟩ (us++ds) (vs++dvs) Q E hr I.env0 (hb s us I.kIn hl) r2 h) fun r s' hq=>?_)
  cases r with
  | error e=>exact hx pins σ H s e s' I hq
  | ok fl=>
    cases fl with
    | ret u=>exact I.after hq
    | next=>exact False.elim hq
    | brk=>exact False.elim hq
    | cont=>exact False.elim hq
theorem pe_call (F:FnOk X.prog X.w X.K X.mg X.base CX k f fd ps sp) (hr:Room k X.A) (hg:Gl X x) (hm:X.mg x=some (.ref f)) (hk:PySem.W.keepIn X.K (.ref f)=true) (hb:Binds X.K fd ps ds) (hd:Vals dvs ds) (hx:Passes CX X E)
    (ha:PA X (e::es) t) (hdb:(x == ("__debug__":Str))=false:=by decide) (he:starEach (e::es) X.env=(false,eval e X.env)::starEach es X.env:=by rfl) (hpl:(backTo pos (starEach es X.env)).any (·.1)=false:=by rfl) :
    PE X (.Call (.Name x p) (e::es) [] pos) (tCall sp dvs E t):=by
  intro pins s σ H Q I h
  refine wpAny_Call_Name_kw (ld_glob I hg hm ?_ hdb)
  refine PySem.W.callWith_K (h₀:=X.base) I.ok.mod.kin hk (thn (ha pos pins s σ H _ I h) fun us s1 ⟨vs,H1,I1,r,q⟩=>⟨I1.kIn,?_⟩) he hpl
  exact run_fn F hr hb hd hx I1 r q
structure Mk (K:PySem.W.Frag) (C f:Addr):Prop where
  makes:PySem.W.makesIn K C=true
  init:PySem.W.findIn K (.ref C) "__init__"=some (some (.ref f))
  fn:PySem.W.isFn K (.ref f)=true
  kp:PySem.W.keepIn K (.ref C)=true
end
section
variable {X:Cx}{CX:CXT}{k:Nat}{f C:Addr}{fd:FuncData}{ps ks:List Str}{sp:Sp}{E:XK}{x m:Str}{p pos apos kpos:Pos}{e o:Expr}{es:List Expr}{kws:List Keyword}{te ta:TE}{t tk:TA}{nm:Option Str}
structure KBinds (K:PySem.W.Frag) (fd:FuncData) (ps ks:List Str) (g:List Value->List Value->List Value) (gV:List V->List V->List V):Prop where
  to:∀ (s:Shared) (us ws:List Value),K.In s.heap->(g us ws).length=ps.length->BindsTo s fd ⟨us,ks.zip ws⟩ (ps.zip (g us ws))
  rel:∀ {vs:List V}{us:List Value}{zs:List V}{ws:List Value},Vals vs us->Vals zs ws->Vals (gV vs zs) (g us ws)
variable {g:List Value->List Value->List Value}{gV:List V->List V->List V}
end
structure FnScope (N P:List Str) (sc:Scope):Prop where
  kind:sc.kind=.function
  co:sc.isCoroutine=false
  gen:sc.isGenerator=false
  nd:N.Nodup
  pre:N.take P.length=P
  par:∀ x∈P,sc.names.lookup x=some .local ∨ sc.names.lookup x=some .cell
  nofree:∀ y∈sc.names,y.2≠.free
theorem bindL_out {kindOf:Str->Option NameKind}{x:Str}:∀ {binds:List (Str × Value)}{m:Str->Option Value},(∀ v,(x,v) ∉ binds)->bindL kindOf binds m x=m x
  | [],_,_=>rfl
  | (n,v)::r,m,h=>by
    unfold bindL
    rw[bindL_out fun w hw=>h w (List.mem_cons_of_mem _ hw)]
    split
    · have:x≠n:=by rintro rfl;exact h v List.mem_cons_self
      simp[this]
    · rfl
theorem bindC_out {kindOf:Str->Option NameKind}{x:Str}:∀ {binds:List (Str × Value)}{m:Str->Option Value},(∀ v,(x,v) ∉ binds)->bindC kindOf binds m x=m x
  | [],_,_=>rfl
  | (n,v)::r,m,h=>by
    unfold bindC
    rw[bindC_out fun w hw=>h w (List.mem_cons_of_mem _ hw)]
    split
    · rfl
    · have:x≠n:=by rintro rfl;exact h v List.mem_cons_self
      simp[this]
theorem bindL_get {kindOf:Str->Option NameKind}{x:Str}{v:Value}:∀ {P:List Str}{vs:List Value}{i:Nat}{m:Str->Option Value},P.Nodup->P[i]?=some x->vs[i]?=some v->kindOf x=some .local ->
    bindL kindOf (P.zip vs) m x=some v
  | [],_,_,_,_,h,_,_=>by simp at h
  | _::_,[],_,_,_,_,h,_=>by simp at h
  | p::P,w::vs,0,m,nd,h1,h2,hk=>by
    simp at h1 h2;subst h1;subst h2
    show bindL kindOf ((p,w)::P.zip vs) m p=_
    unfold bindL
    rw[bindL_out fun v hv=>(List.nodup_cons.mp nd).1 (List.of_mem_zip hv).1,if_pos hk]
    simp
  | p::P,w::vs,i+1,m,nd,h1,h2,hk=>by
    show bindL kindOf ((p,w)::P.zip vs) m x=_
    unfold bindL
    exact bindL_get (i:=i) (List.nodup_cons.mp nd).2 (by simpa using h1) (by simpa using h2) hk
theorem bindC_get {kindOf:Str->Option NameKind}{x:Str}{v:Value}:∀ {P:List Str}{vs:List Value}{i:Nat}{m:Str->Option Value},P.Nodup->P[i]?=some x->vs[i]?=some v->kindOf x≠some .local ->
    bindC kindOf (P.zip vs) m x=some v
  | [],_,_,_,_,h,_,_=>by simp at h
  | _::_,[],_,_,_,_,h,_=>by simp at h
  | p::P,w::vs,0,m,nd,h1,h2,hk=>by
    simp at h1 h2;subst h1;subst h2
    show bindC kindOf ((p,w)::P.zip vs) m p=_
    unfold bindC
    rw[bindC_out fun v hv=>(List.nodup_cons.mp nd).1 (List.of_mem_zip hv).1,if_neg hk]
    simp
  | p::P,w::vs,i+1,m,nd,h1,h2,hk=>by
    show bindC kindOf ((p,w)::P.zip vs) m x=_
    unfold bindC
    exact bindC_get (i:=i) (List.nodup_cons.mp nd).2 (by simpa using h1) (by simpa using h2) hk
def start (N:List Str) (vs:List V):St:=vs.map some++List.replicate (N.length - vs.length) none
def cxOf (CX:CXT) (P:Program) (w:World) (K:PySem.W.Frag) (mg:Str->Option Value) (base:Heap) (N:List Str) (qual:Str) (scope:Scope) (f:Addr) (cd:Value) (A:Around) (outer:List Env) (s:Shared) (H:Hp) (E:XK):Cx where
  prog:=P
  w:=w
  K:=K
  mg:=mg
  base:=base
  A:=A.deeper (envOfC qual scope s.heap.objs.size f cd)
  N:=N
  s₀:=s
  H₀:=H
  env:=envOfC qual scope s.heap.objs.size f cd
  outer:=outer
  stack:=envOfC qual scope s.heap.objs.size f cd::outer
  ex:=[]
  calm:=true
  fn:=fun _=>true
  pn:=[]
  xe:=fun e s'=>wpAny (model P w) (A.deeper (envOfC qual scope s.heap.objs.size f cd)) (leaving (envOfC qual scope s.heap.objs.size f cd) e) (fun _ s''=>CX outer H s E e s'') (fun e' s''=>CX outer H s E e' s'') s'
theorem cell_has {sc:Scope}{n:Nat}{x:Str} (h:sc.names.lookup x=some .cell):∃ c,(cellsFrom n sc.names []).lookup x=some c:=by
  have q:=PySem.W.cellsFrom_some sc.names n [] (.inl h)
  exact Option.isSome_iff_exists.mp q
theorem inv_start {CX:CXT}{P:Program}{w:World}{K:PySem.W.Frag}{mg:Str->Option Value}{base:Heap}{N ps:List Str}{qual:Str}{scope:Scope}{f:Addr}{cd:Value}{A:Around}{outer:List Env}{s s1:Shared}{H:Hp}{E:XK}{us:List Value}{vs:List V}
    (S:FnScope N ps scope) (hd:A.handled=none) (e0:Env0 P w K mg base A outer s H) (hl:vs.length=ps.length) (r:Vals vs us)
    (x:InCallC s s.heap.objs.size (bindL (envOfC qual scope s.heap.objs.size f cd).kindOf (ps.zip us) fun _=>none) (cellsFrom (s.heap.objs.size+1) scope.names []) (bindC (envOfC qual scope s.heap.objs.size f cd).kindOf (ps.zip us) fun _=>none) s1) :
    Inv (cxOf CX P w K mg base N qual scope f cd A outer s H E) [] (start N vs) H s1:=by
  have hpl:ps.length<=N.length:=by have:=congrArg List.length S.pre;rw[List.length_take] at this;omega
  obtain⟨h1,tk,rfl,hk⟩:=x.done
  have noA:∀ b:Addr,b ∉ (cxOf CX P w K mg base N qual scope f cd A outer s H E).ex:=fun b z=>absurd (show b∈([]:List Addr) from z) (by simp)
  refine⟨⟨e0.mod,S.kind,rfl,rfl,Nat.le_refl _,fun y z c h1 h2=>?_,fun y hy=>?_,fun y c _ h=>?_,fun _=>hd,Around.frames_deeper e0.frames,.inr ⟨rfl,rfl⟩,fun b z=>absurd z (noA b),e0.bs,e0.bsz,fun b _ _=>noA b,fun b z=>absurd z (noA b),e0.funs,e0.frf⟩,
    rfl,e0.bare,Un.kept hk,⟨_,x.toInCall.ns,fun i y v h1 h2 h3=>?_⟩,fun y c h=>⟨_,x.cell y c h⟩,e0.hok.fresh (Nat.le_refl _),fun y c h=>?_,fun p hp=>absurd (show p∈([]:List (Addr × Obj)) from hp) (by simp),e0.hok.kept hk,?_⟩
  · exact name_of_addr x.apart (PySem.mem_of_lookup h1) (PySem.mem_of_lookup h2)
  · have hy:scope.names.lookup y=some .cell∨scope.names.lookup y=some .free:=hy
    rcases hy with hy | hy
    · exact cell_has hy
    · exact absurd rfl (S.nofree _ (PySem.mem_of_lookup hy))
  · exact Nat.le_of_lt (x.above y c (PySem.mem_of_lookup h))
  · have hi:i<vs.length:=by
      unfold start at h2
      by_cases hi:i<vs.length
      · exact hi
      · rw[List.getElem?_append_right (by simpa using hi)] at h2
        rw[List.getElem?_replicate] at h2
        split at h2 <;> cases h2
    have ha:vs[i]?=some v:=by
      unfold start at h2
      rw[List.getElem?_append_left (by simpa using hi),List.getElem?_map] at h2
      cases e:vs[i]? with
      | none=>rw[e] at h2;cases h2
      | some a=>rw[e] at h2;cases h2;rfl
    obtain⟨u,hu,rv⟩:=r.get ha
    have hp:ps[i]?=some y:=by
      rw[<- S.pre,List.getElem?_take_of_lt (by omega)];exact h1
    have ndP:ps.Nodup:=by rw[<- S.pre];exact S.nd.sublist (List.take_sublist _ _)
    refine⟨u,rv,?_⟩
    rcases S.par y (List.mem_of_getElem? hp) with k | k
    · exact .inl ⟨k,bindL_get ndP hp hu k⟩
    · obtain⟨c,e⟩:=cell_has (n:=s.heap.objs.size+1) k
      refine .inr ⟨.inl k,c,e,?_⟩
      have q:=x.cell y c e
      rw[bindC_get ndP hp hu (by show scope.names.lookup y≠_;rw[k];decide)] at q
      exact q
  · exact e0.hok.fresh (Nat.le_of_lt (x.above y c (PySem.mem_of_lookup h)))
  · unfold start
    show _=N.length
    rw[List.length_append,List.length_map,List.length_replicate]
    omega
theorem fn_of {CX:CXT}{P:Program}{w:World}{K:PySem.W.Frag}{mg:Str->Option Value}{base:Heap}{k:Nat}{f:Addr}{name qual:Str}{params:Arguments}{body:List Stmt}{scope:Scope}{dV kV doc pm cdv ct oc:Value}{an od:Option Addr}
    {osl:Array (Option Value)}{N ps:List Str}{sp:Sp} (lk:K.lookup f=some ⟨oc,od,.func (PySem.W.fnOf name qual params body scope dV kV doc pm an cdv ct),osl⟩) (hcd:PySem.W.codeIn K cdv qual=true) (S:FnScope N ps scope)
    (len:∀ vs H Q E,sp vs H Q E->vs.length=ps.length)
    (hbody:∀ (A:Around) (outer:List Env) (s:Shared) (H:Hp) (vs:List V) (Q:VK) (E:XK),Room k (A.deeper (envOfC qual scope s.heap.objs.size f cdv))->sp vs H Q E ->
      ∃ t,PSs (cxOf CX P w K mg base N qual scope f cdv A outer s H E) body t/\t { nx:=fun _ H'=>Q .non H',rt:=Q } (start N vs) H) :
    FnOk P w K mg base CX (k+1) f (PySem.W.fnOf name qual params body scope dV kV doc pm an cdv ct) ps sp:=by
  refine⟨len,fun A outer s H args us vs Q E hr e0 hb r hsp=>?_⟩
  have hl:=len _ _ _ _ hsp
  have KX:K.In s.heap:=e0.mod.kin.keeps fun b o e=>(e0.bs b o e).1
  have lim:s.heap.NoLimit:=e0.mod.nolimit.keeps fun b o e=>(e0.bs b o e).1
  have hkind:∀ y∈ps.zip us,scope.names.lookup y.1=some .local ∨ (scope.names.lookup y.1=some .cell/\((cellsFrom (s.heap.objs.size+1) scope.names []).lookup y.1).isSome=true):=fun ⟨n,v⟩ hy=>by
    rcases S.par n (List.of_mem_zip hy).1 with q | q
    · exact .inl q
    · exact .inr ⟨q,PySem.W.cellsFrom_some _ _ _ (.inl q)⟩
  refine codeAny_call_function hr.depth (KX _ _ lk) rfl S.co S.gen rfl (PySem.W.codeRec_of KX hcd) (hb _ _ _ _ ?_)
  refine wpAny_newFunctionEnv_cells S.kind hkind fun env he s1 x=>?_
  subst he
  refine⟨lim.keeps x.toInCall.keep,codeAny_func ?_⟩
  obtain⟨t,ht,hq⟩:=hbody A outer s H vs Q E (hr.deeper _) hsp
  have I:Inv (cxOf CX P w K mg base N qual scope f cdv A outer s H E) [] (start N vs) H s1:=inv_start S hr.hd e0 hl r x
  refine wpAny_mono (ht [] s1 (start N vs) H _ I hq) (fun fl s' hs=>?_) fun e s' hs=>hs
  have fin:∀ {σ':St}{H':Hp}{v:V}{u:Value},Inv (cxOf CX P w K mg base N qual scope f cdv A outer s H E) [] σ' H' s'->RelV v u->Q v H'->CE outer P w H s Q u s' :=
    fun {σ' H' v u} J rv q=>⟨v,H',J.os,J.bare,J.base,J.hok,rv,q⟩
  cases fl with
  | ret u=>
    obtain⟨v,σ',H',J,rv,q⟩:=hs
    exact fin J rv q
  | next=>
    obtain⟨σ',H',J,q⟩:=hs
    exact fin (v:=V.non) (u:=Value.none) J rfl q
  | brk=>
    obtain⟨_,_,_,q⟩:=hs
    exact False.elim q
  | cont=>
    obtain⟨_,_,_,q⟩:=hs
    exact False.elim q
end L2
namespace L2
open PySem PySem.Spec PyProof.Rows
section
variable {X:Cx}{x:Str}{p pos:Pos}{e:Expr}{es:List Expr}{t:TA}{id T:String}{r:List V->Hp->VK->Prop}
def tCB (r:List V->Hp->VK->Prop) (t:TA):TE:=fun σ H Q=>t σ H fun vs H1=>r vs H1 Q
theorem pe_callB (hc:CallR X (.builtin id) r) (hg:Gl X x) (hm:X.mg x=none) (hv:bootBuiltins x=some (.builtin id)) (ha:PA X (e::es) t) (hn:x≠"__name__":=by decide) (hdb:(x == ("__debug__":Str))=false:=by decide)
    (he:starEach (e::es) X.env=(false,eval e X.env)::starEach es X.env:=by rfl) (hpl:(backTo pos (starEach es X.env)).any (·.1)=false:=by rfl):PE X (.Call (.Name x p) (e::es) [] pos) (tCB r t):=by
  intro pins s σ H Q I h
  refine wpAny_Call_Name_kw (ld_blt I hg hm hv ?_ hn hdb)
  exact PyProof.Rows.callWith_builtin1 (thn (ha pos pins s σ H _ I h) fun us s1 ⟨vs,H1,I1,r1,q1⟩=>hc pins s1 σ H1 vs us Q I1 r1 q1) he hpl
theorem pe_callTy (hc:CallR X (.type T) r) (hg:Gl X x) (hm:X.mg x=none) (hv:bootBuiltins x=some (.type T)) (ha:PA X (e::es) t) (hn:x≠"__name__":=by decide) (hdb:(x == ("__debug__":Str))=false:=by decide)
    (he:starEach (e::es) X.env=(false,eval e X.env)::starEach es X.env:=by rfl) (hpl:(backTo pos (starEach es X.env)).any (·.1)=false:=by rfl):PE X (.Call (.Name x p) (e::es) [] pos) (tCB r t):=by
  intro pins s σ H Q I h
  refine wpAny_Call_Name_kw (ld_blt I hg hm hv ?_ hn hdb)
  exact PyProof.Rows.callWith_type1 (thn (ha pos pins s σ H _ I h) fun us s1 ⟨vs,H1,I1,r1,q1⟩=>hc pins s1 σ H1 vs us Q I1 r1 q1) he hpl
end
end L2
namespace HT
open PySem PyProof.Rows
section
open PySem.SeqAt
open PySem.AutoSeq1 (wpAny_loadPart')
open PySem.MeetsSeq PySem.MeetsSeq2 PySem.MeetsSeq3
end
section
variable {prog:Program}{w:World}{A:Around}{E:Value->Shared->Prop}{s:Shared}
theorem cat_tup {t b:Addr}{vs ws:List Value}{Q:Value->Shared->Prop} (ht:IsTup s.heap t vs.toArray) (hb:IsTup s.heap b ws.toArray) (hv:vs≠[])
    (h1:ws=[]->Q (.ref t) s) (h2:ws≠[]->Q (.ref s.heap.objs.size) { s with heap:=s.heap.push { cls:=.type "tuple",data:=.seq (vs++ws).toArray } })
    (hsz:vs.length+ws.length<=sizeLine):wpAny (model prog w) A (binaryOp .Add (.ref t) (.ref b)) Q E s:=by
  obtain⟨⟨cls,dd,data,sl⟩,ho,hc,n,hd⟩:=id ht
  obtain⟨⟨cls2,dd2,data2,sl2⟩,ho2,hc2,n2,hd2⟩:=id hb
  simp only at hc hd hc2 hd2
  subst hc hd hc2 hd2
  have e:vs.toArray++ws.toArray=(vs++ws).toArray:=by simp
  by_cases hw:ws=[]
  · exact concat_meets ⟨_,ho,rfl⟩ ⟨_,ho2,rfl⟩ noFill_tuple_add seq_tuple_add PySem.F.slot_tuple_add PySem.F.entry_tuple_add (PySem.F.args_tuple_add_2 _ _)
      (tuple_addW1 t b vs.toArray ws.toArray n n2 dd dd2 sl sl2 (by simpa using hv) (by simp[hw])) ⟨ho,ho2,h1 hw⟩
  · refine concat_meets ⟨_,ho,rfl⟩ ⟨_,ho2,rfl⟩ noFill_tuple_add seq_tuple_add PySem.F.slot_tuple_add PySem.F.entry_tuple_add (PySem.F.args_tuple_add_2 _ _)
      (tuple_addW2 t b vs.toArray ws.toArray n n2 dd dd2 sl sl2 (by simpa using hv) (by simpa using hw) (by rw[List.size_toArray,List.size_toArray];exact hsz)) ⟨ho,ho2,?_⟩
    rw[e]
    exact h2 hw
def sIx (n d:Nat):Option Int->Nat
  | none=>d
  | some v=>if v<0 then (v+(n:Int)).toNat else min v.toNat n
theorem sIx_nat (n d k:Nat):sIx n d (some (k:Int))=min k n:=by
  show (if (k:Int)<0 then ((k:Int)+(n:Int)).toNat else min (k:Int).toNat n)=min k n
  rw[if_neg (by omega),Int.toNat_natCast]
theorem sIx_le (n d:Nat) (hd:d<=n) (o:Option Int):sIx n d o<=n:=by
  cases o with
  | none=>exact hd
  | some v=>
    show (if v<0 then (v+(n:Int)).toNat else min v.toNat n)<=n
    by_cases hv:v<0
    · rw[if_pos hv];omega
    · rw[if_neg hv];exact Nat.min_le_right _ _
theorem clip_eq (v:Int) (n d:Nat):(if v<0 then max (v+(n:Int)) 0 else min v (n:Int))=((sIx n d (some v):Nat):Int):=by
  show (if v<0 then max (v+(n:Int)) 0 else min v (n:Int))=(((if v<0 then (v+(n:Int)).toNat else min v.toNat n):Nat):Int)
  by_cases hv:v<0
  · simp only[if_pos hv];omega
  · simp only[if_neg hv];omega
theorem adjust_gen (lo hi:Option Int) (n:Nat):Builtin.Slice.sliceAdjust lo hi 1 (n:Int)=(((sIx n 0 lo:Nat):Int),((sIx n n hi:Nat):Int)):=by
  have h1:¬ ((1:Int)<0):=by omega
  unfold Builtin.Slice.sliceAdjust
  simp only[h1,if_false]
  refine Prod.ext ?_ ?_
  · cases lo with
    | none=>rfl
    | some v=>exact clip_eq v n 0
  · cases hi with
    | none=>rfl
    | some v=>exact clip_eq v n n
theorem places_gen (i j:Nat):Builtin.Slice.slicePlaces (i:Int) (j:Int) 1=j - i:=by
  unfold Builtin.Slice.slicePlaces
  have h1:(1:Int) > 0:=by omega
  simp only[h1,if_true,Int.ediv_one]
  split <;> omega
theorem slicePart_ {v:Value}{o:Option Int}{Q:Option Int->Shared->Prop} (p:IsPart v o) (h:Q o s):wpAny (model prog w) A (Builtin.Slice.slicePartIndex v) Q E s:=by
  cases p with
  | none=>exact slicePart_none h
  | int i t=>exact slicePart_int h
theorem sliceApplied_gen {sl:Addr}{vl vu:Value}{lo hi:Option Int}{n:Nat}{Q:Int × Int × Nat->Shared->Prop} (hs:s.heap.IsSliceOf sl vl vu .none) (pl:IsPart vl lo) (pu:IsPart vu hi)
    (h:Q (((sIx n 0 lo:Nat):Int),1,sIx n n hi - sIx n 0 lo) s):wpAny (model prog w) A (Builtin.Slice.sliceApplied (.ref sl) (pure (n:Int))) Q E s:=by
  obtain⟨os,hos,hcs,hds⟩:=id hs
  unfold Builtin.Slice.sliceApplied Builtin.Slice.sliceFields
  refine wpAny_bind (wpAny_bind (wpAny_field hos hds (x:=vl) rfl (wpAny_bind (wpAny_field hos hds (x:=vu) rfl (wpAny_bind (wpAny_field hos hds (x:=.none) rfl (wpAny_pure ?_)))))))
  refine wpAny_bind (slicePart_none ?_)
  show wpAny _ _ (if ((1:Int) == 0)=true then _ else _) _ _ s
  rw[if_neg (by decide)]
  refine wpAny_bind (slicePart_ pl (wpAny_bind (slicePart_ pu (wpAny_bind (wpAny_pure ?_)))))
  show wpAny _ _ (match Builtin.Slice.sliceAdjust lo hi 1 (n:Int) with | (lo,hi)=>pure (lo,(1:Int),Builtin.Slice.slicePlaces lo hi 1)) _ _ s
  rw[adjust_gen lo hi n]
  show wpAny _ _ (pure (((sIx n 0 lo:Nat):Int),(1:Int),Builtin.Slice.slicePlaces ((sIx n 0 lo:Nat):Int) ((sIx n n hi:Nat):Int) 1)) _ _ s
  rw[places_gen]
  exact wpAny_pure h
theorem pick_gen (xs:Array Value) (i k:Nat):((List.range k).filterMap fun (m:Nat)=>xs[((i:Int)+(m:Int)*1).toNat]?).toArray=((xs.toList.drop i).take k).toArray:=by
  have e:(fun (m:Nat)=>xs[((i:Int)+(m:Int)*1).toNat]?)=fun m=>xs[i+m]?:=by
    funext m
    have:((i:Int)+(m:Int)*1).toNat=i+m:=by omega
    rw[this]
  rw[e]
  have:=pick_run xs i k
  rw[List.filterMap_map] at this
  have e2:((fun x=>xs[x]?) ∘ fun x=>i+x)=fun m=>xs[i+m]?:=rfl
  rw[e2] at this
  rw[this]
theorem getItem_tuple_cut {t sl:Addr}{items:Array Value}{vl vu:Value}{lo hi:Option Int}{Q:Value->Shared->Prop} (ht:IsTup s.heap t items) (hs:s.heap.IsSliceOf sl vl vu .none) (pl:IsPart vl lo) (pu:IsPart vu hi)
    (hw:¬ (sIx items.size 0 lo=0/\sIx items.size items.size hi=items.size))
    (h:Q (.ref s.heap.objs.size) { s with heap:=s.heap.push { cls:=.type "tuple",data:=.seq ((items.toList.drop (sIx items.size 0 lo)).take (sIx items.size items.size hi - sIx items.size 0 lo)).toArray } })
    (hsz:items.size<=sizeLine):wpAny (model prog w) A (getItem (.ref t) (.ref sl)) Q E s:=by
  have htake:sizeOk (.seq ((items.toList.drop (sIx items.size 0 lo)).take (sIx items.size items.size hi - sIx items.size 0 lo)).toArray):=by
    show ((items.toList.drop (sIx items.size 0 lo)).take (sIx items.size items.size hi - sIx items.size 0 lo)).toArray.size<=sizeLine
    rw[List.size_toArray,List.length_take,List.length_drop,Array.length_toList]
    omega
  have hj:sIx items.size items.size hi<=items.size:=sIx_le _ _ (Nat.le_refl _) hi
  obtain⟨os,hos,hcs,hds⟩:=id hs
  have hTs:s.TypeIs (.ref sl) "slice":=⟨os,hos,hcs⟩
  unfold getItem
  try with_reducible refine wpAny_holding ?_
  first | refine wpAny_bind (wpAny_pure ?_) | skip
  refine wpAny_bind (wpAny_sequenceKey ht.typeIs (by decide) ?_)
  refine wpAny_bind (wpAny_callSpecial?_slot (name:=Str.ofString "__getitem__") ht.typeIs PyProof.Rows.slot_tuple_getitem
    (wpAny_call_entry PyProof.Rows.slot_tuple_getitem ht.typeIs entry_tuple_getitem ?_ (args_tuple_getitem _ _)))
  show wpAny _ _ (Builtin.Tuple.tupleItemsOf (.ref t) >>= _) _ _ s
  refine wpAny_bind (tupleItemsOf_ ht ?_)
  refine wpAny_bind (wpAny_typeOf hTs ?_)
  rw[if_pos (by decide)]
  refine wpAny_bind (sliceApplied_gen hs pl pu ?_)
  have hno:¬ ((((sIx items.size 0 lo:Nat):Int) == 0 && (1:Int) == 1 && (sIx items.size items.size hi - sIx items.size 0 lo) == items.size)=true):=by
    intro q
    rw[Bool.and_eq_true,Bool.and_eq_true] at q
    have q1:((sIx items.size 0 lo:Nat):Int)=0:=eq_of_beq q.1.1
    have q2:sIx items.size items.size hi - sIx items.size 0 lo=items.size:=eq_of_beq q.2
    exact hw ⟨by omega,by omega⟩
  show wpAny _ _ (if (((sIx items.size 0 lo:Nat):Int) == 0 && (1:Int) == 1 && (sIx items.size items.size hi - sIx items.size 0 lo) == items.size)=true then _ else _) _ _ s
  rw[if_neg hno,pick_gen]
  first
    | exact wpAny_bind (m:=Builtin.Tuple.tupleExact _) (wpAny_newObj_type (wpAny_pure ⟨_,rfl,wpAny_pure h⟩) htake)
    | exact wpAny_bind (m:=Builtin.Tuple.tupleExact _) (wpAny_newObj_type (wpAny_bind (wpAny_pure (wpAny_pure ⟨_,rfl,wpAny_pure h⟩))) htake)
    | exact wpAny_bind (wpAny_bind (m:=Builtin.Tuple.tupleExact _) (wpAny_newObj_type (wpAny_pure (wpAny_pure ⟨_,rfl,wpAny_pure h⟩)) htake))
    | exact wpAny_bind (wpAny_bind (m:=Builtin.Tuple.tupleExact _) (wpAny_newObj_type (wpAny_pure ⟨_,rfl,wpAny_pure h⟩) htake))
end
end HT
namespace L2
open PySem PySem.Spec PyProof.Rows
abbrev TO:=St->Hp->(Option Int->Hp->Prop)->Prop
def PO (X:Cx) (e:Option Expr) (t:TO):Prop :=
  ∀ (pins:List (Addr × Obj)) (s:Shared) (σ:St) (H:Hp) (Q:Option Int->Hp->Prop),Inv X pins σ H s->t σ H Q ->
    wpAny (model X.prog X.w) X.A (evalPart e X.env) (fun u s'=>∃ o H',Inv X pins σ H' s'/\IsPart u o/\Q o H') X.xe s
def tNoPart:TO:=fun _ H Q=>Q none H
def tPart (t:TE):TO:=fun σ H Q=>t σ H fun x H1=>∃ i,x=.int i/\Q (some i) H1
theorem intsAre_of {ns:List Int}:∀ {us:List Value},Vals (ns.map V.int) us->IntsAre us ns:=by
  induction ns with
  | nil=>intro us r;rw[List.map_nil] at r;cases r;exact .nil
  | cons n ns ih=>
    intro us r
    rw[List.map_cons] at r
    cases r with
    | cons r1 r2=>
      obtain⟨t,e⟩:=r1
      subst e
      exact .cons n t (ih r2)
section
variable {X:Cx}{e:Expr}{te:TE}{lo hi:Option Expr}{tl th:TO}{pos p2:Pos}
theorem po_none:PO X none tNoPart:=by
  intro pins s σ H Q I h
  rw[evalPart_none]
  exact wpAny_pure ⟨none,H,I,.none,h⟩
theorem po_some (h:PE X e te):PO X (some e) (tPart te):=by
  intro pins s σ H Q I hw
  rw[evalPart_some]
  refine thn (h pins s σ H _ I hw) fun u s1 ⟨x,H1,I1,r1,q1⟩=>?_
  obtain⟨i,rfl,q⟩:=q1
  obtain⟨t,rfl⟩:=r1
  exact⟨some i,H1,I1,.int i t,q⟩
def SlR (X:Cx) (r:V->Option Int->Option Int->Hp->VK->Prop):Prop :=
  ∀ (pins:List (Addr × Obj)) (s:Shared) (σ:St) (H:Hp) (x:V) (v vl vu:Value) (lo hi:Option Int) (sl:Addr) (Q:VK),Inv X pins σ H s->RelV x v->s.heap.IsSliceOf sl vl vu .none->IsPart vl lo->IsPart vu hi->r x lo hi H Q ->
    ∃ T id,typeLookup (.type T) "__getitem__"=pure (some (.builtin id))/\s.TypeIs v T/\wpAny (model X.prog X.w) X.A (getItem v (.ref sl)) (EP X pins σ Q) X.xe s
def tSl (r:V->Option Int->Option Int->Hp->VK->Prop) (te:TE) (tl th:TO):TE:=fun σ H Q=>te σ H fun x H1=>tl σ H1 fun l H2=>th σ H2 fun u H3=>r x l u H3 Q
theorem pe_slice {r:V->Option Int->Option Int->Hp->VK->Prop} (hr:SlR X r) (he:PE X e te) (hl:PO X lo tl) (hu:PO X hi th):PE X (.Subscript e (.Slice lo hi none p2) pos) (tSl r te tl th):=by
  intro pins s σ H Q I h
  refine Subscript_ (thn (he pins s σ H _ I h) fun v s1 ⟨x,H1,I1,r1,q1⟩=>?_)
  refine wpAny_Slice (thn (hl pins s1 σ H1 _ I1 q1) fun vl s2 ⟨l,H2,I2,pl,q2⟩=>thn (hu pins s2 σ H2 _ I2 q2) fun vu s3 ⟨u,H3,I3,pu,q3⟩=>?_)
  rw[evalPart_none]
  refine wpAny_pure ?_
  have I4:Inv X pins σ H3 { s3 with heap:=s3.heap.push { cls:=.type "slice",data:=.fields #[vl,vu,.none] } }:=I3.kept (t':=s3.toks) fun b ob q=>Heap.get?_push_of_some _ q
  obtain⟨T,id,hT,ht,hg⟩:=hr pins { s3 with heap:=s3.heap.push { cls:=.type "slice",data:=.fields #[vl,vu,.none] } } σ H3 x v vl vu l u s3.heap.objs.size Q I4 r1 (Heap.IsSliceOf.new ..) pl pu q3
  show wpAny (model X.prog X.w) X.A (subscriptTail e (.Slice lo hi none p2) v (.ref s3.heap.objs.size)) (EP X pins σ Q) X.xe { s3 with heap:=s3.heap.push { cls:=.type "slice",data:=.fields #[vl,vu,.none] } }
  exact tail_any (ops:=[.ref s3.heap.objs.size,v]) ht hT hg (by with_unfolding_all rfl)
def cutV (xs:List V) (lo hi:Option Int):List V:=(xs.drop (HT.sIx xs.length 0 lo)).take (HT.sIx xs.length xs.length hi - HT.sIx xs.length 0 lo)
theorem cutV_length (xs:List V) (lo hi:Option Int):(cutV xs lo hi).length<=xs.length:=by
  unfold cutV
  rw[List.length_take,List.length_drop]
  omega
def rSlT (K:PySem.W.Frag):V->Option Int->Option Int->Hp->VK->Prop:=fun x lo hi H Q=>∃ a xs,x=.ref a/\SqT K H a xs /\
  ¬ (HT.sIx xs.length 0 lo=0/\HT.sIx xs.length xs.length hi=xs.length)/\∀ p,H p=none->Q (.ref p) (upd H p (.tup (cutV xs lo hi)))
theorem sl_tup:SlR X (rSlT X.K):=by
  intro pins s σ H x v vl vu lo hi sl Q I rx hs pl pu h
  obtain⟨a,xs,rfl,hx,hw,q⟩:=h
  cases rx
  obtain⟨its,r,ht,hz⟩:=I.tuple hx
  have hlen:its.toArray.size=xs.length:=by rw[List.size_toArray];exact r.length.symm
  refine⟨"tuple",_,PyProof.Rows.slot_tuple_getitem.lookup,ht.typeIs,?_⟩
  refine HT.getItem_tuple_cut ht hs pl pu (by rw[hlen];exact hw) ?_ (by rw[hlen];exact hz)
  rw[hlen]
  refine⟨.ref s.heap.objs.size,_,I.laid (t':=s.toks) (o:=.tup (cutV xs lo hi)) (fun b ob q=>Heap.get?_push_of_some _ q) (Nat.le_refl _) ?_,rfl,q _ (I.hok.fresh (Nat.le_refl _))⟩
  exact⟨Nat.le_trans (cutV_length xs lo hi) hz,_,(r.drop (HT.sIx xs.length 0 lo)).take (HT.sIx xs.length xs.length hi - HT.sIx xs.length 0 lo),IsTupD.new _ _⟩
def rCatT (K:PySem.W.Frag):R2:=fun x y H Q=>∃ a b xs ys,x=.ref a/\y=.ref b/\SqT K H a xs/\SqT K H b ys/\xs≠[]/\xs.length+ys.length<=sizeLine /\
  (ys=[]->Q (.ref a) H)/\(ys≠[]->∀ p,H p=none->Q (.ref p) (upd H p (.tup (xs++ys))))
theorem Vals.nil_iff {xs:List V}{us:List Value} (r:Vals xs us):us=[]↔xs=[]:=by
  cases r with
  | nil=>simp
  | cons _ _=>simp
theorem op_catT:OpR X (binaryOp .Add) (rCatT X.K):=by
  intro pins s σ H x y v u Q I rx ry h
  obtain⟨a,b,xs,ys,rfl,rfl,ha,hb,hx,hz,q1,q2⟩:=h
  cases rx
  cases ry
  obtain⟨its,r1,p1,_⟩:=I.tuple ha
  obtain⟨its2,r2,p2,_⟩:=I.tuple hb
  refine HT.cat_tup p1 p2 (fun z=>hx (r1.nil_iff.mp z)) (fun z=>⟨.ref a,H,I,rfl,q1 (r2.nil_iff.mp z)⟩) (fun z=>?_) (by rw[<- r1.length,<- r2.length];exact hz)
  refine⟨.ref s.heap.objs.size,_,I.laid (t':=s.toks) (o:=.tup (xs++ys)) (fun b ob q=>Heap.get?_push_of_some _ q) (Nat.le_refl _) ?_,rfl,q2 (fun w=>z (r2.nil_iff.mpr w)) _ (I.hok.fresh (Nat.le_refl _))⟩
  exact⟨by rw[List.length_append];exact hz,_,r1.append r2,IsTupD.new _ _⟩
end
end L2
namespace L2
open PySem PySem.Spec PyProof.Rows
def ixN (n:Nat) (i:Int):Option Nat:=if 0<=i then (if i<n then some i.toNat else none) else if -(n:Int)<=i then some (i+n).toNat else none
def atI {α:Type} (xs:List α) (i:Int):Option α:=(ixN xs.length i).bind fun j=>xs[j]?
theorem ixN_seq {n:Nat}{i:Int}{j:Nat} (h:ixN n i=some j):seqIndex? i n=some j/\j<n/\-(n:Int)<=i/\i<n:=by
  unfold ixN at h
  by_cases h0:0<=i
  · rw[if_pos h0] at h
    by_cases h1:i<n
    · rw[if_pos h1] at h
      have e:i.toNat=j:=Option.some.inj h
      exact⟨by rw[seqIndex_of h0 h1,e],by omega,by omega,h1⟩
    · rw[if_neg h1] at h;cases h
  · rw[if_neg h0] at h
    by_cases h1:-(n:Int)<=i
    · rw[if_pos h1] at h
      have e:(i+n).toNat=j:=Option.some.inj h
      exact⟨by rw[seqIndex_neg (by omega) h1,e],by omega,h1,by omega⟩
    · rw[if_neg h1] at h;cases h
theorem atI_get {α:Type}{xs:List α}{i:Int}{v:α} (h:atI xs i=some v):∃ j,seqIndex? i xs.length=some j/\xs[j]?=some v/\j<xs.length/\-(xs.length:Int)<=i/\i<xs.length:=by
  unfold atI at h
  cases e:ixN xs.length i with
  | none=>rw[e] at h;cases h
  | some j=>
    rw[e] at h
    obtain⟨h1,h2,h3,h4⟩:=ixN_seq e
    exact⟨j,h1,h,h2,h3,h4⟩
theorem atI_nat {α:Type}{xs:List α}{j:Nat}{v:α} (h:xs[j]?=some v):atI xs (j:Int)=some v:=by
  have hj:j<xs.length:=(List.getElem?_eq_some_iff.mp h).1
  have e:ixN xs.length (j:Int)=some j:=by
    unfold ixN
    rw[if_pos (by omega),if_pos (by omega)];simp
  unfold atI;rw[e];exact h
theorem atI_last {α:Type} (xs:List α) (v:α):atI (xs++[v]) (-1)=some v:=by
  have hl:(xs++[v]).length=xs.length+1:=by simp
  have e:ixN (xs++[v]).length (-1)=some xs.length:=by
    unfold ixN
    rw[hl,if_neg (by decide),if_pos (by omega)]
    congr 1
    omega
  unfold atI
  rw[e]
  show (xs++[v])[xs.length]?=some v
  simp
def PlainIx (b:Expr):Prop:=∀ o i,subscripted b false o i=operate [o,i] (getItem o i)
def IxR (X:Cx) (r:R2):Prop :=
  ∀ (value slice:Expr) (pins:List (Addr × Obj)) (s:Shared) (σ:St) (H:Hp) (x y:V) (v u:Value) (Q:VK),Inv X pins σ H s->RelV x v->RelV y u->r x y H Q ->
    subscripted slice false v u=operate [v,u] (getItem v u)->wpAny (model X.prog X.w) X.A (subscriptTail value slice v u) (EP X pins σ Q) X.xe s
def MtR (X:Cx) (id:String) (r:V->List V->Hp->VK->Prop):Prop :=
  ∀ (pins:List (Addr × Obj)) (s:Shared) (σ:St) (H:Hp) (x:V) (xs:List V) (v:Value) (us:List Value) (Q:VK),Inv X pins σ H s->RelV x v->Vals xs us->r x xs H Q ->
    wpAny (model X.prog X.w) X.A (call (.builtin id) (v::us)) (EP X pins σ Q) X.xe s
section
variable {X:Cx}{a b:Expr}{ta tb:TE}{pos:Pos}
theorem pe_ix {r:R2} (hr:IxR X r) (ha:PE X a ta) (hb:PE X b tb) (hs:PlainIx b):PE X (.Subscript a b pos) (tOp r ta tb):=by
  intro pins s σ H Q I h
  exact Subscript_ (binT ha hb I h fun v u s2 x y H2 I2 rx ry q=>hr a b pins s2 σ H2 x y v u Q I2 rx ry q (hs _ _))
def rIxL (K:PySem.W.Frag):R2:=fun x y H Q=>∃ p xs i v,x=.ref p/\y=.int i/\SqL K H p xs/\atI xs i=some v/\Q v H
def rIxT (K:PySem.W.Frag):R2:=fun x y H Q=>∃ p xs i v,x=.ref p/\y=.int i/\SqT K H p xs/\atI xs i=some v/\Q v H
theorem ix_list:IxR X (rIxL X.K):=by
  intro value slice pins s σ H x y v u Q I rx ry h hs
  obtain⟨p,xs,i,z,rfl,rfl,hq,he,q⟩:=h
  cases rx
  obtain⟨t,rfl⟩:=ry
  obtain⟨its,r,pl,hz⟩:=I.list hq
  obtain⟨j,h1,h2,h3,h4,h5⟩:=atI_get he
  obtain⟨w,ew,rw'⟩:=r.get h2
  have hl:=r.length
  have hn:=line63
  have fin:EP X pins σ Q w s:=⟨z,H,I,rw',q⟩
  by_cases h0:0<=i
  · have hj:i.toNat=j:=by
      rw[seqIndex_of h0 h5] at h1
      exact Option.some.inj h1
    exact item_listR pl.isList h0 (by omega) (by rw[hj];simpa using ew) fin hs
  · have hj:(i+(its.toArray.size:Int)).toNat=j:=by
      rw[seqIndex_neg (by omega) h4] at h1
      rw[List.size_toArray,<- hl]
      exact Option.some.inj h1
    exact subscriptTail_builtinR (x:=w) pl.isList.typeIs slot_list_getitem.lookup
      (wpAny_getItem_list_neg (Q:=fun r s'=>r=w/\EP X pins σ Q r s') pl.isList (by omega) (by rw[List.size_toArray] <;> omega) (by omega) (by rw[hj];simpa using ew) ⟨rfl,fin⟩) hs
theorem ix_tup:IxR X (rIxT X.K):=by
  intro value slice pins s σ H x y v u Q I rx ry h hs
  obtain⟨p,xs,i,z,rfl,rfl,hq,he,q⟩:=h
  cases rx
  obtain⟨t,rfl⟩:=ry
  obtain⟨its,r,pl,hz⟩:=I.tuple hq
  obtain⟨j,h1,h2,h3,h4,h5⟩:=atI_get he
  obtain⟨w,ew,rw'⟩:=r.get h2
  have hl:=r.length
  have hn:=line63
  have fin:EP X pins σ Q w s:=⟨z,H,I,rw',q⟩
  exact subscriptTail_builtinR (x:=w) pl.typeIs slot_tuple_getitem.lookup
    (getItem_tuple (j:=j) (Q:=fun r s'=>r=w/\EP X pins σ Q r s') pl (by omega) (by omega) (by rw[List.size_toArray,<- hl];exact h1) (by simpa using ew) ⟨rfl,fin⟩) hs
theorem mapSeq_set (its:List Value) (n j:Nat) (u:Value):Obj.mapSeq (·.setIfInBounds j u) { cls:=.type "list",data:=.seq its.toArray n }={ cls:=.type "list",data:=.seq (its.set j u).toArray n }:=by
  simp[Obj.mapSeq]
theorem Inv.lst {pins:List (Addr × Obj)}{σ:St}{H:Hp}{s:Shared}{p:Addr}{xs:List V} (I:Inv X pins σ H s) (h:H p=some (.lst xs)) :
    ∃ (its:List Value) (n:Nat),Vals xs its/\s.heap.get? p=some { cls:=.type "list",data:=.seq its.toArray n }/\xs.length<=sizeLine:=by
  obtain⟨z,its,n,r,e⟩:=I.hok p _ h
  exact⟨its,n,r,e,z⟩
theorem Inv.lstUpd {pins:List (Addr × Obj)}{σ:St}{H:Hp}{s:Shared}{p:Addr}{xs ys:List V}{its its':List Value}{n n':Nat}{f:Obj->Obj} (I:Inv X pins σ H s) (h:H p=some (.lst xs))
    (ho:s.heap.get? p=some { cls:=.type "list",data:=.seq its.toArray n }) (hf:f { cls:=.type "list",data:=.seq its.toArray n }={ cls:=.type "list",data:=.seq its'.toArray n' }) (r:Vals ys its') (hz:ys.length<=sizeLine) (t:Nat) :
    Inv X pins σ (upd H p (.lst ys)) { s with heap:=s.heap.update p f,toks:=t }:=by
  have e:(s.heap.update p f).get? p=some { cls:=.type "list",data:=.seq its'.toArray n' }:=by
    rw[Heap.get?_update_self f ho (by rw[hf] <;> rfl),hf]
  refine I.write (x:=p) (e:=p) (by rw[h];trivial) (.inl rfl) (fun b u hb q=>(Heap.get?_update_other _ _ (Ne.symm hb)).trans q) ⟨_,e⟩ ?_
  exact⟨hz,its',n',r,e⟩
def rSetL:V->V->V->Hp->(Hp->Prop)->Prop:=fun o i v H Q=>∃ p xs k j,o=.ref p/\i=.int k/\H p=some (.lst xs)/\ixN xs.length k=some j/\Q (upd H p (.lst (xs.set j v)))
theorem set_list:PSet X rSetL:=by
  intro pins s σ H o i v ov iv u Q I ro ri rv h
  obtain⟨p,xs,k,j,rfl,rfl,hp,hj,q⟩:=h
  cases ro
  obtain⟨t,rfl⟩:=ri
  obtain⟨its,n,r,ho,hz⟩:=I.lst hp
  obtain⟨h1,h2,h3,h4⟩:=ixN_seq hj
  have hl:=r.length
  have hn:=line63
  have I':Inv X pins σ (upd H p (.lst (xs.set j v))) { s with heap:=s.heap.update p (Obj.mapSeq (·.setIfInBounds j u)) } :=
    I.lstUpd hp ho (mapSeq_set its n j u) (r.set rv j) (by rw[List.length_set];exact hz) s.toks
  by_cases h0:0<=k
  · have hk:k.toNat=j:=by
      rw[seqIndex_of h0 h4] at h1
      exact Option.some.inj h1
    exact PySem.W.ki_setAt ho h0 (by omega) (by rw[List.size_toArray,<- hl];exact h4) (by rw[hk];exact⟨_,I',q⟩)
  · have hk:(k+(its.toArray.size:Int)).toNat=j:=by
      rw[seqIndex_neg (by omega) h3] at h1
      rw[List.size_toArray,<- hl]
      exact Option.some.inj h1
    exact PySem.W.ki_setBack ho (by omega) (by rw[List.size_toArray,<- hl];exact h3) (by omega) (by rw[hk];exact⟨_,I',q⟩)
theorem slice_bounds (lo hi:Option Int) (n:Nat):(sliceBounds lo hi none n).1=((HT.sIx n 0 lo:Nat):Int)/\(sliceBounds lo hi none n).2.1=((HT.sIx n n hi:Nat):Int)/\(sliceBounds lo hi none n).2.2=1:=by
  refine⟨?_,?_,rfl⟩
  · cases lo with
    | none=>simp[sliceBounds,HT.sIx]
    | some i=>
      simp only[sliceBounds,HT.sIx,Option.getD_none,show (1:Int) > 0 by decide,if_true]
      by_cases h:i<0
      · simp only[h,if_true] <;> omega
      · simp only[h,if_false] <;> omega
  · cases hi with
    | none=>simp[sliceBounds,HT.sIx]
    | some i=>
      simp only[sliceBounds,HT.sIx,Option.getD_none,show (1:Int) > 0 by decide,if_true]
      by_cases h:i<0
      · simp only[h,if_true] <;> omega
      · simp only[h,if_false] <;> omega
theorem slicePick_cut (its:List Value) (lo hi:Option Int):slicePick its.toArray lo hi none=((its.drop (HT.sIx its.length 0 lo)).take (HT.sIx its.length its.length hi - HT.sIx its.length 0 lo)).toArray:=by
  obtain⟨h1,h2,h3⟩:=slice_bounds lo hi its.toArray.size
  unfold slicePick
  rw[h1,h2,h3]
  simp only[sliceRange_one,pick_run,List.size_toArray] <;> rfl
def rSlL (K:PySem.W.Frag):V->Option Int->Option Int->Hp->VK->Prop:=fun x lo hi H Q=>∃ a xs,x=.ref a/\SqL K H a xs/\∀ p,H p=none->Q (.ref p) (upd H p (.lst (cutV xs lo hi)))
theorem sl_list:SlR X (rSlL X.K):=by
  intro pins s σ H x v vl vu lo hi sl Q I rx hs pl pu h
  obtain⟨a,xs,rfl,hx,q⟩:=h
  cases rx
  obtain⟨its,r,ht,hz⟩:=I.list hx
  have hlen:=r.length
  refine⟨"list",_,slot_list_getitem.lookup,ht.isList.typeIs,?_⟩
  refine wpAny_getItem_list_slice ht.isList hs pl pu .none (by simp) ?_ (by rw[List.size_toArray] <;> omega)
  rw[slicePick_cut,<- hlen]
  refine⟨.ref s.heap.objs.size,_,I.laid (t':=s.toks) (o:=.lst (cutV xs lo hi)) (fun b ob q=>Heap.get?_push_of_some _ q) (Nat.le_refl _) ?_,rfl,q _ (I.hok.fresh (Nat.le_refl _))⟩
  exact⟨Nat.le_trans (cutV_length xs lo hi) hz,_,0,(r.drop (HT.sIx xs.length 0 lo)).take (HT.sIx xs.length xs.length hi - HT.sIx xs.length 0 lo),Heap.get?_push_size _ rfl⟩
theorem call_len_seq:CallR X (.builtin "len") (fun xs H Q=>∃ p ys,xs=[.ref p]/\(SqL X.K H p ys∨SqT X.K H p ys)/\Q (.int ys.length) H):=by
  intro pins s σ H xs us Q I r h
  obtain⟨p,ys,rfl,hq,q⟩:=h
  obtain⟨u,rfl,rx⟩:=vals1 r
  cases rx
  have hn:=line63
  rcases hq with hq | hq
  · obtain⟨its,r',pl,hz⟩:=I.list hq
    have hlen:=r'.length
    exact Calls.call_len_list pl.isList (by simp only[List.size_toArray] <;> omega) ⟨.int ys.length,H,I.tok _,⟨s.toks+1,by rw[List.size_toArray,hlen]⟩,q⟩
  · obtain⟨its,r',pl,hz⟩:=I.tuple hq
    have hlen:=r'.length
    exact len_tuple pl (by simp only[List.size_toArray] <;> omega) ⟨.int ys.length,H,I.tok _,⟨s.toks+1,by rw[List.size_toArray,hlen]⟩,q⟩
theorem call_list_of:CallR X (.type "list") (fun xs H Q=>∃ p ys,xs=[.ref p]/\(SqL X.K H p ys∨SqT X.K H p ys)/\∀ l,H l=none->Q (.ref l) (upd H l (.lst ys))):=by
  intro pins s σ H xs us Q I r h
  obtain⟨p,ys,rfl,hq,q⟩:=h
  obtain⟨u,rfl,rx⟩:=vals1 r
  cases rx
  have fin:∀ (its:List Value),Vals ys its->ys.length<=sizeLine->∀ (h':Heap) (c':Nat),(∀ b o',s.heap.get? b=some o'->h'.get? b=some o') ->
      h'.get? s.heap.objs.size=some { cls:=.type "list",dict:=none,data:=.seq its.toArray c',slots:=#[] }->EP X pins σ Q (.ref s.heap.objs.size) { s with heap:=h' }:=fun its r' hz h' c' kp e=>
    ⟨.ref s.heap.objs.size,_,I.laid (t':=s.toks) kp (Nat.le_refl _) (show ObjOk X.prog X.w _ h' _ (.lst ys) from⟨hz,its,c',r',e⟩),rfl,q _ (I.hok.fresh (Nat.le_refl _))⟩
  rcases hq with hq | hq
  · obtain⟨its,r',pl,hz⟩:=I.list hq
    have hlen:=r'.length
    obtain⟨o,ho,hc,n,hd⟩:=pl.isList
    exact call_list_seq p (.inl rfl) ho hc hd (fun h' c' kp e=>fin its r' hz h' c' kp e) (by simp only[List.size_toArray] <;> omega)
  · obtain⟨its,r',pl,hz⟩:=I.tuple hq
    have hlen:=r'.length
    obtain⟨o,ho,hc,n,hd⟩:=pl
    exact call_list_seq p (.inr rfl) ho hc hd (fun h' c' kp e=>fin its r' hz h' c' kp e) (by simp only[List.size_toArray] <;> omega)
theorem call_tuple_of:CallR X (.type "tuple") (fun xs H Q=>∃ p ys,xs=[.ref p]/\((SqL X.K H p ys/\∀ l,H l=none->Q (.ref l) (upd H l (.tup ys)))∨(SqT X.K H p ys/\Q (.ref p) H))):=by
  intro pins s σ H xs us Q I r h
  obtain⟨p,ys,rfl,h⟩:=h
  obtain⟨u,rfl,rx⟩:=vals1 r
  cases rx
  rcases h with ⟨hq,q⟩ | ⟨hq,q⟩
  · obtain⟨its,r',pl,hz⟩:=I.list hq
    have hlen:=r'.length
    refine call_tuple_list pl.isList (fun h' kp=>?_) (by simp only[List.size_toArray] <;> omega)
    have I1:Inv X pins σ H { s with heap:=h' }:=I.kept (t':=s.toks) kp
    have I2:Inv X pins σ (upd H h'.objs.size (.tup ys)) { s with heap:=h'.push { cls:=.type "tuple",data:=.seq its.toArray } } :=
      I1.laid (t':=s.toks) (fun b o e=>Heap.get?_push_of_some _ e) (Nat.le_refl _) (show ObjOk X.prog X.w _ _ _ (.tup ys) from⟨hz,its,r',IsTupD.new _ _⟩)
    exact⟨.ref h'.objs.size,_,I2,rfl,q _ (I1.hok.fresh (Nat.le_refl _))⟩
  · obtain⟨its,r',pl,hz⟩:=I.tuple hq
    exact call_tuple_same pl ⟨.ref p,H,I,rfl,q⟩
def tyV (K:PySem.W.Frag) (T:String) (x:V) (H:Hp):Prop:=match x with
  | .str _=>T="str"
  | .int _=>T="int"
  | .ref p=>(T="list"/\∃ xs,SqL K H p xs)∨(T="tuple"/\∃ o,K.lookup p=some o/\o.cls=.type "tuple"/\o.dict=none) ∨
      (T="dict"/\((∃ kvs,H p=some (.dK kvs))∨∃ kvs,H p=some (.dT kvs)))∨(T="set"/\∃ S n,H p=some (.set S n))
  | _=>False
theorem tyV_is {pins:List (Addr × Obj)}{σ:St}{H:Hp}{s:Shared}{T:String}{x:V}{v:Value} (I:Inv X pins σ H s) (r:RelV x v) (ty:tyV X.K T x H) :
    s.TypeIs v T/\∀ a,v=.ref a->∃ ob,s.heap.get? a=some ob/\ob.dict=none:=by
  cases x with
  | str z=>
    obtain⟨t,rfl⟩:=r
    cases (show T="str" from ty)
    exact⟨typeIs_str s z t,fun _ e=>nomatch e⟩
  | int i=>
    obtain⟨t,rfl⟩:=r
    cases (show T="int" from ty)
    exact⟨typeIs_int s i t,fun _ e=>nomatch e⟩
  | ref p=>
    cases r
    rcases ty with ⟨rfl,xs,hq⟩ | ⟨rfl,o,hk,hc,hd⟩ | ⟨rfl,hk⟩ | ⟨rfl,S,n,hk⟩
    · obtain⟨its,_,pl,_⟩:=I.list hq
      refine⟨pl.isList.typeIs,fun a e=>?_⟩
      cases e
      obtain⟨o,n,e,c,hd,_⟩:=pl
      exact⟨o,e,hd⟩
    · refine⟨⟨o,I.kIn p o hk,hc⟩,fun a e=>?_⟩
      cases e
      exact⟨o,I.kIn _ o hk,hd⟩
    · have z:∃ o,s.heap.get? p=some o/\o.ExactDict:=by
        rcases hk with ⟨kvs,hk⟩ | ⟨kvs,hk⟩
        · obtain⟨_,_,_,_,o,_,_,e,ex,_⟩:=I.hok p _ hk
          exact⟨o,e,ex⟩
        · obtain⟨_,_,_,_,o,_,_,e,ex,_⟩:=I.hok p _ hk
          exact⟨o,e,ex⟩
      obtain⟨o,e,ex⟩:=z
      refine⟨⟨o,e,ex.1⟩,fun a e2=>?_⟩
      cases e2
      exact⟨o,e,ex.2.1⟩
    · obtain⟨o,_,_,_,e,ex,_⟩:=I.hok p _ hk
      refine⟨⟨o,e,ex.1⟩,fun a e2=>?_⟩
      cases e2
      exact⟨o,e,ex.2.1⟩
  | _=>exact False.elim ty
def tBM (K:PySem.W.Frag) (T:String) (r:V->List V->Hp->VK->Prop) (to:TE) (t:TA):TE:=fun σ H Q=>to σ H fun x H1=>tyV K T x H1/\t σ H1 fun xs H2=>r x xs H2 Q
variable {o e:Expr}{es:List Expr}{to:TE}{t:TA}{name:Str}{apos cpos:Pos}{T id:String}{r:V->List V->Hp->VK->Prop}
theorem pe_bm (pa:PlainAttrs T) (slot:Slot T name id) (hty:typeOf (.builtin id)=pure (.type "method_descriptor")) (hm:MtR X id r) (ho:PE X o to) (ha:PA X (e::es) t)
    (hbase:attributeBase o name X.env (eval o X.env)=eval o X.env:=by rfl)
    (hfew:((backTo cpos (starEach (e::es) X.env)).all (fun x=>!x.1) && (backToKw cpos (keywordEach [] X.env)).all (fun x=>x.1.isSome)
      && decide ((e::es).length+([]:List Keyword).length+(if ([]:List Keyword).isEmpty then 0 else 1)<30))=true:=by rfl)
    (hline:(apos.endLine == cpos.line)=true:=by rfl) (hs:starEach (e::es) X.env=(false,eval e X.env)::starEach es X.env:=by rfl) (hplain:(backTo cpos (starEach es X.env)).any (·.1)=false:=by rfl) :
    PE X (.Call (.Attribute o name apos) (e::es) [] cpos) (tBM X.K T r to t):=by
  intro pins s σ H Q I h
  refine wpAny_Call_method_late hbase hfew hline rfl (thn (ho pins s σ H _ I h) fun v s1 ⟨x,H1,I1,r1,ty,q1⟩=>?_)
  obtain⟨h1,h2⟩:=tyV_is I1 r1 ty
  refine⟨T,id,pa,slot,hty,h1,h2,?_⟩
  have hA:=ha cpos pins s1 σ H1 _ I1 q1
  rw[hs] at hA ⊢
  refine Calls.callWith_builtin (by show (false || (backTo cpos (starEach es X.env)).any (·.1))=false;rw[hplain] <;> rfl) (Calls.evalArgs_plain ?_)
  exact thn hA fun us s2 ⟨vs,H2,I2,r2,q2⟩=>hm pins s2 σ H2 x vs v us Q I2 r1 r2 q2
end
end L2
namespace L2
open PySem PySem.Spec PyProof.Rows
def MtM (X:Cx) (id:String) (r:V->List V->Hp->VK->Prop):Prop :=
  ∀ (pins:List (Addr × Obj)) (s:Shared) (σ:St) (H:Hp) (x:V) (xs:List V) (v:Value) (us:List Value) (Q:VK),Inv X pins σ H s->RelV x v->Vals xs us->r x xs H Q ->
    wpAny (model X.prog X.w) X.A (call (.builtin id) (v::us)) (EP X pins σ Q) X.xe s
theorem Vals.one:∀ {x:V}{us:List Value},Vals [x] us->∃ u,us=[u]/\RelV x u
  | _,_,.cons r .nil=>⟨_,rfl,r⟩
theorem Vals.reverse {xs:List V}{us:List Value} (h:Vals xs us):Vals xs.reverse us.reverse:=by
  induction h with
  | nil=>exact .nil
  | cons r t ih=>rw[List.reverse_cons,List.reverse_cons];exact Vals.append ih (.cons r .nil)
theorem Vals.rep {xs:List V}{us:List Value} (h:Vals xs us):∀ k:Nat,Vals (List.replicate k xs).flatten (List.replicate k us).flatten
  | 0=>.nil
  | k+1=>by
    rw[List.replicate_succ,List.replicate_succ,List.flatten_cons,List.flatten_cons]
    exact Vals.append h (Vals.rep h k)
theorem foldl_rep (its:List Value):∀ (k:Nat) (acc:List Value),
    List.foldl (fun x1 x2=>x1++x2) acc.toArray (List.replicate k its.toArray)=(acc++(List.replicate k its).flatten).toArray
  | 0,acc=>by simp
  | k+1,acc=>by
    have e:acc.toArray++its.toArray=(acc++its).toArray:=by simp
    have e2:(acc++its)++(List.replicate k its).flatten=acc++(List.replicate (k+1) its).flatten:=by
      rw[List.replicate_succ,List.flatten_cons,List.append_assoc]
    rw[<- e2,<- foldl_rep its k (acc++its),<- e,List.replicate_succ,List.foldl_cons]
section
variable {X:Cx}{pins:List (Addr × Obj)}{σ:St}{H:Hp}{s:Shared}{l b:Addr}{xs ys zs:List V}
theorem Inv.lset {its its':List Value}{n:Nat}{f:Array Value->Array Value}{t':Nat} (I:Inv X pins σ H s) (hH:H l=some (.lst xs))
    (e:s.heap.get? l=some { cls:=.type "list",data:=.seq its.toArray n }) (hf:f its.toArray=its'.toArray) (hv:Vals ys its') (hz:ys.length<=sizeLine) :
    Inv X pins σ (upd H l (.lst ys)) { s with heap:=s.heap.update l (Obj.mapSeq f),toks:=t' }:=by
  have q:=PySem.IsL.update e f
  rw[hf] at q
  refine I.write (x:=l) (e:=l) (by rw[hH];exact trivial) (.inl rfl) (fun b' u hb hu=>(Heap.get?_update_other s.heap (Obj.mapSeq f) (Ne.symm hb)).trans hu) ⟨_,q⟩ ?_
  exact⟨hz,its',_,hv,q⟩
theorem Inv.lnew {its:List Value}{t':Nat} (I:Inv X pins σ H s) (hv:Vals ys its) (hz:ys.length<=sizeLine) :
    Inv X pins σ (upd H s.heap.objs.size (.lst ys)) { s with heap:=s.heap.push { cls:=.type "list",data:=.seq its.toArray },toks:=t' } :=
  I.laid (fun _ _ q=>Heap.get?_push_of_some _ q) (Nat.le_refl _) ⟨hz,its,0,hv,Heap.get?_push_size _ rfl⟩
theorem Inv.fresh (I:Inv X pins σ H s):H s.heap.objs.size=none:=I.hok.fresh (Nat.le_refl _)
theorem Inv.lstM (I:Inv X pins σ H s) (hH:H l=some (.lst xs)):xs.length<=sizeLine/\∃ (its:List Value) (n:Nat),Vals xs its/\xs.length=its.length/\s.heap.get? l=some { cls:=.type "list",data:=.seq its.toArray n }:=by
  obtain⟨z,its,n,r,e⟩:=I.hok l _ hH
  exact⟨z,its,n,r,r.length,e⟩
theorem notLongL {n:Nat} (h:n<=sizeLine):Builtin.List.listTooLong n=false:=by
  unfold Builtin.List.listTooLong
  exact decide_eq_false (by omega)
end
section
variable {X:Cx}
def rAppend:V->List V->Hp->VK->Prop:=fun x vs H Q=>∃ l xs y,x=.ref l/\vs=[y]/\H l=some (.lst xs)/\xs.length<sizeLine/\Q .non (upd H l (.lst (xs++[y])))
theorem mt_append:MtM X "list.append" rAppend:=by
  intro pins s σ H x vs v us Q I rx rv h
  obtain⟨l,xs,y,rfl,rfl,hH,hz,q⟩:=h
  cases rx
  obtain⟨u,rfl,ru⟩:=rv.one
  obtain⟨z,its,n,r,hl,e⟩:=I.lstM hH
  refine call_meets F.slot_list_append ⟨_,e,rfl⟩ F.entry_list_append (F.args_list_append_2 _ _) (PySem.list_append l its.toArray n u (by rw[List.size_toArray];omega)) ⟨e,?_⟩
  refine⟨.non,_,I.lset (its':=its++[u]) hH e (by simp) (r.append (.cons ru .nil)) ?_,rfl,q⟩
  rw[List.length_append,List.length_singleton]
  omega
def rExtend:V->List V->Hp->VK->Prop:=fun x vs H Q=>∃ l b xs zs,x=.ref l/\vs=[.ref b]/\H l=some (.lst xs)/\H b=some (.lst zs)/\xs.length+zs.length<=sizeLine/\Q .non (upd H l (.lst (xs++zs)))
theorem mt_extend:MtM X "list.extend" rExtend:=by
  intro pins s σ H x vs v us Q I rx rv h
  obtain⟨l,b,xs,zs,rfl,rfl,hH,hB,hz,q⟩:=h
  cases rx
  obtain⟨u,rfl,ru⟩:=rv.one
  cases ru
  obtain⟨z,its,n,r,hl,e⟩:=I.lstM hH
  obtain⟨z2,its2,n2,r2,hl2,e2⟩:=I.lstM hB
  have hsz:its.toArray.size+its2.toArray.size<=sizeLine:=by rw[List.size_toArray,List.size_toArray];omega
  have hlong:¬ (!its.toArray.isEmpty && Builtin.List.listTooLong (its.toArray.size+its2.toArray.size))=true:=by
    rw[notLongL hsz,Bool.and_false]
    exact Bool.false_ne_true
  refine call_meets F.slot_list_extend ⟨_,e,rfl⟩ F.entry_list_extend (F.args_list_extend_2 _ _)
    (AutoSeq1.list_extend_list_list_0 l its.toArray n b its2.toArray n2 hlong (by rw[List.size_toArray];omega) (by omega)) ⟨e,e2,?_⟩
  refine⟨.non,_,I.lset (its':=its++its2) hH e (by simp) (r.append r2) ?_,rfl,q⟩
  rw[List.length_append]
  omega
def rCat:R2:=fun x y H Q=>∃ l b xs zs,x=.ref l/\y=.ref b/\H l=some (.lst xs)/\H b=some (.lst zs)/\xs.length+zs.length<=sizeLine/\∀ p,H p=none->Q (.ref p) (upd H p (.lst (xs++zs)))
theorem op_cat:OpR X (binaryOp .Add) rCat:=by
  intro pins s σ H x y v u Q I rx ry h
  obtain⟨l,b,xs,zs,rfl,rfl,hH,hB,hz,q⟩:=h
  cases rx
  cases ry
  obtain⟨z,its,n,r,hl,e⟩:=I.lstM hH
  obtain⟨z2,its2,n2,r2,hl2,e2⟩:=I.lstM hB
  refine PySem.P.add_list e e2 ?_ (by rw[List.size_toArray,List.size_toArray];omega)
  have ea:its.toArray++its2.toArray=(its++its2).toArray:=by simp
  rw[ea]
  exact⟨.ref _,_,I.lnew (t':=s.toks) (r.append r2) (by rw[List.length_append];omega),rfl,q _ I.fresh⟩
def rRep:R2:=fun x y H Q=>∃ l k xs,x=.ref l/\y=.int k/\H l=some (.lst xs)/\-(2 ^ 63)<=k/\k<2 ^ 63/\xs.length*k.toNat<=sizeLine /\
  ∀ p,H p=none->Q (.ref p) (upd H p (.lst (List.replicate k.toNat xs).flatten))
theorem len_rep {α:Type} (xs:List α) (k:Nat):(List.replicate k xs).flatten.length=k*xs.length:=by
  induction k with
  | zero=>simp
  | succ k ih=>rw[List.replicate_succ,List.flatten_cons,List.length_append,ih,Nat.succ_mul,Nat.add_comm]
theorem op_rep:OpR X (binaryOp .Mult) rRep:=by
  intro pins s σ H x y v u Q I rx ry h
  obtain⟨l,k,xs,rfl,rfl,hH,h1,h2,hz,q⟩:=h
  cases rx
  obtain⟨t,rfl⟩:=ry
  obtain⟨z,its,n,r,hl,e⟩:=I.lstM hH
  have hlen:its.toArray.size*k.toNat<=sizeLine:=by rw[List.size_toArray,<- hl];exact hz
  have hcap:¬ its.toArray.size*k.toNat > (2 ^ 63 - 1) / 8:=by
    have:(sizeLine:Nat)<=(2 ^ 63 - 1) / 8:=by decide
    omega
  have hfit:¬ (!Builtin.List.listFitsIndex k)=true:=by
    rw[fitsIndex_both h1 h2]
    exact Bool.false_ne_true
  have hlong:¬ Builtin.List.listTooLong (its.toArray.size*k.toNat)=true:=by
    rw[notLongL hlen]
    exact Bool.false_ne_true
  have hnew:List.foldl (fun x1 x2=>x1++x2) #[] (List.replicate (if its.toArray.isEmpty=true then 0 else k.toNat) its.toArray)=(List.replicate k.toNat its).flatten.toArray:=by
    have f0:∀ m:Nat,List.foldl (fun x1 x2=>x1++x2) #[] (List.replicate m its.toArray)=(List.replicate m its).flatten.toArray:=fun m=>by
      have:=foldl_rep its m []
      rw[List.nil_append] at this
      exact this
    rw[f0]
    cases its with
    | nil=>simp
    | cons a r'=>rw[if_neg (by simp)]
  refine wpAny_binaryOp_repeat_ref (T:="list") (U:="int") (by decide) ⟨_,e,rfl⟩ (fun s'=>typeIs_int s' k t) noFill_list_mul F.fills_int_mul F.slot_int_rmul repeat_list F.slot_int_index.lookup
    (call_meets F.slot_int_rmul (typeIs_int s k t) F.entry_int_rmul (F.args_int_rmul_2 _ _) (int___rmul___int_list k t l its.toArray n)
      ⟨e,rfl,⟨_,e,rfl⟩,call_meets F.slot_list_mul ⟨_,e,rfl⟩ F.entry_list_mul (F.args_list_mul_2 _ _) (AutoListH.list___mul___list_int_3 l its.toArray n k t hfit hcap hlong) ⟨e,?_⟩⟩)
  rw[hnew]
  exact⟨.ref _,_,I.lnew (t':=s.toks) (r.rep k.toNat) (by rw[len_rep,Nat.mul_comm];exact hz),rfl,q _ I.fresh⟩
end
section
variable {prog:Program}{w:World}{A:Around}{E:Value->Shared->Prop}{s:Shared}
set_option maxRecDepth 100000 in
end
section
variable {X:Cx}
end
end L2
namespace Att
open PySem PySem.W PySem.Calls PyProof.Rows
theorem ints_of_wellAll {P:Params}{h:Heap}:∀ (ns:List Int) (vs:List Value),WellAll P h vs (ns.map WData.int)->IntsAre vs ns:=by
  intro ns
  induction ns with
  | nil=>
    intro vs w
    rw[List.map_nil] at w
    cases w
    exact .nil
  | cons n ns ih=>
    intro vs w
    rw[List.map_cons] at w
    cases w with
    | cons a b=>
      cases a
      exact .cons _ _ (ih _ b)
theorem script_of {l:OpenLaw}{n:Nat} (hn:l.most=some n) {P:Params}{h:Heap}{args:List WData}{vals:List Value}
    (hpre:l.row.toRowW.claim.pre args=true) (hwl:WellAll P h vals args) :
    ∃ a vs ns,vals=[Value.ref a]/\args=[WData.list (ns.map WData.int)]/\h.get? a=some { cls:=.type "list",data:=.seq vs.toArray }/\IntsAre vs ns/\ns.length<=n:=by
  have hsh:WShape.hasAll [] args [.list .int]=true:=(pre_splitW hpre).1
  have hc:l.pre.holds [] { args:=args }=true:=(pre_splitW hpre).2
  obtain⟨d,r,rfl,h1,h2⟩:=hasAllW_cons hsh
  obtain rfl:=hasAllW_nil h2
  obtain⟨xs,rfl,h3⟩:=hasW_list h1
  obtain⟨ns,rfl⟩:=items_int h3
  have hlen:ns.length<=n:=by
    unfold OpenLaw.pre at hc
    have h4:(WTm.not (.lt (.lit (.int (n:Int))) (.len (.arg 0)))).holds [] { args:=[.list (ns.map .int)] }=true:=by
      have h4:=(holds_andW hc).1
      rw[hn] at h4
      exact h4
    have h5:=condW_of h4 (w_not (w_lt w_lit (w_len_list (w_arg rfl))))
    rw[List.length_map] at h5
    refine Nat.le_of_not_lt fun q=>?_
    have q':(n:Int)<((ns.length:Nat):Int):=by omega
    first
      | (rw[decide_eq_true q'] at h5;exact absurd h5 (by decide))
      | (simp at h5;omega)
  cases hwl with
  | cons w1 w2=>
    cases w2
    cases w1 with
    | list ho hall=>exact⟨_,_,ns,rfl,rfl,ho,ints_of_wellAll ns _ hall,hlen⟩
theorem post_true (l:OpenLaw) (args:List WData):l.row.toRowW.claim.post args (.bool true) args=true :=
  postW_of (r:=l.row.toRowW) (X:=(true == true))
    (show WShape.has [] (.bool true) .bool=true by first | rfl | decide | simp[WShape.has,WShape.arms,WShape.armsAll])
    (show (WTm.eq .res (.lit (.bool true))).value [] { args:=args,res:=some (.bool true),after:=args }=some (.bool (true == true)) from w_eq_bool (w_res rfl) w_lit) rfl
theorem attach_call {l:OpenLaw}{n:Nat}{q:Program}{loose:List Str}{XP:(Str->Option Value)->Heap->Prop}{YP:World->Heap->Prop}{d:DefRec}
    (hn:l.most=some n) (hdf:d.params.defaults=[])
    (call:∀ (w:World) (s₀ s₁:Shared) (mg mb:Str->Option Value) (fa:Addr) (o:Obj) (pm cd doc:Value) (a:Addr) (vs:List Value) (ns:List Int),
      Ground q loose [] XP w s₀ mg mb s₁.heap->YP w s₁.heap ->
      s₁.heap.get? fa=some o->o.data=.func (docDef d.name d.params d.body d.scope pm cd doc)->s₁.heap.CodeRec cd d.name->mg d.name=some (.ref fa) ->
      s₁.heap.get? a=some { cls:=.type "list",data:=.seq vs.toArray }->IntsAre vs ns->ns.length<=n->s₁.gens=#[] ->
      codeAny (model l.prog w) callerA (.call (.ref fa) ⟨[.ref a],[]⟩) (fun r s'=>r=.ok (.ret (.bool true))/\OldK s₁.heap s'.heap/\s'.os=s₁.os/\AllBare s'.gens) s₁) :
    WalkO q loose XP YP l.row.toRowW d [] (fun f vs=>PySem.call f vs):=by
  intro w s₀ s₁ mg mb G Y fa o pm cd doc dV kV ho hd hcd hD hmg hg args vals as hpre hlay hrd hwl hlo
  obtain rfl:dV=.none:=Dflts.none hD hdf
  obtain rfl:kV=.none:=Dflts.noKw hD
  obtain⟨a,vs,ns,rfl,rfl,hobj,hints,hlen⟩:=script_of hn hpre hwl
  refine enter_call (codeAny_mono (call w s₀ s₁ mg mb fa o pm cd doc a vs ns G Y ho (fd_plain hd) hcd hmg hobj hints hlen hg) fun r s' hq=>?_)
  obtain⟨rfl,h2,h3,h4⟩:=hq
  exact⟨.inl ⟨.bool true,.bool true,[],rfl,fun _=>rfl,.bool true,post_true l _,fun _=>⟨List.Pairwise.nil,fun _ hm=>(nomatch hm)⟩⟩,h2,h3,h4⟩
section
variable {prog:Program}{w:World}{A:Around}{E:Value->Shared->Prop}{s:Shared}{K:Frag}
def ledger (h:Heap) (L d:Addr):List (Addr × Obj):=(List.range h.objs.size).filterMap fun a=>if a=L∨a=d then none else (h.get? a).map fun o=>(a,o)
end
end Att
namespace L2
open PySem PySem.Spec PyProof.Rows
theorem vals_ints:∀ {vs:List Value}{ns:List Int},IntsAre vs ns->Vals (ns.map V.int) vs
  | _,_,.nil=>.nil
  | _,_,.cons n t h=>.cons ⟨t,rfl⟩ (vals_ints h)
def Only (H:Hp):Prop:=∀ b,H b=none∨∃ o xs,H b=some (.frz o (.lst xs))
theorem law_call {P:Program}{w:World}{K:PySem.W.Frag}{mg mb:Str->Option Value}{CX:CXT}{k:Nat}{fa a:Addr}{fd:FuncData}{x:Str}{sp:Sp}{s₁:Shared}{vs:List Value}{ns:List Int}
    (KX:K.In s₁.heap) (hns:s₁.heap.Ns mainGlobals mg) (hb:s₁.heap.Ns builtinsNs mb) (hbb:∀ x:Str,x≠"__name__"->mb x=bootBuiltins x) (hlim:s₁.heap.NoLimit) (hg:s₁.gens=#[])
    (ha:s₁.heap.get? a=some { cls:=.type "list",data:=.seq vs.toArray }) (hi:IntsAre vs ns) (hl:ns.length<=sizeLine) (hr:Room k callerA)
    (F:∀ base:Heap,K.In base->base.Ns mainGlobals mg->FnOk P w K mg base CX k fa fd [x] sp) (hbind:∀ (s:Shared) (u:Value),BindsTo s fd ⟨[u],[]⟩ [(x,u)])
    (hsp:∀ H:Hp,Only H->SqL K H a (ns.map V.int)->sp [.ref a] H (fun v _=>v=.bl true) fun _ _ _=>False)
    (hCX:∀ H e s',CX [] H s₁ (fun _ _ _=>False) e s'->False) :
    codeAny (model P w) callerA (.call (.ref fa) ⟨[.ref a],[]⟩) (fun r s'=>r=.ok (.ret (.bool true))/\OldK s₁.heap s'.heap/\s'.os=s₁.os/\AllBare s'.gens) s₁:=by
  have rv:=vals_ints hi
  have lenV:=hi.length
  have core:∀ H:Hp,Only H->SqL K H a (ns.map V.int)->HOk P w H s₁.heap->(∀ b,H b≠none->b=a)->(H a≠none->K.lookup a=none) ->
      codeAny (model P w) callerA (.call (.ref fa) ⟨[.ref a],[]⟩) (fun r s'=>r=.ok (.ret (.bool true))/\OldK s₁.heap s'.heap/\s'.os=s₁.os/\AllBare s'.gens) s₁:=by
    intro H hO hS hok hA hK
    have base_of:∀ {b:Addr}{o:Obj},s₁.heap.get? b=some o->H b=none->(hidT s₁.heap H).get? b=some o:=fun e n=>hidT_get e n
    have noA:∀ {b:Addr}{o:Obj}{es:Array DictEntry}{ep:Nat},s₁.heap.get? b=some o->o.data=.dict es ep->H b=none:=fun {b o es ep} e d=>by
      cases q:H b with
      | none=>rfl
      | some u=>
        have e':b=a:=hA b (by rw[q];simp)
        subst e'
        rw[ha] at e;cases e
        have d':Data.seq vs.toArray _=Data.dict es ep:=d
        cases d'
    have nsK:∀ {b:Addr}{m:Str->Option Value},s₁.heap.Ns b m->(hidT s₁.heap H).Ns b m:=fun {b m} ⟨o,es,ep,e,d,r⟩=>⟨o,es,ep,base_of e (noA e d),d,r⟩
    have hKb:K.In (hidT s₁.heap H):=fun b o e=>base_of (KX b o e) (by
      cases q:H b with
      | none=>rfl
      | some u=>
        have e':b=a:=hA b (by rw[q];simp)
        subst e'
        rw[hK (by rw[q];simp)] at e;cases e)
    have hM:Mod K mg (hidT s₁.heap H):=⟨hKb,nsK hns,⟨mb,nsK hb,hbb⟩,let ⟨mc,h1,h2⟩:=hlim;⟨mc,nsK h1,h2⟩⟩
    have e0:Env0 P w K mg (hidT s₁.heap H) callerA [] s₁ H:=⟨rfl,hM,fun b o e=>of_hidT e,Nat.le_of_eq (hidT_size _ _),trivial,fun b hb=>absurd (show b∈([]:List Addr) from hb) (by simp),hok,.of_eq hg⟩
    refine codeAny_mono ((F _ hKb (nsK hns)).run callerA [] s₁ H ⟨[.ref a],[]⟩ [.ref a] [.ref a] _ _ hr e0 (hbind s₁ (.ref a)) (.cons rfl .nil) (hsp H hO hS)) fun r s' h=>?_
    cases r with
    | error e=>exact (hCX H e s' h).elim
    | ok fl=>
      cases fl with
      | next=>exact False.elim h
      | brk=>exact False.elim h
      | cont=>exact False.elim h
      | ret u=>
        obtain⟨v,H',os,bare,un,hok',r',q⟩:=h
        have q':v=.bl true:=q
        subst q'
        obtain rfl:u=Value.bool true:=r'
        refine⟨rfl,OldK.of_keep fun b o e=>?_,os,bare⟩
        cases q:H b with
        | none=>exact un.keep b o e q (by intro z;exact absurd (show b∈([]:List Addr) from z) (by simp)) (by simp)
        | some u=>
          rcases hO b with z | ⟨ob,xs,z⟩
          · rw[q] at z;cases z
          · have z2:=un.frzs b ob _ z
            obtain⟨e1,_⟩:=hok b _ z
            obtain⟨e2,_⟩:=hok' b _ z2
            rw[e] at e1;cases e1
            exact e2
  cases hk:K.lookup a with
  | some o=>
    have e:=KX a o hk
    rw[ha] at e
    cases e
    refine core (fun _=>none) (fun _=>.inl rfl) (.inr ⟨_,vs.toArray,_,hk,rfl,rfl,rfl,by rw[List.size_toArray,lenV];exact hl,by simpa using rv⟩) (fun b u z=>by have z':(none:Option HO)=some u:=z;cases z') (fun b z=>absurd rfl z) fun z=>absurd rfl z
  | none=>
    refine core (fun b=>if b=a then some (.frz { cls:=.type "list",data:=.seq vs.toArray } (.lst (ns.map V.int))) else none) (fun b=>?_) (.inl (.inr ⟨{ cls:=.type "list",data:=.seq vs.toArray },if_pos rfl⟩)) (fun b u z=>?_) (fun b z=>?_) fun _=>hk
    · by_cases hb:b=a
      · exact .inr ⟨_,_,if_pos hb⟩
      · exact .inl (if_neg hb)
    · by_cases hb:b=a
      · have z':=(if_pos hb).symm.trans z
        cases z'
        subst hb
        exact⟨ha,by rw[List.length_map];exact hl,vs,_,rv,ha⟩
      · have z':=(if_neg hb).symm.trans z
        cases z'
    · by_cases hb:b=a
      · exact hb
      · exact absurd (if_neg hb) z
end L2
namespace L2
open PySem PySem.Spec PyProof.Rows
theorem walk_of {l:PySem.W.OpenLaw}{n k:Nat}{q:Program}{loose:List Str}{XP:(Str->Option Value)->Heap->Prop}{YP:World->Heap->Prop}{d:DefRec}{K:Params->PySem.W.Frag}{CX:World->CXT}{sp:World->Sp}{x:Str}
    (hn:l.most=some n) (hn2:n<=sizeLine) (hdf:d.params.defaults=[]) (hr:Room k callerA)
    (hY:∀ (w:World) (h:Heap),YP w h->(K w.params).In h)
    (F:∀ (w:World) (mg:Str->Option Value) (fa:Addr) (h:Heap),(K w.params).In h->h.Ns mainGlobals mg->mg d.name=some (.ref fa) ->
      ∃ fd:FuncData,(∀ (s:Shared) (u:Value),BindsTo s fd ⟨[u],[]⟩ [(x,u)]) /\
        ∀ base:Heap,(K w.params).In base->base.Ns mainGlobals mg->FnOk l.prog w (K w.params) mg base (CX w) k fa fd [x] (sp w))
    (hsp:∀ (w:World) (H:Hp) (a:Addr) (ns:List Int),ns.length<=n->Only H->SqL (K w.params) H a (ns.map V.int)->sp w [.ref a] H (fun v _=>v=.bl true) fun _ _ _=>False)
    (hCX:∀ (w:World) (H:Hp) (s:Shared) (e:Value) (s':Shared),CX w [] H s (fun _ _ _=>False) e s'->False) :
    PySem.W.WalkO q loose XP YP l.row.toRowW d [] (fun f vs=>PySem.call f vs):=by
  refine Att.attach_call hn hdf fun w s₀ s₁ mg mb fa o pm cd doc a vs ns G Y ho hd hcd hmg hobj hints hlen hg=>?_
  have KX:=hY w _ Y
  obtain⟨fd,hb,hF⟩:=F w mg fa _ KX G.T.g hmg
  exact law_call KX G.T.g G.T.b G.T.builtins G.T.nolimit hg hobj hints (Nat.le_trans hlen hn2) hr hF hb (fun H hO hS=>hsp w H a ns hlen hO hS) fun H e s'=>hCX w H s₁ e s'
end L2
namespace L2
open PySem PySem.Spec PyProof.Rows
def defArgs (s:Stmt):Arguments:=match s with
  | .FunctionDef _ a _ _ _ _ _ _ _ _=>a
  | _=>{ posonlyargs:=[],args:=[],vararg:=none,kwonlyargs:=[],kw_defaults:=[],kwarg:=none,defaults:=[] }
def defBody (s:Stmt):List Stmt:=match s with
  | .FunctionDef _ _ b _ _ _ _ _ _ _=>b
  | _=>[]
def defScope (s:Stmt):Scope:=match s with
  | .FunctionDef _ _ _ _ _ _ sc _ _ _=>sc
  | _=>{ kind:=.function,names:=[],isGenerator:=false,isCoroutine:=false }
abbrev CX0:CXT:=fun _ _ _ _ _ _=>False
abbrev E0:XK:=fun _ _ _=>False
theorem pass0 {X:Cx}:Passes CX0 X E0:=fun _ _ _ _ _ _ _ h=>h.elim
structure Fun (K:PySem.W.Frag) (x qual:Str) (st:Stmt) (f:Addr) (fd:FuncData):Prop where
  ex:∃ (oc:Value) (od:Option Addr) (kV doc pm:Value) (an:Option Addr) (cdv ct:Value) (osl:Array (Option Value)),
    fd=PySem.W.fnOf x qual (defArgs st) (defBody st) (defScope st) .none kV doc pm an cdv ct/\K.lookup f=some ⟨oc,od,.func fd,osl⟩/\PySem.W.codeIn K cdv qual=true
  kp:PySem.W.keepIn K (.ref f)=true
section
variable {P:Program}{w:World}{K:PySem.W.Frag}{mg:Str->Option Value}{base:Heap}
theorem Fun.ok {x qual:Str}{st:Stmt}{f:Addr}{fd:FuncData}{N ps:List Str}{k:Nat}{sp:Sp} (F:Fun K x qual st f fd) (S:FnScope N ps (defScope st)) (len:∀ vs H Q E,sp vs H Q E->vs.length=ps.length)
    (hbody:∀ (cdv:Value) (A:Around) (outer:List Env) (s:Shared) (H:Hp) (vs:List V) (Q:VK) (E:XK),Room k (A.deeper (envOfC qual (defScope st) s.heap.objs.size f cdv))->sp vs H Q E ->
      ∃ t,PSs (cxOf CX0 P w K mg base N qual (defScope st) f cdv A outer s H E).nox (defBody st) t/\t { nx:=fun _ H'=>Q .non H',rt:=Q } (start N vs) H):FnOk P w K mg base CX0 (k+1) f fd ps sp:=by
  obtain⟨oc,od,kV,doc,pm,an,cdv,ct,osl,rfl,lk,hcd⟩:=F.ex
  refine fn_of lk hcd S len fun A outer s H vs Q E hr hsp=>?_
  obtain⟨t,h,q⟩:=hbody cdv A outer s H vs Q E hr hsp
  exact⟨t,h.nox,q⟩
theorem Fun.binds {x qual:Str}{st:Stmt}{f:Addr}{fd:FuncData}{ps:List Str} (F:Fun K x qual st f fd)
    (h:∀ (kV doc pm:Value) (an:Option Addr) (cdv ct:Value) (us:List Value),us.length=ps.length->bindArgs (PySem.W.fnOf x qual (defArgs st) (defBody st) (defScope st) .none kV doc pm an cdv ct) ⟨us,[]⟩=pure (ps.zip us)):Binds K fd ps []:=by
  obtain⟨oc,od,kV,doc,pm,an,cdv,ct,osl,rfl,lk,hcd⟩:=F.ex
  exact .all (h kV doc pm an cdv ct)
theorem fun_mk {x qual:Str}{st:Stmt}{f:Addr}{oc:Value}{od an:Option Addr}{osl:Array (Option Value)}{kV doc pm cdv ct:Value} (l:K.lookup f=some ⟨oc,od,.func (PySem.W.fnOf x qual (defArgs st) (defBody st) (defScope st) .none kV doc pm an cdv ct),osl⟩)
    (c:PySem.W.codeIn K cdv qual=true) (k:PySem.W.keepIn K (.ref f)=true):Fun K x qual st f (PySem.W.fnOf x qual (defArgs st) (defBody st) (defScope st) .none kV doc pm an cdv ct):=⟨⟨oc,od,kV,doc,pm,an,cdv,ct,osl,rfl,l,c⟩,k⟩
end
theorem small1000 {n:Nat} (h:n<=1000):n<sizeLine:=Nat.lt_of_le_of_lt h (by decide)
section
variable {X:Cx}
theorem pv (i:Nat) {x:Str}{pos:Pos} (hN:X.N[i]?=some x:=by rfl) (hv:Vis X.env.scope x:=by first | exact Or.inl rfl | exact Or.inr (Or.inl rfl) | exact Or.inr (Or.inr rfl)) (hd:(x == ("__debug__":Str))=false:=by decide)
    (hcd:(x == ("__classdict__":Str))=false:=by decide):PE X (.Name x pos) (tVar i):=pe_var hN hv hd hcd
end
theorem iteF {A B:Prop} (h:B):if false=true then A else B:=by
  rw[if_neg Bool.false_ne_true]
  exact h
theorem iteT {A B:Prop} (h:A):if true=true then A else B:=by
  rw[if_pos rfl]
  exact h
theorem ite2 {c A B:Prop} [Decidable c] (h1:c->A) (h2:¬ c->B):if c then A else B:=by
  by_cases h:c
  · rw[if_pos h]
    exact h1 h
  · rw[if_neg h]
    exact h2 h
def Same (H H':Hp):Prop:=∀ b o,H b=some o->H' b=some o
theorem Same.refl (H:Hp):Same H H:=fun _ _ h=>h
theorem Same.trans {H H1 H2:Hp} (a:Same H H1) (b:Same H1 H2):Same H H2:=fun c o h=>b c o (a c o h)
theorem Same.free {H H':Hp} (e:Same H H') {l:Addr} (h:H' l=Option.none):H l=Option.none:=by
  cases q:H l with
  | none=>rfl
  | some o=>
    rw[e l o q] at h
    cases h
theorem Same.seq {K:PySem.W.Frag}{H H':Hp}{a:Addr}{xs:List V} (e:Same H H') (h:SqL K H a xs):SqL K H' a xs:=by
  rcases h with (h | ⟨o,h⟩) | h
  · exact .inl (.inl (e _ _ h))
  · exact .inl (.inr ⟨o,e _ _ h⟩)
  · exact .inr h
end L2
set_option maxHeartbeats 4000000
namespace L2
open PySem PySem.Spec PyProof.Rows
def clFrom (env:Env):List (Str × NameKind)->List (Str × Addr)->List (Str × Addr)
  | [],cs=>cs
  | (n,k)::r,cs=>clFrom env r (if k == .free then (n,(env.cells.lookup n).getD 0)::cs else cs)
abbrev clOf (scope:Scope) (env:Env):List (Str × Addr):=clFrom env scope.names []
theorem closureFor_cl {env:Env}:∀ (names:List (Str × NameKind)) (cs:List (Str × Addr)),(∀ x∈names,x.2=.free->∃ c,env.cells.lookup x.1=some c) ->
    (forIn names cs fun (x:Str × NameKind) r=>do
      if x.2 == .free then
        let c <- cellOf env x.1
        pure (ForInStep.yield ((x.1,c)::r))
      else pure (ForInStep.yield r):Sem (List (Str × Addr)))=pure (clFrom env names cs)
  | [],cs,_=>rfl
  | (n,k)::r,cs,h=>by
    rw[List.forIn_cons]
    have ih:=fun cs'=>closureFor_cl (env:=env) r cs' fun x hx=>h x (List.mem_cons_of_mem _ hx)
    by_cases hk:k=.free
    · subst hk
      obtain⟨c,hc⟩:=h (n,.free) List.mem_cons_self rfl
      have hc':env.cells.lookup n=some c:=hc
      have ec:cellOf env n=pure c:=by unfold cellOf;rw[hc']
      dsimp only
      rw[if_pos (by rfl),ec]
      show (forIn r ((n,c)::cs) _:Sem _)=_
      rw[ih]
      conv=>rhs;unfold clFrom
      rw[if_pos (by rfl),hc']
      rfl
    · have hb:(k == NameKind.free)=false:=by simpa using hk
      dsimp only
      rw[if_neg (by rw[hb];decide)]
      show (forIn r cs _:Sem _)=_
      rw[ih]
      conv=>rhs;unfold clFrom
      rw[if_neg (by rw[hb];decide)]
theorem closure_cl {scope:Scope}{env:Env} (h:∀ x∈scope.names,x.2=.free->∃ c,env.cells.lookup x.1=some c):closureFor scope env=pure (clOf scope env):=by
  unfold closureFor
  have e:=closureFor_cl (env:=env) scope.names [] h
  simp only[bind_pure]
  exact e
theorem cl_lookup {env:Env}{x:Str}{c:Addr}:∀ (names:List (Str × NameKind)) (cs:List (Str × Addr)),(clFrom env names cs).lookup x=some c->((x,NameKind.free)∈names/\c=(env.cells.lookup x).getD 0)∨cs.lookup x=some c
  | [],_,h=>.inr h
  | (n,k)::r,cs,h=>by
    unfold clFrom at h
    rcases cl_lookup r _ h with ⟨h1,h2⟩ | h1
    · exact .inl ⟨List.mem_cons_of_mem _ h1,h2⟩
    · by_cases hk:k=.free
      · subst hk
        rw[if_pos (by rfl),List.lookup_cons] at h1
        cases e:x == n with
        | true=>
          rw[e] at h1
          have en:x=n:=eq_of_beq e
          subst en
          exact .inl ⟨List.mem_cons_self,(Option.some.inj h1).symm⟩
        | false=>rw[e] at h1;exact .inr h1
      · have hb:(k == NameKind.free)=false:=by simpa using hk
        rw[if_neg (by rw[hb];decide)] at h1
        exact .inr h1
theorem cl_mono {env:Env}{x:Str}:∀ (names:List (Str × NameKind)) (cs:List (Str × Addr)),(∃ c,cs.lookup x=some c)->∃ c,(clFrom env names cs).lookup x=some c
  | [],_,h=>h
  | (n,k)::r,cs,h=>by
    unfold clFrom
    refine cl_mono r _ ?_
    split
    · rw[List.lookup_cons]
      split
      · exact⟨_,rfl⟩
      · exact h
    · exact h
theorem cl_has {env:Env}{x:Str}:∀ (names:List (Str × NameKind)) (cs:List (Str × Addr)),(x,NameKind.free)∈names->∃ c,(clFrom env names cs).lookup x=some c
  | [],_,h=>by simp at h
  | (n,k)::r,cs,h=>by
    unfold clFrom
    rcases List.mem_cons.mp h with e | h
    · cases e
      refine cl_mono r _ ?_
      rw[if_pos (by rfl),List.lookup_cons]
      exact⟨(env.cells.lookup x).getD 0,by simp⟩
    · exact cl_has r _ h
theorem relabel_cf {scope:Scope}{env:Env}{x:Str} (hcell:∀ y∈scope.names,y.2≠.cell) (h:(relabel scope env).names.lookup x=some .cell∨(relabel scope env).names.lookup x=some .free):(x,NameKind.free)∈scope.names:=by
  have hm:∃ k,(x,k)∈(relabel scope env).names/\(k=.cell∨k=.free):=by
    rcases h with h | h
    · exact⟨_,PySem.mem_of_lookup h,.inl rfl⟩
    · exact⟨_,PySem.mem_of_lookup h,.inr rfl⟩
  obtain⟨k,hm,hk⟩:=hm
  obtain⟨⟨n,k'⟩,h1,h2⟩:=List.mem_map.mp hm
  dsimp only at h2
  split at h2
  · rename_i hc
    have:k'=.free:=by
      simp only[Bool.and_eq_true,beq_iff_eq] at hc
      exact hc.1.1
    cases h2
    subst this
    exact h1
  · cases h2
    rcases hk with rfl | rfl
    · exact absurd rfl (hcell _ h1)
    · exact h1
theorem relabel_free {env:Env}{x:Str}:∀ {names:List (Str × NameKind)},names.lookup x=some .free ->
    (names.map fun (n,k)=>if (k == NameKind.free && env.scope.kind == .function && env.kindOf n == some .cell) then (n,NameKind.cell) else (n,k)).lookup x=some .cell ∨
    (names.map fun (n,k)=>if (k == NameKind.free && env.scope.kind == .function && env.kindOf n == some .cell) then (n,NameKind.cell) else (n,k)).lookup x=some .free
  | [],h=>by simp at h
  | (n,k)::r,h=>by
    have ih:=@relabel_free env x r
    rw[List.map_cons]
    dsimp only
    cases hx:x == n with
    | true=>
      simp only[List.lookup_cons,hx] at h
      cases h
      split
      · left;simp[List.lookup_cons,hx]
      · right;simp[List.lookup_cons,hx]
    | false=>
      simp only[List.lookup_cons,hx] at h
      split
      · simp only[List.lookup_cons,hx];exact ih h
      · simp only[List.lookup_cons,hx];exact ih h
section
variable {prog:Program}{w:World}{A:Around}{R:Result->Shared->Prop}{s:Shared}
theorem codeAny_compLoop_go {elt target iter:Expr}{ifs:List Expr}{scope:Scope}{pos:Pos}{it acc:Value}{env:Env} (I:Nat->Shared->Prop)
    (turn:∀ n s,I n s->wpAny (model prog w) A (pyNext it) (fun r s₁=>match r with
      | none=>R (.ok .next) s₁
      | some v=>wpAny (model prog w) A (letOwnedTupleGo target it v) (fun _ s₁'=>wpAny (model prog w) A (assign target env v) (fun _ s₂=>
          wpAny (model prog w) A (forIn ifs true fun c r=>if r=true then do let ok <- isTrue c env (eval c env);pure (ForInStep.yield ok) else pure (ForInStep.yield r)) (fun ok s₃=>
            if ok=true then wpAny (model prog w) A (eval elt env) (fun x s₄=>
              wpAny (model prog w) A (call (.builtin "list.append") [acc,x]) (fun _ s₅=>∃ m,m<n/\I m s₅) (fun _ _=>False) s₄) (fun _ _=>False) s₃
            else ∃ m,m<n/\I m s₃) (fun _ _=>False) s₂) (fun _ _=>False) s₁') (fun _ _=>False) s₁) (fun _ _=>False) s)
    (n:Nat) (h:I n s) :
    codeAny (model prog w) A (.compLoop (.ListComp elt [⟨target,iter,ifs,0⟩] scope pos) 0 it acc env) R s:=by
  refine codeAny_loop rfl I (fun n s hI=>?_) n h
  show wpAny _ A ((compTurn (.ListComp elt [⟨target,iter,ifs,0⟩] scope pos) 0 it acc env).onRaise (fun x=>do noteFrame x env;theTreesLotGoes x)) _ _ s
  refine wpAny_noted ?_
  rw[compTurn_list]
  refine wpAny_bind (wpAny_standAt (wpAny_bind (wpAny_mono (turn n s hI) (fun r s₁ h₁=>?_) fun _ _ h'=>h'.elim)))
  cases r with
  | none=>exact wpAny_pure h₁
  | some v=>
    refine wpAny_bind (wpAny_mono h₁ (fun _ s₁' h₁=>?_) fun _ _ h'=>h'.elim)
    refine wpAny_bind (wpAny_mono h₁ (fun _ s₂ h₂=>wpAny_bind (wpAny_mono h₂ (fun ok s₃ h₃=>?_) fun _ _ h'=>h'.elim)) fun _ _ h'=>h'.elim)
    cases ok with
    | false=>exact wpAny_pure ⟨rfl,h₃⟩
    | true=>
      exact wpAny_bind (wpAny_bind (wpAny_mono h₃ (fun x s₄ h₄=>wpAny_bind (wpAny_mono h₄ (fun _ s₅ h₅=>wpAny_pure (wpAny_pure ⟨rfl,h₅⟩)) fun _ _ h'=>h'.elim)) fun _ _ h'=>h'.elim))
end
def PTs (X:Cx) (ifs:List Expr) (t:TT):Prop :=
  ∀ (pins:List (Addr × Obj)) (s:Shared) (σ:St) (H:Hp) (Q:Bool->Hp->Prop),Inv X pins σ H s->t σ H Q ->
    wpAny (model X.prog X.w) X.A (forIn ifs true fun c r=>if r=true then do let ok <- isTrue c X.env (eval c X.env);pure (ForInStep.yield ok) else pure (ForInStep.yield r)) (TP X pins σ Q) X.xe s
def tTrue:TT:=fun _ H Q=>Q true H
theorem pts_nil {X:Cx}:PTs X [] tTrue:=fun _ _ _ H _ I h=>wpAny_tests_nil ⟨H,I,h⟩
theorem pts_one {X:Cx}{c:Expr}{t:TT} (h:PT X c t):PTs X [c] t:=fun pins s σ H Q I q=>wpAny_tests_one (h pins s σ H Q I q)
def Cx.blk (X:Cx) (scope:Scope) (own:List Str) (js:List Nat) (s₂:Shared) (H₂:Hp) (C:Addr) (fp:List Addr) (pins:List (Addr × Obj)):Cx where
  prog:=X.prog
  w:=X.w
  K:=X.K
  mg:=X.mg
  base:=X.base
  A:=X.A
  N:=own++js.map fun j=>X.N.getD j Str.empty
  s₀:=s₂
  H₀:=H₂
  env:=compEnvC scope (clOf scope X.env) C X.env
  outer:=X.stack
  stack:=X.stack
  ex:=fp
  fn:=fun _=>false
  calm:=X.calm
  pn:=X.pn++pins
  xe:=fun _ _=>False
def blkσ (own:List Str) (js:List Nat) (σ:St):St:=own.map (fun _=>none)++js.map fun j=>(σ[j]?).join
section
variable {X:Cx}{pins:List (Addr × Obj)}{σ:St}{H H':Hp}{s s':Shared}{scope:Scope}{own:List Str}{js:List Nat}{C:Addr}{fp:List Addr}
structure CompOk (X:Cx) (scope:Scope) (own:List Str) (js:List Nat):Prop where
  kind:scope.kind=.function
  cell:∀ y∈scope.names,y.2≠.cell
  free:∀ y∈scope.names,y.2=.free->X.env.kindOf y.1=some .cell∨X.env.kindOf y.1=some .free
  names:∀ y∈scope.names,y.2=.local -> scope.names.lookup y.1=some .local
  out:∀ j∈js,∃ x,X.N[j]?=some x/\scope.names.lookup x=some .free
theorem CompOk.cl (c:CompOk X scope own js) (I:Inv X pins σ H s):∀ x∈scope.names,x.2=.free->∃ c,X.env.cells.lookup x.1=some c:=fun x hx hf=>I.ok.has x.1 (c.free x hx hf)
theorem CompOk.look (c:CompOk X scope own js) (I:Inv X pins σ H s) {x:Str}{a:Addr} (h:(clOf scope X.env).lookup x=some a):X.env.cells.lookup x=some a:=by
  rcases cl_lookup _ _ h with ⟨h1,h2⟩ | h1
  · obtain⟨c',e⟩:=c.cl I (x,.free) h1 rfl
    have e':X.env.cells.lookup x=some c':=e
    rw[e'] at h2 ⊢
    subst h2
    rfl
  · simp at h1
theorem blk_ok (c:CompOk X scope own js) (I:Inv X pins σ H s) (hC:s.heap.objs.size<=C) (hf:∀ b∈fp,FpOk X pins H b) (ho:∀ b∈fp,∃ o,s.heap.get? b=some o):(X.blk scope own js s H C fp pins).Ok where
  mod:=I.ok.mod
  kind:=c.kind
  glob:=I.ok.glob
  blt:=I.ok.blt
  above:=hC
  inj:=fun x y a h1 h2=>I.ok.inj x y a (c.look I h1) (c.look I h2)
  has:=fun x hx=>cl_has _ _ (relabel_cf c.cell hx)
  cab:=fun x a h=>by cases h
  hd:=I.ok.hd
  frames:=I.ok.frames
  stk:=.inl rfl
  exf:=fun b hb=>by
    obtain⟨o,e⟩:=ho b hb
    exact⟨Nat.ne_of_lt (Nat.lt_of_lt_of_le (Heap.lt_size e) hC),fun x a h=>(hf b hb).2.2.2.2.1 x a (c.look I h)⟩
  bs:=I.bs
  bsz:=Nat.le_trans I.ok.bsz I.sz
  noex:=fun b o e hb=>by
    rcases (hf b hb).2.2.2.1 with z | z
    · exact I.ok.noex b o e z
    · exact absurd (Nat.lt_of_lt_of_le (Heap.lt_size e) (Nat.le_trans I.ok.bsz z)) (Nat.lt_irrefl _)
  exfs:=fun b hb hm=>by
    rcases List.mem_cons.mp (I.stkSub b hm) with z | z
    · exact (hf b hb).2.1 z
    · exact (hf b hb).2.2.1 z
  funs:=I.stack
  frf:=I.stkFree
theorem blk_len (own:List Str) (js:List Nat) (σ:St) (X:Cx):(blkσ own js σ).length=(own++js.map fun j=>X.N.getD j Str.empty).length:=by
  unfold blkσ
  simp
theorem blk_start {acc:Addr}{m:Str->Option Value}{tk:Nat}{h':Heap} (c:CompOk X scope own js) (I:Inv X pins σ H s) (hC:s.heap.objs.size<=C) (hf:∀ b∈fp,FpOk X pins H b) (ho:∀ b∈fp,∃ o,s.heap.get? b=some o)
    (hn:h'.Ns C m) (k:∀ b u,s.heap.get? b=some u->h'.get? b=some u) (hacc:s.heap.objs.size<=acc) (haC:acc≠C) (hl:h'.get? acc=some { cls:=.type "list",data:=.seq ([]:List Value).toArray 0 }) :
    Inv (X.blk scope own js s H C fp pins) [] (blkσ own js σ) (upd H acc (.lst [])) { s with heap:=h',toks:=tk }:=by
  have ok:=blk_ok c I hC hf ho
  have fresh:∀ {a:Addr},s.heap.objs.size<=a->H a=none:=fun h=>I.hok.fresh h
  have neA:∀ b o,s.heap.get? b=some o->b≠acc:=fun b o e=>Nat.ne_of_lt (Nat.lt_of_lt_of_le (Heap.lt_size e) hacc)
  refine⟨ok,rfl,I.bare,Un.laid k hacc (fresh hacc),⟨m,hn,fun i x v e1 e2 e3=>?_⟩,fun x a e=>?_,?_,fun x a e=>?_,fun p hp=>?_,I.hok.laid k hacc ⟨Nat.zero_le _,[],0,.nil,hl⟩,blk_len own js σ X⟩
  ·
    have hi:own.length<=i:=by
      refine Nat.le_of_not_lt fun hi=>?_
      unfold blkσ at e2
      rw[List.getElem?_append_left (by simpa using hi),List.getElem?_map] at e2
      cases q:own[i]? with
      | none=>rw[q] at e2;cases e2
      | some z=>rw[q] at e2;cases e2
    have e1':(js.map fun j=>X.N.getD j Str.empty)[i - own.length]?=some x:=by
      have e1:(own++js.map fun j=>X.N.getD j Str.empty)[i]?=some x:=e1
      rwa [List.getElem?_append_right hi] at e1
    have e2':(js.map fun j=>(σ[j]?).join)[i - own.length]?=some (some v):=by
      unfold blkσ at e2
      rw[List.getElem?_append_right (by simpa using hi)] at e2
      simpa using e2
    rw[List.getElem?_map] at e1' e2'
    cases q:js[i - own.length]? with
    | none=>rw[q] at e1';cases e1'
    | some j=>
      rw[q] at e1' e2'
      obtain⟨x',hx',hfree⟩:=c.out j (List.mem_of_getElem? q)
      have ex:x'=x:=by
        have:X.N.getD j Str.empty=x:=Option.some.inj e1'
        rw[List.getD_eq_getElem?_getD,hx'] at this
        exact this
      subst ex
      have eσ:σ[j]?=some (some v):=by
        have e2'':(σ[j]?).join=some v:=Option.some.inj e2'
        cases r:σ[j]? with
        | none=>rw[r] at e2'';cases e2''
        | some z=>rw[r] at e2'';cases z with
          | none=>cases e2''
          | some y=>cases e2'';rfl
      have hmem:(x',NameKind.free)∈scope.names:=PySem.mem_of_lookup hfree
      have hkX:=c.free _ hmem rfl
      have vis:Vis X.env.scope x':=by
        rcases hkX with z | z
        · exact .inr (.inl z)
        · exact .inr (.inr z)
      obtain⟨m0,hn0,hl0⟩:=I.loc
      obtain⟨u,r,l⟩:=hl0 j x' v hx' eσ vis
      refine⟨u,r,.inr ⟨relabel_free hfree,?_⟩⟩
      obtain⟨a,ha⟩:=cl_has (env:=X.env) scope.names [] hmem
      refine⟨a,ha,?_⟩
      have haX:=c.look I ha
      rcases l with ⟨z,_⟩ | ⟨_,a',ha',⟨o,ho',hd⟩⟩
      · have z:X.env.kindOf x'=some .local:=z
        rcases hkX with y | y
        · have y:X.env.kindOf x'=some .cell:=y
          rw[z] at y;cases y
        · have y:X.env.kindOf x'=some .free:=y
          rw[z] at y;cases y
      · rw[haX] at ha';cases ha'
        exact⟨o,k _ o ho',hd⟩
  · obtain⟨v,o,ho',hd⟩:=I.cell x a (c.look I e)
    exact⟨v,o,k _ o ho',hd⟩
  · show upd H acc (.lst []) C=none
    rw[upd_ne (Ne.symm haC)]
    exact fresh hC
  · have e':=c.look I e
    obtain⟨v,o,ho',hd⟩:=I.cell x a e'
    rw[upd_ne (neA a o ho')]
    exact I.freeC x a e'
  · have hp:p∈X.pn++pins:=by simpa[Cx.blk] using hp
    obtain⟨e,n,ne,nf,d⟩:=I.pin p hp
    refine⟨k _ _ e,by rw[upd_ne (neA _ _ e)];exact n,Nat.ne_of_lt (Nat.lt_of_lt_of_le (Heap.lt_size e) hC),fun z=>?_,d⟩
    rcases List.mem_cons.mp (I.stkSub _ z) with q | q
    · exact ne q
    · exact nf q
theorem blk_end {τ:St}{pl:List (Addr × Obj)} (I:Inv X pins σ H s) (hf:∀ b∈fp,FpOk X pins H b) (J:Inv (X.blk scope own js s H C fp pins) pl τ H' s'):Inv X pins σ H' s' :=
  I.call' J.os J.base J.hok J.bare fun b hb=>⟨(hf b hb).2.2.2.1,(hf b hb).2.1,(hf b hb).2.2.2.2.1,(hf b hb).2.2.2.2.2⟩
theorem Inv.other {h':Heap} (I:Inv X pins σ H s) (hs:Heap.SameBut C s.heap h') (hn:H C=none) (hL:C≠X.env.locals) (h1:X.s₀.heap.objs.size<=C) (h2:∀ x c,X.env.cells.lookup x=some c->c≠C) (h3:∀ p∈X.pn++pins,p.1≠C) :
    Inv X pins σ H { s with heap:=h' } :=
  I.turned (t':=s.toks) (fun b o hb e=>(hs.2 b hb).trans e) hn hL (.inr h1) h2 h3
end
def GKeep (own:List Str) (g:TG):Prop:=∀ (js:List Nat) (σ:St) (x:V) (H:Hp) (Q:St->Hp->Prop),g x (blkσ own js σ) H Q ->
  g x (blkσ own js σ) H fun τ H'=>(∀ (j:Nat) v,(blkσ own js σ)[j]?=some (some v)->τ[j]?=some (some v))/\Q τ H'
theorem blkσ_own {own:List Str}{js:List Nat}{σ:St}{i:Nat}{v:V} (hi:i<own.length):(blkσ own js σ)[i]?≠some (some v):=by
  unfold blkσ
  rw[List.getElem?_append_left (by simpa using hi),List.getElem?_map]
  cases own[i]? with
  | none=>intro h;cases h
  | some z=>intro h;cases h
theorem gkeep_name {own:List Str}{i:Nat} (hi:i<own.length:=by decide):GKeep own (gName i):=fun js σ x H Q h=>⟨fun j v e=>by
  have hj:j≠i:=by rintro rfl;exact blkσ_own hi e
  rw[List.getElem?_set_ne (Ne.symm hj)]
  exact e,h⟩
theorem gkeep_two {K:PySem.W.Frag}{own:List Str}{i k:Nat} (hi:i<own.length:=by decide) (hk:k<own.length:=by decide):GKeep own (gTup K 2 (gCons (gName i) (gCons (gName k) gNil))):=fun js σ x H Q h=>by
  obtain⟨a,xs,rfl,hq,hl,v,r,rfl,w,r',rfl,e,h⟩:=h
  refine⟨a,_,rfl,hq,hl,v,_,rfl,w,r',rfl,e,fun j z e=>?_,h⟩
  have hj:j≠i:=by rintro rfl;exact blkσ_own hi e
  have hj':j≠k:=by rintro rfl;exact blkσ_own hk e
  rw[List.getElem?_set_ne (Ne.symm hj'),List.getElem?_set_ne (Ne.symm hj)]
  exact e
def tCompW (own:List Str) (js:List Nat) (g:TG) (tt:TT) (te:TE) (σ:St) (J:It) (H1:Hp) (Q:VK):Prop :=
  ∀ acc,H1 acc=none->∃ (W:Nat->Hp->Prop) (n:Nat),W 0 (upd H1 acc (.lst []))/\∀ i H2,W i H2 ->
    (J.stop i H2/\Q (.ref acc) H2)∨(i<n/\J.go i H2/\∀ x H3,J.yld i H2 x H3->g x (blkσ own js σ) H3 fun τ H4=>tt τ H4 fun c H5=>
      if c=true then te τ H5 fun y H6=>∃ ys,H6 acc=some (.lst ys)/\ys.length<sizeLine/\W (i+1) (upd H6 acc (.lst (ys++[y]))) else W (i+1) H5)
def tComp (own:List Str) (js:List Nat) (wi:TI) (g:TG) (tt:TT) (te:TE):TE:=fun σ H Q=>wi σ H fun J H1=>tCompW own js g tt te σ J H1 Q
section
variable {X:Cx}{scope:Scope}{own:List Str}{js:List Nat}{elt iter target:Expr}{ifs:List Expr}{wi:TI}{g:TG}{tt:TT}{te:TE}{pos:Pos}
theorem blk_run {pins:List (Addr × Obj)}{σ:St}{H2:Hp}{s₂:Shared}{it:Addr}{fp:List Addr}{tn:Nat->Heap->Prop}{J:It}{Q:VK}{E:Value->Shared->Prop}{RR:Value->Addr->Result->Shared->Prop}
    (c:CompOk X scope own js) (hc:X.calm=true) (hgk:GKeep own g)
    (hg:∀ s H C fp pins,PG (X.blk scope own js s H C fp pins) target g) (ht:∀ s H C fp pins,PTs (X.blk scope own js s H C fp pins) ifs tt) (he:∀ s H C fp pins,PE (X.blk scope own js s H C fp pins) elt te)
    (I:Inv X pins σ H2 s₂) (T:Turn X.prog X.w X.K target J fp it tn) (st:tn 0 s₂.heap) (hf:∀ b∈fp,FpOk X pins H2 b) (h:tCompW own js g tt te σ J H2 Q)
    (hRR:∀ acc C H' s' m,s₂.heap.objs.size<=C->H' C=none->Inv X pins σ H' s'->s'.heap.Ns C m->Q (.ref acc) H'->RR (.ref acc) C (.ok .next) s') :
    wpAny (model X.prog X.w) X.A (newList []) (fun acc s₃=>wpAny (model X.prog X.w) X.A (newFunctionEnv scope X.env.globals (clOf scope X.env) [] X.env.qual none .none (some X.env)) (fun cenv s₄=>
      codeAny (model X.prog X.w) X.A (.compStart (.ListComp elt [⟨target,iter,ifs,0⟩] scope pos) 0 (.ref it) acc { cenv with scope:=relabel scope X.env }) (RR acc cenv.locals) s₄) E s₃) E s₂:=by
  refine wpAny_newObj_type (wpAny_newFunctionEnv c.cell (by intro y hy;simp at hy) (fun h₁ hns₁ hsb₁=>?_) c.kind)
  dsimp only at hns₁ hsb₁ ⊢
  generalize hH2:s₂.heap.push { cls:=.type "list",dict:=none,data:=.seq ([]:List Value).toArray }=G2 at hns₁ hsb₁ ⊢
  have hC:G2.objs.size=s₂.heap.objs.size+1:=by rw[<- hH2,Heap.size_push]
  have hDC:s₂.heap.objs.size≠G2.objs.size:=by rw[hC];exact Nat.ne_of_lt (Nat.lt_succ_self _)
  have hCle:s₂.heap.objs.size<=G2.objs.size:=by rw[hC];exact Nat.le_succ _
  have old:∀ b o,s₂.heap.get? b=some o->h₁.get? b=some o:=fun b o e=>hsb₁.extBut b o (Nat.ne_of_lt (Nat.lt_of_lt_of_le (Heap.lt_size e) hCle)) (Heap.get?_push_of_some _ (hH2 ▸ Heap.get?_push_of_some _ e))
  have hacc:h₁.get? s₂.heap.objs.size=some { cls:=.type "list",data:=.seq ([]:List Value).toArray 0 }:=hsb₁.extBut _ _ hDC (Heap.get?_push_of_some _ (hH2 ▸ Heap.get?_push_size _ rfl))
  have ho2:∀ b∈fp,∃ o,s₂.heap.get? b=some o:=fun b hb=>let ⟨o,e,_⟩:=T.obj 0 _ st b hb;⟨o,e⟩
  have I0:∀ tk,Inv (X.blk scope own js s₂ H2 G2.objs.size fp pins) [] (blkσ own js σ) (upd H2 s₂.heap.objs.size (.lst [])) { s₂ with heap:=h₁,toks:=tk }:=fun tk=>
    blk_start c I hCle hf ho2 hns₁ old (Nat.le_refl _) hDC hacc
  obtain⟨W,nn,w0,turn⟩:=h s₂.heap.objs.size (I.hok.fresh (Nat.le_refl _))
  generalize hacc':s₂.heap.objs.size=acc at *
  generalize hGC:G2.objs.size=C at *
  have st1:tn 0 h₁:=T.keep 0 _ _ st fun b _ o e=>old b o e
  have fOk:∀ {H':Hp},(∀ b∈fp,H' b=none)->∀ b∈fp,FpOk (X.blk scope own js s₂ H2 C fp pins) [] H' b:=fun hn b hb=>by
    obtain⟨f0,f1,f2,f3,f4,f5⟩:=hf b hb
    obtain⟨o,e⟩:=ho2 b hb
    refine⟨hn b hb,Nat.ne_of_lt (Nat.lt_of_lt_of_le (Heap.lt_size e) (by rw[<- hacc'] at hCle;exact hCle)),fun z=>?_,.inl hb,fun x a h=>f4 x a (c.look I h),fun p hp=>f5 p (by simpa[Cx.blk] using hp)⟩
    rcases List.mem_cons.mp (I.stkSub b z) with q | q
    · exact f1 q
    · exact f2 q
  have loop:∀ s₃:Shared,s₃={ s₂ with heap:=h₁,toks:=s₂.toks+([]:List (Str × Value)).length } ->
      codeAny (model X.prog X.w) X.A (.compLoop (.ListComp elt [⟨target,iter,ifs,0⟩] scope pos) 0 (.ref it) (.ref acc) (compEnvC scope (clOf scope X.env) C X.env)) (RR (.ref acc) C) s₃:=by
    rintro s₃ rfl
    refine codeAny_compLoop_go (fun n s'=>∃ i H',n=nn - i/\Inv (X.blk scope own js s₂ H2 C fp pins) [] (blkσ own js σ) H' s'/\tn i s'.heap/\(∀ b∈fp,H' b=none)/\W i H') ?_ nn ⟨0,_,rfl,I0 _,st1,fun b hb=>?_,w0⟩
    · rintro n s3 ⟨i,H3,en,I3,st3,fr3,w3⟩
      rcases turn i H3 w3 with ⟨stop,qn⟩ | ⟨hin,go,step⟩
      · refine thn (T.done (X.blk scope own js s₂ H2 C fp pins) rfl rfl rfl hc i [] s3 _ H3 (fun _ _=>False) I3 (fOk fr3) st3 stop) fun r s4 ⟨hr,I4⟩=>?_
        subst hr
        obtain⟨m,hn,_⟩:=I4.loc
        exact hRR acc C H3 s4 m hCle I4.free (blk_end I hf I4) hn qn
      · refine thn (T.item (X.blk scope own js s₂ H2 C fp pins) rfl rfl rfl hc i [] s3 _ H3 (fun _ _=>False) I3 (fOk fr3) st3 go) fun r s4 ⟨u,hr,h4⟩=>?_
        subst hr
        refine thn h4 fun _ s5 ⟨x,H5,I5,r5,y5,st5,fr5⟩=>?_
        have I5':=I5.pinned (fOk fr5) (T.obj _ _ st5)
        have again:∀ {σ7:St}{H7:Hp}{s7:Shared},Inv (X.blk scope own js s₂ H2 C fp pins) ([]++pinsAt fp s5.heap) σ7 H7 s7->(∀ (j:Nat) v,(blkσ own js σ)[j]?=some (some v)->σ7[j]?=some (some v))->W (i+1) H7 ->
            ∃ m,m<n/\∃ i H',m=nn - i/\Inv (X.blk scope own js s₂ H2 C fp pins) [] (blkσ own js σ) H' s7/\tn i s7.heap/\(∀ b∈fp,H' b=none)/\W i H':=fun {σ7 H7 s7} I7 hw w7=>by
          refine⟨nn - (i+1),by omega,i+1,H7,rfl,(I7.unpinned).weak ((blk_len own js σ X).trans I7.len.symm) hw,T.keep _ _ _ st5 fun b hb o e=>(I7.pin (b,o) (List.mem_append_right _ (List.mem_append_right _ (mem_pinsAt hb e)))).1,fun b hb=>?_,w7⟩
          obtain⟨o,e,d⟩:=T.obj _ _ st5 b hb
          exact (I7.pin (b,o) (List.mem_append_right _ (List.mem_append_right _ (mem_pinsAt hb e)))).2.1
        refine thn (hg s₂ H2 C fp pins _ s5 _ H5 x u _ I5' r5 (hgk _ _ _ _ _ (step x H5 y5))) fun _ s6 ⟨σ6,H6,I6,kp,q6⟩=>?_
        refine thn (ht s₂ H2 C fp pins _ s6 σ6 H6 _ I6 q6) fun ok s7 ⟨H7,I7,q7⟩=>?_
        cases ok with
        | false=>
          exact again I7 kp q7
        | true=>
          refine thn (he s₂ H2 C fp pins _ s7 σ6 H7 _ I7 q7) fun y s8 ⟨v,H8,I8,r8,ys,hl,hz,w8⟩=>?_
          refine thn (mt_append (X:=X.blk scope own js s₂ H2 C fp pins) _ s8 σ6 H8 (.ref acc) [v] (.ref acc) [y] (fun _ H9=>W (i+1) H9) I8 rfl (.cons r8 .nil) ⟨acc,ys,v,rfl,rfl,hl,hz,w8⟩) fun _ s9 ⟨_,H9,I9,_,w9⟩=>?_
          exact again I9 kp w9
    · rw[upd_ne ?_]
      · exact (hf b hb).1
      · obtain⟨o,e⟩:=ho2 b hb
        rw[<- hacc']
        exact Nat.ne_of_lt (Heap.lt_size e)
  exact codeAny_compStart_list (loop _ rfl) (T.self _ 0 _ _ _ st1 (loop _ rfl))
theorem pe_comp (c:CompOk X scope own js) (hc:X.calm=true) (hi:PI X target iter wi) (hgk:GKeep own g)
    (hg:∀ s H C fp pins,PG (X.blk scope own js s H C fp pins) target g) (ht:∀ s H C fp pins,PTs (X.blk scope own js s H C fp pins) ifs tt) (he:∀ s H C fp pins,PE (X.blk scope own js s H C fp pins) elt te)
    (hs:∀ x,foldedSetIterable iter X.env x=pure x:=by intro _;rfl):PE X (.ListComp elt [⟨target,iter,ifs,0⟩] scope pos) (tComp own js wi g tt te):=by
  intro pins s σ H Q I h
  rw[eval_ListComp]
  refine wpAny_comprehension_free (use:=none) rfl hs (closure_cl (c.cl I)) c.kind c.names (thn (hi pins s σ H _ I h) fun v s1 h1=>thn h1 fun itv s2 h2=>?_)
  obtain⟨it,fp,tn,J,H2,e,I2,T,st2,f2,hw⟩:=h2
  subst e
  refine blk_run (RR:=fun acc C=>compPost (model X.prog X.w) X.A X.xe none (EP X pins σ Q) acc C) c hc hgk hg ht he I2 T st2 f2 hw ?_
  intro acc C H' s' m hCs hCn I' hn q
  refine⟨m,hn,fun h' hs'=>⟨.ref acc,H',I'.other hs' hCn ?_ ?_ ?_ ?_,rfl,q⟩⟩
  · exact Nat.ne_of_gt (Nat.lt_of_lt_of_le I2.lt hCs)
  · exact Nat.le_trans I2.sz hCs
  · intro x a e z
    obtain⟨v,q⟩:=I2.cell x a e
    exact absurd (Nat.lt_of_lt_of_le q.lt (by rw[z];exact hCs)) (Nat.lt_irrefl _)
  · intro p hp z
    exact absurd (Nat.lt_of_lt_of_le (Heap.lt_size (I2.pin p hp).1) (by rw[z];exact hCs)) (Nat.lt_irrefl _)
theorem ps_comp {i:Nat}{y:Str}{py spos:Pos} (hN:X.N.Nodup) (hy:X.N[i]?=some y) (hyl:X.env.scope.names.lookup y=some .local) (c:CompOk X scope own js) (hc:X.calm=true) (hi:PI X target iter wi) (hgk:GKeep own g)
    (hg:∀ s H C fp pins,PG (X.blk scope own js s H C fp pins) target g) (ht:∀ s H C fp pins,PTs (X.blk scope own js s H C fp pins) ifs tt) (he:∀ s H C fp pins,PE (X.blk scope own js s H C fp pins) elt te)
    (hsw:swapsWith (.ListComp elt [⟨target,iter,ifs,0⟩] scope pos) (some (.Name y py)) spos.line X.env=pure true:=by rfl)
    (hs:∀ x,foldedSetIterable iter X.env x=pure x:=by intro _;rfl):PS X (.Assign [.Name y py] (.ListComp elt [⟨target,iter,ifs,0⟩] scope pos) spos) (tAsg (tComp own js wi g tt te) (gName i)):=by
  intro pins s σ H D I h
  rw[exec_Assign_Name_used _ _ _ _ hsw]
  refine wpAny_bind (wpAny_standAt (wpAny_bind ?_))
  show wpAny _ X.A (do let _ <- comprehension (.ListComp elt [⟨target,iter,ifs,0⟩] scope pos) scope X.env _ (newList []) false (eval iter X.env) (some (assign (.Name y py) X.env))) _ _ s
  refine wpAny_bind (wpAny_mono (wpAny_comprehension_free (use:=some (assign (.Name y py) X.env)) (Q:=fun _ s'=>SP X pins D .next s') rfl hs (closure_cl (c.cl I)) c.kind c.names
    (thn (hi pins s σ H _ I h) fun v s1 h1=>thn h1 fun itv s2 h2=>?_)) (fun _ s' hq=>wpAny_pure (wpAny_pure hq)) fun _ _ e=>e)
  obtain⟨it,fp,tn,J,H2,e,I2,T,st2,f2,hw⟩:=h2
  subst e
  refine blk_run (Q:=fun x H1=>gName i x σ H1 D.nx) (RR:=fun acc C=>compPost (model X.prog X.w) X.A X.xe (some (assign (.Name y py) X.env)) (fun _ s'=>SP X pins D .next s') acc C) c hc hgk hg ht he I2 T st2 f2 hw ?_
  intro acc C H' s' m hCs hCn I' hn q
  have hL:C≠X.env.locals:=Nat.ne_of_gt (Nat.lt_of_lt_of_le I2.lt hCs)
  have hcell:∀ x a,X.env.cells.lookup x=some a->a≠C:=by
    intro x a e z
    obtain⟨v,q⟩:=I2.cell x a e
    exact absurd (Nat.lt_of_lt_of_le q.lt (by rw[z];exact hCs)) (Nat.lt_irrefl _)
  refine wpAny_assign_Name (store_ok2 I' hN hy (.inl hyl) (v:=.ref acc) rfl (fun s2 I'' hch=>?_) (.inr hyl))
  obtain⟨a,sb,ha⟩:=hch
  have hCa:C≠a:=by
    rcases ha with rfl | ha
    · exact hL
    · exact Ne.symm (hcell _ _ ha)
  refine⟨m,hn.sameBut sb hCa,fun h' hs'=>⟨_,H',I''.other hs' hCn hL (Nat.le_trans I2.sz hCs) hcell ?_,q⟩⟩
  intro p hp z
  exact absurd (Nat.lt_of_lt_of_le (Heap.lt_size (I2.pin p hp).1) (by rw[z];exact hCs)) (Nat.lt_irrefl _)
end
section
variable {K:PySem.W.Frag}{own:List Str}{js:List Nat}{g:TG}{tt:TT}{te:TE}{σ:St}{H1:Hp}{Q:VK}
theorem comp_range {lo:Int}{n:Nat} (Pv:Addr->Nat->Hp->Prop) (h0:∀ acc,H1 acc=none->Pv acc 0 (upd H1 acc (.lst [])))
    (hs:∀ acc i H,H1 acc=none->i<n->Pv acc i H->g (.int (lo+i)) (blkσ own js σ) H fun τ H4=>tt τ H4 fun c H5=>
      if c=true then te τ H5 fun y H6=>∃ ys,H6 acc=some (.lst ys)/\ys.length<sizeLine/\(i+1<=n/\Pv acc (i+1) (upd H6 acc (.lst (ys++[y])))) else (i+1<=n/\Pv acc (i+1) H5))
    (hd:∀ acc H,H1 acc=none->Pv acc n H->Q (.ref acc) H):tCompW own js g tt te σ (Itr lo n) H1 Q:=by
  intro acc hacc
  refine⟨fun i H=>i<=n/\Pv acc i H,n,⟨Nat.zero_le _,h0 acc hacc⟩,?_⟩
  rintro i H ⟨hi,p⟩
  by_cases hlt:i<n
  · refine .inr ⟨hlt,hlt,fun x H' y=>?_⟩
    obtain⟨e,y⟩:=y
    subst e y
    exact hs acc i _ hacc hlt p
  · have e:i=n:=by omega
    subst e
    exact .inl ⟨Nat.le_refl _,hd acc H hacc p⟩
end
def compChk (scope sc:Scope) (js:List Nat) (N:List Str):Bool :=
  (scope.kind == .function) && (scope.names.all fun y=>(y.2 != .cell) && ((y.2 != .free) || (sc.names.lookup y.1 == some .cell) || (sc.names.lookup y.1 == some .free)) && ((y.2 != .local) || (scope.names.lookup y.1 == some .local))) &&
  (js.all fun j=>match N[j]? with | some x=>scope.names.lookup x == some .free | none=>false)
theorem CompOk.by {X:Cx}{scope sc:Scope}{own N:List Str}{js:List Nat} (hX:X.env.scope=sc) (hN:X.N=N) (h:compChk scope sc js N=true):CompOk X scope own js:=by
  unfold compChk at h
  simp only[Bool.and_eq_true,beq_iff_eq,List.all_eq_true,Bool.or_eq_true,bne_iff_ne,ne_eq] at h
  obtain⟨⟨h1,h2⟩,h3⟩:=h
  refine⟨h1,fun y hy=>(h2 y hy).1.1,fun y hy hf=>?_,fun y hy hl=>?_,fun j hj=>?_⟩
  · show X.env.scope.names.lookup y.1=_∨X.env.scope.names.lookup y.1=_
    rw[hX]
    rcases (h2 y hy).1.2 with (z | z) | z
    · exact absurd hf z
    · exact .inl z
    · exact .inr z
  · rcases (h2 y hy).2 with z | z
    · exact absurd hl z
    · exact z
  · have:=h3 j hj
    rw[hN]
    cases e:N[j]? with
    | none=>rw[e] at this;cases this
    | some x=>rw[e] at this;exact⟨x,rfl,by simpa using this⟩
end L2
namespace L2
open PySem PySem.Spec PyProof.Rows PySem.SeqAt
section
variable {X:Cx}
theorem Vals.bl_get {bs:List Bool}{us:List Value} (r:Vals (bs.map V.bl) us) {i:Nat}{v:Value} (e:us[i]?=some v):∃ b,bs[i]?=some b/\v=.bool b:=by
  cases q:(bs.map V.bl)[i]? with
  | none=>
    have:=r.none_of q
    rw[e] at this;cases this
  | some x=>
    obtain⟨u,h1,h2⟩:=r.get q
    rw[e] at h1;cases h1
    rw[List.getElem?_map] at q
    cases z:bs[i]? with
    | none=>rw[z] at q;cases q
    | some b=>rw[z] at q;cases q;exact⟨b,rfl,h2⟩
theorem range_all {bs:List Bool}:(List.range bs.length).all (fun i=>bs.getD i true)=bs.all id:=by
  rw[Bool.eq_iff_iff,List.all_eq_true,List.all_eq_true]
  constructor
  · intro h b hb
    obtain⟨i,hi,e⟩:=List.getElem_of_mem hb
    have:=h i (List.mem_range.mpr hi)
    simpa[List.getD_eq_getElem?_getD,hi,e] using this
  · intro h i hi
    have hi':=List.mem_range.mp hi
    have:=h bs[i] (List.getElem_mem hi')
    simpa[List.getD_eq_getElem?_getD,hi'] using this
theorem call_all (hc:X.calm=true):CallR X (.builtin "all") (fun xs H Q=>∃ (a:Addr) (bs:List Bool),xs=[.ref a]/\SqL X.K H a (bs.map V.bl)/\Q (.bl (bs.all id)) H):=by
  intro pins s σ H xs us Q I r h
  obtain⟨a,bs,rfl,hq,q⟩:=h
  obtain⟨u,rfl,r1⟩:=vals1 r
  cases r1
  obtain⟨its,rv,p,hz⟩:=I.list hq
  refine call_all_walk (wpAny_pyIter_list p.isList ?_)
  have hlt:=(let ⟨o,n,e,_⟩:=p;Heap.lt_size e:a<s.heap.objs.size)
  have hne:a≠s.heap.objs.size:=Nat.ne_of_lt hlt
  have hlen:its.toArray.size=bs.length:=by rw[List.size_toArray,<- rv.length,List.length_map]
  refine⟨s.heap.objs.size,_,_,_,_,_,fun i=>bs.getD i true,rfl,Walks.list (A:=X.A.in1) (I.ok.hd hc) _ a hne its.toArray,⟨⟨_,Heap.get?_push_size _ rfl,rfl,rfl⟩,?_⟩,?_,?_⟩
  · obtain⟨o,n,e,c,_,d⟩:=p
    exact⟨o,Heap.get?_push_of_some _ e,c,n,d⟩
  · intro i v s' Q' E' hP hQ
    have hP':its[i]?=some v:=by simpa using hP
    obtain⟨b,hb,rfl⟩:=rv.bl_get hP'
    refine wpAny_truthy_bool ?_
    dsimp only at hQ
    rw[List.getD_eq_getElem?_getD,hb] at hQ
    exact hQ
  · intro h' tk k
    rw[hlen,range_all]
    refine⟨.bl (bs.all id),H,I.kept (h':=h') (t':=tk) fun b o e=>k b o ?_ (Heap.get?_push_of_some _ e),rfl,q⟩
    intro hm
    have:b=s.heap.objs.size:=by simpa using hm
    rw[this] at e
    exact absurd (Heap.lt_size e) (Nat.lt_irrefl _)
theorem Vals.int_at {ns:List Int}{us:List Value} (r:Vals (ns.map V.int) us) {i:Nat} (h:i<ns.length):∃ t,us[i]?=some (.int ns[i] t):=by
  have q:(ns.map V.int)[i]?=some (V.int ns[i]):=by rw[List.getElem?_map,List.getElem?_eq_getElem h];rfl
  obtain⟨u,h1,t,rfl⟩:=r.get q
  exact⟨t,h1⟩
theorem range_eq:∀ {ns ms:List Int},ns.length=ms.length->((List.range ns.length).all fun i=>ns.getD i 0 == ms.getD i 0)=decide (ns=ms):=fun {ns ms} h=>by
  rw[Bool.eq_iff_iff,List.all_eq_true,decide_eq_true_iff]
  constructor
  · intro q
    refine List.ext_getElem h fun i h1 h2=>?_
    have:=q i (List.mem_range.mpr h1)
    simpa[List.getD_eq_getElem?_getD,h1,h2] using this
  · rintro rfl i hi
    simp
theorem ints_at {ns:List Int}{its:List Value} (r:Vals (ns.map V.int) its) {j:Nat} (h:j<its.toArray.size):∃ t,its.toArray[j]=.int (ns.getD j 0) t:=by
  have hj:j<ns.length:=by rw[List.size_toArray,<- r.length,List.length_map] at h;exact h
  obtain⟨t,q⟩:=r.int_at hj
  obtain⟨_,q'⟩:=List.getElem?_eq_some_iff.mp q
  exact⟨t,by simpa[List.getD_eq_getElem?_getD,hj] using q'⟩
def rNeL (K:PySem.W.Frag):R2:=fun x y H Q=>∃ (a b:Addr) (ns ms:List Int),x=.ref a/\y=.ref b/\SqL K H a (ns.map V.int)/\SqL K H b (ms.map V.int)/\Q (.bl (!decide (ns=ms))) H
theorem op_neL (hu:X.A.units<cLine):OpR X (compareOp .NotEq) (rNeL X.K):=by
  intro pins s σ H x y v u Q I rx ry h
  obtain⟨a,b,ns,ms,rfl,rfl,ha,hb,q⟩:=h
  cases rx
  cases ry
  obtain⟨its,r1,p1,_⟩:=I.list ha
  obtain⟨its2,r2,p2,_⟩:=I.list hb
  have l1:its.toArray.size=ns.length:=by rw[List.size_toArray,<- r1.length,List.length_map]
  have l2:its2.toArray.size=ms.length:=by rw[List.size_toArray,<- r2.length,List.length_map]
  by_cases hsz:its.toArray.size=its2.toArray.size
  · refine RcNeAt.lists (e:=fun i=>ns.getD i 0 == ms.getD i 0) p1.isList p2.isList hsz hu (fun j h1 h2=>?_) _ _ _ _ ?_
    · obtain⟨t1,e1⟩:=ints_at r1 h1
      obtain⟨t2,e2⟩:=ints_at r2 h2
      rw[e1,e2]
      exact EqAt.int_int _ _ _ _
    · rw[l1,range_eq (by rw[<- l1,<- l2];exact hsz)]
      exact⟨.bl _,H,I,rfl,q⟩
  · refine RcNeAt.lists_lengths p1.isList p2.isList (by simpa using hsz) hu _ _ _ _ ?_
    have ne:¬ ns=ms:=fun z=>hsz (by rw[l1,l2,z])
    rw[decide_eq_false ne] at q
    exact⟨.bl _,H,I,rfl,q⟩
end
end L2
namespace L2
open PySem PySem.Spec PyProof.Rows PySem.SeqAt
section
variable {prog:Program}{w:World}{A:Around}{R:Result->Shared->Prop}{I:Addr}{fp wr:List Addr}{n:Nat}{P:Nat->Value->Prop}{St:Nat->Heap->Prop}
end
section
variable {X:Cx}
end
end L2
namespace L2
open PySem PySem.Spec PyProof.Rows PySem.SeqAt
def Ite (K:PySem.W.Frag) (a:Addr):It :=
  ⟨fun i H=>∃ xs x,SqL K H a xs/\xs[i]?=some x,fun i H y H'=>∃ p x,H p=none/\y=.ref p/\H'=upd H p (.tup [.int i,x])/\∀ xs,SqL K H a xs->xs[i]?=some x,fun i H=>∃ xs,SqL K H a xs/\xs.length<=i⟩
theorem turn_enum {P:Program}{w:World}{K:PySem.W.Frag}{es:List Expr}{x1}{pos:Pos} (a it e:Addr) (hne:e≠it):Turn P w K (.Tuple es x1 pos) (Ite K a) [e,it] e (fun i h=>(∃ old,IsEnum h e it (i:Nat) old)/\h.IsListIter it a i) where
  mem:=by simp
  obj:=fun i h st b hb=>by
    obtain⟨⟨old,s1⟩,s2⟩:=st
    rcases List.mem_cons.mp hb with z | z
    · subst z
      exact⟨_,s1,fun v z=>nomatch z⟩
    · have z:b=it:=by simpa using z
      subst z
      obtain⟨o,e,c,d⟩:=s2
      exact⟨o,e,fun v z=>by rw[d] at z;cases z⟩
  keep:=fun i h h' st k=>by
    obtain⟨⟨old,s1⟩,s2⟩:=st
    exact⟨⟨old,k e (by simp) _ s1⟩,s2.at fun o q=>k it (by simp) o q⟩
  item:=by
    intro X hP hw hK hc i pins s σ H E I hf st hg
    subst hP hw hK
    obtain⟨xs,x,hq,hx⟩:=hg
    obtain⟨its,rv,p,hz⟩:=I.list hq
    obtain⟨u,hu,ru⟩:=rv.get hx
    obtain⟨⟨old,s1⟩,s2⟩:=st
    refine wpAny_pyNext_enum_item s1 s2 p.isList (x:=u) (by simpa using hu) hne fun h' ho hit ht hsz hk=>?_
    refine⟨_,rfl,?_⟩
    refine wpAny_letOwnedTupleGo_enum ho fun h'' he hs=>?_
    have fresh:H s.heap.objs.size=none:=I.hok.fresh (Nat.le_refl _)
    have k:∀ b o,b ∉ [e,it]->s.heap.get? b=some o->h''.get? b=some o:=fun b o hb q=>by
      have hb':b≠e/\b≠it:=by simpa using hb
      exact (hs.2 b hb'.1).trans (hk b o hb'.1 hb'.2 q)
    have nE:∀ b∈[e,it],H b=none:=fun b hb=>(hf b hb).1
    have nit:∀ b u,H b=some u->b ∉ [e,it]:=fun b u q z=>by rw[nE b z] at q;cases q
    have hpe:s.heap.objs.size≠e:=Nat.ne_of_gt (Heap.lt_size s1)
    have htup:h''.get? s.heap.objs.size=some { cls:=.type "tuple",data:=.seq #[.int i s.toks,u] }:=(hs.2 _ hpe).trans ht
    have newOk:ObjOk X.prog X.w (upd H s.heap.objs.size (.tup [.int i,x])) h'' s.heap.objs.size (.tup [.int i,x]):=by
      refine⟨?_,[.int i s.toks,u],.cons ⟨_,rfl⟩ (.cons ru .nil),⟨_,htup,rfl,rfl,0,rfl⟩⟩
      show 2<=sizeLine
      decide
    have I1:Inv X pins σ (upd H s.heap.objs.size (.tup [.int i,x])) { s with heap:=h'',toks:=s.toks+1 }:=by
      refine I.step (g':=s.gens) (d':=s.drawn) (ch:=[e,it]) (fun b hb=>?_) (fun b o _ _ hc q _=>k b o hc q) (fun b o _ _ hc q _=>⟨o.slots,k b o hc q⟩) (fun b o _ q n=>?_) (fun b o hc q=>⟨o,k b o hc q⟩)
        (fun b xs q=>by rw[upd_ne (ne_of_none q fresh)];exact q) (fun b o xs q=>by rw[upd_ne (ne_of_none q fresh)];exact q) (fun b ps q=>⟨#[],by rw[upd_ne (ne_of_none q fresh),q];simp⟩) (fun m hm=>?_) (fun b ob q=>?_) I.bare
      · obtain⟨f0,f1,f2,f3,f4,f5⟩:=hf b hb
        exact⟨f3,f1,f4,f5⟩
      · rw[upd_ne (Nat.ne_of_lt (Heap.lt_size q))]
        exact n
      · obtain⟨o,es,ep,ho,r⟩:=hm
        refine⟨o,es,ep,k _ o (fun z=>?_) ho,r⟩
        exact (hf _ z).2.1 rfl
      · by_cases hb:b=s.heap.objs.size
        · subst hb
          rw[upd_same] at q;cases q
          exact newOk
        · rw[upd_ne hb] at q
          refine (I.hok b ob q).stay (fun c v hc r=>k c v ?_ r) (fun c r=>by rw[upd_ne (ne_of_none r fresh)];exact r) fun c xs r=>by rw[upd_ne (ne_of_none r fresh)];exact r
          rcases hc with z | z
          · rw[z];exact nit b ob q
          · exact nit c _ z
    refine⟨.ref s.heap.objs.size,_,I1,rfl,⟨s.heap.objs.size,x,fresh,rfl,rfl,fun ys hy=>by rw[I.list_inj hy hq];exact hx⟩,⟨⟨u,?_⟩,?_⟩,fun b hb=>?_⟩
    · have he:IsEnum h'' e it ((i:Int)+1) u:=he
      show IsEnum h'' e it ((i+1:Nat):Int) u
      rw[show ((i+1:Nat):Int)=(i:Int)+1 by omega]
      exact he
    · exact hit.extBut hs.extBut (Ne.symm hne)
    · have lt:b<s.heap.objs.size:=by
        rcases List.mem_cons.mp hb with z | z
        · rw[z];exact Heap.lt_size s1
        · have z:b=it:=by simpa using z
          rw[z]
          obtain⟨o,q,_⟩:=s2
          exact Heap.lt_size q
      rw[upd_ne (Nat.ne_of_lt lt)]
      exact nE b hb
  done:=by
    intro X hP hw hK hc i pins s σ H E I hf st hg
    subst hP hw hK
    obtain⟨xs,hq,hx⟩:=hg
    obtain⟨its,rv,p,hz⟩:=I.list hq
    obtain⟨⟨old,s1⟩,s2⟩:=st
    obtain⟨f0,f1,f2,f3,f4,f5⟩:=hf it (by simp)
    have hl:=rv.length
    exact wpAny_pyNext_enum_end (I.ok.hd hc) s1 s2 p.isList (by simp;omega) fun h' eb=>⟨rfl,I.turned (t':=s.toks) (fun b o hb q=>eb b o hb q) f0 f1 f3 f4 f5⟩
  self:=fun _ _ _ _ _ st h=>by
    obtain⟨⟨old,s1⟩,_⟩:=st
    exact wpAny_pyIter_enum s1 h
section
variable {X:Cx}
theorem call_isinst:CallR X (.builtin "isinstance") (fun xs H Q=>∃ x T t b,xs=[x,.ty T]/\TyOf X.K H x t/\PySem.W.kitOne X.K t (.type T)=some b/\Q (.bl b) H):=by
  intro pins s σ H xs us Q I r h
  obtain⟨x,T,t,b,rfl,ty,e,q⟩:=h
  obtain⟨u,u2,rfl,r1,r2⟩:=vals2 r
  cases r2
  exact isinst_ok I r1 ty e fun tk=>⟨.bl b,H,I.tok _,rfl,q⟩
end
end L2
namespace L2
open PySem PySem.Spec PyProof.Rows
section
variable {κ:Type} [DecidableEq κ]
end
section
variable {P:Program}{w:World}{H:Hp}{h:Heap}{a:Addr}
end
section
variable {X:Cx}{pins:List (Addr × Obj)}{σ:St}{H:Hp}{s:Shared}{a:Addr}{y v:V}{u r:Value}{o:Option V}{A:Around}{E:Value->Shared->Prop}
end
section
variable {X:Cx}{pins:List (Addr × Obj)}{σ:St}{H:Hp}{s:Shared}{a:Addr}{kvs:List (Key × V)}{k:Key}{u:Value}{A:Around}{E:Value->Shared->Prop}
end
section
variable {X:Cx}{o i e value:Expr}{pos pos' tpos:Pos}{td ty tv:TE}
end
section
variable {X:Cx}{pos:Pos}
end
structure M1 (X:Cx) (o:Expr) (m:Str) (apos:Pos) (e:Expr) (cpos:Pos):Prop where
  base:attributeBase o m X.env (eval o X.env)=eval o X.env
  few:((backTo cpos (starEach [e] X.env)).all (fun x=>!x.1) && (backToKw cpos (keywordEach [] X.env)).all (fun x=>x.1.isSome)
    && decide (([e]:List Expr).length+([]:List Keyword).length+(if ([]:List Keyword).isEmpty then 0 else 1)<30))=true
  line:(apos.endLine == cpos.line)=true
  trees:backTo cpos (starEach [e] X.env)=[(false,eval e X.env)]
structure M2 (X:Cx) (o:Expr) (m:Str) (apos:Pos) (e f:Expr) (cpos:Pos):Prop where
  base:attributeBase o m X.env (eval o X.env)=eval o X.env
  few:((backTo cpos (starEach [e,f] X.env)).all (fun x=>!x.1) && (backToKw cpos (keywordEach [] X.env)).all (fun x=>x.1.isSome)
    && decide (([e,f]:List Expr).length+([]:List Keyword).length+(if ([]:List Keyword).isEmpty then 0 else 1)<30))=true
  line:(apos.endLine == cpos.line)=true
  trees:backTo cpos (starEach [e,f] X.env)=[(false,eval e X.env),(false,eval f X.env)]
section
variable {X:Cx}{pins:List (Addr × Obj)}{σ:St}{H:Hp}{s:Shared}{a:Addr}{y d:V}{u r:Value}{o:Option V}{A:Around}{E:Value->Shared->Prop}
end
section
variable {X:Cx}{o e f:Expr}{apos cpos:Pos}{td ty tx:TE}
end
section
variable {X:Cx}{pins:List (Addr × Obj)}{σ:St}{H:Hp}{s:Shared}{a:Addr}{kvs:List (Key × V)}{A:Around}{E:Value->Shared->Prop}
end
section
variable {X:Cx}{pins:List (Addr × Obj)}{σ:St}{H:Hp}{s:Shared}{a:Addr}{y:V}{u:Value}{A:Around}{E:Value->Shared->Prop}
end
end L2
namespace L2
open PySem PySem.Spec PyProof.Rows
section
variable {κ:Type} [DecidableEq κ]
end
end L2
namespace L2
open PySem PySem.Spec PyProof.Rows PySem.SeqAt
section
variable {prog:Program}{w:World}{A:Around}{E:Value->Shared->Prop}{s:Shared}
theorem nextOf_tup {it t:Addr}{i:Nat}{items:Array Value}{x:Value}{Q:Value->Shared->Prop} (hit:s.heap.IsTupleIter it t i) (ht:s.heap.IsTuple t items) (hx:items[i]?=some x)
    (hQ:∀ h',h'.IsTupleIter it t (i+1)->Heap.SameBut it s.heap h'->Q x { s with heap:=h' }):wpAny (model prog w) A (Builtin.SmallTypes.nextOf (.ref it)) Q E s:=by
  obtain⟨o,ho,hc,hd⟩:=id hit
  obtain⟨ol,hol,_,nl,hdl⟩:=ht
  unfold Builtin.SmallTypes.nextOf
  refine wpAny_bind (wpAny_callSpecial?_slot (name:=Str.ofString "__next__") hit.typeIs F.slot_tuple_iterator_next (wpAny_call_entry F.slot_tuple_iterator_next hit.typeIs F.entry_tuple_iterator_next ?_ (F.args_tuple_iterator_next_1 _)))
  show wpAny _ _ (field (.ref it) 0 >>= _) _ _ s
  refine wpAny_bind (wpAny_field ho hd (x:=.ref t) rfl ?_)
  show wpAny _ _ (if (Value.ref t == Value.none)=true then _ else _) _ _ s
  rw[if_neg (show ¬ ((Value.ref t == Value.none)=true) from Bool.false_ne_true)]
  show wpAny _ _ (field (.ref it) 1 >>= _) _ _ s
  refine wpAny_bind (wpAny_field ho hd (x:=.int i 0) rfl ?_)
  show wpAny _ _ (seqItems? (.ref t) >>= _) _ _ s
  refine wpAny_bind (wpAny_seqItems hol hdl ?_)
  simp only[Int.toNat_natCast,hx]
  refine wpAny_bind (wpAny_setField ho hd (by simp) (wpAny_pure ⟨x,rfl,wpAny_pure (hQ _ ?_ (Heap.SameBut.update ..))⟩))
  exact⟨_,Heap.get?_update_self _ ho (Obj.isFreed_of_fields (Obj.data_mapFields hd _)),(Obj.cls_mapFields ..).trans hc,by rw[Obj.data_mapFields hd];simp[rawInt]⟩
theorem nextOf_tup_end {it t:Addr}{i:Nat}{items:Array Value}{Q:Value->Shared->Prop} (hh:A.handled=none) (hit:s.heap.IsTupleIter it t i) (ht:s.heap.IsTuple t items) (hx:items[i]?=none)
    (hE:∀ h' e,Heap.ExtBut it s.heap h'->(∃ o,h'.get? e=some o/\o.cls=.type "StopIteration")->E (.ref e) { s with heap:=h' }):wpAny (model prog w) A (Builtin.SmallTypes.nextOf (.ref it)) Q E s:=by
  obtain⟨o,ho,hc,hd⟩:=id hit
  obtain⟨ol,hol,_,nl,hdl⟩:=ht
  unfold Builtin.SmallTypes.nextOf
  refine wpAny_bind (wpAny_callSpecial?_slot (name:=Str.ofString "__next__") hit.typeIs F.slot_tuple_iterator_next (wpAny_call_entry F.slot_tuple_iterator_next hit.typeIs F.entry_tuple_iterator_next ?_ (F.args_tuple_iterator_next_1 _)))
  show wpAny _ _ (field (.ref it) 0 >>= _) _ _ s
  refine wpAny_bind (wpAny_field ho hd (x:=.ref t) rfl ?_)
  show wpAny _ _ (if (Value.ref t == Value.none)=true then _ else _) _ _ s
  rw[if_neg (show ¬ ((Value.ref t == Value.none)=true) from Bool.false_ne_true)]
  show wpAny _ _ (field (.ref it) 1 >>= _) _ _ s
  refine wpAny_bind (wpAny_field ho hd (x:=.int i 0) rfl ?_)
  show wpAny _ _ (seqItems? (.ref t) >>= _) _ _ s
  refine wpAny_bind (wpAny_seqItems hol hdl ?_)
  simp only[Int.toNat_natCast,hx]
  refine wpAny_bind (wpAny_rule (wpAny_bind (wpAny_setField ho hd (by simp) ?_)))
  show wpAny _ _ (newExc (.type "StopIteration") [] >>= _) _ _ _
  refine wpAny_bind ?_
  simp only[newExc,newTuple]
  refine wpAny_bind (wpAny_newObj_type ?_ (by size_fits))
  refine wpAny_bind (m:=firstArgMember _ _) (wpAny_of_eq (a:=Value.none) (by first | rfl | (simp only[firstArgMember];rfl)) ?_)
  refine wpAny_newObj_type ?_ (by size_fits)
  simp only[raiseNew]
  refine wpAny_bind (wpAny_handled ?_)
  first | rw[show A.in1.handled=none from hh] | rw[hh]
  refine wpAny_bind (wpAny_pure (wpAny_throw ?_))
  exact hE _ _ (((Heap.SameBut.update ..).extBut.push _).push _) ⟨_,Heap.get?_push_size _ rfl,rfl⟩
theorem draws_tup (hh:A.handled=none) (it l:Addr) (hne:l≠it) (items:Array Value):Draws prog w A it [it,l] items.size (fun i v=>items[i]?=some v) (fun i h=>h.IsTupleIter it l i/\h.IsTuple l items) where
  live:=fun _ _ st=>let ⟨o,ho,_⟩:=st.1;⟨o,ho⟩
  frame:=fun _ _ _ st hk=>⟨st.1.at fun o e=>hk it (by simp) o e,let ⟨o,e,c⟩:=st.2;⟨o,hk l (by simp) o e,c⟩⟩
  item:=fun i s Q E hi st hQ=>by
    refine nextOf_tup st.1 st.2 (x:=items[i]) (by simp[hi]) fun h' hit' hs'=>?_
    exact hQ _ h' s.toks (by simp[hi]) ⟨hit',let ⟨o,e,c⟩:=st.2;⟨o,(hs'.2 l hne).trans e,c⟩⟩ hs'
  done:=fun s Q E st hE=>nextOf_tup_end hh st.1 st.2 (by simp) hE
end
theorem enum_new_tup (l:Addr) (items:Array Value) (n:Nat) (dct:Option Addr) (sl:Array (Option Value)) :
    Meets (Builtin.«enumerate.__new__» ⟨[.type "enumerate",.ref l],[]⟩) (fun _ R s=>s.heap.get? l=some { cls:=.type "tuple",dict:=dct,data:=.seq items n,slots:=sl } /\
      R (.ok (.ret (.ref (s.heap.push { cls:=.type "tuple_iterator",data:=.fields #[.ref l,.int 0 0] }).objs.size)))
        { s with heap:=(s.heap.push { cls:=.type "tuple_iterator",data:=.fields #[.ref l,.int 0 0] }).push { cls:=.type "enumerate",data:=.fields #[.none,.bool false,.ref s.heap.objs.size,rawInt 0,.none,.none] } }) :=
  .of_wp fun prog w A R s h=>by
    obtain⟨hp,g,d,tk,os⟩:=s;obtain⟨hl,h⟩:=h
    have hsub:=sub_enumerate
    have hL:Heap.IsTuple (Shared.heap ⟨hp,g,d,tk,os⟩) l items:=⟨_,hl,rfl,n,rfl⟩
    wp_walk using AutoSeq1.wpAny_loadPart' hl
    refine wpAny_stack_any fun st=>wpAny_pure ?_
    split
    · rename_i c _ _ _ _ _
      cases (c == Value.type "enumerate")
      · wp_walk using AutoSeq1.wpAny_loadPart' hl,wpAny_pyIter_tuple hL
        exact⟨_,rfl,h⟩
      · wp_walk using AutoSeq1.wpAny_loadPart' hl,wpAny_pyIter_tuple hL
        exact⟨_,rfl,h⟩
    · wp_walk using AutoSeq1.wpAny_loadPart' hl,wpAny_pyIter_tuple hL
      exact⟨_,rfl,h⟩
section
variable {prog:Program}{w:World}{A:Around}{E:Value->Shared->Prop}{s:Shared}
theorem enum_tup_end {e it l:Addr}{i:Nat}{items:Array Value}{old:Value}{Q:Option Value->Shared->Prop} (hh:A.handled=none) (he:IsEnum s.heap e it i old) (hit:s.heap.IsTupleIter it l i) (hl:s.heap.IsTuple l items) (hx:items[i]?=none)
    (hQ:∀ h',Heap.ExtBut it s.heap h'->Q none { s with heap:=h' }):wpAny (model prog w) A (pyNext (.ref e)) Q E s:=by
  have hT:s.TypeIs (.ref e) "enumerate":=⟨_,he,rfl⟩
  unfold pyNext
  refine wpAny_bind (wpAny_attempt (wpAny_callSpecial?_slot (name:=Str.ofString "__next__") hT F.slot_enumerate_next (wpAny_call_entry F.slot_enumerate_next hT F.entry_enumerate_next ?_ (F.args_enumerate_next_1 _))))
  show wpAny _ _ (field (.ref e) 2 >>= _) _ _ _
  refine wpAny_bind (wpAny_field he rfl (x:=.ref it) rfl ?_)
  refine wpAny_bind (nextOf_tup_end hh hit hl hx fun h' x he' hx'=>?_)
  obtain⟨o,ho,hc⟩:=hx'
  refine wpAny_bind (wpAny_isInstance (T:="StopIteration") (b:=true) ⟨o,ho,hc⟩ isSubtype_stop ?_)
  exact wpAny_pure (hQ _ he')
theorem call_enum_tup {l:Addr}{items:Array Value}{Q:Value->Shared->Prop} (hL:s.heap.IsTuple l items)
    (h:∀ h',IsEnum h' (s.heap.objs.size+1) s.heap.objs.size 0 .none->h'.IsTupleIter s.heap.objs.size l 0->(∀ b o,s.heap.get? b=some o->h'.get? b=some o)->Q (.ref (s.heap.objs.size+1)) { s with heap:=h' }) :
    wpAny (model prog w) A (call (.type "enumerate") [.ref l]) Q E s:=by
  obtain⟨⟨c,dct,dt,sl⟩,hl,hc,n,hd⟩:=hL
  replace hc:c=.type "tuple":=hc
  replace hd:dt=.seq items n:=hd
  subst hc hd
  refine callType_new F.called_enumerate (by decide) (F.typeCall_enumerate_1 _) (F.newCall_enumerate_1 _) (fun obj=>F.args_object_init_2 obj _) F.entry_enumerate_new (enum_new_tup l items n dct sl) ⟨hl,?_⟩
  have hz:(s.heap.push { cls:=.type "tuple_iterator",data:=.fields #[.ref l,.int 0 0] }).objs.size=s.heap.objs.size+1:=Heap.size_push ..
  show _/\_
  rw[hz]
  have he:IsEnum ((s.heap.push { cls:=.type "tuple_iterator",data:=.fields #[.ref l,.int 0 0] }).push { cls:=.type "enumerate",data:=.fields #[.none,.bool false,.ref s.heap.objs.size,rawInt 0,.none,.none] }) (s.heap.objs.size+1) s.heap.objs.size 0 .none:=by
    have:=Heap.get?_push_size (s.heap.push { cls:=.type "tuple_iterator",data:=.fields #[.ref l,.int 0 0] }) (o:={ cls:=.type "enumerate",data:=.fields #[.none,.bool false,.ref s.heap.objs.size,rawInt 0,.none,.none] }) rfl
    rw[hz] at this
    exact this
  exact⟨⟨_,he,rfl⟩,h _ he ⟨_,Heap.get?_push_of_some _ (Heap.get?_push_size _ rfl),rfl,rfl⟩ fun b o x=>Heap.get?_push_of_some _ (Heap.get?_push_of_some _ x)⟩
end
def IteT (K:PySem.W.Frag) (a:Addr):It :=
  ⟨fun i H=>∃ xs x,SqT K H a xs/\xs[i]?=some x,fun i H y H'=>∃ p x,H p=none/\y=.ref p/\H'=upd H p (.tup [.int i,x])/\∀ xs,SqT K H a xs->xs[i]?=some x,fun i H=>∃ xs,SqT K H a xs/\xs.length<=i⟩
theorem turn_enumT {P:Program}{w:World}{K:PySem.W.Frag}{es:List Expr}{x1}{pos:Pos} (a it e:Addr) (hne:e≠it):Turn P w K (.Tuple es x1 pos) (IteT K a) [e,it] e (fun i h=>(∃ old,IsEnum h e it (i:Nat) old)/\h.IsTupleIter it a i) where
  mem:=by simp
  obj:=fun i h st b hb=>by
    obtain⟨⟨old,s1⟩,s2⟩:=st
    rcases List.mem_cons.mp hb with z | z
    · subst z
      exact⟨_,s1,fun v z=>nomatch z⟩
    · have z:b=it:=by simpa using z
      subst z
      obtain⟨o,e,c,d⟩:=s2
      exact⟨o,e,fun v z=>by rw[d] at z;cases z⟩
  keep:=fun i h h' st k=>by
    obtain⟨⟨old,s1⟩,s2⟩:=st
    exact⟨⟨old,k e (by simp) _ s1⟩,s2.at fun o q=>k it (by simp) o q⟩
  item:=by
    intro X hP hw hK hc i pins s σ H E I hf st hg
    subst hP hw hK
    obtain⟨xs,x,hq,hx⟩:=hg
    obtain⟨its,rv,p,hz⟩:=I.tuple hq
    obtain⟨u,hu,ru⟩:=rv.get hx
    obtain⟨⟨old,s1⟩,s2⟩:=st
    have hlt:(i:Nat)<its.toArray.size:=by
      have:=(List.getElem?_eq_some_iff.mp hu).1
      simpa using this
    have nea:a≠it:=by
      rintro rfl
      obtain⟨o1,q1,c1,_⟩:=p
      obtain⟨o2,q2,c2,_⟩:=id s2
      rw[q1] at q2;cases q2
      rw[c1] at c2
      injection c2 with z
      exact absurd z (by decide)
    have nee:a≠e:=by
      rintro rfl
      obtain⟨o1,q1,c1,_⟩:=p
      have s1':s.heap.get? a=some _:=s1
      rw[q1] at s1'
      cases s1'
      injection c1 with z
      exact absurd z (by decide)
    have it2:s.heap.IsTuple a its.toArray:=p
    refine wpAny_pyNext_enum_itemD (draws_tup (A:=X.A.in1) (I.ok.hd hc) it a nea its.toArray) s1 ⟨s2,it2⟩ hlt hne (by simp[hne,Ne.symm nee]) fun u' h' tk' hu' ho hst ht hsz hk=>?_
    have eu:u'=u:=by
      have:its.toArray[i]?=some u:=by simpa using hu
      rw[this] at hu'
      exact (Option.some.inj hu').symm
    subst eu
    have hit:=hst.1
    refine⟨_,rfl,?_⟩
    refine wpAny_letOwnedTupleGo_enum ho fun h'' he hs=>?_
    have fresh:H s.heap.objs.size=none:=I.hok.fresh (Nat.le_refl _)
    have k:∀ b o,b ∉ [e,it]->s.heap.get? b=some o->h''.get? b=some o:=fun b o hb q=>by
      have hb':b≠e/\b≠it:=by simpa using hb
      exact (hs.2 b hb'.1).trans (hk b o hb'.1 hb'.2 q)
    have nE:∀ b∈[e,it],H b=none:=fun b hb=>(hf b hb).1
    have nit:∀ b u,H b=some u->b ∉ [e,it]:=fun b u q z=>by rw[nE b z] at q;cases q
    have hpe:s.heap.objs.size≠e:=Nat.ne_of_gt (Heap.lt_size s1)
    have htup:h''.get? s.heap.objs.size=some { cls:=.type "tuple",data:=.seq #[.int i tk',u'] }:=(hs.2 _ hpe).trans ht
    have newOk:ObjOk X.prog X.w (upd H s.heap.objs.size (.tup [.int i,x])) h'' s.heap.objs.size (.tup [.int i,x]):=by
      refine⟨?_,[.int i tk',u'],.cons ⟨_,rfl⟩ (.cons ru .nil),⟨_,htup,rfl,rfl,0,rfl⟩⟩
      show 2<=sizeLine
      decide
    have I1:Inv X pins σ (upd H s.heap.objs.size (.tup [.int i,x])) { s with heap:=h'',toks:=tk'+1 }:=by
      refine I.step (g':=s.gens) (d':=s.drawn) (ch:=[e,it]) (fun b hb=>?_) (fun b o _ _ hc q _=>k b o hc q) (fun b o _ _ hc q _=>⟨o.slots,k b o hc q⟩) (fun b o _ q n=>?_) (fun b o hc q=>⟨o,k b o hc q⟩)
        (fun b xs q=>by rw[upd_ne (ne_of_none q fresh)];exact q) (fun b o xs q=>by rw[upd_ne (ne_of_none q fresh)];exact q) (fun b ps q=>⟨#[],by rw[upd_ne (ne_of_none q fresh),q];simp⟩) (fun m hm=>?_) (fun b ob q=>?_) I.bare
      · obtain⟨f0,f1,f2,f3,f4,f5⟩:=hf b hb
        exact⟨f3,f1,f4,f5⟩
      · rw[upd_ne (Nat.ne_of_lt (Heap.lt_size q))]
        exact n
      · obtain⟨o,es,ep,ho,r⟩:=hm
        refine⟨o,es,ep,k _ o (fun z=>?_) ho,r⟩
        exact (hf _ z).2.1 rfl
      · by_cases hb:b=s.heap.objs.size
        · subst hb
          rw[upd_same] at q;cases q
          exact newOk
        · rw[upd_ne hb] at q
          refine (I.hok b ob q).stay (fun c v hc r=>k c v ?_ r) (fun c r=>by rw[upd_ne (ne_of_none r fresh)];exact r) fun c xs r=>by rw[upd_ne (ne_of_none r fresh)];exact r
          rcases hc with z | z
          · rw[z];exact nit b ob q
          · exact nit c _ z
    refine⟨.ref s.heap.objs.size,_,I1,rfl,⟨s.heap.objs.size,x,fresh,rfl,rfl,fun ys hy=>by rw[I.tuple_inj hy hq];exact hx⟩,⟨⟨u',?_⟩,?_⟩,fun b hb=>?_⟩
    · have he:IsEnum h'' e it ((i:Int)+1) u':=he
      show IsEnum h'' e it ((i+1:Nat):Int) u'
      rw[show ((i+1:Nat):Int)=(i:Int)+1 by omega]
      exact he
    · exact hit.extBut hs.extBut (Ne.symm hne)
    · have lt:b<s.heap.objs.size:=by
        rcases List.mem_cons.mp hb with z | z
        · rw[z];exact Heap.lt_size s1
        · have z:b=it:=by simpa using z
          rw[z]
          obtain⟨o,q,_⟩:=s2
          exact Heap.lt_size q
      rw[upd_ne (Nat.ne_of_lt lt)]
      exact nE b hb
  done:=by
    intro X hP hw hK hc i pins s σ H E I hf st hg
    subst hP hw hK
    obtain⟨xs,hq,hx⟩:=hg
    obtain⟨its,rv,p,hz⟩:=I.tuple hq
    obtain⟨⟨old,s1⟩,s2⟩:=st
    obtain⟨f0,f1,f2,f3,f4,f5⟩:=hf it (by simp)
    have hl:=rv.length
    exact enum_tup_end (I.ok.hd hc) s1 s2 (show s.heap.IsTuple a its.toArray from p) (by simp;omega) fun h' eb=>⟨rfl,I.turned (t':=s.toks) (fun b o hb q=>eb b o hb q) f0 f1 f3 f4 f5⟩
  self:=fun _ _ _ _ _ st h=>by
    obtain⟨⟨old,s1⟩,_⟩:=st
    exact wpAny_pyIter_enum s1 h
def SqB (b:Bool) (K:PySem.W.Frag) (H:Hp) (a:Addr) (xs:List V):Prop:=match b with | true=>SqL K H a xs | false=>SqT K H a xs
def IteB (b:Bool) (K:PySem.W.Frag) (a:Addr):It:=match b with | true=>Ite K a | false=>IteT K a
def iEnumB (K:PySem.W.Frag) (ta:TA):TI:=fun σ H R=>ta σ H fun vs H1=>∃ a b,vs=[.ref a]/\(∃ xs,SqB b K H1 a xs)/\R (IteB b K a) H1
theorem pi_enumB {X:Cx}{es:List Expr}{x1}{tpos:Pos}{e:Expr}{ta:TA}{p pos:Pos} (hg:Gl X "enumerate") (hm:X.mg "enumerate"=none) (ha:PA X [e] ta) (hs:starEach [e] X.env=[(false,eval e X.env)]:=by rfl) :
    PI X (.Tuple es x1 tpos) (.Call (.Name "enumerate" p) [e] [] pos) (iEnumB X.K ta):=by
  intro pins s σ H R I h
  refine Call_ (ld_blt I hg hm (show bootBuiltins "enumerate"=some (.type "enumerate") by decide +kernel) (PyProof.Rows.callWith_type1 (thn (ha pos pins s σ H _ I h) fun us s1 ⟨vs,H1,I1,r1,q1⟩=>?_) hs rfl))
  obtain⟨a,b,e1,⟨xs,hq⟩,q⟩:=q1
  subst e1
  obtain⟨u,rfl,r⟩:=vals1 r1
  cases r
  have fp:∀ b∈[s1.heap.objs.size+1,s1.heap.objs.size],FpOk X pins H1 b:=fun b hb=>by
    have ge:s1.heap.objs.size<=b:=by
      rcases List.mem_cons.mp hb with z | z
      · rw[z];exact Nat.le_succ _
      · have z:b=s1.heap.objs.size:=by simpa using z
        rw[z]
        exact Nat.le_refl _
    exact I1.fpOk ge (I1.hok.fresh ge)
  cases b with
  | true=>
    obtain⟨its,rv,pl,hz⟩:=I1.list hq
    refine call_enumerate_list pl.isList fun h' he hi hsz k=>wpAny_pyIter_enum he ?_
    exact⟨s1.heap.objs.size+1,[s1.heap.objs.size+1,s1.heap.objs.size],_,_,H1,rfl,I1.kept (t':=s1.toks) k,turn_enum a s1.heap.objs.size _ (Nat.ne_of_gt (Nat.lt_succ_self _)),⟨⟨.none,he⟩,hi⟩,fp,q⟩
  | false=>
    obtain⟨its,rv,pl,hz⟩:=I1.tuple hq
    refine call_enum_tup (show s1.heap.IsTuple a its.toArray from pl) fun h' he hi k=>wpAny_pyIter_enum he ?_
    exact⟨s1.heap.objs.size+1,[s1.heap.objs.size+1,s1.heap.objs.size],_,_,H1,rfl,I1.kept (t':=s1.toks) k,turn_enumT a s1.heap.objs.size _ (Nat.ne_of_gt (Nat.lt_succ_self _)),⟨⟨.none,he⟩,hi⟩,fp,q⟩
theorem for_enumB {b:Bool}{K:PySem.W.Frag}{a:Addr}{xs:List V}{g:TG}{tb:TS}{D:Ends}{σ:St}{H:Hp} (Pv:Nat->St->Hp->Prop) (h0:Pv 0 σ H) (hl:∀ i σ H,i<=xs.length->Pv i σ H->SqB b K H a xs)
    (hs:∀ i x p σ H,xs[i]?=some x->Pv i σ H->H p=none->g (.ref p) σ (upd H p (.tup [.int i,x])) fun σ2 H2=>tb { D with nx:=Pv (i+1),ct:=Pv (i+1),bk:=D.nx } σ2 H2) (hd:∀ σ H,Pv xs.length σ H->D.nx σ H) :
    ∃ W:Nat->Nat->St->Hp->Prop,(∃ m,W 0 m σ H)/\∀ i m σ H,W i m σ H ->
      ((IteB b K a).stop i H/\D.nx σ H)∨((IteB b K a).go i H/\∃ N:St->Hp->Prop,(∀ σ' H',N σ' H'->∃ m',m'<m/\W (i+1) m' σ' H')/\∀ x H',(IteB b K a).yld i H x H'->g x σ H' fun σ2 H2=>tb { D with nx:=N,ct:=N,bk:=D.nx } σ2 H2):=by
  refine⟨fun i m σ H=>m=xs.length - i/\i<=xs.length/\Pv i σ H,⟨xs.length,by simp,Nat.zero_le _,h0⟩,?_⟩
  rintro i m σ H ⟨rfl,hi,p⟩
  have q:=hl i σ H hi p
  by_cases hlt:i<xs.length
  · have gx:xs[i]?=some xs[i]:=by simp[hlt]
    refine .inr ⟨by cases b <;> exact⟨xs,xs[i],q,gx⟩,Pv (i+1),fun σ' H' p'=>⟨xs.length - (i+1),by omega,rfl,hlt,p'⟩,fun x H' y=>?_⟩
    have y:∃ pa z,H pa=none/\x=.ref pa/\H'=upd H pa (.tup [.int i,z])/\xs[i]?=some z:=by
      cases b with
      | true=>obtain⟨pa,z,hp,e1,e2,y⟩:=y;exact⟨pa,z,hp,e1,e2,y xs q⟩
      | false=>obtain⟨pa,z,hp,e1,e2,y⟩:=y;exact⟨pa,z,hp,e1,e2,y xs q⟩
    obtain⟨pa,z,hp,e1,e2,y'⟩:=y
    subst e1 e2
    exact hs i z pa σ H y' p hp
  · have e:i=xs.length:=by omega
    subst e
    exact .inl ⟨by cases b <;> exact⟨xs,q,Nat.le_refl _⟩,hd σ H p⟩
def rInsert:V->List V->Hp->VK->Prop:=fun x vs H Q=>∃ (l:Addr) (xs:List V) (i:Int) (y:V),x=.ref l/\vs=[.int i,y]/\H l=some (.lst xs)/\-(2 ^ 63)<=i/\i<2 ^ 63/\xs.length<sizeLine /\
  Q .non (upd H l (.lst (xs.take (if i<0 then (i+(xs.length:Int)).toNat else min i.toNat xs.length)++y::xs.drop (if i<0 then (i+(xs.length:Int)).toNat else min i.toNat xs.length))))
theorem mt_insert {X:Cx}:MtM X "list.insert" rInsert:=by
  intro pins s σ H x vs v us Q I rx rv h
  obtain⟨l,xs,i,y,rfl,rfl,hH,i0,i1,hz,q⟩:=h
  cases rx
  obtain⟨u1,u2,rfl,⟨t,rfl⟩,r2⟩:=vals2 rv
  obtain⟨z,its,n,r,hl,e⟩:=I.lstM hH
  have hfit:¬ (!Builtin.List.listFitsIndex i)=true:=by
    unfold Builtin.List.listFitsIndex
    simp
    omega
  refine call_meets F.slot_list_insert ⟨_,e,rfl⟩ F.entry_list_insert (F.args_list_insert_3 _ _ _) (AutoListH.list_insert_list_int_val_1 l its.toArray n i t u2 hfit (by rw[List.size_toArray];omega)) ⟨e,?_⟩
  refine⟨.non,_,I.lset (its':=its.take (if i<0 then (i+(its.length:Int)).toNat else min i.toNat its.length)++u2::its.drop (if i<0 then (i+(its.length:Int)).toNat else min i.toNat its.length)) hH e ?_ ?_ ?_,rfl,q⟩
  · dsimp only
    rw[List.size_toArray,<- Array.toList_inj]
    simp
    exact List.take_of_length_le (by rw[List.length_drop];exact Nat.le_refl _)
  · rw[hl]
    exact (r.take _).append (.cons r2 (r.drop _))
  · rw[List.length_append,List.length_cons,List.length_take,List.length_drop]
    omega
end L2
namespace L2
open PySem PySem.Spec PyProof.Rows PySem.SeqAt
section
variable {X:Cx}
theorem preSum_take (ns:List Int):∀ k,k<=ns.length->preSum (fun i=>ns.getD i 0) k=(ns.take k).sum
  | 0,_=>by simp[preSum]
  | k+1,h=>by
    have hk:k<ns.length:=by omega
    rw[List.take_succ_eq_append_getElem hk,List.sum_append,<- preSum_take ns k (by omega)]
    simp[preSum,List.getD_eq_getElem?_getD,hk]
theorem call_sumI (hc:X.calm=true):CallR X (.builtin "sum") (fun xs H Q=>∃ (a:Addr) (ns:List Int),xs=[.ref a]/\SqL X.K H a (ns.map V.int)/\Q (.int ns.sum) H):=by
  intro pins s σ H xs us Q I r h
  obtain⟨a,ns,rfl,hq,q⟩:=h
  obtain⟨u,rfl,r1⟩:=vals1 r
  cases r1
  obtain⟨its,rv,p,hz⟩:=I.list hq
  refine call_sum_walkG (wpAny_pyIter_list p.isList ?_)
  have hlt:=(let ⟨o,n,e,_⟩:=p;Heap.lt_size e:a<s.heap.objs.size)
  have hne:a≠s.heap.objs.size:=Nat.ne_of_lt hlt
  have hlen:its.toArray.size=ns.length:=by rw[List.size_toArray,<- rv.length,List.length_map]
  refine⟨s.heap.objs.size,_,_,_,_,_,fun i=>ns.getD i 0,rfl,Walks.list (A:=X.A.in1) (I.ok.hd hc) _ a hne its.toArray,⟨⟨_,Heap.get?_push_size _ rfl,rfl,rfl⟩,?_⟩,?_,?_,?_⟩
  · obtain⟨o,n,e,c,_,d⟩:=p
    exact⟨o,Heap.get?_push_of_some _ e,c,n,d⟩
  · intro b hb
    rcases List.mem_cons.mp hb with z | z
    · rw[z,Heap.size_push];exact Nat.lt_succ_self _
    · have z:b=a:=by simpa using z
      rw[z,Heap.size_push]
      exact Nat.lt_succ_of_lt hlt
  · intro i v e
    have hi:i<its.toArray.size:=(Array.getElem?_eq_some_iff.mp e).1
    obtain⟨t,q⟩:=ints_at rv hi
    rw[Array.getElem?_eq_getElem hi] at e
    have e':=Option.some.inj e
    rw[q] at e'
    exact⟨t,e'.symm⟩
  · intro h' tk t' k
    refine⟨.int ns.sum,H,I.kept (h':=h') (t':=tk) fun b o e=>k b o ?_ (Heap.get?_push_of_some _ e),⟨t',?_⟩,q⟩
    · intro hm
      have:b=s.heap.objs.size:=by simpa using hm
      rw[this] at e
      exact absurd (Heap.lt_size e) (Nat.lt_irrefl _)
    · rw[hlen,preSum_take ns _ (Nat.le_refl _),List.take_length]
end
end L2
namespace L2
open PySem PySem.Spec PyProof.Rows PySem.SeqAt
section
variable {X:Cx}
theorem vals_of_ints {ns:List Int}:∀ {us:List Value},IntsAre us ns->Vals (ns.map V.int) us:=by
  intro us h
  induction h with
  | nil=>exact .nil
  | cons=>rename_i ih;exact .cons ⟨_,rfl⟩ ih
end
end L2
namespace L2
open PySem PySem.Spec PyProof.Rows PySem.SeqAt
theorem Inv.pairOut {X:Cx}{pins:List (Addr × Obj)}{σ:St}{H:Hp}{s:Shared}{h':Heap}{fp:List Addr}{x y:V}{u v:Value}{tk:Nat} (I:Inv X pins σ H s) (hf:∀ b∈fp,FpOk X pins H b)
    (k:∀ b o,b ∉ fp->s.heap.get? b=some o->h'.get? b=some o) (ht:IsPair h' s.heap.objs.size u v) (hlf:∀ b∈fp,b<s.heap.objs.size) (hth:∀ b∈fp,∃ o,h'.get? b=some o) (rx:RelV x u) (ry:RelV y v) :
    Inv X pins σ (upd H s.heap.objs.size (.tup [x,y])) { s with heap:=h',toks:=tk }:=by
  have fresh:H s.heap.objs.size=none:=I.hok.fresh (Nat.le_refl _)
  have nit:∀ b o,H b=some o->b ∉ fp:=fun b o q z=>by rw[(hf b z).1] at q;cases q
  have newOk:ObjOk X.prog X.w (upd H s.heap.objs.size (.tup [x,y])) h' s.heap.objs.size (.tup [x,y]):=by
    refine⟨?_,[u,v],.cons rx (.cons ry .nil),⟨_,ht,rfl,rfl,0,rfl⟩⟩
    show 2<=sizeLine
    decide
  refine I.step (g':=s.gens) (d':=s.drawn) (ch:=fp) (fun b hb=>?_) (fun b o _ _ hc q _=>k b o hc q) (fun b o _ _ hc q _=>⟨o.slots,k b o hc q⟩) (fun b o _ q n=>?_) (fun b o hc q=>⟨o,k b o hc q⟩)
    (fun b xs q=>by rw[upd_ne (ne_of_none q fresh)];exact q) (fun b o xs q=>by rw[upd_ne (ne_of_none q fresh)];exact q) (fun b ps q=>⟨#[],by rw[upd_ne (ne_of_none q fresh),q];simp⟩) (fun m hm=>?_) (fun b ob q=>?_) I.bare
  · obtain⟨f0,f1,f2,f3,f4,f5⟩:=hf b hb
    exact⟨f3,f1,f4,f5⟩
  · rw[upd_ne (Nat.ne_of_lt (Heap.lt_size q))]
    exact n
  · obtain⟨o,es,ep,ho,r⟩:=hm
    exact⟨o,es,ep,k _ o (fun z=>(hf _ z).2.1 rfl) ho,r⟩
  · by_cases hb:b=s.heap.objs.size
    · subst hb
      rw[upd_same] at q;cases q
      exact newOk
    · rw[upd_ne hb] at q
      refine (I.hok b ob q).stay (fun c v hc r=>k c v ?_ r) (fun c r=>by rw[upd_ne (ne_of_none r fresh)];exact r) fun c xs r=>by rw[upd_ne (ne_of_none r fresh)];exact r
      rcases hc with z | z
      · rw[z];exact nit b ob q
      · exact nit c _ z
theorem Inv.turnedAll {X:Cx}{pins:List (Addr × Obj)}{σ:St}{H:Hp}{s:Shared}{h':Heap}{fp:List Addr}{tk:Nat} (I:Inv X pins σ H s) (hf:∀ b∈fp,FpOk X pins H b) (k:∀ b o,b ∉ fp->s.heap.get? b=some o->h'.get? b=some o) :
    Inv X pins σ H { s with heap:=h',toks:=tk }:=by
  have nit:∀ b o,H b=some o->b ∉ fp:=fun b o q z=>by rw[(hf b z).1] at q;cases q
  refine I.step (g':=s.gens) (d':=s.drawn) (ch:=fp) (fun b hb=>?_) (fun b o _ _ hc q _=>k b o hc q) (fun b o _ _ hc q _=>⟨o.slots,k b o hc q⟩) (fun b o _ q n=>n) (fun b o hc q=>⟨o,k b o hc q⟩) (fun _ _ q=>q) (fun _ _ _ q=>q) (fun b ps q=>⟨#[],by rw[q];simp⟩) (fun m hm=>?_) (fun b ob q=>?_) I.bare
  · obtain⟨f0,f1,f2,f3,f4,f5⟩:=hf b hb
    exact⟨f3,f1,f4,f5⟩
  · obtain⟨o,es,ep,ho,r⟩:=hm
    exact⟨o,es,ep,k _ o (fun z=>(hf _ z).2.1 rfl) ho,r⟩
  · refine (I.hok b ob q).stay (fun c v hc r=>k c v ?_ r) (fun _ q=>q) fun _ _ q=>q
    rcases hc with z | z
    · rw[z];exact nit b ob q
    · exact nit c _ z
end L2
namespace L2
open PySem PySem.Spec PyProof.Rows PySem.SeqAt
section
variable {X:Cx}
theorem op_mulB:OpR X (binaryOp .Mult) (rI (fun i j=>∃ m n,Builtin.Int.intBits i<=m/\Builtin.Int.intBits j<=n/\m+n<=134217728) fun i j=>.int (i*j)) :=
  opI fun _ _ _ _ _ _ _ hc q=>mul_int q (by obtain⟨m,n,h1,h2,h3⟩:=hc;exact IntMulOk.of_le h1 h2 h3)
theorem op_fdivB:OpR X (binaryOp .FloorDiv) (rI (fun _ j=>0<j/\Builtin.Int.intBits j<=8000) fun i j=>.int (i / j)):=opI fun i j _ _ _ _ _ hc q=>by
  have h1:(0:Int)<j:=hc.1
  have h2:j.natAbs<2 ^ 8000:=intBits_le_iff.mp hc.2
  refine floordiv_int (by omega) (by rw[Int.fdiv_eq_ediv_of_nonneg i (by omega)];exact q) (.inl (PyProof.noPylong_of_log2 ?_))
  have h3:j.natAbs.log2<8000:=(Nat.log2_lt (by omega)).mpr h2
  omega
theorem call_sumT (hc:X.calm=true):CallR X (.builtin "sum") (fun xs H Q=>∃ (a:Addr) (ns:List Int),xs=[.ref a]/\SqT X.K H a (ns.map V.int)/\Q (.int ns.sum) H):=by
  intro pins s σ H xs us Q I r h
  obtain⟨a,ns,rfl,hq,q⟩:=h
  obtain⟨u,rfl,r1⟩:=vals1 r
  cases r1
  obtain⟨its,rv,p0,hz⟩:=I.tuple hq
  have p:s.heap.IsTuple a its.toArray:=p0
  refine call_sum_walkG (wpAny_pyIter_tuple p ?_)
  have hlt:a<s.heap.objs.size:=by obtain⟨o,e,_⟩:=p;exact Heap.lt_size e
  have hne:a≠s.heap.objs.size:=Nat.ne_of_lt hlt
  have hlen:its.toArray.size=ns.length:=by rw[List.size_toArray,<- rv.length,List.length_map]
  refine⟨s.heap.objs.size,_,_,_,_,_,fun i=>ns.getD i 0,rfl,Walks.tuple (A:=X.A.in1) (I.ok.hd hc) _ a hne its.toArray,⟨⟨_,Heap.get?_push_size _ rfl,rfl,rfl⟩,?_⟩,?_,?_,?_⟩
  · obtain⟨o,e,c,d⟩:=p
    exact⟨o,Heap.get?_push_of_some _ e,c,d⟩
  · intro b hb
    rcases List.mem_cons.mp hb with z | z
    · rw[z,Heap.size_push];exact Nat.lt_succ_self _
    · have z:b=a:=by simpa using z
      rw[z,Heap.size_push]
      exact Nat.lt_succ_of_lt hlt
  · intro i v e
    have hi:i<its.toArray.size:=(Array.getElem?_eq_some_iff.mp e).1
    obtain⟨t,q⟩:=ints_at rv hi
    rw[Array.getElem?_eq_getElem hi] at e
    have e':=Option.some.inj e
    rw[q] at e'
    exact⟨t,e'.symm⟩
  · intro h' tk t' k
    refine⟨.int ns.sum,H,I.kept (h':=h') (t':=tk) fun b o e=>k b o ?_ (Heap.get?_push_of_some _ e),⟨t',?_⟩,q⟩
    · intro hm
      have:b=s.heap.objs.size:=by simpa using hm
      rw[this] at e
      exact absurd (Heap.lt_size e) (Nat.lt_irrefl _)
    · rw[hlen,preSum_take ns _ (Nat.le_refl _),List.take_length]
end
section
variable {prog:Program}{w:World}{A:Around}{E:Value->Shared->Prop}{s:Shared}
end
section
variable {X:Cx}
end
theorem comp_tup {K:PySem.W.Frag}{own:List Str}{js:List Nat}{g:TG}{tt:TT}{te:TE}{σ:St}{H1:Hp}{Q:VK}{a:Addr}{xs:List V} (Pv:Addr->Nat->Hp->Prop) (h0:∀ acc,H1 acc=none->Pv acc 0 (upd H1 acc (.lst []))) (hl:∀ acc i H,H1 acc=none->i<=xs.length->Pv acc i H->SqT K H a xs)
    (hs:∀ acc i x H,H1 acc=none->xs[i]?=some x->Pv acc i H->g x (blkσ own js σ) H fun τ H4=>tt τ H4 fun c H5=>
      if c=true then te τ H5 fun y H6=>∃ ys,H6 acc=some (.lst ys)/\ys.length<sizeLine/\(i+1<=xs.length/\Pv acc (i+1) (upd H6 acc (.lst (ys++[y])))) else (i+1<=xs.length/\Pv acc (i+1) H5))
    (hd:∀ acc H,H1 acc=none->Pv acc xs.length H->Q (.ref acc) H):tCompW own js g tt te σ (Itt K a) H1 Q:=by
  intro acc hacc
  refine⟨fun i H=>i<=xs.length/\Pv acc i H,xs.length,⟨Nat.zero_le _,h0 acc hacc⟩,?_⟩
  rintro i H ⟨hi,p⟩
  have q:=hl acc i H hacc hi p
  by_cases hlt:i<xs.length
  · refine .inr ⟨hlt,⟨xs,xs[i],q,by simp[hlt]⟩,fun x H' y=>?_⟩
    obtain⟨e,y⟩:=y
    subst e
    exact hs acc i x _ hacc (y xs q) p
  · have e:i=xs.length:=by omega
    subst e
    exact .inl ⟨⟨xs,q,Nat.le_refl _⟩,hd acc H hacc p⟩
end L2
namespace Lv
open PySem L2
theorem pe_ty {X:Cx}{x:Str}{T:String}{pos:Pos} (hg:Gl X x) (hm:X.mg x=none) (hv:bootBuiltins x=some (.type T)) (hn:x≠"__name__":=by decide) (hd:(x == ("__debug__":Str))=false:=by decide):PE X (.Name x pos) (tC (.ty T)) :=
  pe_bltn hg hm hv rfl hn hd
theorem pe_gint {X:Cx}{x:Str}{i:Int}{t:Tok}{pos:Pos} (hg:Gl X x) (hm:X.mg x=some (.int i t)) (hd:(x == ("__debug__":Str))=false:=by decide):PE X (.Name x pos) (tC (.int i)) :=
  pe_glob hg hm ⟨t,rfl⟩ hd
structure Txt (mg:Str->Option Value):Prop where
  isinstance:mg "isinstance"=none
  int:mg "int"=none
  bool:mg "bool"=none
  list:mg "list"=none
  tuple:mg "tuple"=none
  min:mg "min"=none
  max:mg "max"=none
  len:mg "len"=none
  range:mg "range"=none
  all:mg "all"=none
  sum:mg "sum"=none
  sorted:mg "sorted"=none
  zip:mg "zip"=none
theorem b_isinstance:bootBuiltins "isinstance"=some (.builtin "isinstance"):=by decide +kernel
theorem b_int:bootBuiltins "int"=some (.type "int"):=by decide +kernel
theorem b_bool:bootBuiltins "bool"=some (.type "bool"):=by decide +kernel
theorem b_list:bootBuiltins "list"=some (.type "list"):=by decide +kernel
theorem b_tuple:bootBuiltins "tuple"=some (.type "tuple"):=by decide +kernel
theorem b_min:bootBuiltins "min"=some (.builtin "min"):=by decide +kernel
theorem b_max:bootBuiltins "max"=some (.builtin "max"):=by decide +kernel
theorem b_all:bootBuiltins "all"=some (.builtin "all"):=by decide +kernel
theorem b_sum:bootBuiltins "sum"=some (.builtin "sum"):=by decide +kernel
theorem b_sorted:bootBuiltins "sorted"=some (.builtin "sorted"):=by decide +kernel
theorem kit_int_int {K:PySem.W.Frag}:PySem.W.kitOne K (.type "int") (.type "int")=some true:=by rfl
theorem kit_int_bool {K:PySem.W.Frag}:PySem.W.kitOne K (.type "int") (.type "bool")=some false:=by with_unfolding_all rfl
theorem kit_tuple_tuple {K:PySem.W.Frag}:PySem.W.kitOne K (.type "tuple") (.type "tuple")=some true:=by rfl
structure Cal (P:Program) (w:World) (K:PySem.W.Frag) (mg:Str->Option Value) (base:Heap) (k:Nat) (x:Str) (ps:List Str) (sp:Sp) (f:Addr) (fd:FuncData):Prop where
  ok:FnOk P w K mg base CX0 k f fd ps sp
  mg:mg x=some (.ref f)
  kp:PySem.W.keepIn K (.ref f)=true
  bd:Binds K fd ps []
theorem pe_cal {X:Cx}{k:Nat}{x:Str}{ps:List Str}{sp:Sp}{f:Addr}{fd:FuncData}{e:Expr}{es:List Expr}{t:TA}{p pos:Pos} (C:Cal X.prog X.w X.K X.mg X.base k x ps sp f fd) (hr:Room k X.A) (hg:Gl X x) (ha:PA X (e::es) t)
    (hdb:(x == ("__debug__":Str))=false:=by decide) (he:starEach (e::es) X.env=(false,eval e X.env)::starEach es X.env:=by rfl) (hpl:(backTo pos (starEach es X.env)).any (·.1)=false:=by rfl) :
    PE X (.Call (.Name x p) (e::es) [] pos) (tCall sp [] E0 t):=pe_call C.ok hr hg C.mg C.kp C.bd .nil pass0 ha hdb he hpl
theorem ixK_list (K:PySem.W.Frag) {X:Cx} (hK:X.K=K:=by rfl):IxR X (rIxL K):=by subst hK;exact ix_list
theorem map_get {xs:List Int}{i:Nat}{x:V} (h:(xs.map V.int)[i]?=some x):∃ p,xs[i]?=some p/\x=.int p:=by
  rw[List.getElem?_map] at h
  cases e:xs[i]? with
  | none=>rw[e] at h;cases h
  | some p=>rw[e] at h;exact⟨p,rfl,(Option.some.inj h).symm⟩
theorem _root_.L2.Same.new {q:Addr}{H:Hp}{o:HO} (h:H q=none):Same H (upd H q o):=fun b u e=>by rw[upd_ne (ne_of_none e h)];exact e
theorem _root_.L2.Same.put {q:Addr}{H H':Hp}{o:HO} (s:Same H H') (h:H q=none):Same H (upd H' q o):=fun b u e=>by rw[upd_ne (ne_of_none e h)];exact s b u e
theorem _root_.L2.Same.tup {K:PySem.W.Frag}{H H':Hp}{a:Addr}{xs:List V} (e:Same H H') (h:SqT K H a xs):SqT K H' a xs:=by
  rcases h with (h | ⟨o,h⟩) | h
  · exact .inl (.inl (e _ _ h))
  · exact .inl (.inr ⟨o,e _ _ h⟩)
  · exact .inr h
theorem ixN_of {n:Nat}{x:Int} (h0:0<=x) (h1:x<n):ixN n x=some x.toNat:=by
  unfold ixN
  rw[if_pos h0,if_pos h1]
theorem atI_int {fs:List Int}{x:Int} (h0:0<=x) (h1:x<fs.length):atI (fs.map V.int) x=some (.int (fs.getD x.toNat 0)):=by
  unfold atI
  have hx:x.toNat<fs.length:=by omega
  rw[List.length_map,ixN_of h0 h1]
  show (fs.map V.int)[x.toNat]?=_
  rw[List.getElem?_map,List.getElem?_eq_getElem hx,List.getD_eq_getElem?_getD,List.getElem?_eq_getElem hx]
  rfl
theorem cut2 {a b R:TS}{D:Ends}{σ:St}{H:Hp} (M:St->Hp->Prop) (h1:∀ R':TS,(∀ σ' H',M σ' H'->R' D σ' H')->tSeq a (tSeq b R') D σ H) (h2:∀ σ' H',M σ' H'->R D σ' H'):tSeq a (tSeq b R) D σ H:=h1 R h2
theorem cut1 {a R:TS}{D:Ends}{σ:St}{H:Hp} (M:St->Hp->Prop) (h1:∀ R':TS,(∀ σ' H',M σ' H'->R' D σ' H')->tSeq a R' D σ H) (h2:∀ σ' H',M σ' H'->R D σ' H'):tSeq a R D σ H:=h1 R h2
theorem cutG {i:Nat}{x:V}{a R:TS}{D:Ends}{σ:St}{H:Hp} (M:St->Hp->Prop) (h1:∀ R':TS,(∀ σ' H',M σ' H'->R' D σ' H')->gName i x σ H (tSeq a R' D)) (h2:∀ σ' H',M σ' H'->R D σ' H'):gName i x σ H (tSeq a R D):=h1 R h2
def Sm (p:Addr) (H H':Hp):Prop:=∀ b o,H b=some o->b≠p->H' b=some o
theorem Sm.trans {p:Addr}{H H1 H2:Hp} (a:Sm p H H1) (b:Sm p H1 H2):Sm p H H2:=fun c o h n=>b c o (a c o h n) n
theorem Sm.refl (p:Addr) (H:Hp):Sm p H H:=fun _ _ h _=>h
theorem Sm.of {p:Addr}{H H':Hp} (h:Same H H'):Sm p H H':=fun b o e _=>h b o e
theorem Sm.put {p:Addr}{H:Hp}{o:HO}:Sm p H (upd H p o):=fun b u e n=>by rw[upd_ne n];exact e
theorem Sm.free {p q:Addr}{H H':Hp} (s:Sm p H H') (hn:q≠p) (h:H' q=none):H q=none:=by
  cases e:H q with
  | none=>rfl
  | some o=>rw[s q o e hn] at h;cases h
theorem Sm.after {p:Addr}{H H1 H2:Hp} (s:Same H H1) (m:Sm p H1 H2) (h:H p=none):Same H H2:=fun b o e=>m b o (s b o e) (ne_of_none e h)
def spWhole:Sp:=fun vs H Q _=>∃ i,vs=[.int i]/\Q (.bl true) H
theorem bits_small {m:Int} (h0:0<=m) (h1:m<2 ^ 64):Builtin.Int.intBits m<=8000:=Nat.le_trans (intBits_le_64 (by omega) h1) (by decide)
def nextC (c:List Int):List Int:=(c.tail.map (c.getD 0 0+·))++[c.getD 0 0]
def firstC (p:Nat):List Int:=1::List.replicate (p - 1) 0
def cnt (p:Nat):Nat->List Int
  | 0=>firstC p
  | n+1=>nextC (cnt p n)
theorem nextC_len {c:List Int} (h:c≠[]):(nextC c).length=c.length:=by
  cases c with
  | nil=>exact absurd rfl h
  | cons x r=>simp[nextC]
theorem cnt_len {p:Nat} (hp:1<=p):∀ n,(cnt p n).length=p
  | 0=>by simp[cnt,firstC];omega
  | n+1=>by
    have:=cnt_len hp n
    show (nextC (cnt p n)).length=p
    rw[nextC_len (by intro z;rw[z] at this;simp at this;omega),this]
def Down (c:List Int):Prop:=c.Pairwise (· ≥ ·)/\∀ x∈c,0<=x
theorem down_next {c:List Int} (h:Down c):Down (nextC c):=by
  cases c with
  | nil=>exact⟨by simp[nextC],by intro x hx;simp[nextC] at hx;omega⟩
  | cons a r=>
    obtain⟨h1,h2⟩:=h
    have h3:=List.pairwise_cons.mp h1
    have h0:0<=a:=h2 a (by simp)
    refine⟨?_,?_⟩
    · show ((r.map (a+·))++[a]).Pairwise (· ≥ ·)
      rw[List.pairwise_append]
      refine⟨?_,by simp,?_⟩
      · rw[List.pairwise_map]
        exact h3.2.imp fun h=>by omega
      · intro x hx y hy
        obtain⟨z,hz,rfl⟩:=List.mem_map.mp hx
        have:=h2 z (by simp[hz])
        have:y=a:=by simpa using hy
        omega
    · show ∀ x∈(r.map (a+·))++[a],0<=x
      intro x hx
      rcases List.mem_append.mp hx with hx | hx
      · obtain⟨z,hz,rfl⟩:=List.mem_map.mp hx
        have:=h2 z (by simp[hz])
        omega
      · have:x=a:=by simpa using hx
        omega
theorem down_cnt (p:Nat):∀ n,Down (cnt p n)
  | 0=>by
    refine⟨?_,?_⟩
    · show (1::List.replicate (p - 1) (0:Int)).Pairwise (· ≥ ·)
      rw[List.pairwise_cons]
      refine⟨fun y hy=>?_,?_⟩
      · have:=(List.mem_replicate.mp hy).2
        omega
      · rw[List.pairwise_replicate]
        exact .inr (Int.le_refl _)
    · intro x hx
      rcases List.mem_cons.mp hx with rfl | hx
      · decide
      · have:=(List.mem_replicate.mp hx).2
        omega
  | n+1=>down_next (down_cnt p n)
def spWays:Sp:=fun vs H Q _=>∃ i,vs=[.int i]/\2<=i/\i<=7/\Q .non H
def spLaw (K:PySem.W.Frag):Sp:=fun vs H Q _=>∃ (a:Addr) (ns:List Int),vs=[.ref a]/\SqL K H a (ns.map V.int)/\ns.length<=63/\∀ H',Q (.bl true) H'
end Lv
namespace Lv
open PySem L2
def hd (p n:Nat):Int:=(cnt p n).getD 0 0
def tot (p n:Nat):Int:=(cnt p n).sum
theorem cnt_cons {p:Nat} (hp:2<=p) (n:Nat):∃ a b r,cnt p n=a::b::r/\r.length=p - 2:=by
  have h:=cnt_len (p:=p) (by omega) n
  match hc:cnt p n with
  | []=>rw[hc] at h;simp at h;omega
  | [x]=>rw[hc] at h;simp at h;omega
  | a::b::r=>rw[hc] at h;exact⟨a,b,r,rfl,by simp at h;omega⟩
theorem hd_pos {p:Nat} (hp:2<=p):∀ n,1<=hd p n
  | 0=>by simp[hd,cnt,firstC]
  | n+1=>by
    obtain⟨a,b,r,e,_⟩:=cnt_cons hp n
    have ih:=hd_pos hp n
    have nn:=(down_cnt p n).2 b (by rw[e];simp)
    unfold hd at ih ⊢
    show 1<=(nextC (cnt p n)).getD 0 0
    rw[e] at ih ⊢
    simp[nextC] at ih ⊢
    omega
theorem sum_add (c:Int):∀ r:List Int,(r.map (c+·)).sum=r.length*c+r.sum
  | []=>by simp
  | x::r=>by
    rw[List.map_cons,List.sum_cons,sum_add c r,List.sum_cons,List.length_cons,Int.natCast_succ,Int.add_mul]
    omega
theorem sum_next (a:Int) (r:List Int):(nextC (a::r)).sum=(a::r).sum+r.length*a:=by
  show ((r.map (a+·))++[a]).sum=_
  rw[List.sum_append,sum_add,List.sum_cons,List.sum_cons,List.sum_nil]
  omega
theorem tot_succ {p:Nat} (hp:2<=p) (n:Nat):tot p (n+1)=tot p n+(p - 1:Nat)*hd p n:=by
  obtain⟨a,b,r,e,hr⟩:=cnt_cons hp n
  unfold tot hd
  show (nextC (cnt p n)).sum=_
  rw[e,sum_next]
  have:(b::r).length=p - 1:=by simp;omega
  rw[this]
  rfl
theorem tot_lt {p:Nat} (hp:2<=p) (n:Nat):tot p n+1<=tot p (n+1):=by
  rw[tot_succ hp]
  have h1:=hd_pos hp n
  have h2:((1:Nat):Int)*1<=((p - 1:Nat):Int)*hd p n:=Int.mul_le_mul (by omega) h1 (by decide) (by omega)
  omega
theorem tot_mono {p:Nat} (hp:2<=p) {m n:Nat} (h:m<=n):tot p m<=tot p n:=by
  induction n with
  | zero => have : m = 0 := by omega
            subst this;exact Int.le_refl _
  | succ n ih=>
    by_cases e:m=n+1
    · subst e;exact Int.le_refl _
    · have:=ih (by omega)
      have:=tot_lt hp n
      omega
end Lv
namespace L2
open PySem PySem.Spec PyProof.Rows PySem.SeqAt
def HIt (b:Bool) (h:Heap) (it l:Addr) (i:Nat):Prop:=match b with | true=>h.IsListIter it l i | false=>h.IsTupleIter it l i
def HSq (b:Bool) (h:Heap) (l:Addr) (xs:Array Value):Prop:=match b with | true=>h.IsList l xs | false=>h.IsTuple l xs
theorem HIt.at {b:Bool}{h h':Heap}{it l:Addr}{i:Nat} (x:HIt b h it l i) (e:∀ o,h.get? it=some o->h'.get? it=some o):HIt b h' it l i:=by
  cases b
  · exact Heap.IsTupleIter.at x e
  · exact Heap.IsListIter.at x e
theorem HIt.ext {b:Bool}{h h':Heap}{it l c:Addr}{i:Nat} (x:HIt b h it l i) (hs:Heap.ExtBut c h h') (n:it≠c):HIt b h' it l i:=x.at fun o e=>hs _ _ n e
theorem HIt.obj {b:Bool}{h:Heap}{it l:Addr}{i:Nat} (x:HIt b h it l i):∃ o,h.get? it=some o/\∀ v:Option Value,o.data≠.cell v:=by
  cases b
  · obtain⟨o,e,_,d⟩:=x
    exact⟨o,e,fun v q=>by rw[d] at q;cases q⟩
  · obtain⟨o,e,_,d⟩:=x
    exact⟨o,e,fun v q=>by rw[d] at q;cases q⟩
theorem HSq.ext {b:Bool}{h h':Heap}{l c:Addr}{xs:Array Value} (x:HSq b h l xs) (hs:Heap.ExtBut c h h') (n:l≠c):HSq b h' l xs:=by
  cases b
  · exact Heap.IsTuple.extBut x hs n
  · exact Heap.IsList.extBut x hs n
section
variable {prog:Program}{w:World}{A:Around}{E:Value->Shared->Prop}{s:Shared}
theorem nextB {b:Bool}{it l:Addr}{i:Nat}{items:Array Value}{x:Value}{Q:Value->Shared->Prop} (hit:HIt b s.heap it l i) (hl:HSq b s.heap l items) (hx:items[i]?=some x) (hQ:∀ h',HIt b h' it l (i+1)->Heap.SameBut it s.heap h'->Q x { s with heap:=h' }) :
    wpAny (model prog w) A (Builtin.SmallTypes.nextOf (.ref it)) Q E s:=by
  cases b
  · exact nextOf_tup hit hl hx hQ
  · exact wpAny_nextOf_list_item hit hl hx hQ
theorem nextB_end {b:Bool}{it l:Addr}{i:Nat}{items:Array Value}{Q:Value->Shared->Prop} (hh:A.handled=none) (hit:HIt b s.heap it l i) (hl:HSq b s.heap l items) (hx:items[i]?=none)
    (hE:∀ h' e,Heap.ExtBut it s.heap h'->(∃ o,h'.get? e=some o/\o.cls=.type "StopIteration")->E (.ref e) { s with heap:=h' }):wpAny (model prog w) A (Builtin.SmallTypes.nextOf (.ref it)) Q E s:=by
  cases b
  · exact nextOf_tup_end hh hit hl hx hE
  · exact wpAny_nextOf_list_end hh hit hl hx hE
theorem zipB_item {b1 b2:Bool}{z TI TO i1 i2 l1 l2:Addr}{k1 k2:Nat}{xs ys:Array Value}{x y a b:Value}{Q:Value->Shared->Prop} (D:ZipApart z TI TO i1 i2 l1 l2) (hz:IsZip s.heap z TI TO .none) (hTI:IsPair s.heap TI (.ref i1) (.ref i2)) (hTO:IsPair s.heap TO a b)
    (h1:HIt b1 s.heap i1 l1 k1) (h2:HIt b2 s.heap i2 l2 k2) (hl1:HSq b1 s.heap l1 xs) (hl2:HSq b2 s.heap l2 ys) (hx:xs[k1]?=some x) (hy:ys[k2]?=some y)
    (hQ:∀ h',IsZip h' z TI TO (rawInt s.heap.objs.size)->IsPair h' TO x y->HIt b1 h' i1 l1 (k1+1)->HIt b2 h' i2 l2 (k2+1)->IsPair h' s.heap.objs.size x y->h'.objs.size=s.heap.objs.size+1 ->
      (∀ c o,c≠z->c≠TO->c≠i1->c≠i2->s.heap.get? c=some o->h'.get? c=some o)->Q (.ref s.heap.objs.size) { s with heap:=h' }) :
    wpAny (model prog w) A (Builtin.«zip.__next__» ⟨[.ref z],[]⟩) (fun fin s'=>∃ v,fin=.done (.ret v)/\Q v s') E s:=by
  refine wpAny_bind (m:=field (.ref z) 2) (wpAny_field hz rfl (x:=.bool false) rfl ?_)
  refine wpAny_bind (m:=field (.ref z) 3) (wpAny_field hz rfl (x:=.ref TI) rfl (wpAny_bind (wpAny_seqItems hTI rfl ?_)))
  refine wpAny_bind (m:=Builtin.SmallTypes.ownedTupleIsFree (.ref z)) ?_
  unfold Builtin.SmallTypes.ownedTupleIsFree
  refine wpAny_bind (wpAny_field hz rfl (x:=.none) rfl (wpAny_pure ?_))
  simp only[if_true]
  refine wpAny_bind (wpAny_rule (wpAny_bind (wpAny_field hz rfl (x:=.ref TO) rfl ?_)))
  refine wpAny_bind (wpAny_setField_rec hz (by simp) fun h₁ hz₁ hs₁=>?_)
  replace hz₁:IsZip h₁ z TI TO .ellipsis:=hz₁
  refine wpAny_bind ?_
  simp only[List.zipIdx_cons,List.zipIdx_nil,List.forIn_cons,List.forIn_nil]
  refine wpAny_bind (wpAny_bind (wpAny_onRaise (wpAny_bind (m:=Builtin.SmallTypes.nextOf (.ref i1)) ?_)))
  refine nextB (h1.ext hs₁.extBut D.i1z) (hl1.ext hs₁.extBut D.l1z) hx fun h₂ h1₂ hs₂=>wpAny_pure ?_
  have t2:IsPair h₂ TO a b:=hs₂.extBut _ _ D.TOi1 (hs₁.extBut _ _ D.TOz hTO)
  refine wpAny_bind (wpAny_seqItems t2 rfl (wpAny_bind (wpAny_updateSeq_pair t2 fun h₃ hTO₃ hs₃=>?_)))
  replace hTO₃:IsPair h₃ TO x b:=hTO₃
  refine wpAny_bind (wpAny_letGo (wpAny_pure (wpAny_bind (wpAny_bind (wpAny_onRaise (wpAny_bind (m:=Builtin.SmallTypes.nextOf (.ref i2)) ?_))))))
  refine nextB (((h2.ext hs₁.extBut D.i2z).ext hs₂.extBut D.i12.symm).ext hs₃.extBut D.TOi2.symm) (((hl2.ext hs₁.extBut D.l2z).ext hs₂.extBut D.l2i1).ext hs₃.extBut D.l2TO) hy fun h₄ h2₄ hs₄=>wpAny_pure ?_
  have t4:IsPair h₄ TO x b:=hs₄.extBut _ _ D.TOi2 hTO₃
  refine wpAny_bind (wpAny_seqItems t4 rfl (wpAny_bind (wpAny_updateSeq_pair t4 fun h₅ hTO₅ hs₅=>?_)))
  replace hTO₅:IsPair h₅ TO x y:=hTO₅
  refine wpAny_bind (wpAny_letGo (wpAny_pure (wpAny_pure (wpAny_bind (wpAny_seqItems hTO₅ rfl (wpAny_bind (wpAny_newTuple ?_)))))))
  have hsz:h₅.objs.size=s.heap.objs.size:=by rw[hs₅.1,hs₄.1,hs₃.1,hs₂.1,hs₁.1]
  have hz₅:IsZip h₅ z TI TO .ellipsis:=hs₅.extBut _ _ D.TOz.symm (hs₄.extBut _ _ D.i2z.symm (hs₃.extBut _ _ D.TOz.symm (hs₂.extBut _ _ D.i1z.symm hz₁)))
  have k5:∀ c o,c≠z->c≠TO->c≠i1->c≠i2->s.heap.get? c=some o->h₅.get? c=some o:=fun c o c1 c2 c3 c4 e=>hs₅.extBut _ _ c2 (hs₄.extBut _ _ c4 (hs₃.extBut _ _ c2 (hs₂.extBut _ _ c3 (hs₁.extBut _ _ c1 e))))
  have j1:HIt b1 h₅ i1 l1 (k1+1):=((h1₂.ext hs₃.extBut D.TOi1.symm).ext hs₄.extBut D.i12).ext hs₅.extBut D.TOi1.symm
  have j2:HIt b2 h₅ i2 l2 (k2+1):=h2₄.ext hs₅.extBut D.TOi2.symm
  have zlt:z<h₅.objs.size:=Heap.lt_size hz₅
  refine wpAny_bind (m:=Builtin.SmallTypes.ownedTupleHandOut (.ref z) (.ref h₅.objs.size)) ?_
  unfold Builtin.SmallTypes.ownedTupleHandOut
  have hz₆:IsZip (h₅.push { cls:=.type "tuple",data:=.seq #[x,y] }) z TI TO .ellipsis:=Heap.get?_push_of_some _ hz₅
  refine wpAny_bind (wpAny_setField_rec hz₆ (by simp) fun h₇ hz₇ hs₇=>?_)
  replace hz₇:IsZip h₇ z TI TO (rawInt h₅.objs.size):=hz₇
  refine wpAny_setField_rec hz₇ (by simp) fun h₈ hz₈ hs₈=>?_
  replace hz₈:IsZip h₈ z TI TO (rawInt h₅.objs.size):=hz₈
  have up:∀ c o,c≠z->h₅.get? c=some o->h₈.get? c=some o:=fun c o c1 e=>hs₈.extBut _ _ c1 (hs₇.extBut _ _ c1 (Heap.get?_push_of_some _ e))
  have t8:IsPair h₈ h₅.objs.size x y:=hs₈.extBut _ _ (Nat.ne_of_gt zlt) (hs₇.extBut _ _ (Nat.ne_of_gt zlt) (Heap.get?_push_size _ rfl))
  have z8:h₈.objs.size=h₅.objs.size+1:=by rw[hs₈.1,hs₇.1,Heap.size_push]
  rw[hsz] at hz₈ t8 z8
  refine wpAny_pure ⟨_,rfl,?_⟩
  show Q (.ref h₅.objs.size) _
  rw[hsz]
  exact hQ h₈ hz₈ (up _ _ D.TOz hTO₅) (j1.at fun o e=>up _ o D.i1z e) (j2.at fun o e=>up _ o D.i2z e) t8 z8 fun c o c1 c2 c3 c4 e=>up c o c1 (k5 c o c1 c2 c3 c4 e)
theorem zipB_end {b1 b2:Bool}{z TI TO i1 i2 l1 l2:Addr}{k1 k2:Nat}{xs ys:Array Value}{a b:Value}{Q:Fin->Shared->Prop} (hh:A.handled=none) (D:ZipApart z TI TO i1 i2 l1 l2) (hz:IsZip s.heap z TI TO .none) (hTI:IsPair s.heap TI (.ref i1) (.ref i2)) (hTO:IsPair s.heap TO a b)
    (h1:HIt b1 s.heap i1 l1 k1) (h2:HIt b2 s.heap i2 l2 k2) (hl1:HSq b1 s.heap l1 xs) (hl2:HSq b2 s.heap l2 ys) (hend:xs[k1]?=none∨ys[k2]?=none)
    (hE:∀ h' e,(∀ c o,c≠z->c≠TO->c≠i1->c≠i2->s.heap.get? c=some o->h'.get? c=some o)->(∃ o,h'.get? e=some o/\o.cls=.type "StopIteration")->E (.ref e) { s with heap:=h' }):wpAny (model prog w) A (Builtin.«zip.__next__» ⟨[.ref z],[]⟩) Q E s:=by
  refine wpAny_bind (m:=field (.ref z) 2) (wpAny_field hz rfl (x:=.bool false) rfl ?_)
  refine wpAny_bind (m:=field (.ref z) 3) (wpAny_field hz rfl (x:=.ref TI) rfl (wpAny_bind (wpAny_seqItems hTI rfl ?_)))
  refine wpAny_bind (m:=Builtin.SmallTypes.ownedTupleIsFree (.ref z)) ?_
  unfold Builtin.SmallTypes.ownedTupleIsFree
  refine wpAny_bind (wpAny_field hz rfl (x:=.none) rfl (wpAny_pure ?_))
  simp only[if_true]
  refine wpAny_bind (wpAny_rule (wpAny_bind (wpAny_field hz rfl (x:=.ref TO) rfl ?_)))
  refine wpAny_bind (wpAny_setField_rec hz (by simp) fun h₁ hz₁ hs₁=>?_)
  replace hz₁:IsZip h₁ z TI TO .ellipsis:=hz₁
  refine wpAny_bind ?_
  simp only[List.zipIdx_cons,List.zipIdx_nil,List.forIn_cons,List.forIn_nil]
  refine wpAny_bind (wpAny_bind (wpAny_onRaise (wpAny_bind (m:=Builtin.SmallTypes.nextOf (.ref i1)) ?_)))
  cases hx:xs[k1]? with
  | none=>
    refine nextB_end hh (h1.ext hs₁.extBut D.i1z) (hl1.ext hs₁.extBut D.l1z) hx fun h₂ e hs₂ ⟨oe,hoe,hce⟩=>?_
    have hz₂:IsZip h₂ z TI TO .ellipsis:=hs₂ _ _ D.i1z.symm hz₁
    have ez:e≠z:=fun x=>by subst x;rw[hz₂] at hoe;cases hoe;simp at hce
    exact wpAny_setField_rec hz₂ (by simp) fun h₃ _ hs₃=>hE h₃ e (fun c o c1 _ c3 _ x=>hs₃.extBut _ _ c1 (hs₂ _ _ c3 (hs₁.extBut _ _ c1 x))) ⟨oe,hs₃.extBut _ _ ez hoe,hce⟩
  | some x=>
    have hy:ys[k2]?=none:=hend.resolve_left (by rw[hx];simp)
    refine nextB (h1.ext hs₁.extBut D.i1z) (hl1.ext hs₁.extBut D.l1z) hx fun h₂ h1₂ hs₂=>wpAny_pure ?_
    have t2:IsPair h₂ TO a b:=hs₂.extBut _ _ D.TOi1 (hs₁.extBut _ _ D.TOz hTO)
    refine wpAny_bind (wpAny_seqItems t2 rfl (wpAny_bind (wpAny_updateSeq_pair t2 fun h₃ hTO₃ hs₃=>?_)))
    refine wpAny_bind (wpAny_letGo (wpAny_pure (wpAny_bind (wpAny_bind (wpAny_onRaise (wpAny_bind (m:=Builtin.SmallTypes.nextOf (.ref i2)) ?_))))))
    refine nextB_end hh (((h2.ext hs₁.extBut D.i2z).ext hs₂.extBut D.i12.symm).ext hs₃.extBut D.TOi2.symm) (((hl2.ext hs₁.extBut D.l2z).ext hs₂.extBut D.l2i1).ext hs₃.extBut D.l2TO) hy fun h₄ e hs₄ ⟨oe,hoe,hce⟩=>?_
    have hz₄:IsZip h₄ z TI TO .ellipsis:=hs₄ _ _ D.i2z.symm (hs₃.extBut _ _ D.TOz.symm (hs₂.extBut _ _ D.i1z.symm hz₁))
    have ez:e≠z:=fun x=>by subst x;rw[hz₄] at hoe;cases hoe;simp at hce
    exact wpAny_setField_rec hz₄ (by simp) fun h₅ _ hs₅=>hE h₅ e (fun c o c1 c2 c3 c4 x=>hs₅.extBut _ _ c1 (hs₄ _ _ c4 (hs₃.extBut _ _ c2 (hs₂.extBut _ _ c3 (hs₁.extBut _ _ c1 x))))) ⟨oe,hs₅.extBut _ _ ez hoe,hce⟩
theorem pyNextB_item {b1 b2:Bool}{z TI TO i1 i2 l1 l2:Addr}{k1 k2:Nat}{xs ys:Array Value}{x y a b:Value}{Q:Option Value->Shared->Prop} (D:ZipApart z TI TO i1 i2 l1 l2) (hz:IsZip s.heap z TI TO .none) (hTI:IsPair s.heap TI (.ref i1) (.ref i2)) (hTO:IsPair s.heap TO a b)
    (h1:HIt b1 s.heap i1 l1 k1) (h2:HIt b2 s.heap i2 l2 k2) (hl1:HSq b1 s.heap l1 xs) (hl2:HSq b2 s.heap l2 ys) (hx:xs[k1]?=some x) (hy:ys[k2]?=some y)
    (hQ:∀ h',IsZip h' z TI TO (rawInt s.heap.objs.size)->IsPair h' TO x y->HIt b1 h' i1 l1 (k1+1)->HIt b2 h' i2 l2 (k2+1)->IsPair h' s.heap.objs.size x y->h'.objs.size=s.heap.objs.size+1 ->
      (∀ c o,c≠z->c≠TO->c≠i1->c≠i2->s.heap.get? c=some o->h'.get? c=some o)->Q (some (.ref s.heap.objs.size)) { s with heap:=h' }):wpAny (model prog w) A (pyNext (.ref z)) Q E s:=by
  have hT:s.TypeIs (.ref z) "zip":=⟨_,hz,rfl⟩
  unfold pyNext
  exact wpAny_bind (wpAny_attempt (wpAny_callSpecial?_slot (name:=Str.ofString "__next__") hT F.slot_zip_next (wpAny_call_entry F.slot_zip_next hT F.entry_zip_next (zipB_item D hz hTI hTO h1 h2 hl1 hl2 hx hy fun h' a1 a2 a3 a4 a5 a6 a7=>wpAny_pure (hQ h' a1 a2 a3 a4 a5 a6 a7)) (F.args_zip_next_1 _))))
theorem pyNextB_end {b1 b2:Bool}{z TI TO i1 i2 l1 l2:Addr}{k1 k2:Nat}{xs ys:Array Value}{a b:Value}{Q:Option Value->Shared->Prop} (hh:A.handled=none) (D:ZipApart z TI TO i1 i2 l1 l2) (hz:IsZip s.heap z TI TO .none) (hTI:IsPair s.heap TI (.ref i1) (.ref i2)) (hTO:IsPair s.heap TO a b)
    (h1:HIt b1 s.heap i1 l1 k1) (h2:HIt b2 s.heap i2 l2 k2) (hl1:HSq b1 s.heap l1 xs) (hl2:HSq b2 s.heap l2 ys) (hend:xs[k1]?=none∨ys[k2]?=none)
    (hQ:∀ h',(∀ c o,c≠z->c≠TO->c≠i1->c≠i2->s.heap.get? c=some o->h'.get? c=some o)->Q none { s with heap:=h' }):wpAny (model prog w) A (pyNext (.ref z)) Q E s:=by
  have hT:s.TypeIs (.ref z) "zip":=⟨_,hz,rfl⟩
  unfold pyNext
  refine wpAny_bind (wpAny_attempt (wpAny_callSpecial?_slot (name:=Str.ofString "__next__") hT F.slot_zip_next (wpAny_call_entry F.slot_zip_next hT F.entry_zip_next (zipB_end hh D hz hTI hTO h1 h2 hl1 hl2 hend fun h' e hk ⟨o,ho,hc⟩=>?_) (F.args_zip_next_1 _))))
  exact wpAny_bind (wpAny_isInstance (T:="StopIteration") (b:=true) ⟨o,ho,hc⟩ isSubtype_stop (wpAny_pure (hQ _ hk)))
def itCls (b:Bool):String:=match b with | true=>"list_iterator" | false=>"tuple_iterator"
def zB1 (b1:Bool) (h:Heap) (l1:Addr):Heap:=h.push { cls:=.type (itCls b1),data:=.fields #[.ref l1,.int 0 0] }
def zB2 (b1 b2:Bool) (h:Heap) (l1 l2:Addr):Heap:=(zB1 b1 h l1).push { cls:=.type (itCls b2),data:=.fields #[.ref l2,.int 0 0] }
def zB3 (b1 b2:Bool) (h:Heap) (l1 l2:Addr):Heap:=(zB2 b1 b2 h l1 l2).push { cls:=.type "tuple",data:=.seq #[.ref h.objs.size,.ref (zB1 b1 h l1).objs.size] }
def zB4 (b1 b2:Bool) (h:Heap) (l1 l2:Addr):Heap:=(zB3 b1 b2 h l1 l2).push { cls:=.type "tuple",data:=.seq #[.none,.none] }
def zB5 (b1 b2:Bool) (h:Heap) (l1 l2:Addr):Heap:=(zB4 b1 b2 h l1 l2).push { cls:=.type "zip",data:=.fields #[.none,.bool false,.bool false,.ref (zB2 b1 b2 h l1 l2).objs.size,.ref (zB3 b1 b2 h l1 l2).objs.size] }
theorem zipB_new (b1 b2:Bool) (l1 l2:Addr) (xs ys:Array Value) :
    Meets (Builtin.«zip.__new__» ⟨[.type "zip",.ref l1,.ref l2],[]⟩) (fun _ R s=>HSq b1 s.heap l1 xs/\HSq b2 s.heap l2 ys/\R (.ok (.ret (.ref (zB4 b1 b2 s.heap l1 l2).objs.size))) { s with heap:=zB5 b1 b2 s.heap l1 l2 }) :=
  .of_wp fun prog w A R s h=>by
    obtain⟨hp,g,d,tk,os⟩:=s
    obtain⟨hl1,hl2,h⟩:=h
    have hsub:=sub_zip
    cases b1 <;> cases b2
    · have p1:Heap.IsTuple (Shared.heap ⟨hp,g,d,tk,os⟩) l1 xs:=hl1
      have p2:Heap.IsTuple (Shared.heap ⟨hp.push { cls:=.type "tuple_iterator",data:=.fields #[.ref l1,.int 0 0] },g,d,tk,os⟩) l2 ys:=Heap.IsTuple.push hl2 _
      wp_walk using wpAny_pyIter_tuple p1,wpAny_pyIter_tuple p2
      exact⟨_,rfl,h⟩
    · have p1:Heap.IsTuple (Shared.heap ⟨hp,g,d,tk,os⟩) l1 xs:=hl1
      have p2:Heap.IsList (Shared.heap ⟨hp.push { cls:=.type "tuple_iterator",data:=.fields #[.ref l1,.int 0 0] },g,d,tk,os⟩) l2 ys:=Heap.IsList.push hl2 _
      wp_walk using wpAny_pyIter_tuple p1,wpAny_pyIter_list p2
      exact⟨_,rfl,h⟩
    · have p1:Heap.IsList (Shared.heap ⟨hp,g,d,tk,os⟩) l1 xs:=hl1
      have p2:Heap.IsTuple (Shared.heap ⟨hp.push { cls:=.type "list_iterator",data:=.fields #[.ref l1,.int 0 0] },g,d,tk,os⟩) l2 ys:=Heap.IsTuple.push hl2 _
      wp_walk using wpAny_pyIter_list p1,wpAny_pyIter_tuple p2
      exact⟨_,rfl,h⟩
    · have p1:Heap.IsList (Shared.heap ⟨hp,g,d,tk,os⟩) l1 xs:=hl1
      have p2:Heap.IsList (Shared.heap ⟨hp.push { cls:=.type "list_iterator",data:=.fields #[.ref l1,.int 0 0] },g,d,tk,os⟩) l2 ys:=Heap.IsList.push hl2 _
      wp_walk using wpAny_pyIter_list p1,wpAny_pyIter_list p2
      exact⟨_,rfl,h⟩
theorem HIt.made {b:Bool}{h:Heap}{it l:Addr} (e:h.get? it=some { cls:=.type (itCls b),data:=.fields #[.ref l,.int 0 0] }):HIt b h it l 0:=by
  cases b
  · exact⟨_,e,rfl,rfl⟩
  · exact⟨_,e,rfl,rfl⟩
theorem call_zipB {b1 b2:Bool}{l1 l2:Addr}{xs ys:Array Value}{Q:Value->Shared->Prop} (hl1:HSq b1 s.heap l1 xs) (hl2:HSq b2 s.heap l2 ys)
    (h:∀ h',IsZip h' (s.heap.objs.size+4) (s.heap.objs.size+2) (s.heap.objs.size+3) .none->IsPair h' (s.heap.objs.size+2) (.ref s.heap.objs.size) (.ref (s.heap.objs.size+1))->IsPair h' (s.heap.objs.size+3) .none .none ->
      HIt b1 h' s.heap.objs.size l1 0->HIt b2 h' (s.heap.objs.size+1) l2 0->(∀ c o,s.heap.get? c=some o->h'.get? c=some o)->Q (.ref (s.heap.objs.size+4)) { s with heap:=h' }):wpAny (model prog w) A (call (.type "zip") [.ref l1,.ref l2]) Q E s:=by
  refine callType_new F.called_zip (by decide) (F.typeCall_zip_2 _ _) (F.newCall_zip_2 _ _) (fun obj=>F.args_object_init_3 obj _ _) F.entry_zip_new (zipB_new b1 b2 l1 l2 xs ys) ⟨hl1,hl2,?_⟩
  have z1:(zB1 b1 s.heap l1).objs.size=s.heap.objs.size+1:=Heap.size_push ..
  have z2:(zB2 b1 b2 s.heap l1 l2).objs.size=s.heap.objs.size+2:=by unfold zB2;rw[Heap.size_push,z1]
  have z3:(zB3 b1 b2 s.heap l1 l2).objs.size=s.heap.objs.size+3:=by unfold zB3;rw[Heap.size_push,z2]
  have z4:(zB4 b1 b2 s.heap l1 l2).objs.size=s.heap.objs.size+4:=by unfold zB4;rw[Heap.size_push,z3]
  have g5:(zB5 b1 b2 s.heap l1 l2).get? (zB4 b1 b2 s.heap l1 l2).objs.size=some _:=Heap.get?_push_size _ rfl
  have g4:(zB5 b1 b2 s.heap l1 l2).get? (zB3 b1 b2 s.heap l1 l2).objs.size=some _:=Heap.get?_push_of_some _ (Heap.get?_push_size _ rfl)
  have g3:(zB5 b1 b2 s.heap l1 l2).get? (zB2 b1 b2 s.heap l1 l2).objs.size=some _:=Heap.get?_push_of_some _ (Heap.get?_push_of_some _ (Heap.get?_push_size _ rfl))
  have g2:(zB5 b1 b2 s.heap l1 l2).get? (zB1 b1 s.heap l1).objs.size=some _:=Heap.get?_push_of_some _ (Heap.get?_push_of_some _ (Heap.get?_push_of_some _ (Heap.get?_push_size _ rfl)))
  have g1:(zB5 b1 b2 s.heap l1 l2).get? s.heap.objs.size=some _:=Heap.get?_push_of_some _ (Heap.get?_push_of_some _ (Heap.get?_push_of_some _ (Heap.get?_push_of_some _ (Heap.get?_push_size _ rfl))))
  show _/\_
  rw[z2,z3,z4] at g5
  rw[z1,z2] at g3
  rw[z3] at g4
  rw[z1] at g2
  rw[z4]
  exact⟨⟨_,g5,rfl⟩,h _ g5 g3 g4 (HIt.made g1) (HIt.made g2) fun c o x=>Heap.get?_push_of_some _ (Heap.get?_push_of_some _ (Heap.get?_push_of_some _ (Heap.get?_push_of_some _ (Heap.get?_push_of_some _ x))))⟩
end
theorem SqB.heap {X:Cx}{b:Bool}{pins:List (Addr × Obj)}{σ:St}{H:Hp}{s:Shared}{a:Addr}{xs:List V} (I:Inv X pins σ H s) (h:SqB b X.K H a xs):∃ its:List Value,Vals xs its/\HSq b s.heap a its.toArray:=by
  cases b
  · obtain⟨its,r,p,_⟩:=I.tuple h
    exact⟨its,r,p⟩
  · obtain⟨its,r,p,_⟩:=I.list h
    exact⟨its,r,p.isList⟩
theorem HSq.lt {b:Bool}{h:Heap}{l:Addr}{xs:Array Value} (x:HSq b h l xs):l<h.objs.size:=by
  cases b
  · obtain⟨o,e,_⟩:=x
    exact Heap.lt_size e
  · obtain⟨o,e,_⟩:=x
    exact Heap.lt_size e
theorem SqB.inj {X:Cx}{b:Bool}{pins:List (Addr × Obj)}{σ:St}{H:Hp}{s:Shared}{a:Addr}{xs ys:List V} (I:Inv X pins σ H s) (h:SqB b X.K H a xs) (g:SqB b X.K H a ys):xs=ys:=by
  cases b
  · exact I.tuple_inj h g
  · exact I.list_inj h g
def ItzB (b1 b2:Bool) (K:PySem.W.Frag) (a b:Addr):It :=
  ⟨fun i H=>∃ xs ys x y,SqB b1 K H a xs/\SqB b2 K H b ys/\xs[i]?=some x/\ys[i]?=some y,
   fun i H z H'=>∃ p x y,H p=none/\z=.ref p/\H'=upd H p (.tup [x,y])/\(∀ xs,SqB b1 K H a xs->xs[i]?=some x)/\∀ ys,SqB b2 K H b ys->ys[i]?=some y,
   fun i H=>∃ xs ys,SqB b1 K H a xs/\SqB b2 K H b ys/\(xs.length<=i∨ys.length<=i)⟩
end L2
namespace L2
open PySem PySem.Spec PyProof.Rows PySem.SeqAt
def zipStB (b1 b2:Bool) (z TI TO i1 i2 l1 l2:Addr) (i:Nat) (h:Heap):Prop:=IsZip h z TI TO .none/\IsPair h TI (.ref i1) (.ref i2)/\(∃ a b,IsPair h TO a b)/\HIt b1 h i1 l1 i/\HIt b2 h i2 l2 i
theorem turn_zipB {P:Program}{w:World}{K:PySem.W.Frag}{es:List Expr}{x1}{pos:Pos}{b1 b2:Bool}{z TI TO i1 i2 l1 l2:Addr} (D:ZipApart z TI TO i1 i2 l1 l2):Turn P w K (.Tuple es x1 pos) (ItzB b1 b2 K l1 l2) [z,TI,TO,i1,i2] z (zipStB b1 b2 z TI TO i1 i2 l1 l2) where
  mem:=by simp
  obj:=fun i h st b hb=>by
    obtain⟨h1,h2,⟨a,c,h3⟩,h4,h5⟩:=st
    simp only[List.mem_cons,List.not_mem_nil,or_false] at hb
    rcases hb with rfl | rfl | rfl | rfl | rfl
    · exact⟨_,h1,fun v q=>nomatch q⟩
    · exact⟨_,h2,fun v q=>nomatch q⟩
    · exact⟨_,h3,fun v q=>nomatch q⟩
    · exact h4.obj
    · exact h5.obj
  keep:=fun i h h' st k=>by
    obtain⟨h1,h2,⟨a,c,h3⟩,h4,h5⟩:=st
    exact⟨k z (by simp) _ h1,k TI (by simp) _ h2,⟨a,c,k TO (by simp) _ h3⟩,h4.at fun o q=>k i1 (by simp) o q,h5.at fun o q=>k i2 (by simp) o q⟩
  item:=by
    intro X hP hw hK hc i pins s σ H E I hf st hg
    subst hP hw hK
    obtain⟨xs,ys,x,y,hq1,hq2,hx,hy⟩:=hg
    obtain⟨its,rv,p⟩:=hq1.heap I
    obtain⟨its2,rv2,p2⟩:=hq2.heap I
    obtain⟨u,hu,ru⟩:=rv.get hx
    obtain⟨u2,hu2,ru2⟩:=rv2.get hy
    obtain⟨s1,s2,⟨a,c,s3⟩,s4,s5⟩:=id st
    refine pyNextB_item D s1 s2 s3 s4 s5 p p2 (x:=u) (y:=u2) (by simpa using hu) (by simpa using hu2) fun h' g1 g2 g3 g4 g5 g6 hk=>?_
    refine⟨_,rfl,?_⟩
    refine wpAny_letOwnedTupleGo_zip g1 fun h'' he hs=>?_
    have live:∀ b∈[z,TI,TO,i1,i2],b<s.heap.objs.size:=fun b hb=>by
      obtain⟨h1,h2,⟨a,c,h3⟩,h4,h5⟩:=st
      obtain⟨o4,e4,_⟩:=h4.obj
      obtain⟨o5,e5,_⟩:=h5.obj
      simp only[List.mem_cons,List.not_mem_nil,or_false] at hb
      rcases hb with rfl | rfl | rfl | rfl | rfl
      · exact Heap.lt_size h1
      · exact Heap.lt_size h2
      · exact Heap.lt_size h3
      · exact Heap.lt_size e4
      · exact Heap.lt_size e5
    have hsz:s.heap.objs.size≠z:=Nat.ne_of_gt (live z (by simp))
    have k:∀ b o,b ∉ [z,TI,TO,i1,i2]->s.heap.get? b=some o->h''.get? b=some o:=fun b o hb q=>by
      simp only[List.mem_cons,List.not_mem_nil,or_false,not_or] at hb
      exact (hs.2 b hb.1).trans (hk b o hb.1 hb.2.2.1 hb.2.2.2.1 hb.2.2.2.2 q)
    have st':zipStB b1 b2 z TI TO i1 i2 l1 l2 (i+1) h'':=by
      refine⟨he,(hs.2 TI D.TIz).trans (hk TI _ D.TIz D.TITO D.TIi1 D.TIi2 s2),⟨u,u2,(hs.2 TO D.TOz).trans g2⟩,?_,?_⟩
      · exact g3.ext hs.extBut D.i1z
      · exact g4.ext hs.extBut D.i2z
    have th:∀ b∈[z,TI,TO,i1,i2],∃ o,h''.get? b=some o:=fun b hb=>by
      obtain⟨h1,h2,⟨a,c,h3⟩,h4,h5⟩:=st'
      obtain⟨o4,e4,_⟩:=h4.obj
      obtain⟨o5,e5,_⟩:=h5.obj
      simp only[List.mem_cons,List.not_mem_nil,or_false] at hb
      rcases hb with rfl | rfl | rfl | rfl | rfl
      · exact⟨_,h1⟩
      · exact⟨_,h2⟩
      · exact⟨_,h3⟩
      · exact⟨_,e4⟩
      · exact⟨_,e5⟩
    have fresh:H s.heap.objs.size=none:=I.hok.fresh (Nat.le_refl _)
    refine⟨.ref s.heap.objs.size,_,I.pairOut (fp:=[z,TI,TO,i1,i2]) (tk:=s.toks) hf k ((hs.2 _ hsz).trans g5) live th ru ru2,rfl,⟨s.heap.objs.size,x,y,fresh,rfl,rfl,fun ys hy=>by rw[hy.inj I hq1];exact hx,fun zs hz=>by rw[hz.inj I hq2];exact hy⟩,st',fun b hb=>?_⟩
    rw[upd_ne (Nat.ne_of_lt (live b hb))]
    exact (hf b hb).1
  done:=by
    intro X hP hw hK hc i pins s σ H E I hf st hg
    subst hP hw hK
    obtain⟨xs,ys,hq1,hq2,hx⟩:=hg
    obtain⟨its,rv,p⟩:=hq1.heap I
    obtain⟨its2,rv2,p2⟩:=hq2.heap I
    obtain⟨s1,s2,⟨a,c,s3⟩,s4,s5⟩:=st
    have e1:=rv.length
    have e2:=rv2.length
    refine pyNextB_end (I.ok.hd hc) D s1 s2 s3 s4 s5 p p2 (by rcases hx with q | q;exact .inl (by simp;omega);exact .inr (by simp;omega)) fun h' hk=>⟨rfl,I.turnedAll (fp:=[z,TI,TO,i1,i2]) (tk:=s.toks) hf fun b o hb q=>?_⟩
    simp only[List.mem_cons,List.not_mem_nil,or_false,not_or] at hb
    exact hk b o hb.1 hb.2.2.1 hb.2.2.2.1 hb.2.2.2.2 q
  self:=fun _ _ _ _ _ st h=>wpAny_pyIter_zip st.1 h
def iZipB (K:PySem.W.Frag) (ta:TA):TI:=fun σ H R=>ta σ H fun vs H1=>∃ b1 b2 a b,vs=[.ref a,.ref b]/\(∃ xs,SqB b1 K H1 a xs)/\(∃ ys,SqB b2 K H1 b ys)/\R (ItzB b1 b2 K a b) H1
theorem pi_zipB {X:Cx}{es:List Expr}{x1}{tpos:Pos}{e f:Expr}{ta:TA}{p pos:Pos} (hg:Gl X "zip") (hm:X.mg "zip"=none) (ha:PA X [e,f] ta) (hs:starEach [e,f] X.env=[(false,eval e X.env),(false,eval f X.env)]:=by rfl) (hs2:starEach [f] X.env=[(false,eval f X.env)]:=by rfl) :
    PI X (.Tuple es x1 tpos) (.Call (.Name "zip" p) [e,f] [] pos) (iZipB X.K ta):=by
  intro pins s σ H R I h
  refine Call_ (ld_blt I hg hm (show bootBuiltins "zip"=some (.type "zip") by decide +kernel) (PyProof.Rows.callWith_type1 (thn (ha pos pins s σ H _ I h) fun us s1 ⟨vs,H1,I1,r1,q1⟩=>?_) (by rw[hs,hs2]) (by rw[hs2];rfl)))
  obtain⟨b1,b2,a,b,e1,⟨xs,hq⟩,⟨ys,hq2⟩,q⟩:=q1
  subst e1
  obtain⟨u,u2,rfl,r,r2⟩:=vals2 r1
  cases r
  cases r2
  obtain⟨its,rv,pl⟩:=hq.heap I1
  obtain⟨its2,rv2,pl2⟩:=hq2.heap I1
  have la:=pl.lt
  have lb:=pl2.lt
  have ne:∀ {i j:Nat},i≠j->s1.heap.objs.size+i≠s1.heap.objs.size+j:=fun h z=>h (Nat.add_left_cancel z)
  have nl:∀ {c:Addr} (i:Nat),c<s1.heap.objs.size->c≠s1.heap.objs.size+i:=fun i h=>Nat.ne_of_lt (Nat.lt_of_lt_of_le h (Nat.le_add_right _ _))
  refine call_zipB pl pl2 fun h' g1 g2 g3 g4 g5 k=>wpAny_pyIter_zip g1 ?_
  have D:ZipApart (s1.heap.objs.size+4) (s1.heap.objs.size+2) (s1.heap.objs.size+3) (s1.heap.objs.size+0) (s1.heap.objs.size+1) a b :=
    ⟨ne (by decide),ne (by decide),ne (by decide),ne (by decide),ne (by decide),ne (by decide),ne (by decide),ne (by decide),ne (by decide),ne (by decide),nl 4 la,nl 3 la,nl 0 la,nl 1 la,nl 4 lb,nl 3 lb,nl 0 lb,nl 1 lb⟩
  refine⟨s1.heap.objs.size+4,[s1.heap.objs.size+4,s1.heap.objs.size+2,s1.heap.objs.size+3,s1.heap.objs.size+0,s1.heap.objs.size+1],_,_,H1,rfl,I1.kept (t':=s1.toks) k,turn_zipB D,⟨g1,g2,⟨_,_,g3⟩,g4,g5⟩,fun c hc=>?_,q⟩
  have ge:s1.heap.objs.size<=c:=by
    simp only[List.mem_cons,List.not_mem_nil,or_false] at hc
    rcases hc with rfl | rfl | rfl | rfl | rfl <;> exact Nat.le_add_right _ _
  exact I1.fpOk ge (I1.hok.fresh ge)
theorem comp_zip {b1 b2:Bool}{K:PySem.W.Frag}{own:List Str}{js:List Nat}{g:TG}{tt:TT}{te:TE}{σ:St}{H1:Hp}{Q:VK}{a b:Addr}{xs ys:List V} (hlen:xs.length<=ys.length) (Pv:Addr->Nat->Hp->Prop) (h0:∀ acc,H1 acc=none->Pv acc 0 (upd H1 acc (.lst [])))
    (hl:∀ acc i H,H1 acc=none->i<=xs.length->Pv acc i H->SqB b1 K H a xs/\SqB b2 K H b ys)
    (hs:∀ acc i x y p H,H1 acc=none->xs[i]?=some x->ys[i]?=some y->Pv acc i H->H p=none->g (.ref p) (blkσ own js σ) (upd H p (.tup [x,y])) fun τ H4=>tt τ H4 fun c H5=>
      if c=true then te τ H5 fun y H6=>∃ ys,H6 acc=some (.lst ys)/\ys.length<sizeLine/\(i+1<=xs.length/\Pv acc (i+1) (upd H6 acc (.lst (ys++[y])))) else (i+1<=xs.length/\Pv acc (i+1) H5))
    (hd:∀ acc H,H1 acc=none->Pv acc xs.length H->Q (.ref acc) H):tCompW own js g tt te σ (ItzB b1 b2 K a b) H1 Q:=by
  intro acc hacc
  refine⟨fun i H=>i<=xs.length/\Pv acc i H,xs.length,⟨Nat.zero_le _,h0 acc hacc⟩,?_⟩
  rintro i H ⟨hi,p⟩
  obtain⟨q1,q2⟩:=hl acc i H hacc hi p
  by_cases hlt:i<xs.length
  · have hl2:i<ys.length:=by omega
    refine .inr ⟨hlt,⟨xs,ys,xs[i],ys[i],q1,q2,by simp[hlt],by simp[hl2]⟩,fun x H' y=>?_⟩
    obtain⟨pa,z1,z2,hp,e1,e2,y1,y2⟩:=y
    subst e1 e2
    exact hs acc i z1 z2 pa H hacc (y1 xs q1) (y2 ys q2) p hp
  · have e:i=xs.length:=by omega
    subst e
    exact .inl ⟨⟨xs,ys,q1,q2,.inl (Nat.le_refl _)⟩,hd acc H hacc p⟩
end L2
namespace Lv
open PySem L2
theorem pgK_tup (K:PySem.W.Frag) {X:Cx}{es:List Expr}{k:Nat}{t:TGs}{n:Nat}{pos:Pos} (hc:X.calm=true) (h:PGs X es t) (hK:X.K=K:=by rfl) (hn:(assignEach es X.env).length=n:=by rfl) (hst:(assignEach es X.env).findIdx? (·.1)=none:=by rfl):PG X (.Tuple es k pos) (gTup K n t):=by
  subst hK;exact pg_tup hc h hn hst
end Lv
namespace L2
open PySem PySem.Spec PyProof.Rows PySem.SeqAt
theorem opK_catT (K:PySem.W.Frag) {X:Cx} (hK:X.K=K:=by rfl):OpR X (binaryOp .Add) (rCatT K):=by subst hK;exact op_catT
theorem callK_len (K:PySem.W.Frag) {X:Cx} (hK:X.K=K:=by rfl):CallR X (.builtin "len") (fun xs H Q=>∃ p ys,xs=[.ref p]/\(SqL K H p ys∨SqT K H p ys)/\Q (.int ys.length) H):=by subst hK;exact call_len_seq
theorem CompOk.bare {X:Cx}{scope:Scope}{own:List Str} (h:((scope.kind == .function) && scope.names.all fun y=>(y.2 != .cell) && (y.2 != .free) && ((y.2 != .local) || (scope.names.lookup y.1 == some .local)))=true):CompOk X scope own []:=by
  simp only[Bool.and_eq_true,beq_iff_eq,List.all_eq_true,Bool.or_eq_true,bne_iff_ne,ne_eq] at h
  obtain⟨h1,h2⟩:=h
  refine⟨h1,fun y hy=>(h2 y hy).1.1,fun y hy hf=>absurd hf (h2 y hy).1.2,fun y hy hl=>?_,fun j hj=>by cases hj⟩
  rcases (h2 y hy).2 with z | z
  · exact absurd hl z
  · exact z
section
variable {X:Cx}
def LLs (H:Hp) (rs:List Addr) (N:List (List Int)):Prop:=rs.length=N.length/\∀ (j:Nat) r xs,rs[j]?=some r->N[j]?=some xs->H r=some (.lst (xs.map V.int))
def TTs (H:Hp) (rs:List Addr) (N:List (List Int)):Prop:=rs.length=N.length/\∀ (j:Nat) r xs,rs[j]?=some r->N[j]?=some xs->H r=some (.tup (xs.map V.int))
theorem LLs.same {H H':Hp}{rs:List Addr}{N:List (List Int)} (h:LLs H rs N) (s:Same H H'):LLs H' rs N:=⟨h.1,fun j r xs a b=>s _ _ (h.2 j r xs a b)⟩
theorem TTs.same {H H':Hp}{rs:List Addr}{N:List (List Int)} (h:TTs H rs N) (s:Same H H'):TTs H' rs N:=⟨h.1,fun j r xs a b=>s _ _ (h.2 j r xs a b)⟩
theorem TTs.lst {H:Hp}{rs:List Addr}{N:List (List Int)}{acc:Addr}{ys zs:List V} (h:TTs H rs N) (e:H acc=some (.lst zs)):TTs (upd H acc (.lst ys)) rs N:=⟨h.1,fun j r xs a b=>by
  have:=h.2 j r xs a b
  rw[upd_ne (by intro z;subst z;rw[e] at this;cases this)]
  exact this⟩
theorem snoc_get {α:Type}{xs:List α}{x y:α}{j:Nat} (h:(xs++[x])[j]?=some y):xs[j]?=some y∨(j=xs.length/\y=x):=by
  by_cases hj:j<xs.length
  · rw[List.getElem?_append_left hj] at h;exact .inl h
  · rw[List.getElem?_append_right (by omega)] at h
    have:j - xs.length=0:=by
      cases e:j - xs.length with
      | zero=>rfl
      | succ m=>rw[e] at h;simp at h
    rw[this] at h
    exact .inr ⟨by omega,by simpa using h.symm⟩
theorem TTs.snoc {H:Hp}{rs:List Addr}{N:List (List Int)}{r:Addr}{x:List Int} (h:TTs H rs N) (e:H r=some (.tup (x.map V.int))):TTs H (rs++[r]) (N++[x]):=⟨by simp[h.1],fun j r' xs a b=>by
  rcases snoc_get a with a | ⟨a,rfl⟩
  · rcases snoc_get b with b | ⟨b,_⟩
    · exact h.2 j r' xs a b
    · have:=(List.getElem?_eq_some_iff.mp a).1;have:=h.1;omega
  · rcases snoc_get b with b | ⟨_,rfl⟩
    · have:=(List.getElem?_eq_some_iff.mp b).1;have:=h.1;omega
    · exact e⟩
theorem LLs.snoc {H:Hp}{rs:List Addr}{N:List (List Int)}{r:Addr}{x:List Int} (h:LLs H rs N) (e:H r=some (.lst (x.map V.int))):LLs H (rs++[r]) (N++[x]):=⟨by simp[h.1],fun j r' xs a b=>by
  rcases snoc_get a with a | ⟨a,rfl⟩
  · rcases snoc_get b with b | ⟨b,_⟩
    · exact h.2 j r' xs a b
    · have:=(List.getElem?_eq_some_iff.mp a).1;have:=h.1;omega
  · rcases snoc_get b with b | ⟨_,rfl⟩
    · have:=(List.getElem?_eq_some_iff.mp b).1;have:=h.1;omega
    · exact e⟩
theorem all_range (n:Nat):((List.range n).all fun _=>true)=true:=by simp
end
end L2
namespace Lv
open PySem L2
def fstN (N:List (List Int)):List Int:=(N.headD []).map (·+1)
def nextN (N:List (List Int)):List (List Int):=(N.tail.map (fstN N++·))++[fstN N]
def num0 (p:Nat):List (List Int):=[0]::List.replicate (p - 1) []
def num (p:Nat):Nat->List (List Int)
  | 0=>num0 p
  | n+1=>nextN (num p n)
def lens (N:List (List Int)):List Int:=N.map fun l=>(l.length:Int)
theorem lens_next (N:List (List Int)):lens (nextN N)=nextC (lens N):=by
  cases N with
  | nil=>simp[lens,nextN,nextC,fstN]
  | cons a r=>
    simp[lens,nextN,nextC,fstN,Function.comp_def]
theorem lens_num (p:Nat):∀ n,lens (num p n)=cnt p n
  | 0=>by simp[lens,num,num0,cnt,firstC]
  | n+1=>by
    show lens (nextN (num p n))=nextC (cnt p n)
    rw[lens_next,lens_num p n]
theorem num_len {p:Nat} (hp:1<=p) (n:Nat):(num p n).length=p:=by
  have:=congrArg List.length (lens_num p n)
  rw[cnt_len hp] at this
  simpa[lens] using this
theorem le_sum {c:List Int} (h:∀ x∈c,0<=x) {x:Int} (hx:x∈c):x<=c.sum:=by
  induction c with
  | nil=>cases hx
  | cons a r ih=>
    have nn:∀ l:List Int,(∀ x∈l,0<=x)->0<=l.sum:=by
      intro l
      induction l with
      | nil=>intro _;simp
      | cons x y ih=>
        intro h
        rw[List.sum_cons]
        have:=h x (by simp)
        have:=ih fun z hz=>h z (by simp[hz])
        omega
    rw[List.sum_cons]
    have ha:=h a (by simp)
    have hr:∀ x∈r,0<=x:=fun x hx=>h x (by simp[hx])
    rcases List.mem_cons.mp hx with rfl | hx
    · have:=nn r hr
      omega
    · have:=ih hr hx
      omega
theorem num_le {p n:Nat}{xs:List Int} (h:xs∈num p n):(xs.length:Int)<=tot p n:=by
  refine le_sum (down_cnt p n).2 ?_
  rw[<- lens_num p n]
  exact List.mem_map.mpr ⟨xs,h,rfl⟩
theorem num_cons {p:Nat} (hp:2<=p) (n:Nat):∃ a r,num p n=a::r/\a≠[]/\r.length=p - 1:=by
  have h:=num_len (p:=p) (by omega) n
  cases e:num p n with
  | nil=>rw[e] at h;simp at h;omega
  | cons a r=>
    rw[e] at h
    refine⟨a,r,rfl,?_,by simp at h;omega⟩
    rintro rfl
    have h1:=hd_pos hp n
    unfold hd at h1
    rw[<- lens_num p n,e] at h1
    simp[lens] at h1
theorem small8000 {n:Nat} (h:n<=8000):n<sizeLine:=Nat.lt_of_le_of_lt h (by decide)
def spNextN:Sp:=fun vs H Q _=>∃ (a:Addr) (rs:List Addr) (N:List (List Int)),vs=[.ref a]/\H a=some (.tup (rs.map V.ref))/\TTs H rs N/\2<=N.length/\N.length<=7/\N.headD []≠[]/\(∀ xs∈N,xs.length<=4000) /\
  ∀ l qs H',H l=none->H' l=some (.tup (qs.map V.ref))->TTs H' qs (nextN N)->Same H H'->Q (.ref l) H'
theorem rep_get {α:Type}{n j:Nat}{x y:α} (h:(List.replicate n x)[j]?=some y):y=x:=by
  rw[List.getElem?_replicate] at h
  split at h
  · exact (Option.some.inj h).symm
  · cases h
theorem map_ref_get {rs:List Addr}{i:Nat}{x:V} (h:(rs.map V.ref)[i]?=some x):∃ r,rs[i]?=some r/\x=.ref r:=by
  rw[List.getElem?_map] at h
  cases e:rs[i]? with
  | none=>rw[e] at h;cases h
  | some p=>rw[e] at h;exact⟨p,rfl,(Option.some.inj h).symm⟩
def spFirstN:Sp:=fun vs H Q _=>∃ p:Nat,vs=[.int p]/\2<=p/\p<=7/\∀ l qs H',H l=none->H' l=some (.tup (qs.map V.ref))->TTs H' qs (num0 p)->Same H H'->Q (.ref l) H'
end Lv
namespace Lv
open PySem L2 PySem.Spec PyProof.Rows
structure FunD (K:PySem.W.Frag) (x qual:Str) (st:Stmt) (f da:Addr) (fd:FuncData):Prop where
  ex:∃ (oc:Value) (od:Option Addr) (kV doc pm:Value) (an:Option Addr) (cdv ct:Value) (osl:Array (Option Value)),
    fd=PySem.W.fnOf x qual (defArgs st) (defBody st) (defScope st) (.ref da) kV doc pm an cdv ct/\K.lookup f=some ⟨oc,od,.func fd,osl⟩/\PySem.W.codeIn K cdv qual=true
  kp:PySem.W.keepIn K (.ref f)=true
section
variable {P:Program}{w:World}{K:PySem.W.Frag}{mg:Str->Option Value}{base:Heap}
end
structure CalD (P:Program) (w:World) (K:PySem.W.Frag) (mg:Str->Option Value) (base:Heap) (k:Nat) (x:Str) (ps:List Str) (dvs:List V) (sp:Sp) (f:Addr) (fd:FuncData):Prop where
  ok:FnOk P w K mg base CX0 k f fd ps sp
  mg:mg x=some (.ref f)
  kp:PySem.W.keepIn K (.ref f)=true
  bd:∃ ds,Binds K fd ps ds/\Vals dvs ds
def tCallV (j:Nat) (f:Addr) (t:TE):TE:=fun σ H Q=>σ[j]?=some (some (.ref f))/\t σ H Q
theorem pe_calV {X:Cx}{k:Nat}{x y:Str}{ps:List Str}{sp:Sp}{f:Addr}{fd:FuncData}{e:Expr}{es:List Expr}{t:TA}{p pos:Pos} (j:Nat) (C:Cal X.prog X.w X.K X.mg X.base k y ps sp f fd) (hr:Room k X.A) (ha:PA X (e::es) t) (hN:X.N[j]?=some x:=by rfl) (hv:Vis X.env.scope x:=by first | exact Or.inl rfl | exact Or.inr (Or.inl rfl) | exact Or.inr (Or.inr rfl))
    (hdb:(x == ("__debug__":Str))=false:=by decide) (hcd:(x == ("__classdict__":Str))=false:=by decide) (he:starEach (e::es) X.env=(false,eval e X.env)::starEach es X.env:=by rfl) (hpl:(backTo pos (starEach es X.env)).any (·.1)=false:=by rfl) :
    PE X (.Call (.Name x p) (e::es) [] pos) (tCallV j f (tCall sp [] E0 t)):=by
  intro pins s σ H Q I h
  obtain⟨h0,h⟩:=h
  refine wpAny_Call_Name_kw ?_
  refine thn (pe_var hN hv hdb hcd pins s σ H (fun v H1=>v=.ref f/\t σ H1 fun vs H2=>sp (vs++[]) H2 Q E0) I ⟨_,h0,rfl,h⟩) fun u s1 ⟨v,H1,I1,r,ev,q⟩=>?_
  subst ev
  obtain rfl:u=Value.ref f:=r
  refine PySem.W.callWith_K (h₀:=X.base) I.ok.mod.kin C.kp (thn (ha pos pins s1 σ H1 _ I1 q) fun us s2 ⟨vs,H2,I2,r2,q2⟩=>⟨I2.kIn,?_⟩) he hpl
  exact run_fn C.ok hr C.bd .nil pass0 I2 r2 q2
theorem pe_gfn {X:Cx}{k:Nat}{x:Str}{ps:List Str}{sp:Sp}{f:Addr}{fd:FuncData}{pos:Pos} (C:Cal X.prog X.w X.K X.mg X.base k x ps sp f fd) (hg:Gl X x) (hd:(x == ("__debug__":Str))=false:=by decide):PE X (.Name x pos) (tC (.ref f)) :=
  pe_glob hg C.mg rfl hd
end Lv
namespace L2
open PySem PySem.Spec PyProof.Rows
end L2
namespace L2
open PySem PySem.Spec PyProof.Rows
def Fly (H:Hp) (h0 h:Heap) (ea:Addr) (cls:Value) (od:Option Addr) (fl:Value):Prop :=
  ∃ (a0:Value) (T:Addr) (oe oT:Obj) (vs ts:Array Value),(H ea=none/\H T=none/\h0.get? ea=none/\h0.get? T=none) /\
    h.get? ea=some oe/\((oe.cls=cls/\vs[0]?=some a0)/\oe.dict=od)/\oe.data=.fields vs/\vs[1]?=some (.ref T)/\T≠ea/\h.get? T=some oT/\oT.data=.fields ts/\ts[3]?=some fl
def CX1 (P:Program) (w:World):CXT:=fun outer H s E e s'=>∃ (ea:Addr) (cls:Value) (od:Option Addr) (H':Hp),e=.ref ea/\s'.os=s.os/\AllBare s'.gens/\Un (frs outer) [] H H' s.heap s'.heap/\HOk P w H' s'.heap/\Fly H' s.heap s'.heap ea cls od .none/\E cls od H'
section
variable {P:Program}{w:World}{K:PySem.W.Frag}{mg:Str->Option Value}{base:Heap}{N:List Str}{qual:Str}{scope:Scope}{f:Addr}{cd:Value}{A:Around}{outer:List Env}{s:Shared}{H:Hp}{E:XK}
end
end L2
namespace L2
open PySem PySem.Spec PyProof.Rows PySem.W
section
variable {prog:Program}{w:World}{A:Around}{E:Value->Shared->Prop}{s:Shared}{K:Frag}{x C D:Addr}{ox:Obj}
def excRest (K:Frag) (C:Addr):Bool:=findIn K (.ref C) "__getattribute__" == some (some (.builtin "BaseException.__getattribute__")) && (findIn K (.ref C) "__getattr__" == some none &&
  (findIn K (.ref C) "__class__" == some (some (.builtin "object.__class__")) && (mroIn K C (.type "object") == some true && (mroIn K C (.type "BaseException") == some true && ((clsIn K C).isSome &&
  (specialIn K (.builtin "object.__class__") "__get__" == some (some (.builtin "getset_descriptor.__get__")) && takesIn K (.builtin "object.__class__") == some true))))))
def excAll (K:Frag) (C:Addr):Bool:=excIn K C [.type "ValueError",.type "Exception",.type "BaseException",.type "object"] "ValueError.__new__" && excRest K C
end
section
variable {X:Cx}
end
end L2
namespace L2
open PySem PySem.Spec PyProof.Rows PySem.W
section
variable {P:Program}{w:World}{K:PySem.W.Frag}{mg:Str->Option Value}{base:Heap}
end
structure CalE (P:Program) (w:World) (K:PySem.W.Frag) (mg:Str->Option Value) (base:Heap) (k:Nat) (x:Str) (ps:List Str) (dvs:List V) (sp:Sp) (f:Addr) (fd:FuncData):Prop where
  ok:FnOk P w K mg base (CX1 P w) k f fd ps sp
  mg:mg x=some (.ref f)
  kp:PySem.W.keepIn K (.ref f)=true
  bd:∃ ds,Binds K fd ps ds/\Vals dvs ds
section
variable {X:Cx}
inductive FParts (X:Cx):List Expr->List TE->Prop
  | nil:FParts X [] []
  | con {x:Str}{j pos}{es:List Expr}{ts:List TE} (h:x.length<=1000) (r:FParts X es ts):FParts X (.Constant (.str x) j pos::es) ts
  | val {v:Expr}{t:TE}{pos:Pos}{es:List Expr}{ts:List TE} (h:PE X v t) (r:FParts X es ts):FParts X (.FormattedValue v (-1) none pos::es) (t::ts)
end
section
variable {X:Cx}{pins:List (Addr × Obj)}{σ:St}{H:Hp}{s:Shared}
end
def Ends.without (D:Ends) (i:Nat):Ends:={ nx:=fun σ H=>D.nx (σ.set i none) H,rt:=D.rt,bk:=fun σ H=>D.bk (σ.set i none) H,ct:=fun σ H=>D.ct (σ.set i none) H }
section
variable {X:Cx}
end
end L2
namespace L2
open PySem PySem.Spec PyProof.Rows
def notStarW:Expr->Bool
  | .Starred ..=>false
  | _=>true
theorem star_consW {e:Expr}{es:List Expr}{env:Env} (h:notStarW e=true):starEach (e::es) env=(false,eval e env)::starEach es env:=by
  cases e <;> first | rfl | (cases h)
structure WA (X:Cx) (es:List Expr) (t:TA):Prop where
  out:PA X es t
structure WS (X:Cx) (st:Stmt) (t:TS):Prop where
  out:PS X st t
structure WSs (X:Cx) (sts:List Stmt) (t:TS):Prop where
  out:PSs X sts t
section
variable {X:Cx}{st:Stmt}{rest a b:List Stmt}{t u:TS}{c e:Expr}{tc:TT}{pos:Pos}{es:List Expr}{te:TE}{ta:TA}
theorem wss_cons (h1:WS X st t) (h2:WSs X rest u):WSs X (st::rest) (tSeq t u):=⟨pss_cons h1.out h2.out⟩
theorem wss_one (h:WS X st t):WSs X [st] t:=⟨pss_one h.out⟩
theorem wss_nil:WSs X [] tNext:=⟨pss_nil⟩
theorem wss {sts:List Stmt} (h:PSs X sts t):WSs X sts t:=⟨h⟩
theorem ws_if (hc:PT X c tc) (ha:WSs X a t) (hb:WSs X b u):WS X (.If c a b pos) (tIfS tc t u):=⟨ps_if hc ha.out hb.out⟩
theorem ws (h:PS X st t):WS X st t:=⟨h⟩
theorem wa_nil:WA X [] tNil:=⟨pa_nil⟩
theorem wa_cons (hn:notStarW e=true) (ha:PE X e te) (hr:WA X es ta):WA X (e::es) (tCons te ta):=⟨pa_cons ha hr.out (star_consW hn)⟩
end
section
variable {P:Program}{w:World}{K:PySem.W.Frag}{mg:Str->Option Value}{base:Heap}
theorem okW {x qual:Str}{st:Stmt}{f:Addr}{fd:FuncData}{N ps:List Str}{k:Nat}{sp:Sp} (F:Fun K x qual st f fd) (S:FnScope N ps (defScope st)) (len:∀ vs H Q E,sp vs H Q E->vs.length=ps.length)
    (hbody:∀ (cdv:Value) (A:Around) (outer:List Env) (s:Shared) (H:Hp) (vs:List V) (Q:VK) (E:XK),Room k (A.deeper (envOfC qual (defScope st) s.heap.objs.size f cdv))->sp vs H Q E ->
      ∃ t,WSs (cxOf CX0 P w K mg base N qual (defScope st) f cdv A outer s H E).nox (defBody st) t/\t { nx:=fun _ H'=>Q .non H',rt:=Q } (start N vs) H):FnOk P w K mg base CX0 (k+1) f fd ps sp :=
  F.ok S len fun cdv A outer s H vs Q E hr hsp=>by
    obtain⟨t,h,q⟩:=hbody cdv A outer s H vs Q E hr hsp
    exact⟨t,h.out,q⟩
end
end L2
namespace L2
open PySem PySem.Spec PyProof.Rows PySem.SeqAt
section
variable {X:Cx}{pins:List (Addr × Obj)}{σ:St}{H:Hp}{s:Shared}{a:Addr}{u v:HO}{kvs:List (Key × V)}
end
section
variable {X:Cx}
end
section
variable {X:Cx}
end
section
variable {prog:Program}{w:World}{A:Around}{R:Result->Shared->Prop}{s:Shared}
end
section
variable {X:Cx}{pins:List (Addr × Obj)}{σ:St}{H H':Hp}{s s':Shared}{scope:Scope}{own:List Str}{js:List Nat}{C:Addr}{fp:List Addr}
end
section
variable {X:Cx}{scope:Scope}{own:List Str}{js:List Nat}{kx vx iter target:Expr}{ifs:List Expr}{wi:TI}{g:TG}{tt:TT}{tk tv:TE}{pos:Pos}
end
end L2
namespace L2
open PySem PyProof.Rows
structure KO extends KeyOrd where
  ky:Keyed->α
namespace KO
variable {O:KO}{x y z:Keyed}
def le (O:KO) (x y:Keyed):Prop:=O.blt (O.ky y) (O.ky x)=false
theorem le_refl:O.le x x:=O.irrefl _
theorem le_trans (h1:O.le x y) (h2:O.le y z):O.le x z:=KeyOrd.kle_trans (O:=O.toKeyOrd) h1 h2
theorem le_of_lt (h:O.blt (O.ky x) (O.ky y)=true):O.le x y:=KeyOrd.klt_asymm (O:=O.toKeyOrd) h
abbrev Srt (O:KO) (l:List Keyed):Prop:=l.Pairwise O.le
end KO
def gallop':Bool->Keyed->Array Keyed->Nat->Nat->Nat->StateT SortSt Sem (Option Nat):=sortPriv% PySem.Builtin.gallop
def mergeLo':Array Keyed->Array Keyed->StateT SortSt Sem (Array Keyed):=sortPriv% PySem.Builtin.mergeLo
def mergeHi':Array Keyed->Array Keyed->StateT SortSt Sem (Array Keyed):=sortPriv% PySem.Builtin.mergeHi
def setGallop':Nat->StateT SortSt Sem Unit:=sortPriv% PySem.Builtin.setMinGallop
section
variable {prog:Program}{w:World}{A:Around}{E:Value->Shared->Prop}{s:Shared}{O:KO}{knd:SortKind}{ok:Keyed->Prop}{st:SortSt}
def Asks (prog:Program) (w:World) (A:Around) (s:Shared) (O:KO) (knd:SortKind) (ok:Keyed->Prop):Prop :=
  ∀ x y,ok x->ok y->∀ (E:Value->Shared->Prop) (Q:Bool->Shared->Prop),Q (O.blt (O.ky x) (O.ky y)) s->wpAny (model prog w) A (keyLt' knd x.1 y.1) Q E s
theorem wpS_lt {x y:Keyed}{Q:Option Bool->SortSt->Prop} (hA:Asks prog w A s O knd ok) (hk:kindOf st=knd) (hx:ok x) (hy:ok y) (h:Q (some (O.blt (O.ky x) (O.ky y))) st):wpS (model prog w) A E s (lt' x y) Q st:=by
  rw[lt'_eq]
  refine wpS_bind (wpS_get ?_)
  rw[hk]
  refine wpS_bind (wpS_lift (wpAny_attempt (hA x y hx hy _ _ ⟨rfl,?_⟩)))
  exact wpS_pure h
theorem wpS_elem {arr:Array Keyed}{i:Nat}{x:Keyed}{Q:Keyed->SortSt->Prop} (e:arr[i]?=some x) (h:Q x st):wpS (model prog w) A E s (elem' arr i) Q st:=by
  rw[elem'_eq,e]
  exact wpS_pure h
def beyond' (left:Bool) (key:Keyed) (arr:Array Keyed) (base i:Nat):StateT SortSt Sem (Option Bool) :=
  elem' arr (base+i) >>= fun x=>if left=true then lt' x key else lt' key x >>= fun r=>pure (r.map (! ·))
theorem wpS_gallop {left:Bool}{key:Keyed}{arr:Array Keyed}{base n hint:Nat}{Q:Option Nat->SortSt->Prop} (hA:Asks prog w A s O knd ok) (hk:kindOf st=knd) (hkey:ok key) (B:Nat->Bool)
    (hB:∀ i,i<n->∃ x,arr[base+i]?=some x/\ok x/\B i=if left=true then O.blt (O.ky x) (O.ky key) else !(O.blt (O.ky key) (O.ky x)))
    (mono:∀ i j,i<=j->j<n->B j=true->B i=true) (hh:hint<n)
    (h:∀ k,k<=n->(∀ i,i<k->B i=true)->(∀ i,k<=i->i<n->B i=false)->Q (some k) st):wpS (model prog w) A E s (gallop' left key arr base n hint) Q st:=by
  have bey:∀ i,i<n->∀ {Q':Option Bool->SortSt->Prop},Q' (some (B i)) st->wpS (model prog w) A E s (beyond' left key arr base i) Q' st:=by
    intro i hi Q' hq
    obtain⟨x,e,hx,eb⟩:=hB i hi
    refine wpS_bind (wpS_elem e ?_)
    rw[eb] at hq
    cases left with
    | true=>simp only[if_true] at hq ⊢;exact wpS_lt hA hk hx hkey hq
    | false=>
      simp only[Bool.false_eq_true,if_false] at hq ⊢
      exact wpS_bind (wpS_lt hA hk hkey hx (wpS_pure hq))
  have monoF:∀ i j,i<=j->j<n->B i=false->B j=false:=by
    intro i j hij hj hf
    cases e:B j with
    | false=>rfl
    | true=>rw[mono i j hij hj e] at hf;cases hf
  have jp:∀ lo hi,lo<=hi->hi<=n->(∀ i,i<lo->B i=true)->(∀ i,hi<=i->i<n->B i=false) ->
      wpS (model prog w) A E s (forIn [:n] ((none : Option (Option Nat)), lo, hi) fun _ c => if c.2.1 ≥ c.2.2 then pure (ForInStep.done (none, c.2.1, c.2.2)) else beyond' left key arr base (c.2.1 + (c.2.2 - c.2.1) / 2) >>= fun x => match x with
          | some more=>if more=true then pure (ForInStep.yield (none,c.2.1+(c.2.2 - c.2.1) / 2+1,c.2.2)) else pure (ForInStep.yield (none,c.2.1,c.2.1+(c.2.2 - c.2.1) / 2))
          | _=>pure (ForInStep.done (some none,c.2.1,c.2.2)))
        (fun c st'=>st'=st/\∃ l k,c=(none,l,k)/\Q (some k) st) st:=by
    intro lo hi hle hin hlo hhi
    refine wpS_forRange (I:=fun x c st'=>st'=st/\∃ l k,c=(none,l,k)/\l<=k/\k<=n/\k - l<=n - x/\(∀ i,i<l->B i=true)/\(∀ i,k<=i->i<n->B i=false)) ?step ?fin ⟨rfl,lo,hi,rfl,hle,hin,by omega,hlo,hhi⟩
    case fin=>
      rintro c st' ⟨rfl,l,k,rfl,h1,h2,h3,h4,h5⟩
      have e:l=k:=by omega
      subst e
      exact⟨rfl,l,l,rfl,h l h2 h4 h5⟩
    case step=>
      rintro x c st' _ hx ⟨rfl,l,k,rfl,h1,h2,h3,h4,h5⟩
      dsimp only
      by_cases hge:l ≥ k
      · rw[if_pos hge]
        have e:l=k:=by omega
        subst e
        exact wpS_pure ⟨rfl,l,l,rfl,h l h2 h4 h5⟩
      · rw[if_neg hge]
        have hm:l+(k - l) / 2<k:=by omega
        refine wpS_bind (bey _ (by omega) ?_)
        cases e:B (l+(k - l) / 2) with
        | true=>
          simp only[if_true]
          exact wpS_pure ⟨rfl,_,_,rfl,by omega,h2,by omega,fun i hi=>mono i _ (by omega) (by omega) e,h5⟩
        | false=>
          simp only[Bool.false_eq_true,if_false]
          exact wpS_pure ⟨rfl,_,_,rfl,by omega,by omega,by omega,h4,fun i h6 h7=>monoF _ i h6 h7 e⟩
  refine wpS_bind (bey hint hh ?_)
  dsimp only
  cases e0:B hint with
  | true=>
    simp only[if_true]
    refine wpS_bind (wpS_mono (wpS_forRange (I:=fun x c st'=>st'=st/\∃ l k,c=((none:Option (Option Nat)),l,k)/\l<k/\x+1<=k/\hint+l<n/\B (hint+l)=true)
      (Q:=fun c st'=>st'=st/\∃ l k,c=((none:Option (Option Nat)),l,k)/\l<k/\hint+l<n/\B (hint+l)=true/\(n - hint<=k∨(hint+k<n/\B (hint+k)=false))) ?step ?fin ⟨rfl,0,1,rfl,by omega,by omega,hh,e0⟩) ?post)
    case fin=>
      rintro c st' ⟨rfl,l,k,rfl,h1,h2,h3,h4⟩
      exact⟨rfl,l,k,rfl,h1,h3,h4,.inl (by omega)⟩
    case step=>
      rintro x c st' _ hx ⟨rfl,l,k,rfl,h1,h2,h3,h4⟩
      dsimp only
      by_cases hge:k ≥ n - hint
      · rw[if_pos hge]
        exact wpS_pure ⟨rfl,l,k,rfl,h1,h3,h4,.inl hge⟩
      · rw[if_neg hge]
        refine wpS_bind (bey (hint+k) (by omega) ?_)
        cases e:B (hint+k) with
        | true=>
          simp only[Bool.not_true,Bool.false_eq_true,if_false]
          exact wpS_pure ⟨rfl,_,_,rfl,by omega,by omega,by omega,e⟩
        | false=>
          simp only[Bool.not_false,if_true]
          exact wpS_pure ⟨rfl,l,k,rfl,h1,h3,h4,.inr ⟨by omega,e⟩⟩
    case post=>
      rintro c st' ⟨rfl,l,k,rfl,h1,h3,h4,h5⟩
      dsimp only
      refine wpS_bind (wpS_mono (jp (hint+l+1) (hint+min k (n - hint)) (by omega) (by omega) (fun i hi=>mono i (hint+l) (by omega) h3 h4) (fun i h6 h7=>?_)) ?_)
      · rcases h5 with h5 | ⟨h5,h8⟩
        · omega
        · exact monoF (hint+k) i (by omega) h7 h8
      · rintro c st' ⟨rfl,l,k,rfl,q⟩
        exact wpS_pure q
  | false=>
    simp only[Bool.false_eq_true,if_false]
    refine wpS_bind (wpS_mono (wpS_forRange (I:=fun x c st'=>st'=st/\∃ l k,c=((none:Option (Option Nat)),l,k)/\l<k/\x+1<=k/\l<=hint/\B (hint - l)=false)
      (Q:=fun c st'=>st'=st/\∃ l k,c=((none:Option (Option Nat)),l,k)/\l<k/\l<=hint/\B (hint - l)=false/\(hint+1<=k∨(k<=hint/\B (hint - k)=true))) ?step ?fin ⟨rfl,0,1,rfl,by omega,by omega,by omega,e0⟩) ?post)
    case fin=>
      rintro c st' ⟨rfl,l,k,rfl,h1,h2,h3,h4⟩
      exact⟨rfl,l,k,rfl,h1,h3,h4,.inl (by omega)⟩
    case step=>
      rintro x c st' _ hx ⟨rfl,l,k,rfl,h1,h2,h3,h4⟩
      dsimp only
      by_cases hge:k ≥ hint+1
      · rw[if_pos hge]
        exact wpS_pure ⟨rfl,l,k,rfl,h1,h3,h4,.inl hge⟩
      · rw[if_neg hge]
        refine wpS_bind (bey (hint - k) (by omega) ?_)
        cases e:B (hint - k) with
        | true=>
          simp only[if_true]
          exact wpS_pure ⟨rfl,l,k,rfl,h1,h3,h4,.inr ⟨by omega,e⟩⟩
        | false=>
          simp only[Bool.false_eq_true,if_false]
          exact wpS_pure ⟨rfl,_,_,rfl,by omega,by omega,by omega,e⟩
    case post=>
      rintro c st' ⟨rfl,l,k,rfl,h1,h3,h4,h5⟩
      dsimp only
      refine wpS_bind (wpS_mono (jp (hint+1 - min k (hint+1)) (hint - l) (by omega) (by omega) (fun i hi=>?_) (fun i h6 h7=>monoF _ i h6 h7 h4)) ?_)
      · rcases h5 with h5 | ⟨h5,h8⟩
        · omega
        · exact mono i (hint - k) (by omega) (by omega) h8
      · rintro c st' ⟨rfl,l,k,rfl,q⟩
        exact wpS_pure q
end
section
variable {O:KO}{a b out:List Keyed}{ia ib:Nat}{x:Keyed}
theorem drop_at {l:List Keyed}{i:Nat}{x:Keyed} (e:l[i]?=some x):l.drop i=x::l.drop (i+1):=by
  obtain⟨h,rfl⟩:=List.getElem?_eq_some_iff.mp e
  exact List.drop_eq_getElem_cons h
theorem ext_to (a:Array Keyed) (i:Nat):(a.extract i a.size).toList=a.toList.drop i:=by
  rw[Array.toList_extract]
  simp only[List.extract]
  exact List.take_of_length_le (by simp)
theorem ext_to2 (a:Array Keyed) (i k:Nat):(a.extract i (i+k)).toList=(a.toList.drop i).take k:=by
  rw[Array.toList_extract]
  simp[List.extract]
structure MI (O:KO) (a b out:List Keyed) (ia ib:Nat):Prop where
  perm:(out++(a.drop ia++b.drop ib)).Perm (a++b)
  srt:O.Srt out
  le:∀ x∈out,∀ y∈a.drop ia++b.drop ib,O.le x y
theorem srt_snoc (h:O.Srt out) (hx:∀ y∈out,O.le y x):O.Srt (out++[x]) :=
  List.pairwise_append.mpr ⟨h,List.pairwise_singleton _ _,fun y hy z hz=>by rw[List.mem_singleton.mp hz];exact hx y hy⟩
theorem MI.takeA (h:MI O a b out ia ib) (sa:O.Srt a) (e:a[ia]?=some x) (hb:∀ y∈b.drop ib,O.le x y):MI O a b (out++[x]) (ia+1) ib:=by
  have ed:=drop_at e
  have sd:O.Srt (x::a.drop (ia+1)):=ed ▸ sa.drop
  refine⟨?_,srt_snoc h.srt fun y hy=>h.le y hy x (by rw[ed];simp),fun y hy z hz=>?_⟩
  · have p:=h.perm
    rw[ed] at p
    simpa using p
  · rcases List.mem_append.mp hy with hy | hy
    · refine h.le y hy z ?_
      rw[ed]
      rcases List.mem_append.mp hz with hz | hz
      · exact List.mem_append_left _ (List.mem_cons_of_mem _ hz)
      · exact List.mem_append_right _ hz
    · rw[List.mem_singleton.mp hy]
      rcases List.mem_append.mp hz with hz | hz
      · exact (List.pairwise_cons.mp sd).1 z hz
      · exact hb z hz
theorem MI.takeB (h:MI O a b out ia ib) (sb:O.Srt b) (e:b[ib]?=some x) (ha:∀ y∈a.drop ia,O.le x y):MI O a b (out++[x]) ia (ib+1):=by
  have ed:=drop_at e
  have sd:O.Srt (x::b.drop (ib+1)):=ed ▸ sb.drop
  refine⟨?_,srt_snoc h.srt fun y hy=>h.le y hy x (by rw[ed];simp),fun y hy z hz=>?_⟩
  · have p:=h.perm
    rw[ed] at p
    refine List.Perm.trans ?_ p
    rw[List.append_assoc]
    exact List.Perm.append_left _ (show List.Perm (x::(a.drop ia++b.drop (ib+1))) _ from List.perm_middle.symm)
  · rcases List.mem_append.mp hy with hy | hy
    · refine h.le y hy z ?_
      rw[ed]
      rcases List.mem_append.mp hz with hz | hz
      · exact List.mem_append_left _ hz
      · exact List.mem_append_right _ (List.mem_cons_of_mem _ hz)
    · rw[List.mem_singleton.mp hy]
      rcases List.mem_append.mp hz with hz | hz
      · exact ha z hz
      · exact (List.pairwise_cons.mp sd).1 z hz
theorem take_snoc {l:List Keyed}{i k:Nat}{x:Keyed} (e:l[i+k]?=some x):(l.drop i).take (k+1)=(l.drop i).take k++[x]:=by
  rw[List.take_succ,List.getElem?_drop,e]
  rfl
theorem MI.takeAs (h:MI O a b out ia ib) (sa:O.Srt a):∀ k,ia+k<=a.length->(∀ i z,i<k->a[ia+i]?=some z->∀ y∈b.drop ib,O.le z y)->MI O a b (out++(a.drop ia).take k) (ia+k) ib
  | 0,_,_=>by simpa using h
  | k+1,hl,hz=>by
    have q:=MI.takeAs h sa k (by omega) fun i z hi e=>hz i z (by omega) e
    have e:a[ia+k]?=some a[ia+k]:=List.getElem?_eq_getElem (by omega)
    have r:=q.takeA sa e (hz k _ (by omega) e)
    rw[List.append_assoc,<- take_snoc e] at r
    exact r
theorem MI.takeBs (h:MI O a b out ia ib) (sb:O.Srt b):∀ k,ib+k<=b.length->(∀ i z,i<k->b[ib+i]?=some z->∀ y∈a.drop ia,O.le z y)->MI O a b (out++(b.drop ib).take k) ia (ib+k)
  | 0,_,_=>by simpa using h
  | k+1,hl,hz=>by
    have q:=MI.takeBs h sb k (by omega) fun i z hi e=>hz i z (by omega) e
    have e:b[ib+k]?=some b[ib+k]:=List.getElem?_eq_getElem (by omega)
    have r:=q.takeB sb e (hz k _ (by omega) e)
    rw[List.append_assoc,<- take_snoc e] at r
    exact r
def Mg (O:KO) (a b r:List Keyed):Prop:=r.Perm (a++b)/\O.Srt r
theorem MI.doneA (h:MI O a b out ia ib) (sa:O.Srt a) (e:b.length<=ib):Mg O a b (out++a.drop ia++b.drop ib):=by
  have eb:b.drop ib=[]:=List.drop_eq_nil_of_le e
  refine⟨by rw[List.append_assoc];exact h.perm,?_⟩
  rw[eb,List.append_nil]
  exact List.pairwise_append.mpr ⟨h.srt,sa.drop,fun x hx y hy=>h.le x hx y (List.mem_append_left _ hy)⟩
theorem MI.doneB (h:MI O a b out ia ib) (sa:O.Srt a) (sb:O.Srt b) (hl:∀ x∈b.drop ib,∀ y∈a.drop ia,O.le x y):Mg O a b (out++b.drop ib++a.drop ia):=by
  refine⟨by rw[List.append_assoc];exact (List.Perm.append_left _ List.perm_append_comm).trans h.perm,?_⟩
  rw[List.append_assoc]
  refine List.pairwise_append.mpr ⟨h.srt,List.pairwise_append.mpr ⟨sb.drop,sa.drop,hl⟩,fun x hx y hy=>h.le x hx y ?_⟩
  rcases List.mem_append.mp hy with hy | hy
  · exact List.mem_append_right _ hy
  · exact List.mem_append_left _ hy
end
section
variable {prog:Program}{w:World}{A:Around}{E:Value->Shared->Prop}{s:Shared}{O:KO}{knd:SortKind}{ok:Keyed->Prop}{st:SortSt}
theorem wpS_ite {α:Type}{c:Prop} [Decidable c] {p q:StateT SortSt Sem α}{Q:α->SortSt->Prop} (h1:c->wpS (model prog w) A E s p Q st) (h2:¬ c->wpS (model prog w) A E s q Q st):wpS (model prog w) A E s (if c then p else q) Q st:=by
  by_cases h:c
  · rw[if_pos h];exact h1 h
  · rw[if_neg h];exact h2 h
def Gal (st st':SortSt):Prop:=kindOf st'=kindOf st/\arrOf st'=arrOf st/\pendingOf st'=pendingOf st/\failedOf st'=failedOf st
theorem Gal.refl:Gal st st:=⟨rfl,rfl,rfl,rfl⟩
theorem wpS_setGallop {g:Nat}{st1:SortSt}{Q:Unit->SortSt->Prop} (hG:Gal st st1) (h:∀ st',Gal st st'->Q () st'):wpS (model prog w) A E s (setGallop' g) Q st1 :=
  wpS_modify (h _ ⟨hG.1,hG.2.1,hG.2.2.1,hG.2.2.2⟩)
theorem sorted_at {l:List Keyed} (sl:O.Srt l) {i j:Nat}{x y:Keyed} (hij:i<=j) (hx:l[i]?=some x) (hy:l[j]?=some y):O.le x y:=by
  obtain⟨h1,rfl⟩:=List.getElem?_eq_some_iff.mp hx
  obtain⟨h2,rfl⟩:=List.getElem?_eq_some_iff.mp hy
  rcases Nat.lt_or_eq_of_le hij with h | h
  · exact List.pairwise_iff_getElem.mp sl i j h1 h2 h
  · subst h;exact KO.le_refl
theorem mem_drop_at {l:List Keyed}{i:Nat}{y:Keyed} (h:y∈l.drop i):∃ j,i<=j/\l[j]?=some y:=by
  obtain⟨j,hj,e⟩:=List.mem_iff_getElem.mp h
  exact⟨i+j,by omega,by rw[<- List.getElem?_drop,List.getElem?_eq_getElem hj,e]⟩
theorem le_drop {l:List Keyed} (sl:O.Srt l) {i:Nat}{x:Keyed} (hx:l[i]?=some x):∀ y∈l.drop i,O.le x y:=fun y hy=>
  let ⟨_,hj,e⟩:=mem_drop_at hy
  sorted_at sl hj hx e
theorem arr_at {a:Array Keyed}{i:Nat} (h:i<a.size):∃ x,a[i]?=some x/\a.toList[i]?=some x/\x∈a.toList :=
  ⟨a[i],Array.getElem?_eq_getElem h,by rw[Array.getElem?_toList];exact Array.getElem?_eq_getElem h,by simp⟩
theorem arr_to {a:Array Keyed}{i:Nat}{x:Keyed} (h:a[i]?=some x):a.toList[i]?=some x:=by rw[Array.getElem?_toList];exact h
theorem wpS_gallopR {key:Keyed}{a:Array Keyed}{i n hint:Nat}{Q:Option Nat->SortSt->Prop} (hA:Asks prog w A s O knd ok) (hk:kindOf st=knd) (hkey:ok key) (oka:∀ x∈a.toList,ok x) (hi:i+n<=a.size)
    (sa:∀ p q x y,i<=p->p<=q->q<i+n->a[p]?=some x->a[q]?=some y->O.le x y) (hh:hint<n)
    (h:∀ k,k<=n->(∀ j z,j<k->a[i+j]?=some z->O.le z key)->(∀ j z,k<=j->j<n->a[i+j]?=some z->O.blt (O.ky key) (O.ky z)=true)->Q (some k) st):wpS (model prog w) A E s (gallop' false key a i n hint) Q st:=by
  refine wpS_gallop hA hk hkey (fun j=>!(O.blt (O.ky key) (O.ky (a.getD (i+j) key)))) ?_ ?_ hh ?_
  · intro j hj
    obtain⟨x,e1,_,e3⟩:=arr_at (a:=a) (i:=i+j) (by omega)
    refine⟨x,e1,oka x e3,?_⟩
    have e4:a.getD (i+j) key=x:=by rw[Array.getD_eq_getD_getElem?,e1];rfl
    simp[e4]
  · intro p q hpq hq hb
    obtain⟨x,e1,_,_⟩:=arr_at (a:=a) (i:=i+p) (by omega)
    obtain⟨y,f1,_,_⟩:=arr_at (a:=a) (i:=i+q) (by omega)
    have e4:a.getD (i+p) key=x:=by rw[Array.getD_eq_getD_getElem?,e1];rfl
    have f4:a.getD (i+q) key=y:=by rw[Array.getD_eq_getD_getElem?,f1];rfl
    rw[f4] at hb
    rw[e4]
    have z:O.le x key:=KO.le_trans (sa _ _ x y (by omega) (by omega) (by omega) e1 f1) (show O.blt _ _=false by simpa using hb)
    have z:O.blt (O.ky key) (O.ky x)=false:=z
    simpa using z
  · intro k hk1 h1 h2
    refine h k hk1 (fun j z hj e=>?_) (fun j z hj hj2 e=>?_)
    · have e4:a.getD (i+j) key=z:=by rw[Array.getD_eq_getD_getElem?,e];rfl
      have:=h1 j hj
      rw[e4] at this
      exact (show O.blt _ _=false by simpa using this)
    · have e4:a.getD (i+j) key=z:=by rw[Array.getD_eq_getD_getElem?,e];rfl
      have:=h2 j hj hj2
      rw[e4] at this
      simpa using this
theorem wpS_gallopL {key:Keyed}{a:Array Keyed}{i n hint:Nat}{Q:Option Nat->SortSt->Prop} (hA:Asks prog w A s O knd ok) (hk:kindOf st=knd) (hkey:ok key) (oka:∀ x∈a.toList,ok x) (hi:i+n<=a.size)
    (sa:∀ p q x y,i<=p->p<=q->q<i+n->a[p]?=some x->a[q]?=some y->O.le x y) (hh:hint<n)
    (h:∀ k,k<=n->(∀ j z,j<k->a[i+j]?=some z->O.blt (O.ky z) (O.ky key)=true)->(∀ j z,k<=j->j<n->a[i+j]?=some z->O.le key z)->Q (some k) st):wpS (model prog w) A E s (gallop' true key a i n hint) Q st:=by
  refine wpS_gallop hA hk hkey (fun j=>O.blt (O.ky (a.getD (i+j) key)) (O.ky key)) ?_ ?_ hh ?_
  · intro j hj
    obtain⟨x,e1,_,e3⟩:=arr_at (a:=a) (i:=i+j) (by omega)
    refine⟨x,e1,oka x e3,?_⟩
    have e4:a.getD (i+j) key=x:=by rw[Array.getD_eq_getD_getElem?,e1];rfl
    simp[e4]
  · intro p q hpq hq hb
    obtain⟨x,e1,_,_⟩:=arr_at (a:=a) (i:=i+p) (by omega)
    obtain⟨y,f1,_,_⟩:=arr_at (a:=a) (i:=i+q) (by omega)
    have e4:a.getD (i+p) key=x:=by rw[Array.getD_eq_getD_getElem?,e1];rfl
    have f4:a.getD (i+q) key=y:=by rw[Array.getD_eq_getD_getElem?,f1];rfl
    rw[f4] at hb
    rw[e4]
    exact KeyOrd.klt_of_kle_of_klt (O:=O.toKeyOrd) (sa _ _ x y (by omega) (by omega) (by omega) e1 f1) hb
  · intro k hk1 h1 h2
    refine h k hk1 (fun j z hj e=>?_) (fun j z hj hj2 e=>?_)
    · have e4:a.getD (i+j) key=z:=by rw[Array.getD_eq_getD_getElem?,e];rfl
      have:=h1 j hj
      rw[e4] at this
      exact this
    · have e4:a.getD (i+j) key=z:=by rw[Array.getD_eq_getD_getElem?,e];rfl
      have:=h2 j hj hj2
      rw[e4] at this
      exact this
theorem srtA {a:Array Keyed} (sa:O.Srt a.toList) (i n:Nat):∀ p q x y,i<=p->p<=q->q<i+n->a[p]?=some x->a[q]?=some y->O.le x y:=fun p q x y _ h _ e1 e2=>sorted_at sa h (arr_to e1) (arr_to e2)
theorem wpS_mergeLo {a b:Array Keyed}{Q:Array Keyed->SortSt->Prop} (hA:Asks prog w A s O knd ok) (hk:kindOf st=knd) (oka:∀ x∈a.toList,ok x) (okb:∀ x∈b.toList,ok x) (sa:O.Srt a.toList) (sb:O.Srt b.toList) (ha:1<=a.size) (hb:1<=b.size)
    (hfirst:∀ y,b[0]?=some y->∀ x∈a.toList,O.le y x) (hlast:∀ z,a[a.size - 1]?=some z->∀ y∈b.toList,O.blt (O.ky y) (O.ky z)=true)
    (h:∀ r st',Gal st st'->Mg O a.toList b.toList r.toList->Q r st'):wpS (model prog w) A E s (mergeLo' a b) Q st:=by
  obtain⟨b0,eb0,eb0',_⟩:=arr_at (a:=b) (i:=0) (by omega)
  have done:∀ {out:Array Keyed}{ia ib:Nat},MI O a.toList b.toList out.toList ia ib->b.size<=ib->Mg O a.toList b.toList (out++a.extract ia a.size++b.extract ib b.size).toList:=by
    intro out ia ib m hl
    rw[Array.toList_append,Array.toList_append,ext_to,ext_to]
    exact m.doneA sa hl
  have last:∀ {out:Array Keyed}{ia ib:Nat},MI O a.toList b.toList out.toList ia ib->ia+1=a.size->Mg O a.toList b.toList (out++b.extract ib b.size++a.extract ia a.size).toList:=by
    intro out ia ib m hl
    rw[Array.toList_append,Array.toList_append,ext_to,ext_to]
    refine m.doneB sa sb fun x hx y hy=>?_
    obtain⟨j,hj,e⟩:=mem_drop_at hy
    have hj2:j<a.size:=(List.getElem?_eq_some_iff.mp e).1
    have e2:j=a.size - 1:=by omega
    rw[e2] at e
    rw[Array.getElem?_toList] at e
    exact KO.le_of_lt (hlast y e x (List.mem_of_mem_drop hx))
  have pB:∀ {out:Array Keyed}{ia ib:Nat}{y:Keyed},MI O a.toList b.toList out.toList ia ib->b[ib]?=some y->(∀ z∈a.toList.drop ia,O.le y z)->MI O a.toList b.toList (out.push y).toList ia (ib+1):=by
    intro out ia ib y m e hz
    rw[Array.toList_push]
    exact m.takeB sb (arr_to e) hz
  have pA:∀ {out:Array Keyed}{ia ib:Nat}{y:Keyed},MI O a.toList b.toList out.toList ia ib->a[ia]?=some y->(∀ z∈b.toList.drop ib,O.le y z)->MI O a.toList b.toList (out.push y).toList (ia+1) ib:=by
    intro out ia ib y m e hz
    rw[Array.toList_push]
    exact m.takeA sa (arr_to e) hz
  refine wpS_bind (wpS_lift (wpAny_rule ⟨rfl,?_⟩))
  refine wpS_bind (wpS_elem eb0 ?_)
  have m0:MI O a.toList b.toList #[b0].toList 0 1 :=
    MI.takeB (out:=[]) (ib:=0) ⟨by simp,List.Pairwise.nil,fun x hx=>by cases hx⟩ sb eb0' (by simpa using hfirst b0 eb0)
  dsimp only
  by_cases c1:1=b.size
  · rw[if_pos (by simpa using c1)]
    exact wpS_pure (h _ _ Gal.refl (done m0 (by omega)))
  rw[if_neg (by simpa using c1)]
  by_cases c2:0+1=a.size
  · rw[if_pos (by simpa using c2)]
    exact wpS_pure (h _ _ Gal.refl (last m0 (by omega)))
  rw[if_neg (by simpa using c2)]
  refine wpS_bind (wpS_get ?_)
  refine wpS_bind (wpS_mono (wpS_forRange
    (I:=fun x c st'=>Gal st st'/\∃ (out:Array Keyed) (ia ib g:Nat),c=((none:Option (Array Keyed)),out,ia,ib,g)/\MI O a.toList b.toList out.toList ia ib/\ia+1<a.size/\ib<b.size/\x<=ia+ib)
    (Q:=fun c st'=>Gal st st'/\∃ (r out:Array Keyed) (ia ib g:Nat),c=(some r,out,ia,ib,g)/\Mg O a.toList b.toList r.toList) ?step ?fin ⟨Gal.refl,#[b0],0,1,gallopOf st,rfl,m0,by omega,by omega,by omega⟩) ?post)
  case fin=>
    rintro c st' ⟨_,out,ia,ib,g,rfl,_,h1,h2,h3⟩
    omega
  case post=>
    rintro c st' ⟨hG,r,out,ia,ib,g,rfl,hm⟩
    exact wpS_pure (h r st' hG hm)
  case step=>
    rintro x c st1 _ hx ⟨hG1,out,ia,ib,g,rfl,hm,h1,h2,h3⟩
    dsimp only
    have hk1:kindOf st1=knd:=hG1.1.trans hk
    refine wpS_bind (wpS_mono (wpS_forRange
      (I:=fun y c st'=>st'=st1/\∃ (out:Array Keyed) (ia ib p q:Nat),c=((none:Option (Array Keyed)),out,ia,ib,p,q)/\MI O a.toList b.toList out.toList ia ib/\ia+1<a.size/\ib<b.size/\x+y<=ia+ib)
      (Q:=fun c st'=>st'=st1/\((∃ (r out:Array Keyed) (ia ib p q:Nat),c=(some r,out,ia,ib,p,q)/\Mg O a.toList b.toList r.toList) ∨
        (∃ (out:Array Keyed) (ia ib p q:Nat),c=(none,out,ia,ib,p,q)/\MI O a.toList b.toList out.toList ia ib/\ia+1<a.size/\ib<b.size/\x+1<=ia+ib))) ?step1 ?fin1 ⟨rfl,out,ia,ib,0,0,rfl,hm,h1,h2,by omega⟩) ?post1)
    case fin1=>
      rintro c st' ⟨rfl,out,ia,ib,p,q,rfl,hm,h1,h2,h3⟩
      exact⟨rfl,.inr ⟨out,ia,ib,p,q,rfl,hm,h1,h2,by omega⟩⟩
    case step1=>
      rintro y c st' _ hy ⟨rfl,out,ia,ib,p,q,rfl,hm,h1,h2,h3⟩
      dsimp only
      obtain⟨u,eu,eu',mu⟩:=arr_at (a:=b) h2
      obtain⟨v,ev,ev',mv⟩:=arr_at (a:=a) (i:=ia) (by omega)
      refine wpS_bind (wpS_elem eu (wpS_bind (wpS_elem ev ?_)))
      refine wpS_bind (wpS_lt hA hk1 (okb u mu) (oka v mv) ?_)
      cases e:O.blt (O.ky u) (O.ky v) with
      | true=>
        simp only[if_true]
        refine wpS_bind (wpS_elem eu ?_)
        have m2:=pB hm eu fun z hz=>KO.le_trans (KO.le_of_lt e) (le_drop sa ev' z hz)
        by_cases c3:ib+1=b.size
        · rw[if_pos (by simpa using c3)]
          exact wpS_pure ⟨rfl,.inl ⟨_,_,_,_,_,_,rfl,done m2 (by omega)⟩⟩
        rw[if_neg (by simpa using c3)]
        refine wpS_ite (fun _=>?_) (fun _=>?_)
        · exact wpS_pure ⟨rfl,.inr ⟨_,_,_,_,_,rfl,m2,by omega,by omega,by omega⟩⟩
        · exact wpS_pure ⟨rfl,_,_,_,_,_,rfl,m2,by omega,by omega,by omega⟩
      | false=>
        simp only[Bool.false_eq_true,if_false]
        refine wpS_bind (wpS_elem ev ?_)
        have m2:=pA hm ev fun z hz=>KO.le_trans (show O.le v u from e) (le_drop sb eu' z hz)
        by_cases c3:ia+1+1=a.size
        · rw[if_pos (by simpa using c3)]
          exact wpS_pure ⟨rfl,.inl ⟨_,_,_,_,_,_,rfl,last m2 c3⟩⟩
        rw[if_neg (by simpa using c3)]
        refine wpS_ite (fun _=>?_) (fun _=>?_)
        · exact wpS_pure ⟨rfl,.inr ⟨_,_,_,_,_,rfl,m2,by omega,by omega,by omega⟩⟩
        · exact wpS_pure ⟨rfl,_,_,_,_,_,rfl,m2,by omega,by omega,by omega⟩
    case post1=>
      rintro c st' ⟨rfl,⟨r,out,ia,ib,p,q,rfl,hr⟩ | ⟨out,ia,ib,p,q,rfl,hm,h1,h2,h3⟩⟩
      · exact wpS_pure ⟨hG1,_,_,_,_,_,rfl,hr⟩
      dsimp only
      refine wpS_bind (wpS_lift (wpAny_rule ⟨rfl,?_⟩))
      refine wpS_bind (wpS_mono (wpS_forRange
        (I:=fun y c st'=>Gal st st'/\∃ (out:Array Keyed) (ia ib g p q:Nat),c=((none:Option (Array Keyed)),out,ia,ib,g,p,q)/\MI O a.toList b.toList out.toList ia ib/\ia+1<a.size/\ib<b.size/\x+1<=ia+ib)
        (Q:=fun c st'=>Gal st st'/\((∃ (r out:Array Keyed) (ia ib g p q:Nat),c=(some r,out,ia,ib,g,p,q)/\Mg O a.toList b.toList r.toList) ∨
          (∃ (out:Array Keyed) (ia ib g p q:Nat),c=(none,out,ia,ib,g,p,q)/\MI O a.toList b.toList out.toList ia ib/\ia+1<a.size/\ib<b.size/\x+1<=ia+ib))) ?step2 ?fin2 ⟨hG1,out,ia,ib,g+1,p,q,rfl,hm,h1,h2,h3⟩) ?post2)
      case fin2=>
        rintro c st' ⟨hG,out,ia,ib,g,p,q,rfl,hm,h1,h2,h3⟩
        exact⟨hG,.inr ⟨out,ia,ib,g,p,q,rfl,hm,h1,h2,h3⟩⟩
      case post2=>
        rintro c st' ⟨hG,⟨r,out,ia,ib,g,p,q,rfl,hr⟩ | ⟨out,ia,ib,g,p,q,rfl,hm,h1,h2,h3⟩⟩
        · exact wpS_pure ⟨hG,_,_,_,_,_,rfl,hr⟩
        exact wpS_bind (wpS_setGallop hG fun st2 hG2=>wpS_pure ⟨hG2,_,_,_,_,rfl,hm,h1,h2,h3⟩)
      case step2=>
        rintro y c st' _ hy ⟨hG,out,ia,ib,g,p,q,rfl,hm,h1,h2,h3⟩
        dsimp only
        obtain⟨u,eu,eu',mu⟩:=arr_at (a:=b) h2
        refine wpS_ite (fun cg=>?_) (fun cg=>?_)
        all_goals
          refine wpS_bind (wpS_setGallop hG fun st2 hG2=>wpS_bind (wpS_elem eu ?_))
          refine wpS_bind (wpS_gallopR hA (hG2.1.trans hk) (okb u mu) oka (by omega) (srtA sa _ _) (by omega) fun k hk1 b1 b2=>?_)
          have m3:=hm.takeAs sa k (by simp;omega) fun i z hi e y hy=>KO.le_trans (b1 i z hi (by rw[<- Array.getElem?_toList];exact e)) (le_drop sb eu' y hy)
          have hu:∀ z∈a.toList.drop (ia+k),O.le u z:=by
            intro z hz
            obtain⟨j,hj,e⟩:=mem_drop_at hz
            have hj2:j<a.size:=(List.getElem?_eq_some_iff.mp e).1
            refine KO.le_of_lt (b2 (j - ia) z (by omega) (by omega) ?_)
            rw[show ia+(j - ia)=j by omega,<- Array.getElem?_toList]
            exact e
          have hka:ia+k<a.size:=by
            rcases Nat.lt_or_eq_of_le hk1 with z | z
            · omega
            · obtain⟨zl,el,_,_⟩:=arr_at (a:=a) (i:=a.size - 1) (by omega)
              have q1:=hlast zl el u mu
              have q2:=b1 (a.size - 1 - ia) zl (by omega) (by rw[show ia+(a.size - 1 - ia)=a.size - 1 by omega];exact el)
              rw[show O.blt (O.ky u) (O.ky zl)=false from q2] at q1
              cases q1
          dsimp only
          by_cases ck:k > 0
          · rw[if_pos ck]
            rw[<- ext_to2,<- Array.toList_append] at m3
            by_cases c3:ia+k+1=a.size
            · rw[if_pos (by simpa using c3)]
              exact wpS_pure ⟨hG2,.inl ⟨_,_,_,_,_,_,_,rfl,last m3 c3⟩⟩
            rw[if_neg (by simpa using c3),if_neg (by simp;omega)]
            refine wpS_bind (wpS_elem eu ?_)
            have m4:=pB m3 eu hu
            by_cases c4:ib+1=b.size
            · rw[if_pos (by simpa using c4)]
              exact wpS_pure ⟨hG2,.inl ⟨_,_,_,_,_,_,_,rfl,done m4 (by omega)⟩⟩
            rw[if_neg (by simpa using c4)]
            obtain⟨v,ev,ev',mv⟩:=arr_at (a:=a) (i:=ia+k) (by omega)
            refine wpS_bind (wpS_elem ev ?_)
            refine wpS_bind (wpS_gallopL hA (hG2.1.trans hk) (oka v mv) okb (by omega) (srtA sb _ _) (by omega) fun k2 hk2 d1 d2=>?_)
            have m5:=m4.takeBs sb k2 (by simp;omega) fun i z hi e y hy=>KO.le_trans (KO.le_of_lt (d1 i z hi (by rw[<- Array.getElem?_toList];exact e))) (le_drop sa ev' y hy)
            have hv:∀ z∈b.toList.drop (ib+1+k2),O.le v z:=by
              intro z hz
              obtain⟨j,hj,e⟩:=mem_drop_at hz
              have hj2:j<b.size:=(List.getElem?_eq_some_iff.mp e).1
              refine d2 (j - (ib+1)) z (by omega) (by omega) ?_
              rw[show ib+1+(j - (ib+1))=j by omega,<- Array.getElem?_toList]
              exact e
            dsimp only
            by_cases ck2:k2 > 0
            · rw[if_pos ck2]
              rw[<- ext_to2,<- Array.toList_append] at m5
              by_cases c6:ib+1+k2=b.size
              · rw[if_pos (by simpa using c6)]
                exact wpS_pure ⟨hG2,.inl ⟨_,_,_,_,_,_,_,rfl,done m5 (by omega)⟩⟩
              rw[if_neg (by simpa using c6)]
              refine wpS_bind (wpS_elem ev ?_)
              have m7:=pA m5 ev hv
              by_cases c7:ia+k+1+1=a.size
              · rw[if_pos (by simpa using c7)]
                exact wpS_pure ⟨hG2,.inl ⟨_,_,_,_,_,_,_,rfl,last m7 c7⟩⟩
              rw[if_neg (by simpa using c7)]
              refine wpS_ite (fun _=>?_) (fun _=>?_)
              · exact wpS_pure ⟨hG2,.inr ⟨_,_,_,_,_,_,rfl,m7,by omega,by omega,by omega⟩⟩
              · exact wpS_pure ⟨hG2,_,_,_,_,_,_,rfl,m7,by omega,by omega,by omega⟩
            · rw[if_neg ck2]
              have k0:k2=0:=by omega
              subst k0
              rw[List.take_zero,List.append_nil] at m5
              refine wpS_bind (wpS_elem ev ?_)
              have m7:=pA m5 ev hv
              by_cases c7:ia+k+1+1=a.size
              · rw[if_pos (by simpa using c7)]
                exact wpS_pure ⟨hG2,.inl ⟨_,_,_,_,_,_,_,rfl,last m7 c7⟩⟩
              rw[if_neg (by simpa using c7)]
              refine wpS_ite (fun _=>?_) (fun _=>?_)
              · exact wpS_pure ⟨hG2,.inr ⟨_,_,_,_,_,_,rfl,m7,by omega,by omega,by omega⟩⟩
              · exact wpS_pure ⟨hG2,_,_,_,_,_,_,rfl,m7,by omega,by omega,by omega⟩
          · rw[if_neg ck]
            have k0:k=0:=by omega
            subst k0
            rw[List.take_zero,List.append_nil] at m3
            refine wpS_bind (wpS_elem eu ?_)
            have m4:=pB m3 eu hu
            by_cases c4:ib+1=b.size
            · rw[if_pos (by simpa using c4)]
              exact wpS_pure ⟨hG2,.inl ⟨_,_,_,_,_,_,_,rfl,done m4 (by omega)⟩⟩
            rw[if_neg (by simpa using c4)]
            obtain⟨v,ev,ev',mv⟩:=arr_at (a:=a) (i:=ia+0) (by omega)
            refine wpS_bind (wpS_elem ev ?_)
            refine wpS_bind (wpS_gallopL hA (hG2.1.trans hk) (oka v mv) okb (by omega) (srtA sb _ _) (by omega) fun k2 hk2 d1 d2=>?_)
            have m5:=m4.takeBs sb k2 (by simp;omega) fun i z hi e y hy=>KO.le_trans (KO.le_of_lt (d1 i z hi (by rw[<- Array.getElem?_toList];exact e))) (le_drop sa ev' y hy)
            have hv:∀ z∈b.toList.drop (ib+1+k2),O.le v z:=by
              intro z hz
              obtain⟨j,hj,e⟩:=mem_drop_at hz
              have hj2:j<b.size:=(List.getElem?_eq_some_iff.mp e).1
              refine d2 (j - (ib+1)) z (by omega) (by omega) ?_
              rw[show ib+1+(j - (ib+1))=j by omega,<- Array.getElem?_toList]
              exact e
            dsimp only
            by_cases ck2:k2 > 0
            · rw[if_pos ck2]
              rw[<- ext_to2,<- Array.toList_append] at m5
              by_cases c6:ib+1+k2=b.size
              · rw[if_pos (by simpa using c6)]
                exact wpS_pure ⟨hG2,.inl ⟨_,_,_,_,_,_,_,rfl,done m5 (by omega)⟩⟩
              rw[if_neg (by simpa using c6)]
              refine wpS_bind (wpS_elem ev ?_)
              have m7:=pA m5 ev hv
              by_cases c7:ia+0+1+1=a.size
              · rw[if_pos (by simpa using c7)]
                exact wpS_pure ⟨hG2,.inl ⟨_,_,_,_,_,_,_,rfl,last m7 c7⟩⟩
              rw[if_neg (by simpa using c7)]
              refine wpS_ite (fun _=>?_) (fun _=>?_)
              · exact wpS_pure ⟨hG2,.inr ⟨_,_,_,_,_,_,rfl,m7,by omega,by omega,by omega⟩⟩
              · exact wpS_pure ⟨hG2,_,_,_,_,_,_,rfl,m7,by omega,by omega,by omega⟩
            · rw[if_neg ck2]
              have k0:k2=0:=by omega
              subst k0
              rw[List.take_zero,List.append_nil] at m5
              refine wpS_bind (wpS_elem ev ?_)
              have m7:=pA m5 ev hv
              by_cases c7:ia+0+1+1=a.size
              · rw[if_pos (by simpa using c7)]
                exact wpS_pure ⟨hG2,.inl ⟨_,_,_,_,_,_,_,rfl,last m7 c7⟩⟩
              rw[if_neg (by simpa using c7)]
              refine wpS_ite (fun _=>?_) (fun _=>?_)
              · exact wpS_pure ⟨hG2,.inr ⟨_,_,_,_,_,_,rfl,m7,by omega,by omega,by omega⟩⟩
              · exact wpS_pure ⟨hG2,_,_,_,_,_,_,rfl,m7,by omega,by omega,by omega⟩
end
section
variable {O:KO}{a b out:List Keyed}{na nb:Nat}{x:Keyed}
structure MH (O:KO) (a b out:List Keyed) (na nb:Nat):Prop where
  perm:(a.take na++b.take nb++out.reverse).Perm (a++b)
  srt:O.Srt out.reverse
  le:∀ x∈a.take na++b.take nb,∀ y∈out,O.le x y
theorem take_at {l:List Keyed}{i:Nat}{x:Keyed} (e:l[i]?=some x):l.take (i+1)=l.take i++[x]:=by
  rw[List.take_succ,e];rfl
theorem MH.takeA (h:MH O a b out (na+1) nb) (sa:O.Srt a) (e:a[na]?=some x) (hb:∀ y∈b.take nb,O.le y x):MH O a b (out++[x]) na nb:=by
  have ed:=take_at e
  have sd:O.Srt (a.take na++[x]):=ed ▸ sa.take
  have hx:x∈a.take (na+1)++b.take nb:=by rw[ed];simp
  refine⟨?_,?_,fun y hy z hz=>?_⟩
  · have p:=h.perm
    rw[ed] at p
    refine List.Perm.trans ?_ p
    rw[List.reverse_append]
    simp only[List.reverse_cons,List.reverse_nil,List.nil_append,List.append_assoc,List.singleton_append]
    refine List.Perm.append_left _ ?_
    exact (List.perm_middle (a:=x) (l₁:=b.take nb) (l₂:=out.reverse))
  · rw[List.reverse_append]
    exact List.pairwise_cons.mpr ⟨fun y hy=>h.le x hx y (List.mem_reverse.mp hy),h.srt⟩
  · rcases List.mem_append.mp hz with hz | hz
    · refine h.le y ?_ z hz
      rw[ed]
      rcases List.mem_append.mp hy with hy | hy
      · exact List.mem_append_left _ (List.mem_append_left _ hy)
      · exact List.mem_append_right _ hy
    · rw[List.mem_singleton.mp hz]
      rcases List.mem_append.mp hy with hy | hy
      · exact (List.pairwise_append.mp sd).2.2 y hy x (by simp)
      · exact hb y hy
theorem MH.takeB (h:MH O a b out na (nb+1)) (sb:O.Srt b) (e:b[nb]?=some x) (ha:∀ y∈a.take na,O.le y x):MH O a b (out++[x]) na nb:=by
  have ed:=take_at e
  have sd:O.Srt (b.take nb++[x]):=ed ▸ sb.take
  have hx:x∈a.take na++b.take (nb+1):=by rw[ed];simp
  refine⟨?_,?_,fun y hy z hz=>?_⟩
  · have p:=h.perm
    rw[ed] at p
    rw[List.reverse_append]
    simpa using p
  · rw[List.reverse_append]
    exact List.pairwise_cons.mpr ⟨fun y hy=>h.le x hx y (List.mem_reverse.mp hy),h.srt⟩
  · rcases List.mem_append.mp hz with hz | hz
    · refine h.le y ?_ z hz
      rw[ed]
      rcases List.mem_append.mp hy with hy | hy
      · exact List.mem_append_left _ hy
      · exact List.mem_append_right _ (List.mem_append_left _ hy)
    · rw[List.mem_singleton.mp hz]
      rcases List.mem_append.mp hy with hy | hy
      · exact ha y hy
      · exact (List.pairwise_append.mp sd).2.2 y hy x (by simp)
theorem seg_cons {l:List Keyed}{i d:Nat}{x:Keyed} (e:l[i]?=some x):(l.drop i).take (d+1)=x::(l.drop (i+1)).take d:=by
  rw[drop_at e];rfl
theorem MH.takeAs (h:MH O a b out na nb) (sa:O.Srt a) (hn:na<=a.length):∀ d,d<=na->(∀ i z,na - d<=i->i<na->a[i]?=some z->∀ y∈b.take nb,O.le y z)->MH O a b (out++((a.drop (na - d)).take d).reverse) (na - d) nb
  | 0,_,_=>by simpa using h
  | d+1,hl,hz=>by
    have q:=MH.takeAs h sa hn d (by omega) fun i z h1 h2 e=>hz i z (by omega) h2 e
    have e:a[na - (d+1)]?=some a[na - (d+1)]:=List.getElem?_eq_getElem (by omega)
    rw[show na - d=na - (d+1)+1 by omega] at q
    have r:=q.takeA sa e (hz _ _ (by omega) (by omega) e)
    rw[List.append_assoc,<- List.reverse_cons,<- seg_cons e] at r
    exact r
theorem MH.takeBs (h:MH O a b out na nb) (sb:O.Srt b) (hn:nb<=b.length):∀ d,d<=nb->(∀ i z,nb - d<=i->i<nb->b[i]?=some z->∀ y∈a.take na,O.le y z)->MH O a b (out++((b.drop (nb - d)).take d).reverse) na (nb - d)
  | 0,_,_=>by simpa using h
  | d+1,hl,hz=>by
    have q:=MH.takeBs h sb hn d (by omega) fun i z h1 h2 e=>hz i z (by omega) h2 e
    have e:b[nb - (d+1)]?=some b[nb - (d+1)]:=List.getElem?_eq_getElem (by omega)
    rw[show nb - d=nb - (d+1)+1 by omega] at q
    have r:=q.takeB sb e (hz _ _ (by omega) (by omega) e)
    rw[List.append_assoc,<- List.reverse_cons,<- seg_cons e] at r
    exact r
theorem MH.doneA (h:MH O a b out 0 nb) (sb:O.Srt b):Mg O a b (a.take 0++b.take nb++out.reverse):=by
  refine⟨h.perm,?_⟩
  rw[List.take_zero,List.nil_append]
  exact List.pairwise_append.mpr ⟨sb.take,h.srt,fun x hx y hy=>h.le x (List.mem_append_right _ hx) y (List.mem_reverse.mp hy)⟩
theorem MH.doneB (h:MH O a b out na nb) (sa:O.Srt a) (sb:O.Srt b) (hl:∀ x∈b.take nb,∀ y∈a.take na,O.le x y):Mg O a b (b.take nb++a.take na++out.reverse):=by
  refine⟨(List.Perm.append_right _ List.perm_append_comm).trans h.perm,?_⟩
  refine List.pairwise_append.mpr ⟨List.pairwise_append.mpr ⟨sb.take,sa.take,hl⟩,h.srt,fun x hx y hy=>h.le x ?_ y (List.mem_reverse.mp hy)⟩
  rcases List.mem_append.mp hx with hx | hx
  · exact List.mem_append_right _ hx
  · exact List.mem_append_left _ hx
theorem mem_take_at {l:List Keyed}{i:Nat}{y:Keyed} (h:y∈l.take i):∃ j,j<i/\l[j]?=some y:=by
  obtain⟨j,hj,e⟩:=List.mem_iff_getElem.mp h
  rw[List.length_take] at hj
  refine⟨j,by omega,?_⟩
  rw[List.getElem_take] at e
  rw[List.getElem?_eq_getElem (by omega),e]
theorem le_take {l:List Keyed} (sl:O.Srt l) {i:Nat}{x:Keyed} (hx:l[i]?=some x):∀ y∈l.take (i+1),O.le y x:=fun y hy=>
  let ⟨_,hj,e⟩:=mem_take_at hy
  sorted_at sl (by omega) e hx
theorem ext_to0 (a:Array Keyed) (i:Nat):(a.extract 0 i).toList=a.toList.take i:=by
  rw[Array.toList_extract]
  simp[List.extract]
theorem ext_toR (a:Array Keyed) (i n:Nat):(a.extract i n).toList=(a.toList.drop i).take (n - i):=by
  rw[Array.toList_extract]
end
section
variable {prog:Program}{w:World}{A:Around}{E:Value->Shared->Prop}{s:Shared}{O:KO}{knd:SortKind}{ok:Keyed->Prop}{st:SortSt}
theorem wpS_mergeHi {a b:Array Keyed}{Q:Array Keyed->SortSt->Prop} (hA:Asks prog w A s O knd ok) (hk:kindOf st=knd) (oka:∀ x∈a.toList,ok x) (okb:∀ x∈b.toList,ok x) (sa:O.Srt a.toList) (sb:O.Srt b.toList) (ha:1<=a.size) (hb:1<=b.size)
    (hfirst:∀ y,b[0]?=some y->∀ x∈a.toList,O.blt (O.ky y) (O.ky x)=true) (hlast:∀ z,a[a.size - 1]?=some z->∀ y∈b.toList,O.le y z)
    (h:∀ r st',Gal st st'->Mg O a.toList b.toList r.toList->Q r st'):wpS (model prog w) A E s (mergeHi' a b) Q st:=by
  obtain⟨a0,ea0,ea0',_⟩:=arr_at (a:=a) (i:=a.size - 1) (by omega)
  have done:∀ {out:Array Keyed}{nb:Nat},MH O a.toList b.toList out.toList 0 nb->Mg O a.toList b.toList (a.extract 0 0++b.extract 0 nb++out.reverse).toList:=by
    intro out nb m
    rw[Array.toList_append,Array.toList_append,ext_to0,ext_to0,Array.toList_reverse]
    exact m.doneA sb
  have first:∀ {out:Array Keyed}{na:Nat},MH O a.toList b.toList out.toList na 1->Mg O a.toList b.toList (b.extract 0 1++a.extract 0 na++out.reverse).toList:=by
    intro out na m
    rw[Array.toList_append,Array.toList_append,ext_to0,ext_to0,Array.toList_reverse]
    refine m.doneB sa sb fun x hx y hy=>?_
    obtain⟨j,hj,e⟩:=mem_take_at hx
    have e2:j=0:=by omega
    rw[e2,Array.getElem?_toList] at e
    exact KO.le_of_lt (hfirst x e y (List.mem_of_mem_take hy))
  have pB:∀ {out:Array Keyed}{na nb:Nat}{y:Keyed},1<=nb->MH O a.toList b.toList out.toList na nb->b[nb - 1]?=some y->(∀ z∈a.toList.take na,O.le z y)->MH O a.toList b.toList (out.push y).toList na (nb - 1):=by
    intro out na nb y hn m e hz
    rw[Array.toList_push]
    exact MH.takeB (by rw[show nb - 1+1=nb by omega];exact m) sb (arr_to e) hz
  have pA:∀ {out:Array Keyed}{na nb:Nat}{y:Keyed},1<=na->MH O a.toList b.toList out.toList na nb->a[na - 1]?=some y->(∀ z∈b.toList.take nb,O.le z y)->MH O a.toList b.toList (out.push y).toList (na - 1) nb:=by
    intro out na nb y hn m e hz
    rw[Array.toList_push]
    exact MH.takeA (by rw[show na - 1+1=na by omega];exact m) sa (arr_to e) hz
  have leT:∀ {l:List Keyed}{i:Nat}{x:Keyed},O.Srt l->1<=i->l[i - 1]?=some x->∀ y∈l.take i,O.le y x:=by
    intro l i x sl hi e y hy
    exact le_take sl e y (by rw[show i - 1+1=i by omega];exact hy)
  refine wpS_bind (wpS_lift (wpAny_rule ⟨rfl,?_⟩))
  refine wpS_bind (wpS_elem ea0 ?_)
  have m0:MH O a.toList b.toList #[a0].toList (a.size - 1) b.size:=by
    refine MH.takeA (out:=[]) (na:=a.size - 1) (nb:=b.size) ⟨?_,List.Pairwise.nil,fun x hx y hy=>by cases hy⟩ sa ea0' fun y hy=>hlast a0 ea0 y (List.mem_of_mem_take hy)
    rw[show a.size - 1+1=a.size by omega,List.take_of_length_le (by simp),List.take_of_length_le (by simp)]
    simp
  dsimp only
  by_cases c1:a.size - 1=0
  · rw[if_pos (by simpa using c1)]
    rw[c1] at m0 ⊢
    exact wpS_pure (h _ _ Gal.refl (done m0))
  rw[if_neg (by simpa using c1)]
  by_cases c2:b.size=1
  · rw[if_pos (by simpa using c2)]
    rw[c2] at m0
    rw[c2]
    exact wpS_pure (h _ _ Gal.refl (first m0))
  rw[if_neg (by simpa using c2)]
  refine wpS_bind (wpS_get ?_)
  refine wpS_bind (wpS_mono (wpS_forRange
    (I:=fun x c st'=>Gal st st'/\∃ (out:Array Keyed) (na nb g:Nat),c=((none:Option (Array Keyed)),na,nb,out,g)/\MH O a.toList b.toList out.toList na nb/\1<=na/\na<=a.size/\2<=nb/\nb<=b.size/\x+na+nb<=a.size+b.size)
    (Q:=fun c st'=>Gal st st'/\∃ (r out:Array Keyed) (na nb g:Nat),c=(some r,na,nb,out,g)/\Mg O a.toList b.toList r.toList) ?step ?fin ⟨Gal.refl,#[a0],a.size - 1,b.size,gallopOf st,rfl,m0,by omega,by omega,by omega,by omega,show 0+(a.size - 1)+b.size<=_ by omega⟩) ?post)
  case fin=>
    rintro c st' ⟨_,out,na,nb,g,rfl,_,h1,h1',h2,h2',h3⟩
    omega
  case post=>
    rintro c st' ⟨hG,r,out,na,nb,g,rfl,hm⟩
    exact wpS_pure (h r st' hG hm)
  case step=>
    rintro x c st1 _ hx ⟨hG1,out,na,nb,g,rfl,hm,h1,h1',h2,h2',h3⟩
    dsimp only
    have hk1:kindOf st1=knd:=hG1.1.trans hk
    refine wpS_bind (wpS_mono (wpS_forRange
      (I:=fun y c st'=>st'=st1/\∃ (out:Array Keyed) (na nb p q:Nat),c=((none:Option (Array Keyed)),na,nb,out,p,q)/\MH O a.toList b.toList out.toList na nb/\1<=na/\na<=a.size/\2<=nb/\nb<=b.size/\x+y+na+nb<=a.size+b.size)
      (Q:=fun c st'=>st'=st1/\((∃ (r out:Array Keyed) (na nb p q:Nat),c=(some r,na,nb,out,p,q)/\Mg O a.toList b.toList r.toList) ∨
        (∃ (out:Array Keyed) (na nb p q:Nat),c=(none,na,nb,out,p,q)/\MH O a.toList b.toList out.toList na nb/\1<=na/\na<=a.size/\2<=nb/\nb<=b.size/\x+1+na+nb<=a.size+b.size))) ?step1 ?fin1 ⟨rfl,out,na,nb,0,0,rfl,hm,h1,h1',h2,h2',by omega⟩) ?post1)
    case fin1=>
      rintro c st' ⟨rfl,out,na,nb,p,q,rfl,hm,h1,h1',h2,h2',h3⟩
      exact⟨rfl,.inr ⟨out,na,nb,p,q,rfl,hm,h1,h1',h2,h2',by omega⟩⟩
    case step1=>
      rintro y c st' _ hy ⟨rfl,out,na,nb,p,q,rfl,hm,h1,h1',h2,h2',h3⟩
      dsimp only
      obtain⟨u,eu,eu',mu⟩:=arr_at (a:=b) (i:=nb - 1) (by omega)
      obtain⟨v,ev,ev',mv⟩:=arr_at (a:=a) (i:=na - 1) (by omega)
      refine wpS_bind (wpS_elem eu (wpS_bind (wpS_elem ev ?_)))
      refine wpS_bind (wpS_lt hA hk1 (okb u mu) (oka v mv) ?_)
      cases e:O.blt (O.ky u) (O.ky v) with
      | true=>
        simp only[if_true]
        refine wpS_bind (wpS_elem ev ?_)
        have m2:=pA h1 hm ev fun z hz=>KO.le_trans (leT sb (by omega) eu' z hz) (KO.le_of_lt e)
        by_cases c3:na - 1=0
        · rw[if_pos (by simpa using c3)]
          rw[c3] at m2 ⊢
          exact wpS_pure ⟨rfl,.inl ⟨_,_,_,_,_,_,rfl,done m2⟩⟩
        rw[if_neg (by simpa using c3)]
        refine wpS_ite (fun _=>?_) (fun _=>?_)
        · exact wpS_pure ⟨rfl,.inr ⟨_,_,_,_,_,rfl,m2,by omega,by omega,by omega,by omega,by omega⟩⟩
        · exact wpS_pure ⟨rfl,_,_,_,_,_,rfl,m2,by omega,by omega,by omega,by omega,by omega⟩
      | false=>
        simp only[Bool.false_eq_true,if_false]
        refine wpS_bind (wpS_elem eu ?_)
        have m2:=pB (by omega) hm eu fun z hz=>KO.le_trans (leT sa (by omega) ev' z hz) (show O.le v u from e)
        by_cases c3:nb - 1=1
        · rw[if_pos (by simpa using c3)]
          rw[c3] at m2 ⊢
          exact wpS_pure ⟨rfl,.inl ⟨_,_,_,_,_,_,rfl,first m2⟩⟩
        rw[if_neg (by simpa using c3)]
        refine wpS_ite (fun _=>?_) (fun _=>?_)
        · exact wpS_pure ⟨rfl,.inr ⟨_,_,_,_,_,rfl,m2,by omega,by omega,by omega,by omega,by omega⟩⟩
        · exact wpS_pure ⟨rfl,_,_,_,_,_,rfl,m2,by omega,by omega,by omega,by omega,by omega⟩
    case post1=>
      rintro c st' ⟨rfl,⟨r,out,na,nb,p,q,rfl,hr⟩ | ⟨out,na,nb,p,q,rfl,hm,h1,h1',h2,h2',h3⟩⟩
      · exact wpS_pure ⟨hG1,_,_,_,_,_,rfl,hr⟩
      dsimp only
      refine wpS_bind (wpS_lift (wpAny_rule ⟨rfl,?_⟩))
      refine wpS_bind (wpS_mono (wpS_forRange
        (I:=fun y c st'=>Gal st st'/\∃ (out:Array Keyed) (na nb g p q:Nat),c=((none:Option (Array Keyed)),na,nb,out,g,p,q)/\MH O a.toList b.toList out.toList na nb/\1<=na/\na<=a.size/\2<=nb/\nb<=b.size/\x+1+na+nb<=a.size+b.size)
        (Q:=fun c st'=>Gal st st'/\((∃ (r out:Array Keyed) (na nb g p q:Nat),c=(some r,na,nb,out,g,p,q)/\Mg O a.toList b.toList r.toList) ∨
          (∃ (out:Array Keyed) (na nb g p q:Nat),c=(none,na,nb,out,g,p,q)/\MH O a.toList b.toList out.toList na nb/\1<=na/\na<=a.size/\2<=nb/\nb<=b.size/\x+1+na+nb<=a.size+b.size))) ?step2 ?fin2 ⟨hG1,out,na,nb,g+1,p,q,rfl,hm,h1,h1',h2,h2',h3⟩) ?post2)
      case fin2=>
        rintro c st' ⟨hG,out,na,nb,g,p,q,rfl,hm,h1,h1',h2,h2',h3⟩
        exact⟨hG,.inr ⟨out,na,nb,g,p,q,rfl,hm,h1,h1',h2,h2',h3⟩⟩
      case post2=>
        rintro c st' ⟨hG,⟨r,out,na,nb,g,p,q,rfl,hr⟩ | ⟨out,na,nb,g,p,q,rfl,hm,h1,h1',h2,h2',h3⟩⟩
        · exact wpS_pure ⟨hG,_,_,_,_,_,rfl,hr⟩
        exact wpS_bind (wpS_setGallop hG fun st2 hG2=>wpS_pure ⟨hG2,_,_,_,_,rfl,hm,h1,h1',h2,h2',h3⟩)
      case step2=>
        rintro y c st' _ hy ⟨hG,out,na,nb,g,p,q,rfl,hm,h1,h1',h2,h2',h3⟩
        dsimp only
        obtain⟨u,eu,eu',mu⟩:=arr_at (a:=b) (i:=nb - 1) (by omega)
        refine wpS_ite (fun cg=>?_) (fun cg=>?_)
        all_goals
          refine wpS_bind (wpS_setGallop hG fun st2 hG2=>wpS_bind (wpS_elem eu ?_))
          refine wpS_bind (wpS_gallopR hA (hG2.1.trans hk) (okb u mu) oka (by omega) (srtA sa _ _) (by omega) fun k hk1 b1 b2=>?_)
          have m3:=hm.takeAs sa (by simp;omega) (na - k) (by omega) fun i z h6 h7 e y hy=>KO.le_trans (leT sb (by omega) eu' y hy) (KO.le_of_lt (b2 i z (by omega) (by omega) (by rw[Nat.zero_add,<- Array.getElem?_toList];exact e)))
          rw[show na - (na - k)=k by omega] at m3
          have hu:∀ z∈a.toList.take k,O.le z u:=by
            intro z hz
            obtain⟨j,hj,e⟩:=mem_take_at hz
            refine b1 j z hj ?_
            rw[Nat.zero_add,<- Array.getElem?_toList]
            exact e
          dsimp only
          by_cases ck:na - k > 0
          · rw[if_pos ck]
            rw[<- ext_toR,<- Array.toList_reverse,<- Array.toList_append] at m3
            by_cases c3:k=0
            · rw[if_pos (by simpa using c3)]
              rw[c3] at m3 ⊢
              exact wpS_pure ⟨hG2,.inl ⟨_,_,_,_,_,_,_,rfl,done m3⟩⟩
            rw[if_neg (by simpa using c3)]
            refine wpS_bind (wpS_elem eu ?_)
            have m4:=pB (by omega) m3 eu hu
            by_cases c4:nb - 1=1
            · rw[if_pos (by simpa using c4)]
              rw[c4] at m4 ⊢
              exact wpS_pure ⟨hG2,.inl ⟨_,_,_,_,_,_,_,rfl,first m4⟩⟩
            rw[if_neg (by simpa using c4)]
            obtain⟨v,ev,ev',mv⟩:=arr_at (a:=a) (i:=k - 1) (by omega)
            refine wpS_bind (wpS_elem ev ?_)
            refine wpS_bind (wpS_gallopL hA (hG2.1.trans hk) (oka v mv) okb (by omega) (srtA sb _ _) (by omega) fun k2 hk2 d1 d2=>?_)
            have hk20:1<=k2:=by
              rcases Nat.eq_zero_or_pos k2 with z | z
              · obtain⟨zl,el,_,_⟩:=arr_at (a:=b) (i:=0) (by omega)
                have q1:=hfirst zl el v mv
                have q2:=d2 0 zl (by omega) (by omega) (by rw[Nat.zero_add];exact el)
                rw[show O.blt (O.ky zl) (O.ky v)=false from q2] at q1
                cases q1
              · exact z
            have m5:=m4.takeBs sb (by simp;omega) (nb - 1 - k2) (by omega) fun i z h6 h7 e y hy=>KO.le_trans (leT sa (by omega) ev' y hy) (d2 i z (by omega) (by omega) (by rw[Nat.zero_add,<- Array.getElem?_toList];exact e))
            rw[show nb - 1 - (nb - 1 - k2)=k2 by omega] at m5
            have hv:∀ z∈b.toList.take k2,O.le z v:=by
              intro z hz
              obtain⟨j,hj,e⟩:=mem_take_at hz
              refine KO.le_of_lt (d1 j z hj ?_)
              rw[Nat.zero_add,<- Array.getElem?_toList]
              exact e
            dsimp only
            by_cases ck2:nb - 1 - k2 > 0
            · rw[if_pos ck2]
              rw[<- ext_toR,<- Array.toList_reverse,<- Array.toList_append] at m5
              by_cases c6:k2=1
              · rw[if_pos (by simpa using c6)]
                rw[c6] at m5 ⊢
                exact wpS_pure ⟨hG2,.inl ⟨_,_,_,_,_,_,_,rfl,first m5⟩⟩
              rw[if_neg (by simpa using c6),if_neg (by simp;omega)]
              obtain⟨v2,ev2,ev2',mv2⟩:=arr_at (a:=a) (i:=k - 1) (by omega)
              refine wpS_bind (wpS_elem ev2 ?_)
              have ee:v2=v:=Option.some.inj (ev2.symm.trans ev)
              subst ee
              have m7:=pA (by omega) m5 ev2 hv
              by_cases c7:k - 1=0
              · rw[if_pos (by simpa using c7)]
                rw[c7] at m7 ⊢
                exact wpS_pure ⟨hG2,.inl ⟨_,_,_,_,_,_,_,rfl,done m7⟩⟩
              rw[if_neg (by simpa using c7)]
              refine wpS_ite (fun _=>?_) (fun _=>?_)
              · exact wpS_pure ⟨hG2,.inr ⟨_,_,_,_,_,_,rfl,m7,by omega,by omega,by omega,by omega,by omega⟩⟩
              · exact wpS_pure ⟨hG2,_,_,_,_,_,_,rfl,m7,by omega,by omega,by omega,by omega,by omega⟩
            · rw[if_neg ck2]
              have k0:nb - 1=k2:=by omega
              rw[show nb - 1 - k2=0 by omega,List.take_zero,List.reverse_nil,List.append_nil] at m5
              rw[k0]
              obtain⟨v2,ev2,ev2',mv2⟩:=arr_at (a:=a) (i:=k - 1) (by omega)
              refine wpS_bind (wpS_elem ev2 ?_)
              have ee:v2=v:=Option.some.inj (ev2.symm.trans ev)
              subst ee
              have m7:=pA (by omega) m5 ev2 hv
              by_cases c7:k - 1=0
              · rw[if_pos (by simpa using c7)]
                rw[c7] at m7 ⊢
                exact wpS_pure ⟨hG2,.inl ⟨_,_,_,_,_,_,_,rfl,done m7⟩⟩
              rw[if_neg (by simpa using c7)]
              refine wpS_ite (fun _=>?_) (fun _=>?_)
              · exact wpS_pure ⟨hG2,.inr ⟨_,_,_,_,_,_,rfl,m7,by omega,by omega,by omega,by omega,by omega⟩⟩
              · exact wpS_pure ⟨hG2,_,_,_,_,_,_,rfl,m7,by omega,by omega,by omega,by omega,by omega⟩
          · rw[if_neg ck]
            have k0:na=k:=by omega
            rw[show na - k=0 by omega,List.take_zero,List.reverse_nil,List.append_nil] at m3
            rw[k0]
            refine wpS_bind (wpS_elem eu ?_)
            have m4:=pB (by omega) m3 eu hu
            by_cases c4:nb - 1=1
            · rw[if_pos (by simpa using c4)]
              rw[c4] at m4 ⊢
              exact wpS_pure ⟨hG2,.inl ⟨_,_,_,_,_,_,_,rfl,first m4⟩⟩
            rw[if_neg (by simpa using c4)]
            obtain⟨v,ev,ev',mv⟩:=arr_at (a:=a) (i:=k - 1) (by omega)
            refine wpS_bind (wpS_elem ev ?_)
            refine wpS_bind (wpS_gallopL hA (hG2.1.trans hk) (oka v mv) okb (by omega) (srtA sb _ _) (by omega) fun k2 hk2 d1 d2=>?_)
            have hk20:1<=k2:=by
              rcases Nat.eq_zero_or_pos k2 with z | z
              · obtain⟨zl,el,_,_⟩:=arr_at (a:=b) (i:=0) (by omega)
                have q1:=hfirst zl el v mv
                have q2:=d2 0 zl (by omega) (by omega) (by rw[Nat.zero_add];exact el)
                rw[show O.blt (O.ky zl) (O.ky v)=false from q2] at q1
                cases q1
              · exact z
            have m5:=m4.takeBs sb (by simp;omega) (nb - 1 - k2) (by omega) fun i z h6 h7 e y hy=>KO.le_trans (leT sa (by omega) ev' y hy) (d2 i z (by omega) (by omega) (by rw[Nat.zero_add,<- Array.getElem?_toList];exact e))
            rw[show nb - 1 - (nb - 1 - k2)=k2 by omega] at m5
            have hv:∀ z∈b.toList.take k2,O.le z v:=by
              intro z hz
              obtain⟨j,hj,e⟩:=mem_take_at hz
              refine KO.le_of_lt (d1 j z hj ?_)
              rw[Nat.zero_add,<- Array.getElem?_toList]
              exact e
            dsimp only
            by_cases ck2:nb - 1 - k2 > 0
            · rw[if_pos ck2]
              rw[<- ext_toR,<- Array.toList_reverse,<- Array.toList_append] at m5
              by_cases c6:k2=1
              · rw[if_pos (by simpa using c6)]
                rw[c6] at m5 ⊢
                exact wpS_pure ⟨hG2,.inl ⟨_,_,_,_,_,_,_,rfl,first m5⟩⟩
              rw[if_neg (by simpa using c6),if_neg (by simp;omega)]
              obtain⟨v2,ev2,ev2',mv2⟩:=arr_at (a:=a) (i:=k - 1) (by omega)
              refine wpS_bind (wpS_elem ev2 ?_)
              have ee:v2=v:=Option.some.inj (ev2.symm.trans ev)
              subst ee
              have m7:=pA (by omega) m5 ev2 hv
              by_cases c7:k - 1=0
              · rw[if_pos (by simpa using c7)]
                rw[c7] at m7 ⊢
                exact wpS_pure ⟨hG2,.inl ⟨_,_,_,_,_,_,_,rfl,done m7⟩⟩
              rw[if_neg (by simpa using c7)]
              refine wpS_ite (fun _=>?_) (fun _=>?_)
              · exact wpS_pure ⟨hG2,.inr ⟨_,_,_,_,_,_,rfl,m7,by omega,by omega,by omega,by omega,by omega⟩⟩
              · exact wpS_pure ⟨hG2,_,_,_,_,_,_,rfl,m7,by omega,by omega,by omega,by omega,by omega⟩
            · rw[if_neg ck2]
              have k0:nb - 1=k2:=by omega
              rw[show nb - 1 - k2=0 by omega,List.take_zero,List.reverse_nil,List.append_nil] at m5
              rw[k0]
              obtain⟨v2,ev2,ev2',mv2⟩:=arr_at (a:=a) (i:=k - 1) (by omega)
              refine wpS_bind (wpS_elem ev2 ?_)
              have ee:v2=v:=Option.some.inj (ev2.symm.trans ev)
              subst ee
              have m7:=pA (by omega) m5 ev2 hv
              by_cases c7:k - 1=0
              · rw[if_pos (by simpa using c7)]
                rw[c7] at m7 ⊢
                exact wpS_pure ⟨hG2,.inl ⟨_,_,_,_,_,_,_,rfl,done m7⟩⟩
              rw[if_neg (by simpa using c7)]
              refine wpS_ite (fun _=>?_) (fun _=>?_)
              · exact wpS_pure ⟨hG2,.inr ⟨_,_,_,_,_,_,rfl,m7,by omega,by omega,by omega,by omega,by omega⟩⟩
              · exact wpS_pure ⟨hG2,_,_,_,_,_,_,rfl,m7,by omega,by omega,by omega,by omega,by omega⟩
def ka (O:KO) (xs:Array Keyed) (i:Nat):O.α:=O.ky ((xs[i]?).getD (.none,.none))
def Up (O:KO) (lo n:Nat) (xs:Array Keyed):Prop:=∀ i j,i<=j->j<n->O.kle (ka O xs (lo+i)) (ka O xs (lo+j))
def Dn (O:KO) (lo n:Nat) (xs:Array Keyed):Prop:=∀ i j,i<=j->j<n->O.kle (ka O xs (lo+j)) (ka O xs (lo+i))
structure FB (knd:SortKind) (b₀:Array Keyed) (p₀:Array (Nat × Nat × Nat)) (lo:Nat) (st:SortSt):Prop where
  perm:(arrOf st).Perm b₀
  keep:∀ i,i<lo->(arrOf st)[i]?=b₀[i]?
  kind:kindOf st=knd
  failed:failedOf st=none
  pend:pendingOf st=p₀
section
variable {b₀:Array Keyed}{p₀:Array (Nat × Nat × Nat)}{lo:Nat}
theorem FB.size (h:FB knd b₀ p₀ lo st):(arrOf st).size=b₀.size:=h.perm.size_eq
theorem FB.put {xs:Array Keyed} (h:FB knd b₀ p₀ lo st) (hp:xs.Perm (arrOf st)) (hx:∀ i,i<lo->xs[i]?=(arrOf st)[i]?):FB knd b₀ p₀ lo (setArr st xs) :=
  ⟨hp.trans h.perm,fun i hi=>(hx i hi).trans (h.keep i hi),h.kind,h.failed,h.pend⟩
theorem FB.mir (h:FB knd b₀ p₀ lo st) {i j:Nat} (hi:lo<=i) (hj:j<=b₀.size):FB knd b₀ p₀ lo (setArr st (mirror (arrOf st) i j ((j - i) / 2))) :=
  h.put (mirror_perm _ _ _ _) fun k hk=>by rw[getElem?_mirror_all (by rw[h.size];exact hj),if_neg (by omega)]
theorem ka_congr {xs ys:Array Keyed}{i j:Nat} (h:xs[i]?=ys[j]?):ka O xs i=ka O ys j:=by unfold ka;rw[h]
theorem ka_mir {xs:Array Keyed}{i j:Nat} (hj:j<=xs.size) (k:Nat):ka O (mirror xs i j ((j - i) / 2)) k=if i<=k/\k<j then ka O xs (i+j - 1 - k) else ka O xs k:=by
  have e:=getElem?_mirror_all (i:=i) hj k
  split
  · rename_i c;rw[if_pos c] at e;exact ka_congr e
  · rename_i c;rw[if_neg c] at e;exact ka_congr e
theorem ka_mirE {xs:Array Keyed}{i j:Nat} (hj:j<=xs.size) (he:∀ k,i<=k->k<j->ka O xs k=ka O xs (j - 1)) (k:Nat):ka O (mirror xs i j ((j - i) / 2)) k=ka O xs k:=by
  rw[ka_mir hj]
  split
  · rw[he _ (by omega) (by omega),he k (by omega) (by omega)]
  · rfl
theorem ka_bub {xs:Array Keyed}{src d:Nat} (hs:src<xs.size) (hd:d<=src) (k:Nat):ka O (bubble xs src d) k=if k=src - d then ka O xs src else if src - d<k/\k<=src then ka O xs (k - 1) else ka O xs k:=by
  have e:=getElem?_bubble hs d hd k
  split
  · rename_i c;rw[if_pos c] at e;exact ka_congr e
  · rename_i c
    rw[if_neg c] at e
    split
    · rename_i c2;rw[if_pos c2] at e;exact ka_congr e
    · rename_i c2;rw[if_neg c2] at e;exact ka_congr e
theorem wpS_ltA {i j:Nat}{Q:Option Bool->SortSt->Prop} (hA:Asks prog w A s O knd ok) (h0:∀ x∈b₀.toList,ok x) (hF:FB knd b₀ p₀ lo st) (hi:i<b₀.size) (hj:j<b₀.size) (h:Q (some (O.blt (ka O (arrOf st) i) (ka O (arrOf st) j))) st):wpS (model prog w) A E s (ltAt' i j) Q st:=by
  obtain⟨x,ex,_,mx⟩:=arr_at (a:=arrOf st) (i:=i) (by rw[hF.size];exact hi)
  obtain⟨y,ey,_,my⟩:=arr_at (a:=arrOf st) (i:=j) (by rw[hF.size];exact hj)
  have pm:=Array.perm_iff_toList_perm.mp hF.perm
  rw[ltAt'_eq]
  refine wpS_bind (wpS_get ?_)
  refine wpS_bind (wpS_elem ex (wpS_bind (wpS_elem ey ?_)))
  refine wpS_lt hA hF.kind (h0 x (pm.mem_iff.mp mx)) (h0 y (pm.mem_iff.mp my)) ?_
  unfold ka at h
  rw[ex,ey] at h
  exact h
theorem wpS_rev {i j:Nat}{Q:Unit->SortSt->Prop} (h:Q () (setArr st (mirror (arrOf st) i j ((j - i) / 2)))):wpS (model prog w) A E s (reverseSlice' i j) Q st:=by
  rw[reverseSlice'_eq];exact wpS_modify h
def ascL (lo a nrem:Nat):StateT SortSt Sem (Option (Option Nat) × Nat) :=
  forIn [a:nrem] ((none,a):Option (Option Nat) × Nat) fun _ c=>ltAt' (lo+c.2) (lo+c.2 - 1) >>= fun x=>match x with
    | some sm=>if sm=true then pure (ForInStep.done (none,c.2)) else pure (ForInStep.yield (none,c.2+1))
    | _=>pure (ForInStep.done (some none,c.2))
theorem wpS_ascL {a nrem:Nat}{Q:Option (Option Nat) × Nat->SortSt->Prop} (hA:Asks prog w A s O knd ok) (h0:∀ x∈b₀.toList,ok x) (hF:FB knd b₀ p₀ lo st) (hn:lo+nrem<=b₀.size) (ha:1<=a) (hl:a<=nrem) (hu:Up O lo a (arrOf st))
    (h:∀ n,a<=n->n<=nrem->Up O lo n (arrOf st)->(n=nrem∨O.klt (ka O (arrOf st) (lo+n)) (ka O (arrOf st) (lo+n - 1)))->Q (none,n) st):wpS (model prog w) A E s (ascL lo a nrem) Q st:=by
  unfold ascL
  refine wpS_forRange (I:=fun n c τ=>τ=st/\c=((none:Option (Option Nat)),n)/\Up O lo n (arrOf st)) ?go ?out ⟨rfl,rfl,hu⟩
  case out=>
    rintro c τ ⟨rfl,rfl,u⟩
    rw[Nat.max_eq_right hl] at u ⊢
    exact h nrem hl (Nat.le_refl _) u (.inl rfl)
  case go=>
    rintro n c τ h1 h2 ⟨rfl,rfl,u⟩
    refine wpS_bind (wpS_ltA hA h0 hF (by dsimp only;omega) (by dsimp only;omega) ?_)
    dsimp only
    cases e:O.blt (ka O (arrOf τ) (lo+n)) (ka O (arrOf τ) (lo+n - 1)) with
    | true=>
      simp only[if_true]
      exact wpS_pure (h n h1 (by omega) u (.inr e))
    | false=>
      simp only[Bool.false_eq_true,if_false]
      refine wpS_pure ⟨rfl,rfl,fun i j hij hj=>?_⟩
      rcases Nat.lt_or_ge j n with z | z
      · exact u i j hij z
      · obtain rfl:j=n:=by omega
        rcases Nat.lt_or_ge i j with y | y
        · exact KeyOrd.kle_trans (u i (j - 1) (by omega) (by omega)) (by rw[show lo+(j - 1)=lo+j - 1 by omega];exact e)
        · obtain rfl:i=j:=by omega
          exact KeyOrd.kle_refl _
theorem up_mir {n:Nat}{xs:Array Keyed} (hd:Dn O lo n xs) (hsz:lo+n<=xs.size):Up O lo n (mirror xs lo (lo+n) ((lo+n - lo) / 2)):=by
  intro i j hij hj
  rw[ka_mir hsz,ka_mir hsz,if_pos (by omega),if_pos (by omega)]
  have q:=hd (n - 1 - j) (n - 1 - i) (by omega) (by omega)
  rw[show lo+(n - 1 - j)=lo+(lo+n) - 1 - (lo+j) by omega,show lo+(n - 1 - i)=lo+(lo+n) - 1 - (lo+i) by omega] at q
  exact q
def dscL (lo n nrem:Nat):StateT SortSt Sem (Option (Option Nat) × Nat × Nat) :=
  forIn [n:nrem] ((none,n,0):Option (Option Nat) × Nat × Nat) fun _ c=>ltAt' (lo+c.2.1) (lo+c.2.1 - 1) >>= fun x=>match x with
    | some sm=>if sm=true then (if c.2.2 > 0 then reverseSlice' (lo+c.2.1 - (c.2.2+1)) (lo+c.2.1) >>= fun _=>pure (ForInStep.yield (none,c.2.1+1,0)) else pure (ForInStep.yield (none,c.2.1+1,0)))
      else ltAt' (lo+c.2.1 - 1) (lo+c.2.1) >>= fun y=>match y with
        | some lg=>if lg=true then pure (ForInStep.done (none,c.2.1,c.2.2)) else pure (ForInStep.yield (none,c.2.1+1,c.2.2+1))
        | _=>pure (ForInStep.done (some none,c.2.1,c.2.2))
    | _=>pure (ForInStep.done (some none,c.2.1,c.2.2))
theorem wpS_dscL {n nrem:Nat}{Q:Option (Option Nat) × Nat × Nat->SortSt->Prop} (hA:Asks prog w A s O knd ok) (h0:∀ x∈b₀.toList,ok x) (hF:FB knd b₀ p₀ lo st) (hn:lo+nrem<=b₀.size) (h1:1<=n) (hl:n<=nrem) (hd:Dn O lo n (arrOf st))
    (h:∀ m e τ,FB knd b₀ p₀ lo τ->n<=m->m<=nrem->Dn O lo m (arrOf τ)->e+1<=m->(∀ i,m - (e+1)<=i->i<m->ka O (arrOf τ) (lo+i)=ka O (arrOf τ) (lo+m - 1))->Q (none,m,e) τ):wpS (model prog w) A E s (dscL lo n nrem) Q st:=by
  unfold dscL
  refine wpS_forRange (I:=fun m c τ=>∃ e,c=((none:Option (Option Nat)),m,e)/\FB knd b₀ p₀ lo τ/\Dn O lo m (arrOf τ)/\e+1<=m/\∀ i,m - (e+1)<=i->i<m->ka O (arrOf τ) (lo+i)=ka O (arrOf τ) (lo+m - 1)) ?go ?out
    ⟨0,rfl,hF,hd,by omega,fun i h2 h3=>by congr 1;omega⟩
  case out=>
    rintro c τ ⟨e,rfl,hT,d,q,he⟩
    rw[Nat.max_eq_right hl] at d q he ⊢
    exact h nrem e τ hT hl (Nat.le_refl _) d q he
  case go=>
    rintro m c τ h2 h3 ⟨e,rfl,hT,d,q,he⟩
    have hsz:lo+m<=(arrOf τ).size:=by rw[hT.size];omega
    have more:∀ xs:Array Keyed,(∀ k,ka O xs k=ka O (arrOf τ) k)->O.kle (ka O (arrOf τ) (lo+m)) (ka O (arrOf τ) (lo+m - 1))->Dn O lo (m+1) xs:=by
      intro xs hk hle i j hij hj
      rw[hk,hk]
      rcases Nat.lt_or_ge j m with z | z
      · exact d i j hij z
      · obtain rfl:j=m:=by omega
        rcases Nat.lt_or_ge i j with y | y
        · exact KeyOrd.kle_trans hle (by rw[show lo+j - 1=lo+(j - 1) by omega];exact d i (j - 1) (by omega) (by omega))
        · obtain rfl:i=j:=by omega
          exact KeyOrd.kle_refl _
    have eq1:∀ k,lo+m - (e+1)<=k->k<lo+m->ka O (arrOf τ) k=ka O (arrOf τ) (lo+m - 1):=fun k k1 k2=>by
      have:=he (k - lo) (by omega) (by omega)
      rwa [show lo+(k - lo)=k by omega] at this
    refine wpS_bind (wpS_ltA hA h0 hT (by dsimp only;omega) (by dsimp only;omega) ?_)
    dsimp only
    cases ew:O.blt (ka O (arrOf τ) (lo+m)) (ka O (arrOf τ) (lo+m - 1)) with
    | true=>
      simp only[if_true]
      refine wpS_ite (fun _=>?_) (fun _=>?_)
      · exact wpS_bind (wpS_rev (wpS_pure ⟨0,rfl,hT.mir (by omega) (by omega),more _ (ka_mirE hsz eq1) (KeyOrd.kle_of_klt ew),by omega,fun i h2 h3=>by congr 1;omega⟩))
      · exact wpS_pure ⟨0,rfl,hT,more _ (fun _=>rfl) (KeyOrd.kle_of_klt ew),by omega,fun i h2 h3=>by congr 1;omega⟩
    | false=>
      simp only[Bool.false_eq_true,if_false]
      refine wpS_bind (wpS_ltA hA h0 hT (by omega) (by omega) ?_)
      dsimp only
      cases eg:O.blt (ka O (arrOf τ) (lo+m - 1)) (ka O (arrOf τ) (lo+m)) with
      | true=>
        simp only[if_true]
        exact wpS_pure (h m e τ hT h2 (by omega) d q he)
      | false=>
        simp only[Bool.false_eq_true,if_false]
        have hx:ka O (arrOf τ) (lo+m)=ka O (arrOf τ) (lo+m - 1):=KeyOrd.kle_antisymm (O:=O.toKeyOrd) eg ew
        refine wpS_pure ⟨e+1,rfl,hT,more _ (fun _=>rfl) eg,by omega,fun i i1 i2=>?_⟩
        rw[show lo+(m+1) - 1=lo+m by omega]
        rcases Nat.lt_or_ge i m with z | z
        · rw[hx];exact he i (by omega) z
        · obtain rfl:i=m:=by omega
          rfl
theorem wpS_run {nrem:Nat}{Q:Option Nat->SortSt->Prop} (hA:Asks prog w A s O knd ok) (h0:∀ x∈b₀.toList,ok x) (hF:FB knd b₀ p₀ lo st) (hn:lo+nrem<=b₀.size) (h1:1<=nrem)
    (h:∀ m τ,FB knd b₀ p₀ lo τ->1<=m->m<=nrem->Up O lo m (arrOf τ)->Q (some m) τ):wpS (model prog w) A E s (countRun' lo nrem) Q st:=by
  refine wpS_bind (wpS_ascL (a:=1) hA h0 hF hn (Nat.le_refl 1) h1 (fun i j hij hj=>?_) fun n n1 n2 u hor=>?_)
  · obtain rfl:i=j:=by omega
    exact KeyOrd.kle_refl _
  dsimp only
  by_cases c:n=nrem
  · rw[if_pos (by simpa using c)]
    exact wpS_pure (h n st hF n1 n2 u)
  rw[if_neg (by simpa using c)]
  have hlt:=hor.resolve_left c
  have hsz:lo+n<=(arrOf st).size:=by rw[hF.size];omega
  by_cases cg:n > 1
  · rw[if_pos cg]
    refine wpS_bind (wpS_ltA hA h0 hF (by omega) (by omega) ?_)
    cases e:O.blt (ka O (arrOf st) lo) (ka O (arrOf st) (lo+n - 1)) with
    | true=>
      simp only[if_true]
      exact wpS_pure (h n st hF n1 n2 u)
    | false=>
      simp only[Bool.false_eq_true,if_false]
      have all:∀ k,lo<=k->k<lo+n->ka O (arrOf st) k=ka O (arrOf st) (lo+n - 1):=by
        intro k k1 k2
        have a1:=u 0 (k - lo) (by omega) (by omega)
        have a2:=u (k - lo) (n - 1) (by omega) (by omega)
        rw[show lo+(k - lo)=k by omega] at a1 a2
        rw[show lo+(n - 1)=lo+n - 1 by omega] at a2
        exact KeyOrd.kle_antisymm a2 (KeyOrd.kle_trans (O:=O.toKeyOrd) e a1)
      refine wpS_bind (wpS_rev ?_)
      have hF7:=FB.mir hF (i:=lo) (j:=lo+n) (Nat.le_refl _) (by omega)
      have d7:Dn O lo (n+1) (arrOf (setArr st (mirror (arrOf st) lo (lo+n) ((lo+n - lo) / 2)))):=by
        intro i j hij hj
        show O.kle (ka O (mirror (arrOf st) _ _ _) _) (ka O (mirror (arrOf st) _ _ _) _)
        rw[ka_mirE hsz all,ka_mirE hsz all]
        rcases Nat.lt_or_ge j n with z | z
        · rw[all _ (by omega) (show lo+j<lo+n by omega),all _ (by omega) (show lo+i<lo+n by omega)];exact KeyOrd.kle_refl _
        · obtain rfl:j=n:=by omega
          rcases Nat.lt_or_ge i j with y | y
          · rw[all _ (by omega) (show lo+i<lo+j by omega)];exact KeyOrd.kle_of_klt hlt
          · obtain rfl:i=j:=by omega
            exact KeyOrd.kle_refl _
      refine wpS_bind (wpS_lift (wpAny_rule ⟨rfl,?_⟩))
      refine wpS_bind (wpS_dscL hA h0 hF7 hn (by omega) (by omega) d7 fun m e τ hT m1 m2 d q he=>?_)
      dsimp only
      have hsz:lo+m<=(arrOf τ).size:=by rw[hT.size];omega
      have eq1:∀ k,lo+m - (e+1)<=k->k<lo+m->ka O (arrOf τ) k=ka O (arrOf τ) (lo+m - 1):=fun k k1 k2=>by
        have:=he (k - lo) (by omega) (by omega)
        rwa [show lo+(k - lo)=k by omega] at this
      refine wpS_ite (fun _=>?_) (fun _=>?_)
      · refine wpS_bind (wpS_rev ?_)
        have hF8:=FB.mir hT (i:=lo+m - (e+1)) (j:=lo+m) (by omega) (by omega)
        have d8:Dn O lo m (arrOf (setArr τ (mirror (arrOf τ) (lo+m - (e+1)) (lo+m) ((lo+m - (lo+m - (e+1))) / 2)))):=by
          intro i j hij hj
          show O.kle (ka O (mirror (arrOf τ) _ _ _) _) (ka O (mirror (arrOf τ) _ _ _) _)
          rw[ka_mirE hsz eq1,ka_mirE hsz eq1]
          exact d i j hij hj
        refine wpS_bind (wpS_rev ?_)
        have hF9:=FB.mir hF8 (i:=lo) (j:=lo+m) (Nat.le_refl _) (by omega)
        refine wpS_bind (wpS_ascL hA h0 hF9 hn (by omega) m2 (up_mir d8 (by rw[FB.size hF8];omega)) fun m' m1' m2' u' _=>wpS_pure (h m' _ hF9 (by omega) m2' u'))
      ·
        refine wpS_bind (wpS_rev ?_)
        have hF9:=FB.mir hT (i:=lo) (j:=lo+m) (Nat.le_refl _) (by omega)
        refine wpS_bind (wpS_ascL hA h0 hF9 hn (by omega) m2 (up_mir d (by rw[FB.size hT];omega)) fun m' m1' m2' u' _=>wpS_pure (h m' _ hF9 (by omega) m2' u'))
  · rw[if_neg cg]
    obtain rfl:n=1:=by omega
    have d7:Dn O lo (1+1) (arrOf st):=by
      intro i j hij hj
      rcases Nat.lt_or_ge i j with y | y
      · obtain rfl:i=0:=by omega
        obtain rfl:j=1:=by omega
        exact KeyOrd.kle_of_klt hlt
      · obtain rfl:i=j:=by omega
        exact KeyOrd.kle_refl _
    refine wpS_bind (wpS_lift (wpAny_rule ⟨rfl,?_⟩))
    refine wpS_bind (wpS_dscL hA h0 hF hn (by omega) (by omega) d7 fun m e τ hT m1 m2 d q he=>?_)
    dsimp only
    have hsz:lo+m<=(arrOf τ).size:=by rw[hT.size];omega
    have eq1:∀ k,lo+m - (e+1)<=k->k<lo+m->ka O (arrOf τ) k=ka O (arrOf τ) (lo+m - 1):=fun k k1 k2=>by
      have:=he (k - lo) (by omega) (by omega)
      rwa [show lo+(k - lo)=k by omega] at this
    refine wpS_ite (fun _=>?_) (fun _=>?_)
    · refine wpS_bind (wpS_rev ?_)
      have hF8:=FB.mir hT (i:=lo+m - (e+1)) (j:=lo+m) (by omega) (by omega)
      have d8:Dn O lo m (arrOf (setArr τ (mirror (arrOf τ) (lo+m - (e+1)) (lo+m) ((lo+m - (lo+m - (e+1))) / 2)))):=by
        intro i j hij hj
        show O.kle (ka O (mirror (arrOf τ) _ _ _) _) (ka O (mirror (arrOf τ) _ _ _) _)
        rw[ka_mirE hsz eq1,ka_mirE hsz eq1]
        exact d i j hij hj
      refine wpS_bind (wpS_rev ?_)
      have hF9:=FB.mir hF8 (i:=lo) (j:=lo+m) (Nat.le_refl _) (by omega)
      refine wpS_bind (wpS_ascL hA h0 hF9 hn (by omega) m2 (up_mir d8 (by rw[FB.size hF8];omega)) fun m' m1' m2' u' _=>wpS_pure (h m' _ hF9 (by omega) m2' u'))
    ·
      refine wpS_bind (wpS_rev ?_)
      have hF9:=FB.mir hT (i:=lo) (j:=lo+m) (Nat.le_refl _) (by omega)
      refine wpS_bind (wpS_ascL hA h0 hF9 hn (by omega) m2 (up_mir d (by rw[FB.size hT];omega)) fun m' m1' m2' u' _=>wpS_pure (h m' _ hF9 (by omega) m2' u'))
end
end
end L2
namespace L2
open PySem PyProof.Rows
section
variable {prog:Program}{w:World}{A:Around}{E:Value->Shared->Prop}{s:Shared}{O:KO}{knd:SortKind}{ok:Keyed->Prop}{st:SortSt}{b₀:Array Keyed}{p₀:Array (Nat × Nat × Nat)}{lo:Nat}
theorem mid_lt {l r:Nat} (h:l<r):l<=(l+r) / 2/\(l+r) / 2<r:=by omega
theorem mid_a {l r k x N:Nat} (m1:l<=(l+r) / 2) (m2:(l+r) / 2<r) (hx:x<N) (e2:r<=k) (e3:r - l<=k - x):(l+r) / 2 - l<=k - (x+1):=by omega
theorem mid_b {l r k x N:Nat} (m1:l<=(l+r) / 2) (m2:(l+r) / 2<r) (hx:x<N) (e2:r<=k) (e3:r - l<=k - x):r - ((l+r) / 2+1)<=k - (x+1):=by omega
theorem wpS_ins {n m:Nat}{Q:Bool->SortSt->Prop} (hA:Asks prog w A s O knd ok) (h0:∀ x∈b₀.toList,ok x) (hF:FB knd b₀ p₀ lo st) (hn:lo+n<=b₀.size) (h1:1<=m) (hm:m<=n) (hu:Up O lo m (arrOf st))
    (h:∀ τ,FB knd b₀ p₀ lo τ->Up O lo n (arrOf τ)->Q true τ):wpS (model prog w) A E s (binarySort' lo n m) Q st:=by
  rw[binarySort'_eq,Nat.max_eq_left h1]
  refine wpS_bind (wpS_mono (wpS_forRange (I:=fun k c τ=>c=(none,())/\FB knd b₀ p₀ lo τ/\Up O lo k (arrOf τ))
    (Q:=fun c τ=>c=(none,())/\FB knd b₀ p₀ lo τ/\Up O lo n (arrOf τ)) ?go ?out ⟨rfl,hF,hu⟩) ?fin)
  case fin=>
    rintro c τ ⟨rfl,hT,u⟩
    exact wpS_pure (h τ hT u)
  case out=>
    rintro c τ ⟨hc,hT,u⟩
    rw[Nat.max_eq_right hm] at u
    exact⟨hc,hT,u⟩
  case go=>
    rintro k c τ k1 k2 ⟨rfl,hT,u⟩
    refine wpS_bind (wpS_mono (wpS_forRange (I:=fun x c τ'=>τ'=τ/\∃ l r,c=(none,l,r)/\l<=r/\r<=k/\r - l<=k - x /\
        (∀ i,i<l->O.kle (ka O (arrOf τ) (lo+i)) (ka O (arrOf τ) (lo+k)))/\∀ i,r<=i->i<k->O.klt (ka O (arrOf τ) (lo+k)) (ka O (arrOf τ) (lo+i)))
      (Q:=fun c τ'=>τ'=τ/\∃ l,c=(none,l,l)/\l<=k/\(∀ i,i<l->O.kle (ka O (arrOf τ) (lo+i)) (ka O (arrOf τ) (lo+k)))/\∀ i,l<=i->i<k->O.klt (ka O (arrOf τ) (lo+k)) (ka O (arrOf τ) (lo+i))) ?go2 ?out2
      ⟨rfl,0,k,rfl,Nat.zero_le _,Nat.le_refl _,Nat.le_refl _,fun i hi=>absurd hi (Nat.not_lt_zero _),fun i i1 i2=>absurd i2 (Nat.not_lt.mpr i1)⟩) ?fin2)
    case out2=>
      rintro c τ' ⟨rfl,l,r,rfl,e1,e2,e3,e4,e5⟩
      obtain rfl:l=r:=by omega
      exact⟨rfl,l,rfl,e2,e4,e5⟩
    case go2=>
      rintro x c τ' _ hx ⟨rfl,l,r,rfl,e1,e2,e3,e4,e5⟩
      dsimp only
      by_cases hge:l ≥ r
      · rw[if_pos hge]
        obtain rfl:l=r:=by omega
        exact wpS_pure ⟨rfl,l,rfl,e2,e4,e5⟩
      rw[if_neg hge]
      obtain⟨m1,m2⟩:=mid_lt (Nat.lt_of_not_le hge)
      have mk:(l+r) / 2<k:=Nat.lt_of_lt_of_le m2 e2
      have kn:lo+k<b₀.size:=Nat.lt_of_lt_of_le (Nat.add_lt_add_left k2 lo) hn
      refine wpS_bind (wpS_ltA hA h0 hT kn (Nat.lt_trans (Nat.add_lt_add_left mk lo) kn) ?_)
      cases e:O.blt (ka O (arrOf τ') (lo+k)) (ka O (arrOf τ') (lo+(l+r) / 2)) with
      | true=>
        simp only[if_true]
        exact wpS_pure ⟨rfl,l,(l+r) / 2,rfl,m1,Nat.le_of_lt mk,mid_a m1 m2 hx e2 e3,e4,fun i i1 i2=>KeyOrd.klt_of_klt_of_kle e (u _ _ i1 i2)⟩
      | false=>
        simp only[Bool.false_eq_true,if_false]
        exact wpS_pure ⟨rfl,(l+r) / 2+1,r,rfl,m2,e2,mid_b m1 m2 hx e2 e3,fun i i1=>KeyOrd.kle_trans (u i ((l+r) / 2) (Nat.le_of_lt_succ i1) mk) e,e5⟩
    case fin2=>
      rintro c τ' ⟨rfl,l,rfl,e2,e4,e5⟩
      dsimp only
      rw[moveDown'_eq]
      have hks:lo+k<(arrOf τ').size:=by rw[hT.size];omega
      refine wpS_bind (wpS_modify (wpS_pure ⟨rfl,hT.put (bubble_perm _ _ _) (fun i hi=>?_),?_⟩))
      · rw[getElem?_bubble hks _ (by omega),if_neg (by omega),if_neg (by omega)]
      · intro i j hij hj
        show O.kle (ka O (bubble (arrOf τ') (lo+k) (lo+k - (lo+l))) _) (ka O (bubble (arrOf τ') (lo+k) (lo+k - (lo+l))) _)
        rw[ka_bub hks (by omega),ka_bub hks (by omega),show lo+k - (lo+k - (lo+l))=lo+l by omega]
        repeat' split
        all_goals first
          | (exfalso;omega)
          | exact KeyOrd.kle_refl _
          | exact e4 _ (by omega)
          | (rw[show lo+j - 1=lo+(j - 1) by omega];exact KeyOrd.kle_of_klt (e5 _ (by omega) (by omega)))
          | exact KeyOrd.kle_of_klt (e5 _ (by omega) (by omega))
          | (rw[show lo+i - 1=lo+(i - 1) by omega,show lo+j - 1=lo+(j - 1) by omega];exact u _ _ (by omega) (by omega))
          | (rw[show lo+j - 1=lo+(j - 1) by omega];exact u _ _ (by omega) (by omega))
          | exact u _ _ (by omega) (by omega)
def pos:Nat->List (List Keyed)->List (Nat × Nat)
  | _,[]=>[]
  | o,r::rs=>(o,r.length)::pos (o+r.length) rs
theorem pos_append:∀ (o:Nat) (xs ys:List (List Keyed)),pos o (xs++ys)=pos o xs++pos (o+xs.flatten.length) ys
  | o,[],ys=>by simp[pos]
  | o,r::rs,ys=>by
    simp only[List.cons_append,pos,pos_append,List.flatten_cons,List.length_append]
    rw[Nat.add_assoc]
theorem pos_length:∀ (o:Nat) (xs:List (List Keyed)),(pos o xs).length=xs.length
  | _,[]=>rfl
  | o,r::rs=>by simp only[pos,List.length_cons,pos_length]
def pr (p:Nat × Nat × Nat):Nat × Nat:=(p.1,p.2.1)
structure RI (O:KO) (knd:SortKind) (a₀:List Keyed) (runs:List (List Keyed)) (rest:List Keyed) (st:SortSt):Prop where
  arr:(arrOf st).toList=runs.flatten++rest
  perm:(arrOf st).toList.Perm a₀
  srt:∀ r∈runs,O.Srt r
  ne:∀ r∈runs,1<=r.length
  kind:kindOf st=knd
  failed:failedOf st=none
  pend:(pendingOf st).toList.map pr=pos 0 runs
theorem write_back:∀ (l:List Keyed) (n sa:Nat) (xs:Array Keyed) (P M S:List Keyed),xs.toList=P++M++S->M.length=l.length->P.length=sa+n ->
    ((l.zipIdx n).foldl (fun a (q:Keyed × Nat)=>a.setIfInBounds (sa+q.2) q.1) xs).toList=P++l++S
  | [],n,sa,xs,P,M,S,e,h1,h2=>by
    have:M=[]:=List.length_eq_zero_iff.mp h1
    subst this
    simpa using e
  | x::l,n,sa,xs,P,[],S,e,h1,h2=>by cases h1
  | x::l,n,sa,xs,P,y::M,S,e,h1,h2=>by
    rw[List.zipIdx_cons,List.foldl_cons]
    have q:=write_back l (n+1) sa (xs.setIfInBounds (sa+n) x) (P++[x]) M S ?_ (by simpa using h1) (by simp;omega)
    · rw[q];simp
    · rw[Array.toList_setIfInBounds,e,<- h2]
      simp
theorem map_split {α β:Type}{f:α->β}{l:List α}{X Z:List β}{x y:β} (h:l.map f=X++x::y::Z):∃ P p q S,l=P++p::q::S/\P.map f=X/\f p=x/\f q=y/\S.map f=Z:=by
  obtain⟨P,l2,e1,e2,e3⟩:=List.map_eq_append_iff.mp h
  obtain⟨p,l3,e4,e5,e6⟩:=List.map_eq_cons_iff.mp e3
  obtain⟨q,S,e7,e8,e9⟩:=List.map_eq_cons_iff.mp e6
  exact⟨P,p,q,S,by rw[e1,e4,e7],e2,e5,e8,e9⟩
theorem at_mid {α:Type}{pre m post:List α}{l:List α}{i:Nat} (e:l=pre++m++post) (hi:i<m.length):l[pre.length+i]?=m[i]?:=by
  rw[e,List.append_assoc,List.getElem?_append_right (by omega),Nat.add_sub_cancel_left,List.getElem?_append_left hi]
theorem seg_le {xs:Array Keyed}{pre m post:List Keyed} (e:xs.toList=pre++m++post) (sm:O.Srt m):∀ p q x y,pre.length<=p->p<=q->q<pre.length+m.length->xs[p]?=some x->xs[q]?=some y->O.le x y:=by
  intro p q x y h1 h2 h3 e1 e2
  have f1:=at_mid (i:=p - pre.length) e (by omega)
  have f2:=at_mid (i:=q - pre.length) e (by omega)
  rw[show pre.length+(p - pre.length)=p by omega,Array.getElem?_toList,e1] at f1
  rw[show pre.length+(q - pre.length)=q by omega,Array.getElem?_toList,e2] at f2
  exact sorted_at sm (by omega) f1.symm f2.symm
theorem ext_mid {xs:Array Keyed}{P M S:List Keyed}{i j:Nat} (e:xs.toList=P++M++S) (hi:i=P.length) (hj:j=P.length+M.length):(xs.extract i j).toList=M:=by
  rw[ext_toR,e,hi,hj,List.append_assoc,List.drop_left,Nat.add_sub_cancel_left,List.take_left]
theorem srt3 {x y z:List Keyed} (hx:O.Srt x) (hy:O.Srt y) (hz:O.Srt z) (xy:∀ p∈x,∀ q∈y,O.le p q) (yz:∀ p∈y,∀ q∈z,O.le p q) (xz:∀ p∈x,∀ q∈z,O.le p q):O.Srt (x++y++z):=by
  refine List.pairwise_append.mpr ⟨List.pairwise_append.mpr ⟨hx,hy,xy⟩,hz,fun p hp q hq=>?_⟩
  rcases List.mem_append.mp hp with hp | hp
  · exact xz p hp q hq
  · exact yz p hp q hq
theorem wpS_set {M:Model}{σ:Type}{x y:σ}{Q:PUnit->σ->Prop} (h:Q ⟨⟩ x):wpS M A E s (set x:StateT σ Sem PUnit) Q y:=by
  unfold wpS;rw[StateT.run_set];exact wpAny_pure ⟨rfl,h⟩
theorem wpS_mergeAt {a₀ rest:List Keyed}{R1 R2:List (List Keyed)}{a b:List Keyed}{i:Nat}{Q:Bool->SortSt->Prop} (hA:Asks prog w A s O knd ok) (h0:∀ x∈a₀,ok x) (hR:RI O knd a₀ (R1++a::b::R2) rest st) (hi:R1.length=i)
    (h:∀ m τ,m.Perm (a++b)->RI O knd a₀ (R1++m::R2) rest τ->Q true τ):wpS (model prog w) A E s (mergeAt' i) Q st:=by
  have hp:=hR.pend
  rw[pos_append] at hp
  obtain⟨P,p,q,S,ep,e1,e2,e3,e4⟩:=map_split hp
  obtain⟨p1,p2,w1⟩:=p
  obtain⟨q1,q2,w2⟩:=q
  simp only[pr,Prod.mk.injEq,Nat.zero_add] at e2 e3
  obtain⟨rfl,rfl⟩:=e2
  obtain⟨rfl,rfl⟩:=e3
  have hP:P.length=i:=by rw[<- hi,<- pos_length 0 R1,<- e1,List.length_map]
  have g1:(pendingOf st)[i]?=some (R1.flatten.length,a.length,w1):=by
    rw[<- Array.getElem?_toList,ep,List.getElem?_append_right (by omega),hP,Nat.sub_self];rfl
  have g2:(pendingOf st)[i+1]?=some (R1.flatten.length+a.length,b.length,w2):=by
    rw[<- Array.getElem?_toList,ep,List.getElem?_append_right (by omega),hP,Nat.add_sub_cancel_left];rfl
  have ea:(arrOf st).toList=R1.flatten++a++(b++(R2.flatten++rest)):=by
    rw[hR.arr];simp
  have eb:(arrOf st).toList=(R1.flatten++a)++b++(R2.flatten++rest):=by
    rw[hR.arr];simp
  have sa:O.Srt a:=hR.srt a (by simp)
  have sb:O.Srt b:=hR.srt b (by simp)
  have la:1<=a.length:=hR.ne a (by simp)
  have lb:1<=b.length:=hR.ne b (by simp)
  have oks:∀ x∈(arrOf st).toList,ok x:=fun x hx=>h0 x (hR.perm.mem_iff.mp hx)
  have oka:∀ x∈a,ok x:=fun x hx=>oks x (by rw[ea];simp[hx])
  have okb:∀ x∈b,ok x:=fun x hx=>oks x (by rw[eb];simp[hx])
  have fin:∀ (τ:SortSt) (m:List Keyed),m.Perm (a++b)->O.Srt m->(arrOf τ).toList=R1.flatten++m++(R2.flatten++rest)->kindOf τ=knd->failedOf τ=none->(pendingOf τ).toList=P++(R1.flatten.length,a.length+b.length,w1)::S->Q true τ:=by
    intro τ m pm sm em k1 k2 k3
    have lm:m.length=a.length+b.length:=by rw[pm.length_eq,List.length_append]
    refine h m τ pm ⟨by rw[em];simp,?_,?_,?_,k1,k2,?_⟩
    · refine List.Perm.trans ?_ hR.perm
      rw[em,ea]
      have:=List.Perm.append_left R1.flatten (List.Perm.append_right (R2.flatten++rest) pm)
      simpa using this
    · intro r hr
      rcases List.mem_append.mp hr with hr | hr
      · exact hR.srt r (List.mem_append_left _ hr)
      · rcases List.mem_cons.mp hr with hr | hr
        · rw[hr];exact sm
        · exact hR.srt r (by simp[hr])
    · intro r hr
      rcases List.mem_append.mp hr with hr | hr
      · exact hR.ne r (List.mem_append_left _ hr)
      · rcases List.mem_cons.mp hr with hr | hr
        · rw[hr];omega
        · exact hR.ne r (by simp[hr])
    · rw[k3,pos_append,List.map_append,e1,List.map_cons,e4,Nat.zero_add]
      simp only[pos,pr,lm,Nat.add_assoc]
  have new:(((pendingOf st).setIfInBounds i (R1.flatten.length,a.length+b.length,w1)).eraseIdxIfInBounds (i+1)).toList=P++(R1.flatten.length,a.length+b.length,w1)::S:=by
    rw[Array.toList_eraseIdxIfInBounds,Array.toList_setIfInBounds,ep,<- hP]
    simp[List.eraseIdx_append_of_length_le]
  refine wpS_bind (wpS_get ?_)
  rw[show (pendingOf st)[i]?=_ from g1,show (pendingOf st)[i+1]?=_ from g2]
  dsimp only
  refine wpS_bind (wpS_set ?_)
  have eb0:(arrOf st).toList[(R1.flatten++a).length+0]?=b[0]?:=at_mid eb (by omega)
  have hb0:b[0]?=some b[0]:=List.getElem?_eq_getElem lb
  have eb1:(arrOf st)[R1.flatten.length+a.length]?=some b[0]:=by
    rw[<- Array.getElem?_toList,<- hb0,<- eb0,List.length_append,Nat.add_zero]
  have mb0:b[0]∈b:=List.getElem_mem _
  refine wpS_bind (wpS_elem eb1 ?_)
  have hlen:(arrOf st).size=R1.flatten.length+a.length+b.length+(R2.flatten++rest).length:=by
    rw[<- Array.length_toList,eb];simp only[List.length_append]
  refine wpS_bind (wpS_gallopR hA hR.kind (okb _ mb0) oks (show R1.flatten.length+a.length<=(arrOf st).size by omega) (seg_le ea sa) (by omega) fun k hk1 u1 u2=>?_)
  have ka1:∀ z∈a.take k,O.le z b[0]:=by
    intro z hz
    obtain⟨j,hj,e⟩:=mem_take_at hz
    refine u1 j z hj ?_
    rw[<- Array.getElem?_toList,at_mid ea (by omega)]
    exact e
  have ka2:∀ z∈a.drop k,O.blt (O.ky b[0]) (O.ky z)=true:=by
    intro z hz
    obtain⟨j,hj,e⟩:=mem_drop_at hz
    have hj2:j<a.length:=(List.getElem?_eq_some_iff.mp e).1
    refine u2 j z hj hj2 ?_
    rw[<- Array.getElem?_toList,at_mid ea hj2]
    exact e
  have bb:∀ z∈b,O.le b[0] z:=fun z hz=>le_drop sb hb0 z (by simpa using hz)
  dsimp only
  by_cases ck:a.length - k=0
  · rw[if_pos (by simpa using ck)]
    have ek:a.take k=a:=List.take_of_length_le (by omega)
    rw[ek] at ka1
    refine wpS_pure (fin _ (a++b) (List.Perm.refl _) (List.pairwise_append.mpr ⟨sa,sb,fun x hx y hy=>KO.le_trans (ka1 x hx) (bb y hy)⟩) ?_ hR.kind hR.failed new)
    show (arrOf st).toList=_
    rw[ea];simp
  rw[if_neg (by simpa using ck)]
  have hla:a[a.length - 1]?=some a[a.length - 1]:=List.getElem?_eq_getElem (by omega)
  have mla:a[a.length - 1]∈a:=List.getElem_mem _
  have mla2:a[a.length - 1]∈a.drop k:=by
    refine List.mem_iff_getElem?.mpr ⟨a.length - 1 - k,?_⟩
    rw[List.getElem?_drop,show k+(a.length - 1 - k)=a.length - 1 by omega]
    exact hla
  have ela:(arrOf st)[R1.flatten.length+k+(a.length - k) - 1]?=some a[a.length - 1]:=by
    rw[<- Array.getElem?_toList,show R1.flatten.length+k+(a.length - k) - 1=R1.flatten.length+(a.length - 1) by omega,at_mid ea (by omega)]
    exact hla
  refine wpS_bind (wpS_elem ela ?_)
  refine wpS_bind (wpS_gallopL hA hR.kind (oka _ mla) oks (show R1.flatten.length+a.length+b.length<=(arrOf st).size by omega) (by rw[<- List.length_append];exact seg_le eb sb) (by omega) fun n hn1 v1 v2=>?_)
  have kb1:∀ z∈b.take n,O.blt (O.ky z) (O.ky a[a.length - 1])=true:=by
    intro z hz
    obtain⟨j,hj,e⟩:=mem_take_at hz
    refine v1 j z hj ?_
    rw[<- Array.getElem?_toList,<- List.length_append,at_mid eb (by omega)]
    exact e
  have kb2:∀ z∈b.drop n,O.le a[a.length - 1] z:=by
    intro z hz
    obtain⟨j,hj,e⟩:=mem_drop_at hz
    have hj2:j<b.length:=(List.getElem?_eq_some_iff.mp e).1
    refine v2 j z hj hj2 ?_
    rw[<- Array.getElem?_toList,<- List.length_append,at_mid eb hj2]
    exact e
  have hn0:1<=n:=by
    rcases Nat.eq_zero_or_pos n with z | z
    · subst z
      have q1:=ka2 _ mla2
      rw[show O.blt (O.ky b[0]) (O.ky a[a.length - 1])=false from kb2 b[0] (by simpa using mb0)] at q1
      cases q1
    · exact z
  have aa:∀ z∈a,O.le z a[a.length - 1]:=fun z hz=>le_take sa hla z (by rw[show a.length - 1+1=a.length by omega,List.take_length];exact hz)
  dsimp only
  rw[if_neg (by simp;omega)]
  have exx:((arrOf st).extract (R1.flatten.length+k) (R1.flatten.length+a.length)).toList=a.drop k :=
    ext_mid (P:=R1.flatten++a.take k) (S:=b++(R2.flatten++rest)) (by rw[ea];simp[<- List.append_assoc];simp[List.append_assoc,List.take_append_drop]) (by simp;omega) (by simp;omega)
  have exy:((arrOf st).extract (R1.flatten.length+a.length) (R1.flatten.length+a.length+n)).toList=b.take n :=
    ext_mid (P:=R1.flatten++a) (S:=b.drop n++(R2.flatten++rest)) (by rw[eb];simp only[List.append_assoc];rw[<- List.append_assoc (b.take n),List.take_append_drop]) (by simp) (by simp;omega)
  have sx:O.Srt (a.drop k):=sa.drop
  have sy:O.Srt (b.take n):=sb.take
  have after:∀ (r:Array Keyed) (τ:SortSt),Gal (SortSt.mk' (kindOf st) (arrOf st) (((pendingOf st).setIfInBounds i (R1.flatten.length,a.length+b.length,w1)).eraseIdxIfInBounds (i+1)) (gallopOf st) (failedOf st)) τ->Mg O (a.drop k) (b.take n) r.toList ->
      Q true (SortSt.mk' (kindOf τ) (r.toList.zipIdx.foldl (fun a (q:Keyed × Nat)=>a.setIfInBounds (R1.flatten.length+k+q.2) q.1) (arrOf τ)) (pendingOf τ) (gallopOf τ) (failedOf τ)):=by
    intro r τ hG hM
    have mem:∀ z∈r.toList,z∈a.drop k∨z∈b.take n:=fun z hz=>List.mem_append.mp (hM.1.mem_iff.mp hz)
    refine fin _ (a.take k++r.toList++b.drop n) ?_ (srt3 sa.take hM.2 sb.drop (fun p hp q hq=>?_) (fun p hp q hq=>?_) fun p hp q hq=>?_) ?_ (hG.1.trans hR.kind) (hG.2.2.2.trans hR.failed) (by rw[show pendingOf τ=_ from hG.2.2.1];exact new)
    · have p1:(a.take k++r.toList++b.drop n).Perm (a.take k++(a.drop k++b.take n)++b.drop n):=List.Perm.append_right _ (List.Perm.append_left _ hM.1)
      refine p1.trans (List.Perm.of_eq ?_)
      rw[<- List.append_assoc,List.take_append_drop,List.append_assoc,List.take_append_drop]
    · rcases mem q hq with m | m
      · refine (List.pairwise_append.mp (show O.Srt (a.take k++a.drop k) from by rw[List.take_append_drop];exact sa)).2.2 p hp q m
      · exact KO.le_trans (ka1 p hp) (bb q (List.mem_of_mem_take m))
    · rcases mem p hp with m | m
      · exact KO.le_trans (aa p (List.mem_of_mem_drop m)) (kb2 q hq)
      · refine (List.pairwise_append.mp (show O.Srt (b.take n++b.drop n) from by rw[List.take_append_drop];exact sb)).2.2 p m q hq
    · exact KO.le_trans (ka1 p hp) (bb q (List.mem_of_mem_drop hq))
    · show (List.foldl _ (arrOf τ) _).toList=_
      rw[show arrOf τ=arrOf st from hG.2.1]
      have:=write_back r.toList 0 (R1.flatten.length+k) (arrOf st) (R1.flatten++a.take k) (a.drop k++b.take n) (b.drop n++(R2.flatten++rest)) ?_ (by rw[hM.1.length_eq]) (by simp;omega)
      · rw[this];simp
      · rw[eb]
        simp only[List.append_assoc]
        rw[<- List.append_assoc (a.take k),List.take_append_drop,<- List.append_assoc (b.take n),List.take_append_drop]
  have xsz:((arrOf st).extract (R1.flatten.length+k) (R1.flatten.length+a.length)).size=a.length - k:=by
    rw[<- Array.length_toList,exx,List.length_drop]
  have ysz:((arrOf st).extract (R1.flatten.length+a.length) (R1.flatten.length+a.length+n)).size=n:=by
    rw[<- Array.length_toList,exy,List.length_take];omega
  have y0:∀ y,((arrOf st).extract (R1.flatten.length+a.length) (R1.flatten.length+a.length+n))[0]?=some y->y=b[0]:=by
    intro y e
    rw[<- Array.getElem?_toList,exy,List.getElem?_take_of_lt (by omega),hb0] at e
    exact (Option.some.inj e).symm
  have xl:∀ z,((arrOf st).extract (R1.flatten.length+k) (R1.flatten.length+a.length))[((arrOf st).extract (R1.flatten.length+k) (R1.flatten.length+a.length)).size - 1]?=some z->z=a[a.length - 1]:=by
    intro z e
    rw[xsz,<- Array.getElem?_toList,exx,List.getElem?_drop,show k+(a.length - k - 1)=a.length - 1 by omega,hla] at e
    exact (Option.some.inj e).symm
  have hx1:1<=((arrOf st).extract (R1.flatten.length+k) (R1.flatten.length+a.length)).size:=by rw[xsz];omega
  have hy1:1<=((arrOf st).extract (R1.flatten.length+a.length) (R1.flatten.length+a.length+n)).size:=by rw[ysz];omega
  refine wpS_ite (fun _=>?_) (fun _=>?_)
  · refine wpS_bind (wpS_mergeLo hA hR.kind (by rw[exx];exact fun x hx=>oka x (List.mem_of_mem_drop hx)) (by rw[exy];exact fun x hx=>okb x (List.mem_of_mem_take hx)) (by rw[exx];exact sx) (by rw[exy];exact sy) hx1 hy1 ?_ ?_ ?_)
    · intro y e x hx
      rw[y0 y e]
      rw[exx] at hx
      exact KO.le_of_lt (ka2 x hx)
    · intro z e y hy
      rw[xl z e]
      rw[exy] at hy
      exact kb1 y hy
    · intro r τ hG hM
      rw[exx,exy] at hM
      refine wpS_bind (wpS_modify (wpS_bind (wpS_get ?_)))
      have e9:failedOf τ=none:=hG.2.2.2.trans hR.failed
      refine wpS_pure ?_
      show Q (failedOf τ).isNone _
      rw[e9]
      exact after r τ hG hM
  · refine wpS_bind (wpS_mergeHi hA hR.kind (by rw[exx];exact fun x hx=>oka x (List.mem_of_mem_drop hx)) (by rw[exy];exact fun x hx=>okb x (List.mem_of_mem_take hx)) (by rw[exx];exact sx) (by rw[exy];exact sy) hx1 hy1 ?_ ?_ ?_)
    · intro y e x hx
      rw[y0 y e]
      rw[exx] at hx
      exact ka2 x hx
    · intro z e y hy
      rw[xl z e]
      rw[exy] at hy
      exact KO.le_of_lt (kb1 y hy)
    · intro r τ hG hM
      rw[exx,exy] at hM
      refine wpS_bind (wpS_modify (wpS_bind (wpS_get ?_)))
      have e9:failedOf τ=none:=hG.2.2.2.trans hR.failed
      refine wpS_pure ?_
      show Q (failedOf τ).isNone _
      rw[e9]
      exact after r τ hG hM
end
end L2
namespace L2
open PySem PyProof.Rows
section
variable {prog:Program}{w:World}{A:Around}{E:Value->Shared->Prop}{s:Shared}{O:KO}{knd:SortKind}{ok:Keyed->Prop}{st τ:SortSt}
theorem ite_le' {c:Prop} [Decidable c] {a b n:Nat} (h1:a<=n) (h2:b<=n):(if c then a else b)<=n:=by split <;> assumption
theorem split_two {α:Type}:∀ {l:List α}{i:Nat},i+1<l.length->∃ R1 a b R2,l=R1++a::b::R2/\R1.length=i
  | [],_,h=>by simp at h
  | [_],_,h=>by simp at h
  | a::b::l,0,_=>⟨[],a,b,l,rfl,rfl⟩
  | a::b::l,i+1,h=>by
    obtain⟨R1,x,y,R2,e,q⟩:=split_two (l:=b::l) (i:=i) (by simpa using h)
    exact⟨a::R1,x,y,R2,by rw[e];rfl,by simp[q]⟩
theorem RI.len {a₀ rest:List Keyed}{runs:List (List Keyed)} (h:RI O knd a₀ runs rest st):(pendingOf st).size=runs.length:=by
  rw[<- Array.length_toList,<- pos_length 0 runs,<- h.pend,List.length_map]
theorem RI.size {a₀ rest:List Keyed}{runs:List (List Keyed)} (h:RI O knd a₀ runs rest st):(arrOf st).size=runs.flatten.length+rest.length:=by
  rw[<- Array.length_toList,h.arr,List.length_append]
theorem RI.size0 {a₀ rest:List Keyed}{runs:List (List Keyed)} (h:RI O knd a₀ runs rest st):(arrOf st).size=a₀.length:=by
  rw[<- Array.length_toList,h.perm.length_eq]
theorem runs_le:∀ {runs:List (List Keyed)},(∀ r∈runs,1<=r.length)->runs.length<=runs.flatten.length
  | [],_=>by simp
  | r::rs,h=>by
    have q:=runs_le (runs:=rs) fun x hx=>h x (by simp[hx])
    have:=h r (by simp)
    simp only[List.length_cons,List.flatten_cons,List.length_append]
    omega
theorem fb_ri {a₀ rest:List Keyed}{runs:List (List Keyed)}{n:Nat} (h:RI O knd a₀ runs rest st) (hF:FB knd (arrOf st) (pendingOf st) runs.flatten.length τ) (hu:Up O runs.flatten.length n (arrOf τ)) (hn:n<=rest.length) :
    ∃ r rest',r.length=n/\O.Srt r/\rest.length=n+rest'.length/\RI O knd a₀ runs (r++rest') τ:=by
  have hpm:=Array.perm_iff_toList_perm.mp hF.perm
  have hsz:(arrOf τ).size=runs.flatten.length+rest.length:=by rw[hF.size,h.size]
  have e1:(arrOf τ).toList.take runs.flatten.length=runs.flatten:=by
    have:(arrOf τ).toList.take runs.flatten.length=(arrOf st).toList.take runs.flatten.length:=by
      apply List.ext_getElem?
      intro i
      rcases Nat.lt_or_ge i runs.flatten.length with hi | hi
      · rw[List.getElem?_take_of_lt hi,List.getElem?_take_of_lt hi,Array.getElem?_toList,Array.getElem?_toList]
        exact hF.keep i hi
      · rw[List.getElem?_eq_none (by rw[List.length_take];omega),List.getElem?_eq_none (by rw[List.length_take];omega)]
    rw[this,h.arr,List.take_left]
  have e2:(arrOf τ).toList=runs.flatten++(arrOf τ).toList.drop runs.flatten.length:=by
    conv=>lhs;rw[<- List.take_append_drop runs.flatten.length (arrOf τ).toList,e1]
  have lr:((arrOf τ).toList.drop runs.flatten.length).length=rest.length:=by
    rw[List.length_drop,Array.length_toList];omega
  refine⟨((arrOf τ).toList.drop runs.flatten.length).take n,((arrOf τ).toList.drop runs.flatten.length).drop n,by rw[List.length_take];omega,?_,by rw[List.length_drop];omega,⟨by rw[List.take_append_drop];exact e2,hpm.trans h.perm,h.srt,h.ne,hF.kind,hF.failed,by rw[hF.pend];exact h.pend⟩⟩
  refine List.pairwise_iff_getElem.mpr fun i j hi hj hij=>?_
  rw[List.length_take] at hi hj
  have q:=hu i j (by omega) (by omega)
  rw[List.getElem_take,List.getElem_take,List.getElem_drop,List.getElem_drop]
  have g:∀ k (hk:runs.flatten.length+k<(arrOf τ).toList.length),ka O (arrOf τ) (runs.flatten.length+k)=O.ky ((arrOf τ).toList[runs.flatten.length+k]):=by
    intro k hk
    unfold ka
    rw[<- Array.getElem?_toList,List.getElem?_eq_getElem hk]
    rfl
  have hlt:(arrOf τ).toList.length=runs.flatten.length+rest.length:=by rw[Array.length_toList];exact hsz
  rw[g i (by omega),g j (by omega)] at q
  exact q
theorem RI.push {a₀ rest r:List Keyed}{runs:List (List Keyed)}{lo n:Nat} (h:RI O knd a₀ runs (r++rest) st) (hs:O.Srt r) (hr:r.length=n) (hn:1<=n) (hl:lo=runs.flatten.length):RI O knd a₀ (runs++[r]) rest (setPending st ((pendingOf st).push (lo,n,0))):=by
  refine⟨?_,h.perm,?_,?_,h.kind,h.failed,?_⟩
  · show (arrOf st).toList=_
    rw[h.arr];simp
  · intro x hx
    rcases List.mem_append.mp hx with hx | hx
    · exact h.srt x hx
    · rw[List.mem_singleton.mp hx];exact hs
  · intro x hx
    rcases List.mem_append.mp hx with hx | hx
    · exact h.ne x hx
    · rw[List.mem_singleton.mp hx];omega
  · show ((pendingOf st).push (lo,n,0)).toList.map pr=_
    rw[Array.toList_push,List.map_append,h.pend,pos_append,hl,<- hr]
    simp[pos,pr]
theorem RI.pow {a₀ rest:List Keyed}{runs:List (List Keyed)}{pw:Nat} (h:RI O knd a₀ runs rest st):RI O knd a₀ runs rest (setPending st ((pendingOf st).modify ((pendingOf st).size - 1) fun x=>(x.1,x.2.1,pw))):=by
  refine⟨h.arr,h.perm,h.srt,h.ne,h.kind,h.failed,?_⟩
  show ((pendingOf st).modify _ _).toList.map pr=_
  rw[<- h.pend]
  apply List.ext_getElem?
  intro i
  rw[List.getElem?_map,List.getElem?_map,Array.getElem?_toList,Array.getElem?_toList,Array.getElem?_modify]
  split
  · cases (pendingOf st)[i]? <;> rfl
  · rfl
theorem wpS_sortAll {a₀:Array Keyed}{Q:Unit->SortSt->Prop} (hA:Asks prog w A s O knd ok) (h0:∀ x∈a₀.toList,ok x) (ha:arrOf st=a₀) (hk:kindOf st=knd) (hf:failedOf st=none) (hp:pendingOf st=#[])
    (h:∀ τ,(arrOf τ).toList.Perm a₀.toList->failedOf τ=none->O.Srt (arrOf τ).toList->Q () τ):wpS (model prog w) A E s sortRuns' Q st:=by
  refine wpS_bind (wpS_get ?_)
  dsimp only
  have hN:(arrOf st).size=a₀.size:=by rw[ha]
  have hN2:a₀.toList.length=a₀.size:=Array.length_toList
  rw[hN]
  refine wpS_bind (wpS_mono (wpS_forRange
    (I:=fun x c τ=>∃ lo runs rest,c=((none:Option Unit),lo)/\RI O knd a₀.toList runs rest τ/\lo=runs.flatten.length/\(x<=lo))
    (Q:=fun c τ=>∃ lo runs,c=((none:Option Unit),lo)/\RI O knd a₀.toList runs [] τ) ?go ?out ⟨0,[],a₀.toList,rfl,⟨by rw[ha];simp,by rw[ha],(fun r hr=>nomatch hr),(fun r hr=>nomatch hr),hk,hf,by rw[hp];rfl⟩,rfl,Nat.le_refl 0⟩) ?fin)
  case out=>
    rintro c τ ⟨lo,runs,rest,rfl,hR,e1,e2⟩
    have q1:=hR.size
    have q2:=hR.size0
    have q3:=hN2
    have:rest=[]:=List.length_eq_zero_iff.mp (by
      have q4:max 0 a₀.size<=lo:=e2
      omega)
    subst this
    exact⟨lo,runs,rfl,hR⟩
  case fin=>
    rintro c τ ⟨lo,runs,rfl,hR⟩
    dsimp only
    have q1:=hR.size
    have q2:=runs_le hR.ne
    have q3:=hN2
    have q4:=hR.size0
    refine wpS_bind (wpS_mono (wpS_forRange (I:=fun x c τ'=>c=((none:Option Unit),())/\∃ runs',RI O knd a₀.toList runs' [] τ'/\runs'.length+x<=a₀.size)
      (Q:=fun c τ'=>c=((none:Option Unit),())/\∃ runs',RI O knd a₀.toList runs' [] τ'/\runs'.length<=1) ?g2 ?o2 ⟨rfl,runs,hR,by simp only[List.length_nil] at q1;omega⟩) ?f2)
    case o2=>
      rintro c τ' ⟨hc,runs',hR',e⟩
      have e:runs'.length+max 0 a₀.size<=a₀.size:=e
      exact⟨hc,runs',hR',by omega⟩
    case f2=>
      rintro c τ' ⟨rfl,runs',hR',e⟩
      refine wpS_pure (h τ' hR'.perm hR'.failed ?_)
      rw[hR'.arr,List.append_nil]
      match runs',e,hR' with
      | [],_,_=>exact List.Pairwise.nil
      | [r],_,hR'=>simpa using hR'.srt r (by simp)
    case g2=>
      rintro x c τ' _ _ ⟨rfl,runs',hR',e⟩
      refine wpS_bind (wpS_get ?_)
      by_cases c1:(pendingOf τ').size<=1
      · rw[if_pos c1]
        exact wpS_pure ⟨rfl,runs',hR',by rw[<- hR'.len];exact c1⟩
      rw[if_neg c1]
      have key:∀ j,j<=(pendingOf τ').size - 2->wpS (model prog w) A E s (mergeAt' j) (fun b τ3=>b=true/\∃ runs',RI O knd a₀.toList runs' [] τ3/\runs'.length+(x+1)<=a₀.size) τ':=by
        intro j hj
        obtain⟨R1,a,b,R2,e3,e4⟩:=split_two (l:=runs') (i:=j) (by rw[<- hR'.len];omega)
        subst e3
        refine wpS_mergeAt hA h0 hR' e4 fun m τ3 pm hR3=>⟨rfl,_,hR3,?_⟩
        simp only[List.length_append,List.length_cons] at e ⊢
        omega
      refine wpS_bind (wpS_mono (key _ ?_) ?_)
      · have:=hR'.len
        rw[show (pendingOf τ').size=runs'.length from this]
        exact ite_le' (by omega) (by omega)
      · rintro b τ3 ⟨rfl,runs3,hR3,e3⟩
        simp only[Bool.not_true,Bool.false_eq_true,if_false]
        exact wpS_pure ⟨rfl,runs3,hR3,e3⟩
  case go=>
    rintro x c τ _ hx ⟨lo,runs,rest,rfl,hR,e1,e2⟩
    have q1:=hR.size
    have q2:=hR.size0
    have q3:=hN2
    dsimp only
    by_cases c0:lo ≥ a₀.size
    · rw[if_pos c0]
      have:rest=[]:=List.length_eq_zero_iff.mp (by omega)
      subst this
      exact wpS_pure ⟨lo,runs,rfl,hR⟩
    rw[if_neg c0]
    have oks:∀ x∈(arrOf τ).toList,ok x:=fun x hx=>h0 x (hR.perm.mem_iff.mp hx)
    refine wpS_bind (wpS_run (b₀:=arrOf τ) (p₀:=pendingOf τ) (lo:=lo) hA oks ⟨Array.Perm.refl _,fun _ _=>rfl,hR.kind,hR.failed,rfl⟩ (by omega) (by omega) fun m τ1 hF m1 m2 u=>?_)
    dsimp only
    refine wpS_ite (fun cm=>?_) (fun cm=>?_)
    · refine wpS_bind (wpS_lift (wpAny_rule ⟨rfl,?_⟩))
      refine wpS_bind (wpS_ins hA oks hF (by omega) m1 (by omega) u fun τ2 hF2 u2=>?_)
      simp only[Bool.not_true,Bool.false_eq_true,if_false]
      rw[e1] at hF2 u2
      obtain⟨r,rest',hr,hs,hl,hR2⟩:=fb_ri hR hF2 u2 (by omega)
      rw[<- e1] at hr
      have h1n:1<=r.length:=by omega
      rw[hr] at h1n
      refine wpS_bind (wpS_get ?_)
      cases eb:(pendingOf τ2).back? with
      | none=>
        dsimp only
        exact wpS_bind (wpS_modify (wpS_pure ⟨_,runs++[r],rest',rfl,hR2.push hs hr h1n e1,by simp[hr,e1],by omega⟩))
      | some p=>
        obtain⟨s1,n1,w1⟩:=p
        dsimp only
        refine wpS_bind (wpS_mono (wpS_forRange (I:=fun _ c τ'=>c=((none:Option Unit),())/\∃ runs',RI O knd a₀.toList runs' (r++rest') τ'/\runs'.flatten.length=lo)
          (Q:=fun c τ'=>c=((none:Option Unit),())/\∃ runs',RI O knd a₀.toList runs' (r++rest') τ'/\runs'.flatten.length=lo) ?g2 (fun _ _ z=>z) ⟨rfl,runs,hR2,e1.symm⟩) ?f2)
        case f2=>
          rintro c τ' ⟨rfl,runs',hR',e⟩
          exact wpS_bind (wpS_modify (wpS_bind (wpS_modify (wpS_pure ⟨_,runs'++[r],rest',rfl,hR'.pow.push hs hr h1n e.symm,by simp[hr,e],by omega⟩))))
        case g2=>
          rintro y c τ' _ _ ⟨rfl,runs',hR',e⟩
          refine wpS_bind (wpS_get ?_)
          by_cases c1:(pendingOf τ').size > 1
          · rw[if_pos c1]
            cases ep:(pendingOf τ')[(pendingOf τ').size - 2]? with
            | none=>exact wpS_pure ⟨rfl,runs',hR',e⟩
            | some p=>
              obtain⟨s3,n3,w3⟩:=p
              dsimp only
              refine wpS_ite (fun _=>wpS_pure ⟨rfl,runs',hR',e⟩) (fun _=>?_)
              obtain⟨R1,a,b,R2,e3,e4⟩:=split_two (l:=runs') (i:=(pendingOf τ').size - 2) (by rw[<- hR'.len];omega)
              subst e3
              refine wpS_bind (wpS_mergeAt hA h0 hR' e4 fun m τ3 pm hR3=>?_)
              simp only[Bool.not_true,Bool.false_eq_true,if_false]
              refine wpS_pure ⟨rfl,_,hR3,?_⟩
              rw[<- e]
              have:=pm.length_eq
              simp only[List.flatten_append,List.flatten_cons,List.length_append] at this ⊢
              omega
          · rw[if_neg c1]
            exact wpS_pure ⟨rfl,runs',hR',e⟩
    · rw[e1] at hF u
      obtain⟨r,rest',hr,hs,hl,hR2⟩:=fb_ri hR hF u (by omega)
      have h1n:1<=m:=m1
      refine wpS_bind (wpS_get ?_)
      cases eb:(pendingOf τ1).back? with
      | none=>
        dsimp only
        exact wpS_bind (wpS_modify (wpS_pure ⟨_,runs++[r],rest',rfl,hR2.push hs hr h1n e1,by simp[hr,e1],by omega⟩))
      | some p=>
        obtain⟨s1,n1,w1⟩:=p
        dsimp only
        refine wpS_bind (wpS_mono (wpS_forRange (I:=fun _ c τ'=>c=((none:Option Unit),())/\∃ runs',RI O knd a₀.toList runs' (r++rest') τ'/\runs'.flatten.length=lo)
          (Q:=fun c τ'=>c=((none:Option Unit),())/\∃ runs',RI O knd a₀.toList runs' (r++rest') τ'/\runs'.flatten.length=lo) ?g2 (fun _ _ z=>z) ⟨rfl,runs,hR2,e1.symm⟩) ?f2)
        case f2=>
          rintro c τ' ⟨rfl,runs',hR',e⟩
          exact wpS_bind (wpS_modify (wpS_bind (wpS_modify (wpS_pure ⟨_,runs'++[r],rest',rfl,hR'.pow.push hs hr h1n e.symm,by simp[hr,e],by omega⟩))))
        case g2=>
          rintro y c τ' _ _ ⟨rfl,runs',hR',e⟩
          refine wpS_bind (wpS_get ?_)
          by_cases c1:(pendingOf τ').size > 1
          · rw[if_pos c1]
            cases ep:(pendingOf τ')[(pendingOf τ').size - 2]? with
            | none=>exact wpS_pure ⟨rfl,runs',hR',e⟩
            | some p=>
              obtain⟨s3,n3,w3⟩:=p
              dsimp only
              refine wpS_ite (fun _=>wpS_pure ⟨rfl,runs',hR',e⟩) (fun _=>?_)
              obtain⟨R1,a,b,R2,e3,e4⟩:=split_two (l:=runs') (i:=(pendingOf τ').size - 2) (by rw[<- hR'.len];omega)
              subst e3
              refine wpS_bind (wpS_mergeAt hA h0 hR' e4 fun m τ3 pm hR3=>?_)
              simp only[Bool.not_true,Bool.false_eq_true,if_false]
              refine wpS_pure ⟨rfl,_,hR3,?_⟩
              rw[<- e]
              have:=pm.length_eq
              simp only[List.flatten_append,List.flatten_cons,List.length_append] at this ⊢
              omega
          · rw[if_neg c1]
            exact wpS_pure ⟨rfl,runs',hR',e⟩
end
end L2
namespace L2
open PySem PySem.Spec PyProof.Rows PySem.SeqAt
section
variable {prog:Program}{w:World}{A:Around}{E:Value->Shared->Prop}{s:Shared}
end
section
variable {X:Cx}
end
theorem comp_enumB {b:Bool}{K:PySem.W.Frag}{own:List Str}{js:List Nat}{g:TG}{tt:TT}{te:TE}{σ:St}{H1:Hp}{Q:VK}{a:Addr}{xs:List V} (Pv:Addr->Nat->Hp->Prop) (h0:∀ acc,H1 acc=none->Pv acc 0 (upd H1 acc (.lst []))) (hl:∀ acc i H,H1 acc=none->i<=xs.length->Pv acc i H->SqB b K H a xs)
    (hs:∀ acc i x p H,H1 acc=none->xs[i]?=some x->Pv acc i H->H p=none->g (.ref p) (blkσ own js σ) (upd H p (.tup [.int i,x])) fun τ H4=>tt τ H4 fun c H5=>
      if c=true then te τ H5 fun y H6=>∃ ys,H6 acc=some (.lst ys)/\ys.length<sizeLine/\(i+1<=xs.length/\Pv acc (i+1) (upd H6 acc (.lst (ys++[y])))) else (i+1<=xs.length/\Pv acc (i+1) H5))
    (hd:∀ acc H,H1 acc=none->Pv acc xs.length H->Q (.ref acc) H):tCompW own js g tt te σ (IteB b K a) H1 Q:=by
  intro acc hacc
  refine⟨fun i H=>i<=xs.length/\Pv acc i H,xs.length,⟨Nat.zero_le _,h0 acc hacc⟩,?_⟩
  rintro i H ⟨hi,p⟩
  have q:=hl acc i H hacc hi p
  by_cases hlt:i<xs.length
  · refine .inr ⟨hlt,by cases b <;> exact⟨xs,xs[i],q,by simp[hlt]⟩,fun x H' y=>?_⟩
    have y:∃ pa z,H pa=none/\x=.ref pa/\H'=upd H pa (.tup [.int i,z])/\xs[i]?=some z:=by
      cases b with
      | true=>obtain⟨pa,z,hp,e1,e2,y⟩:=y;exact⟨pa,z,hp,e1,e2,y xs q⟩
      | false=>obtain⟨pa,z,hp,e1,e2,y⟩:=y;exact⟨pa,z,hp,e1,e2,y xs q⟩
    obtain⟨pa,z,hp,e1,e2,y'⟩:=y
    subst e1 e2
    exact hs acc i z pa H hacc y' p hp
  · have e:i=xs.length:=by omega
    subst e
    exact .inl ⟨by cases b <;> exact⟨xs,q,Nat.le_refl _⟩,hd acc H hacc p⟩
end L2
namespace L2
open PySem PyProof.Rows
section
variable {prog:Program}{w:World}{A:Around}{E:Value->Shared->Prop}{s:Shared}{O:KO}{knd:SortKind}{ok:Keyed->Prop}
def Ord2 (O:KO) (b:Bool) (us:List Value):Prop:=us.Pairwise fun u v=>if b=true then O.le (v,v) (u,u) else O.le (u,u) (v,v)
theorem out_of {vs:List Value}{out:List Keyed} (hp:out.Perm (vs.zip vs)) (hs:O.Srt out) (b:Bool):∃ us:List Value,(if b=true then (out.map (·.2)).reverse else out.map (·.2))=us/\us.Perm vs/\Ord2 O b us:=by
  have hm:∀ p∈out,p=(p.2,p.2):=fun p hp'=>by
    have:=(mem_zip_self (hp.mem_iff.mp hp')).1
    exact Prod.ext this rfl
  have p1:(out.map (·.2)).Perm vs:=by
    have:=hp.map (·.2)
    rwa [List.map_snd_zip (Nat.le_refl _)] at this
  have s1:(out.map (·.2)).Pairwise fun u v=>O.le (u,u) (v,v):=by
    rw[List.pairwise_map]
    refine hs.imp_of_mem fun {x y} hx hy q=>?_
    rw[hm x hx,hm y hy] at q
    exact q
  cases b with
  | false=>exact⟨_,rfl,p1,by simpa[Ord2] using s1⟩
  | true=>exact⟨_,rfl,(List.reverse_perm _).trans p1,by simp only[Ord2,if_true,List.pairwise_reverse];exact s1⟩
theorem sort_heap {a:Addr}{vs:List Value}{n:Nat}{h:Heap} (ho:h.get? a=some (seqObj "list" vs.toArray n)) {b:Addr}{o:Obj} (hb:h.get? b=some o) (hne:b≠a):(((h.update a (Obj.mapSeq fun _=>#[])).push (seqObj "tuple" vs.toArray 0)).push (seqObj "list" #[] 0)).get? b=some o :=
  Heap.get?_push_of_some _ (Heap.get?_push_of_some _ (by rw[Heap.get?_update_ne _ _ _ _ hne];exact hb))
theorem sort_any {a:Addr}{vs:List Value}{n:Nat}{P:PySem.Fin->Shared->Prop} (ho:s.heap.get? a=some (seqObj "list" vs.toArray n)) (hz:vs.length<=sizeLine)
    (hkk:∀ h',(∀ b o,s.heap.get? b=some o->b≠a->h'.get? b=some o)->2<=vs.length->∀ Q:SortKind->Shared->Prop,Q knd { s with heap:=h' }->wpAny (model prog w) A (keyKind' vs.toArray) Q E { s with heap:=h' })
    (hA:∀ h',(∀ b o,s.heap.get? b=some o->b≠a->h'.get? b=some o)->Asks prog w A { s with heap:=h' } O knd ok) (hok:∀ v∈vs,ok (v,v))
    (h:∀ us:List Value,us.Perm vs->Ord2 O false us->P (.done (.ret .none)) { s with heap:=sortedHeap s.heap a vs us.toArray }):wpAny (model prog w) A (Builtin.«list.sort» ⟨[.ref a],[]⟩) P E s:=by
  have ha:a<s.heap.objs.size:=Heap.lt_size ho
  have keep:=fun (b:Addr) (o:Obj) (hb:s.heap.get? b=some o) (hne:b≠a)=>sort_heap ho hb hne
  obtain⟨e1,ho1⟩:∃ c,(s.heap.update a (Obj.mapSeq fun _=>#[])).get? a=some (seqObj "list" #[] c):=⟨_,get?_update_seq ho (fun _=>#[])⟩
  have ho6:=Heap.get?_push_of_some (seqObj "list" #[] 0) (Heap.get?_push_of_some (seqObj "tuple" vs.toArray 0) ho1)
  have hsv:vs.toArray.size=vs.length:=List.size_toArray
  have hz1:vs.toArray.size<=sizeLine:=by rw[hsv];exact hz
  have fin:∀ (τ:SortSt),(arrOf τ).toList.Perm (vs.zip vs)->O.Srt (arrOf τ).toList->P (.done (.ret .none)) { s with heap:=sortedHeap s.heap a vs ((arrOf τ).map (·.2)) }:=by
    intro τ hp hs
    obtain⟨us,e,p1,p2⟩:=out_of hp hs false
    have e2:(arrOf τ).map (·.2)=us.toArray:=by rw[<- e];apply Array.toList_inj.mp;simp
    rw[e2]
    exact h us p1 p2
  have osz:∀ τ:SortSt,(arrOf τ).toList.Perm (vs.zip vs)->((arrOf τ).map (·.2)).size<=sizeLine+1:=by
    intro τ hp
    rw[Array.size_map,<- Array.length_toList,hp.length_eq,List.length_zip]
    omega
  rw[list_sort_plain]
  refine wpAny_bind (listItems_at ho rfl (wpAny_bind (listUpdate_at ho rfl ?_ hz1 (Nat.zero_le _))))
  refine wpAny_bind (seqEpoch_at ho1 rfl (wpAny_bind (wpAny_newTuple ?_ hz)))
  refine wpAny_bind (wpAny_newList ?_ (Nat.zero_le _))
  refine wpAny_holding ?_
  show wpAny (model prog w) A _ P E ({ s with heap:=((s.heap.update a (Obj.mapSeq fun _=>#[])).push (seqObj "tuple" vs.toArray 0)).push (seqObj "list" #[] 0) }:Shared)
  dsimp only
  by_cases h2:vs.toArray.size<2
  · rw[if_pos h2,if_pos h2]
    refine wpAny_bind (wpAny_pure ?_)
    rw[StateT.run_pure]
    have hp0:(vs.toArray.zip vs.toArray).toList.Perm (vs.zip vs):=by simp
    refine wpAny_bind (wpAny_pure (wpAny_bind (seqEpoch_at ho6 rfl (wpAny_bind (listUpdate_at ho6 rfl ?_ (Nat.zero_le _) (osz (SortSt.mk' general' (vs.toArray.zip vs.toArray) #[] 7 none) hp0))))))
    simp only[bne_self_eq_false,Bool.false_eq_true,if_false]
    refine wpAny_pure (fin (SortSt.mk' general' (vs.toArray.zip vs.toArray) #[] 7 none) hp0 ?_)
    show O.Srt (vs.toArray.zip vs.toArray).toList
    rw[show (vs.toArray.zip vs.toArray).toList=vs.zip vs by simp]
    match vs,h2 with
    | [],_=>exact List.Pairwise.nil
    | [v],_=>exact List.pairwise_singleton _ _
  · rw[if_neg h2,if_neg h2]
    refine wpAny_bind (hkk _ keep (by omega) _ ?_)
    refine wpAny_bind (wpAny_mono (wpS_sortAll (a₀:=vs.toArray.zip vs.toArray) (st:=SortSt.mk' knd (vs.toArray.zip vs.toArray) #[] 7 none) (Q:=fun _ τ=>(arrOf τ).toList.Perm (vs.zip vs)/\failedOf τ=none/\O.Srt (arrOf τ).toList)
      (hA _ keep) (fun x hx=>?_) rfl rfl rfl rfl fun τ a1 a2 a3=>⟨by simpa using a1,a2,a3⟩) ?_ fun _ _ z=>z)
    · have hx:x∈vs.zip vs:=by simpa using hx
      have q:=mem_zip_self hx
      rw[show x=(x.1,x.1) from Prod.ext rfl q.1.symm]
      exact hok _ q.2
    · rintro⟨⟨⟩,τ⟩ s' ⟨rfl,hp,hf,hs⟩
      refine wpAny_bind (seqEpoch_at ho6 rfl (wpAny_bind (listUpdate_at ho6 rfl ?_ (Nat.zero_le _) (osz τ hp))))
      dsimp only
      rw[hf]
      simp only[bne_self_eq_false,Bool.false_eq_true,if_false]
      exact wpAny_pure (fin τ hp hs)
theorem sorted_old {l:Addr}{vs:List Value} (h:Heap):∀ b o,h.get? b=some o->(((h.push (seqObj "list" #[] 0)).update h.objs.size (Obj.mapSeq (·++vs.toArray))).push (seqObj "list" vs.toArray 0)).get? b=some o:=by
  intro b o q
  have hlt:b<h.objs.size:=Heap.lt_size q
  refine Heap.get?_push_of_some _ ?_
  rw[Heap.get?_update_ne _ _ _ _ (Nat.ne_of_lt hlt)]
  exact Heap.get?_push_of_some _ q
structure Sortable (prog:Program) (w:World) (s:Shared) (O:KO) (vs:List Value):Prop where
  ex:∃ (knd:SortKind) (ok:Keyed->Prop),(∀ v∈vs,ok (v,v))/\(∀ A h',(∀ b o,s.heap.get? b=some o->h'.get? b=some o)->Asks prog w A { s with heap:=h' } O knd ok) /\
    ∀ (A:Around) (E:Value->Shared->Prop) h',(∀ b o,s.heap.get? b=some o->h'.get? b=some o)->2<=vs.length->∀ Q:SortKind->Shared->Prop,Q knd { s with heap:=h' }->wpAny (model prog w) A (keyKind' vs.toArray) Q E { s with heap:=h' }
theorem sortedL_any {l:Addr}{vs:List Value}{Q:Value->Shared->Prop} (hl:s.heap.IsList l vs.toArray) (hz:vs.length<=sizeLine) (hS:Sortable prog w s O vs)
    (h:∀ us:List Value,us.Perm vs->Ord2 O false us->Q (.ref (s.heap.objs.size+1)) { s with heap:=sortedAll s.heap vs us.toArray }):wpAny (model prog w) A (call (.builtin "sorted") [.ref l]) Q E s:=by
  obtain⟨knd,ok,h1,h2,h3⟩:=hS.ex
  have zz:((s.heap.push (seqObj "list" #[] 0)).update s.heap.objs.size (Obj.mapSeq (·++vs.toArray))).objs.size=s.heap.objs.size+1:=by rw[Heap.size_update,size_push']
  have at1:(((s.heap.push (seqObj "list" #[] 0)).update s.heap.objs.size (Obj.mapSeq (·++vs.toArray))).push (seqObj "list" vs.toArray 0)).get? (s.heap.objs.size+1)=some (seqObj "list" vs.toArray 0):=by
    have:=Heap.get?_push_size ((s.heap.push (seqObj "list" #[] 0)).update s.heap.objs.size (Obj.mapSeq (·++vs.toArray))) (o:=seqObj "list" vs.toArray 0) rfl
    rwa [zz] at this
  refine Calls.call_function_entry kind_sorted plain_sorted entry_sorted (args_sorted1 _) ?_
  unfold Builtin.«sorted»
  refine wpAny_bind (m:=checkCount "sorted" 1 1 _) (wpAny_pure (wpAny_bind (collect_list hl (wpAny_bind (wpAny_newList ?_ hz)) hz)))
  show wpAny _ _ _ _ _ { s with heap:=((s.heap.push (seqObj "list" #[] 0)).update s.heap.objs.size (Obj.mapSeq (·++vs.toArray))).push (seqObj "list" vs.toArray 0) }
  rw[zz]
  have up:∀ h':Heap,(∀ b o,(((s.heap.push (seqObj "list" #[] 0)).update s.heap.objs.size (Obj.mapSeq (·++vs.toArray))).push (seqObj "list" vs.toArray 0)).get? b=some o->b≠s.heap.objs.size+1->h'.get? b=some o)->∀ b o,s.heap.get? b=some o->h'.get? b=some o:=fun h' k b o q=>
    k b o (sorted_old (l:=l) s.heap b o q) (Nat.ne_of_lt (Nat.lt_succ_of_lt (Heap.lt_size q)))
  exact wpAny_bind (wpAny_holding (wpAny_call_entry slot_list_sort ⟨_,at1,rfl⟩ entry_list_sort (sort_any at1 hz (fun h' k hl2 Q' q=>h3 _ _ h' (up h' k) hl2 Q' q) (fun h' k=>h2 _ h' (up h' k)) h1 fun us p1 p2=>⟨_,rfl,wpAny_pure ⟨_,rfl,h us p1 p2⟩⟩) (args_list_sort _)))
def KOi:KO where
  α:=Int
  blt a b:=decide (a<b)
  irrefl a:=by simp
  trans a b c h1 h2:=by simp only[decide_eq_true_eq] at *;omega
  negTrans a b c h:=by simp only[decide_eq_true_eq] at *;omega
  total a b h1 h2:=by simp only[decide_eq_false_iff_not] at *;omega
  ky p:=numOf p.1
theorem sortable_ints {vs:List Value}{ns:List Int} (hI:IntsAre vs ns):Sortable prog w s KOi vs:=by
  refine⟨oneType',(fun p=>∃ n t,p.1=.int n t),fun v hv=>?_,fun A h' _ x y hx hy E Q q=>?_,fun A E h' _ h2 Q q=>?_⟩
  · obtain⟨n,t,e⟩:=hI.all v hv
    exact⟨n,t,e⟩
  · obtain⟨n,t,e1⟩:=hx
    obtain⟨m,u,e2⟩:=hy
    rw[keyLt'_oneType,e1,e2]
    refine oneLt_int ?_
    have q:Q (decide (numOf x.1<numOf y.1)) { s with heap:=h' }:=q
    rw[e1,e2] at q
    exact q
  · match vs,h2,hI with
    | v1::v2::r,_,hI=>
      rw[keyKind_ints hI]
      exact wpAny_pure q
theorem ord_ints {us:List Value}{ms:List Int}{b:Bool} (hI:IntsAre us ms) (h:Ord2 KOi b us):if b=true then ms.Pairwise (· ≥ ·) else ms.Pairwise (·<=·):=by
  have e:=hI.nums
  subst e
  cases b with
  | false=>
    simp only[Bool.false_eq_true,if_false,Ord2] at h ⊢
    rw[List.pairwise_map]
    exact h.imp fun {x y} q=>by
      have q:decide (numOf y<numOf x)=false:=q
      simpa using q
  | true=>
    simp only[if_true,Ord2] at h ⊢
    rw[List.pairwise_map]
    exact h.imp fun {x y} q=>by
      have q:decide (numOf x<numOf y)=false:=q
      simpa using q
theorem ints_perm {vs us:List Value}{ns:List Int} (hI:IntsAre vs ns) (hp:us.Perm vs):∃ ms,IntsAre us ms/\ms.Perm ns:=by
  refine⟨us.map numOf,intsAre_map us fun v hv=>hI.all v (hp.mem_iff.mp hv),?_⟩
  rw[<- hI.nums]
  exact hp.map _
def lxB:List Int->List Int->Bool
  | _,[]=>false
  | [],_::_=>true
  | a::as,b::bs=>if a=b then lxB as bs else decide (a<b)
theorem lxB_irrefl:∀ a,lxB a a=false
  | []=>rfl
  | a::as=>by rw[lxB,if_pos rfl];exact lxB_irrefl as
theorem lxB_trans:∀ a b c,lxB a b=true->lxB b c=true->lxB a c=true
  | _,[],_,h,_=>by rw[lxB] at h;cases h
  | _,_::_,[],_,h=>by rw[lxB] at h;cases h
  | [],_::_,_::_,_,_=>rfl
  | a::as,b::bs,c::cs,h1,h2=>by
    rw[lxB] at h1 h2 ⊢
    by_cases e1:a=b
    · subst e1
      rw[if_pos rfl] at h1
      by_cases e2:a=c
      · subst e2
        rw[if_pos rfl] at h2 ⊢
        exact lxB_trans as bs cs h1 h2
      · rw[if_neg e2] at h2 ⊢
        exact h2
    · rw[if_neg e1] at h1
      have h1:=of_decide_eq_true h1
      by_cases e2:b=c
      · subst e2
        rw[if_neg e1];exact decide_eq_true h1
      · rw[if_neg e2] at h2
        have h2:=of_decide_eq_true h2
        rw[if_neg (by omega)];exact decide_eq_true (by omega)
theorem lxB_total:∀ a b,lxB a b=false->lxB b a=false->a=b
  | [],[],_,_=>rfl
  | _::_,[],_,h=>by rw[lxB] at h;cases h
  | [],_::_,h,_=>by rw[lxB] at h;cases h
  | a::as,b::bs,h1,h2=>by
    rw[lxB] at h1 h2
    by_cases e:a=b
    · subst e
      rw[if_pos rfl] at h1 h2
      rw[lxB_total as bs h1 h2]
    · rw[if_neg e] at h1
      rw[if_neg (fun z=>e z.symm)] at h2
      have h1:=of_decide_eq_false h1
      have h2:=of_decide_eq_false h2
      omega
theorem lxB_neg (a b c:List Int) (h:lxB a c=true):lxB a b=true∨lxB b c=true:=by
  cases e1:lxB a b with
  | true=>exact .inl rfl
  | false=>
    right
    cases e2:lxB b a with
    | true=>exact lxB_trans b a c e2 h
    | false=>rw[<- lxB_total a b e1 e2];exact h
def KOt (ks:Addr->List Int):KO where
  α:=List Int
  blt:=lxB
  irrefl:=lxB_irrefl
  trans:=lxB_trans
  negTrans:=lxB_neg
  total:=lxB_total
  ky p:=match p.1 with
    | .ref a=>ks a
    | _=>[]
theorem lex_int {b:Bool}{Q:Bool->Shared->Prop}{τ:Shared}{fin:Bool}:∀ {xs ys:List Int}{us vs:List Value}{i:Nat},IntsAre us xs->IntsAre vs ys->(Q (lxB xs ys) τ)->(fin=decide (xs.length<ys.length)) ->
    PySem.W.KatLex prog w A b fin Q (us.zip vs) i τ
  | [],[],_,_,i,.nil,.nil,q,e=>by
    rw[e];exact PySem.W.kat_nil q
  | [],y::ys,_,_,i,.nil,.cons _ _ _,q,e=>by
    rw[e];exact PySem.W.kat_nil (by simpa[lxB] using q)
  | x::xs,[],_,_,i,.cons _ _ _,.nil,q,e=>by
    rw[e];exact PySem.W.kat_nil (by simpa[lxB] using q)
  | x::xs,y::ys,_,_,i,.cons _ t h1,.cons _ u h2,q,e=>by
    rw[List.zip_cons_cons]
    refine PySem.W.kat_cons (wpAny_eqBool_int ?_)
    rw[lxB] at q
    by_cases c:x=y
    · subst c
      rw[if_pos rfl] at q
      rw[show (x == x)=true by simp]
      exact PySem.W.kat_yes (lex_int h1 h2 q (by rw[e];simp))
    · rw[if_neg c] at q
      rw[show (x == y)=false by simpa using c]
      refine PySem.W.kat_no ?_
      cases b && i == 0 with
      | true=>exact oneLt_int q
      | false=>exact PySem.W.kat_one _ _ (PySem.P.lt_int q)
def TupI (h:Heap) (ks:Addr->List Int) (v:Value):Prop:=∃ a o its n,v=.ref a/\h.get? a=some o/\o.cls=.type "tuple"/\o.data=.seq its n/\IntsAre its.toList (ks a)/\ks a≠[]
theorem katTups_of {h:Heap}{ks:Addr->List Int}:∀ {vs:List Value},(∀ v∈vs,TupI h ks v)->∃ fs:List Value,fs.length=vs.length/\PySem.W.KatTups h vs fs/\∀ f∈fs,∃ n t,f=.int n t
  | [],_=>⟨[],rfl,PySem.W.KatTups.nil,fun f hf=>nomatch hf⟩
  | v::vs,hv=>by
    obtain⟨fs,e,k,q⟩:=katTups_of (vs:=vs) fun u hu=>hv u (List.mem_cons_of_mem _ hu)
    obtain⟨a,o,its,n,rfl,ho,hc,hd,hI,hne⟩:=hv v (List.mem_cons_self ..)
    obtain⟨l⟩:=its
    have hI:IntsAre l (ks a):=hI
    revert hI hd
    generalize ks a=z at hne ⊢
    intro hd hI
    cases hI with
    | nil=>exact absurd rfl hne
    | cons m t hI=>exact⟨.int m t::fs,by simp[e],PySem.W.KatTups.cons ho hc hd rfl k,fun f hf=>by
        rcases List.mem_cons.mp hf with z | z
        · exact⟨m,t,z⟩
        · exact q f z⟩
theorem sortable_tups {vs:List Value}{ks:Addr->List Int} (hT:∀ v∈vs,TupI s.heap ks v):Sortable prog w s (KOt ks) vs:=by
  refine⟨tuples' (Value.type "int" != Value.type "tuple"),(fun p=>TupI s.heap ks p.1),hT,fun A h' kp x y hx hy E Q q=>?_,fun A E h' kp h2 Q q=>?_⟩
  · obtain⟨a,o,its,n,e1,ho,hc,hd,hI,hne⟩:=hx
    obtain⟨b,o',its',n',e2,ho',hc',hd',hI',hne'⟩:=hy
    have q:Q (lxB ((KOt ks).ky x) ((KOt ks).ky y)) { s with heap:=h' }:=q
    have k1:(KOt ks).ky x=ks a:=by show (match x.1 with | .ref a=>ks a | _=>[])=_;rw[e1]
    have k2:(KOt ks).ky y=ks b:=by show (match y.1 with | .ref a=>ks a | _=>[])=_;rw[e2]
    rw[k1,k2] at q
    rw[e1,e2]
    refine PySem.W.kat_lt (kp _ _ ho) hd (kp _ _ ho') hd' (lex_int hI hI' q ?_)
    rw[<- hI.nums,<- hI'.nums,List.length_map,List.length_map,Array.length_toList,Array.length_toList]
  · obtain⟨fs,e,k,hi⟩:=katTups_of (h:=h') (ks:=ks) (vs:=vs) fun v hv=>by
      obtain⟨a,o,its,n,e1,ho,r⟩:=hT v hv
      exact⟨a,o,its,n,e1,kp _ _ ho,r⟩
    refine PySem.W.kat_kind (T:=Value.type "int") k (by omega) (fun v hv=>?_) rfl q
    obtain⟨n,t,rfl⟩:=hi v hv
    exact PySem.W.Looks.now
end
end L2
namespace L2
open PySem PySem.Spec PyProof.Rows PySem.SeqAt
section
variable {X:Cx}
theorem call_sortA:CallR X (.builtin "sorted") (fun xs H Q=>∃ (a:Addr) (ns:List Int),xs=[.ref a]/\SqL X.K H a (ns.map V.int)/\∀ (l:Addr) (ms:List Int),H l=none->ms.Perm ns->ms.Pairwise (·<=·)->Q (.ref l) (upd H l (.lst (ms.map V.int)))):=by
  intro pins s σ H xs us Q I r h
  obtain⟨a,ns,rfl,hq,q⟩:=h
  obtain⟨u,rfl,r1⟩:=vals1 r
  cases r1
  obtain⟨its,rv,p,hz⟩:=I.list hq
  have hl:its.length=ns.length:=by rw[<- rv.length,List.length_map]
  rw[List.length_map] at hz
  refine sortedL_any p.isList (by rw[hl];exact hz) (sortable_ints (intsAre_of rv)) fun us p1 p2=>?_
  obtain⟨ms,hI,pm⟩:=ints_perm (intsAre_of rv) p1
  obtain⟨e,he⟩:=sortedAll_at s.heap its us.toArray
  have hle:s.heap.objs.size<=s.heap.objs.size+1:=Nat.le_succ _
  refine⟨.ref (s.heap.objs.size+1),_,I.laid (a:=s.heap.objs.size+1) (o:=.lst (ms.map V.int)) (t':=s.toks) (fun b o q=>sortedAll_old q) hle ⟨?_,us,e,vals_of_ints hI,he⟩,rfl,q _ ms (I.hok.fresh hle) pm (ord_ints hI p2)⟩
  rw[List.length_map,pm.length_eq];exact hz
theorem vals_refs:∀ {ps:List Addr}{us:List Value},Vals (ps.map V.ref) us->us=ps.map Value.ref
  | [],_,.nil=>rfl
  | p::ps,_,.cons r t=>by
    have e:_=Value.ref p:=r
    rw[vals_refs t,e];rfl
theorem refs_vals:∀ (ps:List Addr),Vals (ps.map V.ref) (ps.map Value.ref)
  | []=>.nil
  | p::ps=>.cons rfl (refs_vals ps)
def adr:Value->Addr
  | .ref a=>a
  | _=>0
theorem refs_back {ps:List Addr}{us:List Value} (h:us.Perm (ps.map Value.ref)):∃ qs:List Addr,us=qs.map Value.ref/\qs.Perm ps:=by
  refine⟨us.map adr,?_,?_⟩
  · rw[List.map_map]
    refine (List.map_id us).symm.trans (List.map_congr_left fun v hv=>?_)
    obtain⟨p,_,e⟩:=List.mem_map.mp (h.mem_iff.mp hv)
    rw[<- e];rfl
  · have:=h.map adr
    rwa [List.map_map,show (adr ∘ Value.ref)=id from rfl,List.map_id] at this
theorem call_sortPA:CallR X (.builtin "sorted") (fun xs H Q=>∃ (a:Addr) (ps:List Addr) (ks:Addr->List Int),xs=[.ref a]/\SqL X.K H a (ps.map V.ref)/\(∀ p∈ps,ks p≠[]/\H p=some (.tup ((ks p).map V.int)))/\∀ (l:Addr) (qs:List Addr),H l=none->qs.Perm ps->qs.Pairwise (fun p q=>lxB (ks q) (ks p)=false)->Q (.ref l) (upd H l (.lst (qs.map V.ref)))):=by
  intro pins s σ H xs us Q I r h
  obtain⟨a,ps,ks,rfl,hq,ht,q⟩:=h
  obtain⟨u,rfl,r1⟩:=vals1 r
  cases r1
  obtain⟨its,rv,p,hz⟩:=I.list hq
  have ei:=vals_refs rv
  rw[List.length_map] at hz
  have hl:its.length=ps.length:=by rw[ei,List.length_map]
  have hT:∀ v∈its,TupI s.heap ks v:=by
    intro v hv
    rw[ei] at hv
    obtain⟨b,hb,e⟩:=List.mem_map.mp hv
    obtain⟨h1,h2⟩:=ht b hb
    obtain⟨_,ii,rr,o,g1,g2,_,n,g3⟩:=(show ObjOk X.prog X.w H s.heap b (.tup ((ks b).map V.int)) from I.hok b _ h2)
    exact⟨b,o,ii.toArray,n,e.symm,g1,g2,g3,by simpa using intsAre_of rr,h1⟩
  refine sortedL_any p.isList (by rw[hl];exact hz) (sortable_tups hT) fun us p1 p2=>?_
  have p1':=p1
  rw[ei] at p1'
  obtain⟨qs,e1,pm⟩:=refs_back p1'
  obtain⟨e,he⟩:=sortedAll_at s.heap its us.toArray
  have hle:s.heap.objs.size<=s.heap.objs.size+1:=Nat.le_succ _
  refine⟨.ref (s.heap.objs.size+1),_,I.laid (a:=s.heap.objs.size+1) (o:=.lst (qs.map V.ref)) (t':=s.toks) (fun b o q=>sortedAll_old q) hle ⟨?_,us,e,?_,he⟩,rfl,q _ qs (I.hok.fresh hle) pm ?_⟩
  · rw[List.length_map,pm.length_eq];exact hz
  · rw[e1];exact refs_vals qs
  · rw[e1] at p2
    simp only[Ord2,Bool.false_eq_true,if_false] at p2
    exact List.pairwise_map.mp p2
end
end L2
namespace L2
open PySem PySem.Spec PyProof.Rows PySem.SeqAt
section
variable {prog:Program}{w:World}{A:Around}{E:Value->Shared->Prop}{s:Shared}{O:KO}
end
section
variable {X:Cx}{pins:List (Addr × Obj)}{σ:St}{H:Hp}{s:Shared}{h':Heap}
end
section
variable {X:Cx}
end
end L2
namespace L2
open PySem PySem.Spec PyProof.Rows
structure WE (X:Cx) (e:Expr) (t:TE):Prop where
  out:PE X e t
section
variable {X:Cx}{a b e k v:Expr}{ta tb te tk tv:TE}{pos:Pos}{es:List Expr}{t:TA}
theorem we (h:PE X e te):WE X e te:=⟨h⟩
theorem we_ix {r:R2} (hr:IxR X r) (ha:WE X a ta) (hb:WE X b tb) (hs:PlainIx b):WE X (.Subscript a b pos) (tOp r ta tb):=⟨pe_ix hr ha.out hb.out hs⟩
theorem we_lst (h:WA X es t):WE X (.List es pos) (tLst t):=⟨pe_lst h.out⟩
theorem we_tup {x1} (h:WA X es t):WE X (.Tuple es x1 pos) (tTup t):=⟨pe_tup h.out⟩
theorem ws_ret (he:WE X e te):WS X (.Return (some e) pos) (tRet te):=⟨ps_ret he.out⟩
theorem ws_set {i:Nat}{x:Str}{pos':Pos} (hN:X.N.Nodup) (hi:X.N[i]?=some x) (hx:Loc X.env.scope x) (he:WE X e te) (hs:swapsWith e (some (.Name x pos')) pos.line X.env=pure false:=by rfl) (hf:X.fn x=true∨X.env.scope.names.lookup x=some .local:=by first | exact .inl rfl | exact .inr rfl | assumption) :
    WS X (.Assign [.Name x pos'] e pos) (tAsg te (gName i)):=⟨ps_set hN hi hx he.out hs hf⟩
end
end L2
namespace Lv
open PySem L2
open Classical in
def cn (xs:List Int) (m:Int):Int:=(xs.count m:Int)
theorem cn_nil (m:Int):cn [] m=0:=by simp[cn]
theorem cn_pos (xs:List Int) (m:Int):0<=cn xs m:=by unfold cn;omega
theorem cn_app (xs ys:List Int) (m:Int):cn (xs++ys) m=cn xs m+cn ys m:=by unfold cn;rw[List.count_append];omega
theorem cn_zero {xs:List Int}{m:Int}:cn xs m=0↔m ∉ xs:=by unfold cn;rw[<- List.count_eq_zero];omega
theorem cn_ne {xs:List Int}{m:Int}:cn xs m≠0↔m∈xs:=by
  rw[Ne,cn_zero,Classical.not_not]
theorem cn_cons (x:Int) (xs:List Int) (m:Int):cn (x::xs) m=(if m=x then 1 else 0)+cn xs m:=by
  unfold cn
  rw[List.count_cons]
  by_cases h:m=x
  · subst h;simp;omega
  · have:¬ x=m:=fun z=>h z.symm
    simp[h,this]
theorem cn_shift (xs:List Int) (m:Int):cn (xs.map (·+1)) m=cn xs (m - 1):=by
  induction xs with
  | nil=>simp[cn]
  | cons x xs ih=>
    rw[List.map_cons,cn_cons,cn_cons,ih]
    by_cases h:m=x+1
    · rw[if_pos h,if_pos (by omega)]
    · rw[if_neg h,if_neg (by omega)]
def Bd (B:Int) (N:List (List Int)):Prop:=∀ xs∈N,∀ m∈xs,0<=m/\m<=B
theorem bd_num (p:Nat):∀ n:Nat,Bd n (num p n)
  | 0=>fun xs a m b=>by
    rcases List.mem_cons.mp (show xs∈[0]::List.replicate (p - 1) [] from a) with rfl | h
    · have:m=0:=by simpa using b
      omega
    · rw[(List.mem_replicate.mp h).2] at b;cases b
  | n+1=>fun xs a m b=>by
    have ih:=bd_num p n
    have hf:∀ m∈fstN (num p n),0<=m/\m<=((n+1:Nat):Int):=fun m hm=>by
      unfold fstN at hm
      obtain⟨y,hy,rfl⟩:=List.mem_map.mp hm
      cases e:num p n with
      | nil=>rw[e] at hy;cases hy
      | cons c r=>
        rw[e] at hy
        have:=ih c (by rw[e];exact List.mem_cons_self) y hy
        omega
    rcases List.mem_append.mp (show xs∈((num p n).tail.map (fstN (num p n)++·))++[fstN (num p n)] from a) with h | h
    · obtain⟨y,hy,rfl⟩:=List.mem_map.mp h
      rcases List.mem_append.mp b with b | b
      · exact hf m b
      · have:=ih y (List.mem_of_mem_tail hy) m b
        omega
    · rw[List.mem_singleton.mp h] at b
      exact hf m b
end Lv
namespace L2
open PySem PySem.Spec PyProof.Rows
mutual
inductive RdN (H:Hp):V->PyData->Prop
  | non:RdN H .non .none
  | bl (b:Bool):RdN H (.bl b) (.bool b)
  | int (i:Int):RdN H (.int i) (.int i)
  | str (x:Str):RdN H (.str x) (.str x)
  | lst {a:Addr}{xs:List V}{ds:List PyData}:H a=some (.lst xs)->RdL H xs ds->RdN H (.ref a) (.list ds)
  | tup {a:Addr}{xs:List V}{ds:List PyData}:H a=some (.tup xs)->RdL H xs ds->RdN H (.ref a) (.tuple ds)
inductive RdL (H:Hp):List V->List PyData->Prop
  | nil:RdL H [] []
  | cons {x:V}{xs:List V}{d:PyData}{ds:List PyData}:RdN H x d->RdL H xs ds->RdL H (x::xs) (d::ds)
end
section
variable {P:Program}{w:World}{H:Hp}{h:Heap}
end
section
variable {X:Cx}
end
end L2
namespace L2
open PySem PySem.Spec PyProof.Rows PySem.SeqAt
section
variable {P:Program}{w:World}{H:Hp}{s:Shared}
theorem RdL.len_eq:∀ {xs ys:List V}{ds:List PyData},RdL H xs ds->RdL H ys ds->xs.length=ys.length
  | _,_,_,.nil,r=>by cases r;rfl
  | _,_,_,.cons _ q,r=>by
    cases r with
    | cons _ q2=>rw[List.length_cons,List.length_cons,RdL.len_eq q q2]
mutual
theorem RdN.eqs (ok:HOk P w H s.heap):∀ {x:V}{d:PyData},RdN H x d->∀ {y:V},RdN H y d->∀ {u v:Value},RelV x u->RelV y v->∀ A:Around,A.units+d.depth<cLine->EqAt A s u v true
  | _,_,.non,y,r,u,v,h1,h2,A,hu=>by
    cases r
    cases (show u=Value.none from h1);cases (show v=Value.none from h2)
    exact EqAt.same _
  | _,_,.bl b,y,r,u,v,h1,h2,A,hu=>by
    cases r
    cases (show u=Value.bool b from h1);cases (show v=Value.bool b from h2)
    exact EqAt.same _
  | _,_,.int i,y,r,u,v,h1,h2,A,hu=>by
    cases r
    obtain⟨t,z⟩:=(show ∃ t,u=Value.int i t from h1);cases z
    obtain⟨t2,z⟩:=(show ∃ t,v=Value.int i t from h2);cases z
    have:=EqAt.int_int (A:=A) (s:=s) i t i t2
    rw[beq_self_eq_true] at this
    exact this
  | _,_,.str x,y,r,u,v,h1,h2,A,hu=>by
    cases r
    obtain⟨t,z⟩:=(show ∃ t,u=Value.str x t from h1);cases z
    obtain⟨t2,z⟩:=(show ∃ t,v=Value.str x t from h2);cases z
    have:=EqAt.str_str (A:=A) (s:=s) x t x t2
    rw[show (x == x)=true from by rw[<- str_beq];exact beq_self_eq_true _] at this
    exact this
  | _,_,.lst (a:=a) (xs:=xs) (ds:=ds) e q,y,r,u,v,h1,h2,A,hu=>by
    cases r with
    | lst e2 q2=>
      rename_i b ys
      cases (show u=Value.ref a from h1);cases (show v=Value.ref b from h2)
      by_cases hab:a=b
      · subst hab;exact EqAt.same _
      obtain⟨_,i1,n1,v1,g1⟩:=(show ObjOk P w H s.heap a (.lst xs) from ok a _ e)
      obtain⟨_,i2,n2,v2,g2⟩:=(show ObjOk P w H s.heap b (.lst ys) from ok b _ e2)
      have hd:A.units+(PyData.depthAll ds+1)<cLine:=hu
      have hl:=q.len_eq q2
      refine EqAt.of_refs hab ?_
      have:=RcAt.lists (A:=A) (s:=s) (e:=fun _=>true) (l:=a) (b:=b) (items:=i1.toArray) (items2:=i2.toArray) ⟨_,g1,rfl,n1,rfl⟩ ⟨_,g2,rfl,n2,rfl⟩ (by rw[List.size_toArray,List.size_toArray,<- v1.length,<- v2.length,hl]) (by omega) (fun j h1 h2=>by
        have:=RdL.eqs ok q q2 v1 v2 A.in1 (by show A.units+1+_<_;omega) j (by simpa using h1) (by simpa using h2)
        simpa using this)
      rw[all_range] at this
      exact this
  | _,_,.tup (a:=a) (xs:=xs) (ds:=ds) e q,y,r,u,v,h1,h2,A,hu=>by
    cases r with
    | tup e2 q2=>
      rename_i b ys
      cases (show u=Value.ref a from h1);cases (show v=Value.ref b from h2)
      by_cases hab:a=b
      · subst hab;exact EqAt.same _
      obtain⟨_,i1,v1,o1,g1,c1,_,n1,k1⟩:=(show ObjOk P w H s.heap a (.tup xs) from ok a _ e)
      obtain⟨_,i2,v2,o2,g2,c2,_,n2,k2⟩:=(show ObjOk P w H s.heap b (.tup ys) from ok b _ e2)
      have hd:A.units+(PyData.depthAll ds+1)<cLine:=hu
      have hl:=q.len_eq q2
      refine EqAt.of_refs hab ?_
      have:=RcAt.tuples (A:=A) (s:=s) (e:=fun _=>true) (l:=a) (b:=b) (items:=i1.toArray) (items2:=i2.toArray) ⟨o1,g1,c1,n1,k1⟩ ⟨o2,g2,c2,n2,k2⟩ (by omega) (fun j h1 h2=>by
        have:=RdL.eqs ok q q2 v1 v2 A.in1 (by show A.units+1+_<_;omega) j (by simpa using h1) (by simpa using h2)
        simpa using this)
      rw[all_range,List.size_toArray,List.size_toArray,<- v1.length,<- v2.length,hl,beq_self_eq_true] at this
      exact this
theorem RdL.eqs (ok:HOk P w H s.heap):∀ {xs:List V}{ds:List PyData},RdL H xs ds->∀ {ys:List V},RdL H ys ds->∀ {us vs:List Value},Vals xs us->Vals ys vs->∀ A:Around,A.units+PyData.depthAll ds<cLine->∀ (j:Nat) (h1:j<us.length) (h2:j<vs.length),EqAt A s us[j] vs[j] true
  | _,_,.nil,ys,r,us,vs,v1,v2,A,hu,j,h1,h2=>by
    cases v1
    exact absurd h1 (Nat.not_lt_zero _)
  | _,_,.cons (d:=d) (ds:=ds) p q,ys,r,us,vs,v1,v2,A,hu,j,h1,h2=>by
    cases r with
    | cons p2 q2=>
      cases v1 with
      | cons a1 b1=>
        cases v2 with
        | cons a2 b2=>
          have hm:PyData.depthAll (d::ds)=max d.depth (PyData.depthAll ds):=by rw[PyData.depthAll]
          rw[hm] at hu
          cases j with
          | zero=>exact RdN.eqs ok p p2 a1 a2 A (by omega)
          | succ j=>exact RdL.eqs ok q q2 b1 b2 A (by omega) j (by simpa using h1) (by simpa using h2)
end
end
def rNeR:R2:=fun x y H Q=>∃ (a b:Addr) (d:PyData),x=.ref a/\y=.ref b/\RdN H (.ref a) d/\RdN H (.ref b) d/\d.depth<=10/\Q (.bl false) H
section
variable {X:Cx}
theorem rd_els {P:Program}{w:World}{H:Hp}{s:Shared}{A:Around}{xs ys:List V}{ds:List PyData}{i1 i2:List Value} (ok:HOk P w H s.heap) (q:RdL H xs ds) (q2:RdL H ys ds) (v1:Vals xs i1) (v2:Vals ys i2) (hu:A.units+1+PyData.depthAll ds<cLine) :
    ∀ j (h1:j<i1.toArray.size) (h2:j<i2.toArray.size),EqAt A.in1 s i1.toArray[j] i2.toArray[j] true:=fun j h1 h2=>by
  have:=RdL.eqs ok q q2 v1 v2 A.in1 (by show A.units+1+_<_;omega) j (by simpa using h1) (by simpa using h2)
  simpa using this
theorem op_neR (hu:X.A.units+12<cLine):OpR X (compareOp .NotEq) rNeR:=by
  intro pins s σ H x y v u Q I rx ry h
  obtain⟨a,b,d,rfl,rfl,r1,r2,hd,q⟩:=h
  cases rx
  cases ry
  cases r1 with
  | lst e p=>
    rename_i xs ds
    cases r2 with
    | lst e2 p2=>
      rename_i ys
      obtain⟨_,i1,n1,v1,g1⟩:=(show ObjOk X.prog X.w H s.heap a (.lst xs) from I.hok a _ e)
      obtain⟨_,i2,n2,v2,g2⟩:=(show ObjOk X.prog X.w H s.heap b (.lst ys) from I.hok b _ e2)
      have hd':PyData.depthAll ds+1<=10:=hd
      refine RcNeAt.lists (e:=fun _=>true) (items:=i1.toArray) (items2:=i2.toArray) ⟨_,g1,rfl,n1,rfl⟩ ⟨_,g2,rfl,n2,rfl⟩ (by rw[List.size_toArray,List.size_toArray,<- v1.length,<- v2.length,p.len_eq p2]) (by omega) (rd_els I.hok p p2 v1 v2 (by omega)) _ _ _ _ ?_
      rw[all_range]
      exact⟨.bl false,H,I,rfl,q⟩
  | tup e p=>
    rename_i xs ds
    cases r2 with
    | tup e2 p2=>
      rename_i ys
      obtain⟨_,i1,v1,o1,g1,c1,_,n1,k1⟩:=(show ObjOk X.prog X.w H s.heap a (.tup xs) from I.hok a _ e)
      obtain⟨_,i2,v2,o2,g2,c2,_,n2,k2⟩:=(show ObjOk X.prog X.w H s.heap b (.tup ys) from I.hok b _ e2)
      have hd':PyData.depthAll ds+1<=10:=hd
      refine RcNeAt.tuples (e:=fun _=>true) (items:=i1.toArray) (items2:=i2.toArray) ⟨o1,g1,c1,n1,k1⟩ ⟨o2,g2,c2,n2,k2⟩ (by omega) (rd_els I.hok p p2 v1 v2 (by omega)) _ _ _ _ ?_
      rw[all_range,List.size_toArray,List.size_toArray,<- v1.length,<- v2.length,p.len_eq p2,beq_self_eq_true]
      exact⟨.bl false,H,I,rfl,q⟩
end
end L2
namespace L2
open PySem PySem.Spec PyProof.Rows
section
variable {X:Cx}
end
end L2
namespace Lv
open PySem L2
def rl (p n i:Nat):List Int:=(num p n).getD i []
end Lv
namespace Lv
open PySem L2
end Lv
namespace L2
open PySem
end L2
namespace Lv
open PySem L2
def sm (g:Nat->Int):Nat->Int
  | 0=>0
  | k+1=>sm g k+g (k+1)
def trs (h:Nat->Int):Nat->Int
  | 0=>0
  | k+1=>trs h k+h k
theorem trs_congr {g h:Nat->Int}:∀ {k:Nat},(∀ j,j<k->g j=h j)->trs g k=trs h k
  | 0,_=>rfl
  | k+1,e=>by rw[trs,trs,trs_congr fun j a=>e j (by omega),e k (by omega)]
def sq (p n:Nat):List (List Int):=(List.range (n+1)).map fun j=>rl p j 0
end Lv
namespace L2
open PySem PySem.Spec PyProof.Rows PySem.SeqAt
inductive TyS (H:Hp):V->Value->Prop
  | int (i:Int):TyS H (.int i) (.type "int")
  | bl (b:Bool):TyS H (.bl b) (.type "bool")
  | lst {a:Addr}{xs:List V} (e:H a=some (.lst xs)):TyS H (.ref a) (.type "list")
  | tup {a:Addr}{xs:List V} (e:H a=some (.tup xs)):TyS H (.ref a) (.type "tuple")
section
variable {X:Cx}
end
end L2
namespace HT
open PySem PySem.Spec PyProof.Rows
section
variable {prog:Program}{w:World}{A:Around}{E:Value->Shared->Prop}{s:Shared}
end
end HT
namespace L2
open PySem PySem.Spec PyProof.Rows PySem.SeqAt
inductive TyA (H:Hp):V->String->Prop
  | non:TyA H .non "NoneType"
  | int (i:Int):TyA H (.int i) "int"
  | bl (b:Bool):TyA H (.bl b) "bool"
  | str (x:Str):TyA H (.str x) "str"
  | lst {a:Addr}{xs:List V} (e:H a=some (.lst xs)):TyA H (.ref a) "list"
  | tup {a:Addr}{xs:List V} (e:H a=some (.tup xs)):TyA H (.ref a) "tuple"
  | dK {a:Addr}{kvs:List (Key × V)} (e:H a=some (.dK kvs)):TyA H (.ref a) "dict"
section
variable {X:Cx}
end
end L2
namespace Lv
open PySem L2 PySem.W
structure ExcTab (K:Frag) (reel C:Addr) (all:List Addr):Prop where
  ok:excAll K C=true
  exm:exmOne K (.ref C) (.ref reel)=some true
  isR:kitOne K (.ref C) (.ref reel)=some true
  isV:kitOne K (.ref C) (.type "ValueError")=some true
  one:∀ D∈all,kitOne K (.ref C) (.ref D)=some (D == C)
structure Excs (K:Frag) (mg:Str->Option Value) where
  reel:Addr
  nWays:Addr
  nRoom:Addr
  nLevel:Addr
  nStand:Addr
  tMany:Addr
  tFew:Addr
  nPlace:Addr
  nText:Addr
  nLine:Addr
  nBack:Addr
  nPhase:Addr
  clash:Addr
  mReel:mg "ReelError"=some (.ref reel)
  mWays:mg "NoWays"=some (.ref nWays)
  mRoom:mg "NoRoom"=some (.ref nRoom)
  mLevel:mg "NoLevel"=some (.ref nLevel)
  mStand:mg "NoStanding"=some (.ref nStand)
  mMany:mg "TooMany"=some (.ref tMany)
  mFew:mg "TooFew"=some (.ref tFew)
  mPlace:mg "NoPlace"=some (.ref nPlace)
  mText:mg "NoText"=some (.ref nText)
  mLine:mg "NoLine"=some (.ref nLine)
  mBack:mg "NoBack"=some (.ref nBack)
  mPhase:mg "NoPhase"=some (.ref nPhase)
  mClash:mg "Clash"=some (.ref clash)
  nd:([nWays,nRoom,nLevel,nStand,tMany,tFew,nPlace,nText,nLine,nBack,nPhase,clash]:List Addr).Nodup
def Excs.all {K:Frag}{mg:Str->Option Value} (X:Excs K mg):List Addr:=[X.nWays,X.nRoom,X.nLevel,X.nStand,X.tMany,X.tFew,X.nPlace,X.nText,X.nLine,X.nBack,X.nPhase,X.clash]
def anT:List String:=["NoneType","bool","int","str","list","tuple","dict"]
structure Thing (K:Frag) (H:Hp) (v:V) (T:String):Prop where
  ty:TyOf K H v (.type T)
  mem:T∈anT
def NotIn (lo hi:Int) (v:V) (T:String):Prop:=T≠"int"∨∃ i,v=.int i/\¬ (lo<=i/\i<=hi)
end Lv
namespace Lv
open PySem L2 PySem.W
end Lv
namespace Lv
open PySem L2 PySem.W
end Lv
namespace Lv
open PySem L2 PySem.W
end Lv
namespace L2
open PySem PySem.Spec PyProof.Rows PySem.W
end L2
namespace Lv
open PySem L2 PySem.W
end Lv
namespace Lv
open PySem L2 PySem.Spec PyProof.Rows
end Lv
namespace L2
open PySem PySem.Spec PyProof.Rows PySem.SeqAt
section
variable {X:Cx}
theorem argBest_max (f:Nat->Int):∀ k i,i<=k->f i<=f (argBest (fun i j=>decide (f j<f i)) k)
  | 0,i,h=>by
    have:i=0:=by omega
    subst this
    exact Int.le_refl _
  | k+1,i,h=>by
    unfold argBest
    by_cases e:f (argBest (fun i j=>decide (f j<f i)) k)<f (k+1)
    · rw[if_pos (decide_eq_true e)]
      by_cases hi:i=k+1
      · subst hi;exact Int.le_refl _
      · have:=argBest_max f k i (by omega)
        omega
    · rw[if_neg (by simpa using e)]
      by_cases hi:i=k+1
      · subst hi;omega
      · exact argBest_max f k i (by omega)
theorem walkB {b:Bool}{pins:List (Addr × Obj)}{σ:St}{H:Hp}{s:Shared}{a:Addr}{ns:List Int}{Q:Value->Shared->Prop}{A:Around}{E:Value->Shared->Prop} (I:Inv X pins σ H s) (hh:A.handled=none) (h:SqB b X.K H a (ns.map V.int))
    (k:∀ (I0:Addr) (fp wr:List Addr) (P:Nat->Value->Prop) (St:Nat->Heap->Prop) (s2:Shared),Walks X.prog X.w A I0 fp wr ns.length P St->St 0 s2.heap->(∀ c∈fp,c<s2.heap.objs.size)->(∀ i v,P i v->i<ns.length/\∃ t,v=.int (ns.getD i 0) t) ->
      (∀ h' tk,(∀ c o,c ∉ wr->s2.heap.get? c=some o->h'.get? c=some o)->Inv X pins σ H { s2 with heap:=h',toks:=tk })->Q (.ref I0) s2):wpAny (model X.prog X.w) A (pyIter (.ref a)) Q E s:=by
  have fin:∀ (its:List Value) (rv:Vals (ns.map V.int) its) (ob:Obj),a<s.heap.objs.size->(∀ h' tk,(∀ c o,c ∉ [s.heap.objs.size]->(s.heap.push ob).get? c=some o->h'.get? c=some o)->Inv X pins σ H { s with heap:=h',toks:=tk })/\its.toArray.size=ns.length /\
      (∀ i v,its.toArray[i]?=some v->i<ns.length/\∃ t,v=.int (ns.getD i 0) t)/\∀ c∈[s.heap.objs.size,a],c<(s.heap.push ob).objs.size:=fun its rv ob hlt=>by
    have hlen:its.toArray.size=ns.length:=by rw[List.size_toArray,<- rv.length,List.length_map]
    refine⟨fun h' tk hk=>I.kept (h':=h') (t':=tk) fun c o e=>hk c o ?_ (Heap.get?_push_of_some _ e),hlen,fun i v e=>?_,fun c hc=>?_⟩
    · intro hm
      have:c=s.heap.objs.size:=by simpa using hm
      rw[this] at e
      exact absurd (Heap.lt_size e) (Nat.lt_irrefl _)
    · have hi:i<its.toArray.size:=(Array.getElem?_eq_some_iff.mp e).1
      obtain⟨t,q⟩:=ints_at rv hi
      rw[Array.getElem?_eq_getElem hi] at e
      have e':=Option.some.inj e
      rw[q] at e'
      exact⟨by rw[<- hlen];exact hi,t,e'.symm⟩
    · rcases List.mem_cons.mp hc with z | z
      · rw[z,Heap.size_push];exact Nat.lt_succ_self _
      · have z:c=a:=by simpa using z
        rw[z,Heap.size_push]
        exact Nat.lt_succ_of_lt hlt
  cases b with
  | true=>
    obtain⟨its,rv,p,hz⟩:=I.list h
    have hlt:a<s.heap.objs.size:=by obtain⟨o,n,e,_⟩:=p;exact Heap.lt_size e
    have hne:a≠s.heap.objs.size:=Nat.ne_of_lt hlt
    refine wpAny_pyIter_list p.isList ?_
    obtain⟨f1,f2,f3,f4⟩:=fin its rv _ hlt
    have W:=Walks.list (prog:=X.prog) (w:=X.w) (A:=A) hh s.heap.objs.size a hne its.toArray
    rw[f2] at W
    refine k _ _ _ _ _ _ W ⟨⟨_,Heap.get?_push_size _ rfl,rfl,rfl⟩,?_⟩ f4 f3 f1
    obtain⟨o,n,e,c,_,d⟩:=p
    exact⟨o,Heap.get?_push_of_some _ e,c,n,d⟩
  | false=>
    obtain⟨its,rv,p0,hz⟩:=I.tuple h
    have p:s.heap.IsTuple a its.toArray:=p0
    have hlt:a<s.heap.objs.size:=by obtain⟨o,e,_⟩:=p;exact Heap.lt_size e
    have hne:a≠s.heap.objs.size:=Nat.ne_of_lt hlt
    refine wpAny_pyIter_tuple p ?_
    obtain⟨f1,f2,f3,f4⟩:=fin its rv _ hlt
    have W:=Walks.tuple (prog:=X.prog) (w:=X.w) (A:=A) hh s.heap.objs.size a hne its.toArray
    rw[f2] at W
    refine k _ _ _ _ _ _ W ⟨⟨_,Heap.get?_push_size _ rfl,rfl,rfl⟩,?_⟩ f4 f3 f1
    obtain⟨o,e,c,d⟩:=p
    exact⟨o,Heap.get?_push_of_some _ e,c,d⟩
theorem getD_mem {ns:List Int}{i:Nat} (h:i<ns.length):ns.getD i 0∈ns:=by
  rw[List.getD_eq_getElem?_getD,List.getElem?_eq_getElem h]
  exact List.getElem_mem h
theorem call_maxB (hc:X.calm=true):CallR X (.builtin "max") (fun xs H Q=>∃ (b:Bool) (a:Addr) (ns:List Int),xs=[.ref a]/\SqB b X.K H a (ns.map V.int)/\ns≠[]/\∀ m,m∈ns->(∀ x∈ns,x<=m)->Q (.int m) H):=by
  intro pins s σ H xs us Q I r h
  obtain⟨b,a,ns,rfl,hq,hn,q⟩:=h
  obtain⟨u,rfl,r1⟩:=vals1 r
  cases r1
  have hpos:0<ns.length:=List.length_pos_iff.mpr hn
  refine call_max_walk (walkB I (I.ok.hd hc) hq fun I0 fp wr P St s2 W st hfp hP hk=>?_)
  refine⟨I0,fp,wr,ns.length,P,St,fun i j=>decide (ns.getD j 0<ns.getD i 0),rfl,W,st,hfp,hpos,?_,?_⟩
  · intro i j vi vj s' Q' E' hi hj hQ
    obtain⟨_,t,rfl⟩:=hP i vi hi
    obtain⟨_,t',rfl⟩:=hP j vj hj
    exact gt_int hQ
  · intro v h' tk hPv hkk
    obtain⟨hi,t,rfl⟩:=hP _ v hPv
    refine⟨.int _,H,hk h' tk hkk,⟨t,rfl⟩,q _ (getD_mem hi) fun x hx=>?_⟩
    obtain⟨i,hi',e⟩:=List.getElem_of_mem hx
    have:=argBest_max (fun i=>ns.getD i 0) (ns.length - 1) i (by omega)
    have e2:ns.getD i 0=ns[i]:=by rw[List.getD_eq_getElem?_getD,List.getElem?_eq_getElem hi'];rfl
    rw[<- e,<- e2]
    exact this
end
theorem comp_zipR {b1 b2:Bool}{K:PySem.W.Frag}{own:List Str}{js:List Nat}{g:TG}{tt:TT}{te:TE}{σ:St}{H1:Hp}{Q:VK}{a b:Addr}{xs ys:List V} (hlen:ys.length<=xs.length) (Pv:Addr->Nat->Hp->Prop) (h0:∀ acc,H1 acc=none->Pv acc 0 (upd H1 acc (.lst [])))
    (hl:∀ acc i H,H1 acc=none->i<=ys.length->Pv acc i H->SqB b1 K H a xs/\SqB b2 K H b ys)
    (hs:∀ acc i x y p H,H1 acc=none->xs[i]?=some x->ys[i]?=some y->Pv acc i H->H p=none->g (.ref p) (blkσ own js σ) (upd H p (.tup [x,y])) fun τ H4=>tt τ H4 fun c H5=>
      if c=true then te τ H5 fun y H6=>∃ zs,H6 acc=some (.lst zs)/\zs.length<sizeLine/\(i+1<=ys.length/\Pv acc (i+1) (upd H6 acc (.lst (zs++[y])))) else (i+1<=ys.length/\Pv acc (i+1) H5))
    (hd:∀ acc H,H1 acc=none->Pv acc ys.length H->Q (.ref acc) H):tCompW own js g tt te σ (ItzB b1 b2 K a b) H1 Q:=by
  intro acc hacc
  refine⟨fun i H=>i<=ys.length/\Pv acc i H,ys.length,⟨Nat.zero_le _,h0 acc hacc⟩,?_⟩
  rintro i H ⟨hi,p⟩
  obtain⟨q1,q2⟩:=hl acc i H hacc hi p
  by_cases hlt:i<ys.length
  · have hl2:i<xs.length:=by omega
    refine .inr ⟨hlt,⟨xs,ys,xs[i],ys[i],q1,q2,by simp[hl2],by simp[hlt]⟩,fun x H' y=>?_⟩
    obtain⟨pa,z1,z2,hp,e1,e2,y1,y2⟩:=y
    subst e1 e2
    exact hs acc i z1 z2 pa H hacc (y1 xs q1) (y2 ys q2) p hp
  · have e:i=ys.length:=by omega
    subst e
    exact .inl ⟨⟨xs,ys,q1,q2,.inr (Nat.le_refl _)⟩,hd acc H hacc p⟩
end L2
namespace L2
open PySem PySem.Spec PyProof.Rows PySem.SeqAt
section
variable {X:Cx}
end
end L2
namespace L2
open PySem PySem.Spec PyProof.Rows PySem.SeqAt
theorem range_pick {α:Type}:∀ ys:List α,(List.range ys.length).filterMap (ys[·]?)=ys
  | []=>rfl
  | y::ys=>by
    rw[List.length_cons,List.range_succ_eq_map,List.filterMap_cons]
    show y::(List.map Nat.succ (List.range ys.length)).filterMap ((y::ys)[·]?)=_
    rw[List.filterMap_map]
    exact congrArg (y::·) (range_pick ys)
theorem fm_congr {α β:Type}{f g:α->Option β}:∀ {l:List α},(∀ x∈l,f x=g x)->l.filterMap f=l.filterMap g
  | [],_=>rfl
  | x::l,h=>by rw[List.filterMap_cons,List.filterMap_cons,h x (by simp),fm_congr fun y hy=>h y (by simp[hy])]
theorem slicePick_back (its:List Value):slicePick its.toArray none none (some (-1))=its.reverse.toArray:=by
  unfold slicePick
  have e1:sliceBounds none none (some (-1)) its.toArray.size=((its.length:Int) - 1,-1,-1):=by
    simp[sliceBounds]
  rw[e1]
  have e2:sliceRange ((its.length:Int) - 1) (-1) (-1)=(List.range its.length).map fun k=>its.length - 1 - k:=by
    unfold sliceRange
    have:(if (its.length:Int) - 1 > -1 then ((its.length:Int) - 1 - (-1) - (-1) - 1) / (-(-1)) else 0).toNat=its.length:=by
      by_cases h:(its.length:Int) - 1 > -1
      · rw[if_pos h,show (-(-1):Int)=1 by decide,Int.ediv_one]
        omega
      · rw[if_neg h]
        omega
    dsimp only
    rw[if_neg (by decide),this]
    apply List.map_congr_left
    intro k hk
    have:=List.mem_range.mp hk
    omega
  show (List.filterMap _ (sliceRange ((its.length:Int) - 1) (-1) (-1))).toArray=_
  rw[e2,List.filterMap_map]
  congr 1
  have e3:=range_pick its.reverse
  rw[List.length_reverse] at e3
  rw[<- e3]
  apply fm_congr
  intro k hk
  have:=List.mem_range.mp hk
  show its.toArray[its.length - 1 - k]?=_
  rw[List.getElem?_toArray,List.getElem?_reverse this]
def rRevL (K:PySem.W.Frag):V->Hp->VK->Prop:=fun x H Q=>∃ a xs,x=.ref a/\SqL K H a xs/\∀ p,H p=none->Q (.ref p) (upd H p (.lst xs.reverse))
def tRevL (K:PySem.W.Frag) (te:TE) (ts:TO):TE:=fun σ H Q=>te σ H fun x H1=>ts σ H1 fun k H2=>k=some (-1)/\rRevL K x H2 Q
section
variable {X:Cx}{e st:Expr}{te:TE}{ts:TO}{pos p2:Pos}
theorem pe_rev (he:PE X e te) (hst:PO X (some st) ts):PE X (.Subscript e (.Slice none none (some st) p2) pos) (tRevL X.K te ts):=by
  intro pins s σ H Q I h
  refine Subscript_ (thn (he pins s σ H _ I h) fun v s1 ⟨x,H1,I1,r1,q1⟩=>?_)
  refine wpAny_Slice ?_
  rw[evalPart_none]
  refine wpAny_pure ?_
  refine wpAny_pure ?_
  refine thn (hst pins s1 σ H1 _ I1 q1) fun vu s3 ⟨u,H3,I3,pu,ek,q3⟩=>?_
  subst ek
  obtain⟨a,xs,rfl,hx,q⟩:=q3
  cases r1
  have I4:Inv X pins σ H3 { s3 with heap:=s3.heap.push { cls:=.type "slice",data:=.fields #[.none,.none,vu] } }:=I3.kept (t':=s3.toks) fun b ob q=>Heap.get?_push_of_some _ q
  obtain⟨its,r,ht,hz⟩:=I4.list hx
  have hlen:=r.length
  show wpAny (model X.prog X.w) X.A (subscriptTail e (.Slice none none (some st) p2) (.ref a) (.ref s3.heap.objs.size)) (EP X pins σ Q) X.xe { s3 with heap:=s3.heap.push { cls:=.type "slice",data:=.fields #[.none,.none,vu] } }
  refine tail_any (ops:=[.ref a,.ref s3.heap.objs.size]) ht.isList.typeIs slot_list_getitem.lookup ?_ (by with_unfolding_all rfl)
  refine wpAny_getItem_list_slice ht.isList (Heap.IsSliceOf.new ..) .none .none pu (by simp) ?_ (by rw[List.size_toArray] <;> omega)
  rw[slicePick_back]
  refine⟨.ref (s3.heap.push { cls:=.type "slice",data:=.fields #[.none,.none,vu] }).objs.size,_,I4.laid (t':=s3.toks) (o:=.lst xs.reverse) (fun b ob q=>Heap.get?_push_of_some _ q) (Nat.le_refl _) ?_,rfl,q _ (I4.hok.fresh (Nat.le_refl _))⟩
  exact⟨by rw[List.length_reverse];omega,_,0,Vals.reverse r,Heap.get?_push_size _ rfl⟩
end
end L2
namespace Lv
open PySem L2
def mxAt:List Int->Nat
  | []=>0
  | x::r=>if r.all (·<=x) then 0 else mxAt r+1
structure IsTop (d:List Int) (r:Nat):Prop where
  lt:r<d.length
  ge:∀ j (h:j<d.length),d[j]<=d[r]
  fst:∀ j (h:j<r),d[j]<d[r]
def lacks (c v:List Int):List Int:=List.zipWith (· - ·) c v
def came (p:Nat):Nat->Nat × List Int
  | 0=>(0,List.replicate p 0)
  | n+1=>
    let L:=if (came p n).2=cnt p (came p n).1 then (came p n).1+1 else (came p n).1
    let r:=mxAt (lacks (cnt p L) (came p n).2)
    (L,(came p n).2.set r ((came p n).2.getD r 0+1))
end Lv
namespace L2
open PySem PySem.Spec PyProof.Rows PySem.SeqAt
section
variable {X:Cx}
end
end L2
namespace Lv
open PySem L2
end Lv
namespace Lv
open PySem L2
end Lv
namespace L2
open PySem PySem.Spec PyProof.Rows PySem.SeqAt
section
variable {X:Cx}
end
end L2
namespace L2
open PySem PySem.Spec PyProof.Rows PySem.SeqAt
section
variable {X:Cx}
end
end L2
namespace L2
open PySem PySem.Spec PyProof.Rows PySem.SeqAt
end L2
namespace L2
open PySem PySem.Spec PyProof.Rows PySem.W
structure RoomS (k:Nat) (A:Around):Prop where
  dp:A.depth+3*k+5<recursionLimit
  un:A.units+16*k+200<cLine
  gd:A.guards=some []
structure FnOkS (P:Program) (w:World) (K:PySem.W.Frag) (mg:Str->Option Value) (base:Heap) (CX:CXT) (k:Nat) (f:Addr) (fd:FuncData) (ps:List Str) (sp:Sp):Prop where
  len:∀ vs H Q E,sp vs H Q E->vs.length=ps.length
  run:∀ (A:Around) (outer:List Env) (s:Shared) (H:Hp) (args:Args) (us:List Value) (vs:List V) (Q:VK) (E:XK),RoomS k A->Env0 P w K mg base A outer s H->BindsTo s fd args (ps.zip us)->Vals vs us->sp vs H Q E ->
    codeAny (model P w) A (.call (.ref f) args) (CR CX outer P w H s Q E) s
section
variable {P:Program}{w:World}{K:PySem.W.Frag}{mg:Str->Option Value}{base:Heap}
end
structure CalS (P:Program) (w:World) (K:PySem.W.Frag) (mg:Str->Option Value) (base:Heap) (k:Nat) (x:Str) (ps:List Str) (sp:Sp) (f:Addr) (fd:FuncData):Prop where
  ok:FnOkS P w K mg base CX0 k f fd ps sp
  mg:mg x=some (.ref f)
  kp:PySem.W.keepIn K (.ref f)=true
  bd:Binds K fd ps []
section
variable {X:Cx}
end
end L2
namespace Lv
open PySem L2
def stp (a q:Int × Int):Int × Int:=(a.1+q.1*(if a.2<q.2 then a.2 else q.2),a.2 - (if a.2<q.2 then a.2 else q.2))
def lsF:List (Int × Int)->Int × Int->Int × Int
  | [],a=>a
  | q::M,a=>lsF M (stp a q)
end Lv
namespace Lv
open PySem L2
def sprC (xs:List Int):List (Int × Int):=((List.range 401).map fun (m:Nat)=>((m:Int),cn xs m)).filter fun q=>decide (q.2≠0)
def leastC (xs:List Int) (rows:Int):Option Int:=if (lsF (sprC xs) (0,rows)).2 > 0 then none else some (lsF (sprC xs) (0,rows)).1
end Lv
namespace Lv
open PySem L2
def pz (x:Int):Int:=if x<0 then 0 else x
def sv (xs:List Int) (t:Int):Int:=(xs.map fun x=>pz (t - x)).sum
def Sub (ys xs:List Int):Prop:=∀ m,cn ys m<=cn xs m
theorem perm_sum {xs ys:List Int} (h:xs.Perm ys):xs.sum=ys.sum:=by
  induction h with
  | nil=>rfl
  | cons x _ ih=>simp[ih]
  | swap x y l=>simp only[List.sum_cons];omega
  | trans _ _ h1 h2=>exact h1.trans h2
structure Lst (xs:List Int) (r v:Int):Prop where
  le:∀ t,r*t - sv xs t<=v
  eq:∃ θ∈xs,v=r*θ - sv xs θ
end Lv
namespace Lv
open PySem L2
theorem bern {p:Int} (hp:1<=p):∀ n:Nat,1+(p - 1)*n<=p ^ n
  | 0=>by simp
  | n+1=>by
    have ih:=bern hp n
    have h1:1<=p ^ n:=by
      have:0<=(p - 1)*(n:Int):=Int.mul_nonneg (by omega) (by omega)
      omega
    rw[Int.pow_succ]
    have h2:p ^ n*p=p ^ n+p ^ n*(p - 1):=by rw[Int.mul_sub,Int.mul_one];omega
    have h3:1*(p - 1)<=p ^ n*(p - 1):=Int.mul_le_mul_of_nonneg_right h1 (by omega)
    have h4:(p - 1)*((n+1:Nat):Int)=(p - 1)*n+(p - 1):=by rw[Int.natCast_add,Int.mul_add];simp
    omega
def kr (p:Int) (M:Nat) (ys:List Int):Int:=(ys.map fun y=>p ^ (M - y.toNat)).sum
end Lv
namespace Lv
open PySem L2
section
variable {α:Type}
structure Adds (g:List α->Int):Prop where
  nil:g []=0
  app:∀ a b,g (a++b)=g a+g b
def dt (g:List α->Int):List (List α)->List Int->Int
  | r::rs,n::ns=>n*g r+dt g rs ns
  | _,_=>0
def sg (g:List α->Int) (rs:List (List α)):Int:=(rs.map g).sum
def ptR (g:List α->Int):List (List (List α))->List (List Int)->Int
  | R::RR,W::WW=>dt g R W+ptR g RR WW
  | _,_=>0
def es:List Int->(Nat->Int)->Int
  | [],_=>0
  | n::ns,h=>(n+1)*h 0+es ns fun j=>h (j+1)
end
end Lv
namespace Lv
open PySem L2
end Lv
namespace Lv
open PySem L2
def pre:Int->List Int->List Int
  | _,[]=>[]
  | s,x::r=>(s+x)::pre (s+x) r
def nextK (c:List Int):List Int:=(pre 0 c).reverse
def casc (p:Nat):Nat->List Int
  | 0=>firstC p
  | n+1=>nextK (casc p n)
theorem pre_len:∀ (s:Int) (c:List Int),(pre s c).length=c.length
  | _,[]=>rfl
  | s,x::r=>by rw[pre,List.length_cons,List.length_cons,pre_len]
theorem nextK_len (c:List Int):(nextK c).length=c.length:=by rw[nextK,List.length_reverse,pre_len]
theorem casc_len {p:Nat} (hp:1<=p):∀ n,(casc p n).length=p
  | 0=>by simp[casc,firstC];omega
  | n+1=>by rw[casc,nextK_len,casc_len hp n]
theorem pre_shift:∀ (s t:Int) (c:List Int),pre (s+t) c=(pre t c).map (s+·)
  | _,_,[]=>rfl
  | s,t,x::r=>by rw[pre,pre,List.map_cons,Int.add_assoc,pre_shift]
theorem pre_cons (x:Int) (r:List Int):pre 0 (x::r)=x::(pre 0 r).map (x+·):=by
  have:=pre_shift x 0 r
  rw[Int.add_zero] at this
  rw[pre,Int.zero_add,this]
end Lv
namespace L2
open PySem PySem.Spec PyProof.Rows PySem.SeqAt
section
variable {X:Cx}
def rCatE (K:PySem.W.Frag):R2:=fun x y H Q=>∃ a b xs ys,x=.ref a/\y=.ref b/\SqT K H a xs/\SqT K H b ys/\xs.length+ys.length<=sizeLine /\
  (xs=[]->Q (.ref b) H)/\(xs≠[]->ys=[]->Q (.ref a) H)/\(xs≠[]->ys≠[]->∀ p,H p=none->Q (.ref p) (upd H p (.tup (xs++ys))))
theorem op_catE:OpR X (binaryOp .Add) (rCatE X.K):=by
  intro pins s σ H x y v u Q I rx ry h
  obtain⟨a,b,xs,ys,rfl,rfl,ha,hb,hz,q0,q1,q2⟩:=h
  by_cases hx:xs=[]
  · cases rx
    cases ry
    obtain⟨its,r1,p1,_⟩:=I.tuple ha
    obtain⟨its2,r2,p2,_⟩:=I.tuple hb
    obtain⟨⟨cls,dd,data,sl⟩,ho,hc,n,hd⟩:=id p1
    obtain⟨⟨cls2,dd2,data2,sl2⟩,ho2,hc2,n2,hd2⟩:=id p2
    simp only at hc hd hc2 hd2
    subst hc hd hc2 hd2
    have hv:its=[]:=r1.nil_iff.mpr hx
    exact concat_meets ⟨_,ho,rfl⟩ ⟨_,ho2,rfl⟩ noFill_tuple_add seq_tuple_add PySem.F.slot_tuple_add PySem.F.entry_tuple_add (PySem.F.args_tuple_add_2 _ _)
      (PyProof.Rows.tuple_addW0 a b its.toArray its2.toArray n n2 dd dd2 sl sl2 (by simp[hv])) ⟨ho,ho2,⟨.ref b,H,I,rfl,q0 hx⟩⟩
  · exact op_catT pins s σ H _ _ v u Q I rx ry ⟨a,b,xs,ys,rfl,rfl,ha,hb,hx,hz,q1 hx,q2 hx⟩
end
end L2
namespace Lv
open PySem L2
def up1 (A:List Int):List Int:=A.map (·+1)
def nextKN:List (List Int)->List (List Int)
  | []=>[]
  | [Z]=>[Z]
  | A::B::r=>(nextKN (B::r)).map (up1 A++·)++[up1 A]
def casN (p:Nat):Nat->List (List Int)
  | 0=>num0 p
  | n+1=>nextKN (casN p n)
def lensK (N:List (List Int)):List Int:=N.map fun xs=>(xs.length:Int)
theorem nextK_cons (x:Int) (r:List Int):nextK (x::r)=(nextK r).map (x+·)++[x]:=by
  rw[nextK,pre_cons,List.reverse_cons,<- List.map_reverse]
  rfl
theorem lensK_next:∀ N:List (List Int),lensK (nextKN N)=nextK (lensK N)
  | []=>rfl
  | [Z]=>by simp[nextKN,lensK,nextK,pre]
  | A::B::r=>by
    have ih:=lensK_next (B::r)
    have e:lensK (A::B::r)=(A.length:Int)::lensK (B::r):=rfl
    rw[e,nextK_cons,<- ih]
    simp[nextKN,lensK,up1,Function.comp_def]
theorem nextKN_len:∀ N:List (List Int),(nextKN N).length=N.length
  | []=>rfl
  | [Z]=>rfl
  | A::B::r=>by
    have:=nextKN_len (B::r)
    simp[nextKN] at this ⊢
    omega
theorem lens_cas {p:Nat} (hp:1<=p):∀ n,lensK (casN p n)=casc p n
  | 0=>by
    simp[casN,lensK,num0,casc,firstC]
  | n+1=>by rw[casN,lensK_next,lens_cas hp n];rfl
def rowAt (r:List (List Int)) (t:Nat):List Int:=r.getD t []
def S (q:Int) (g:Nat->List Int) (a:List Int):Int:=((List.range a.length).map fun t=>((g t).count q:Int)*a.getD t 0).sum
def pot (q:Int):List (List (List Int))->List (List Int)->Int
  | r::R,a::N=>S q (rowAt r) a+pot q R N
  | _,_=>0
end Lv
namespace Lv
open PySem L2
def goN:List Int->List (List Int)->List (List Int)
  | _,[]=>[]
  | r,A::I=>(r++up1 A)::goN (r++up1 A) I
def finN (I:List (List Int)):List Int:=(I.map up1).flatten
theorem goN_map (U:List Int):∀ (r:List Int) (I:List (List Int)),goN (U++r) I=(goN r I).map (U++·)
  | _,[]=>rfl
  | r,A::I=>by rw[goN,goN,List.map_cons,List.append_assoc,goN_map U]
theorem goN_snoc:∀ (r:List Int) (I:List (List Int)) (A:List Int),goN r (I++[A])=goN r I++[r++finN I++up1 A]
  | r,[],A=>by simp[goN,finN]
  | r,B::I,A=>by
    rw[List.cons_append,goN,goN,goN_snoc,List.cons_append]
    simp[finN]
theorem goN_len:∀ (r:List Int) (I:List (List Int)),(goN r I).length=I.length
  | _,[]=>rfl
  | r,A::I=>by rw[goN,List.length_cons,List.length_cons,goN_len]
theorem finN_snoc (I:List (List Int)) (A:List Int):finN (I++[A])=finN I++up1 A:=by simp[finN]
theorem nextKN_eq:∀ (I:List (List Int)) (Z:List Int),nextKN (I++[Z])=(finN I++Z)::(goN [] I).reverse
  | [],Z=>by simp[nextKN,finN,goN]
  | A::I,Z=>by
    have ih:=nextKN_eq I Z
    have e:nextKN (A::(I++[Z]))=(nextKN (I++[Z])).map (up1 A++·)++[up1 A]:=by
      cases I with
      | nil=>rfl
      | cons B r=>rfl
    have g:goN (up1 A) I=(goN [] I).map (up1 A++·):=by
      have:=goN_map (up1 A) [] I
      rwa [List.append_nil] at this
    rw[List.cons_append,e,ih,goN,List.nil_append,g]
    simp[finN]
theorem finN_len (I:List (List Int)):((finN I).length:Int)=(lensK I).sum:=by
  induction I with
  | nil=>rfl
  | cons A I ih=>
    have e:finN (A::I)=up1 A++finN I:=rfl
    have e2:lensK (A::I)=(A.length:Int)::lensK I:=rfl
    rw[e,e2,List.length_append,List.sum_cons,<- ih]
    simp[up1]
theorem lensK_nn (N:List (List Int)):∀ x∈lensK N,0<=x:=by
  intro x hx
  obtain⟨y,_,rfl⟩:=List.mem_map.mp hx
  omega
theorem fin_take {N:List (List Int)} (hs:(lensK N).sum<=4000) (i:Nat):(finN (N.take i)).length<=4000:=by
  have h1:=finN_len (N.take i)
  have e:lensK N=lensK (N.take i)++lensK (N.drop i):=by
    unfold lensK
    rw[<- List.map_append,List.take_append_drop]
  have h2:0<=(lensK (N.drop i)).sum:=by
    have:∀ l:List Int,(∀ x∈l,0<=x)->0<=l.sum:=by
      intro l
      induction l with
      | nil=>intro _;simp
      | cons x y ih=>
        intro h
        rw[List.sum_cons]
        have:=h x (by simp)
        have:=ih fun z hz=>h z (by simp[hz])
        omega
    exact this _ (lensK_nn _)
  rw[e,List.sum_append] at hs
  omega
def spNextKN:Sp:=fun vs H Q _=>∃ (a:Addr) (rs:List Addr) (N:List (List Int)),vs=[.ref a]/\H a=some (.tup (rs.map V.ref))/\TTs H rs N/\2<=N.length/\N.length<=7/\(lensK N).sum<=4000/\∀ l qs H',H l=none->H' l=some (.tup (qs.map V.ref))->TTs H' qs (nextKN N)->Same H H'->Q (.ref l) H'
theorem casN_len {p:Nat} (hp:1<=p):∀ n,(casN p n).length=p
  | 0=>by simp[casN,num0];omega
  | n+1=>by rw[casN,nextKN_len,casN_len hp n]
theorem sum_map_c (x:Int):∀ l:List Int,(l.map (x+·)).sum=l.length*x+l.sum
  | []=>by simp
  | y::l=>by
    rw[List.map_cons,List.sum_cons,sum_map_c x l,List.sum_cons,List.length_cons,Int.natCast_succ,Int.add_mul]
    omega
theorem nextK_sum:∀ c:List Int,(∀ x∈c,0<=x)->c.sum<=(nextK c).sum/\∀ x∈nextK c,0<=x
  | [],_=>⟨Int.le_refl _,by simp[nextK,pre]⟩
  | x::r,h=>by
    obtain⟨h1,h2⟩:=nextK_sum r fun y hy=>h y (by simp[hy])
    have hx:=h x (by simp)
    rw[nextK_cons]
    refine⟨?_,fun y hy=>?_⟩
    · rw[List.sum_append,sum_map_c,List.sum_cons,List.sum_cons,List.sum_nil]
      have:0<=((nextK r).length:Int)*x:=Int.mul_nonneg (by omega) hx
      omega
    · rcases List.mem_append.mp hy with hy | hy
      · obtain⟨z,hz,rfl⟩:=List.mem_map.mp hy
        have:=h2 z hz
        omega
      · have:y=x:=by simpa using hy
        omega
theorem casc_nn (p:Nat):∀ n,∀ x∈casc p n,0<=x
  | 0=>(down_cnt p 0).2
  | n+1=>(nextK_sum _ (casc_nn p n)).2
theorem casc_mono {p m n:Nat} (h:m<=n):(casc p m).sum<=(casc p n).sum:=by
  induction n with
  | zero => have : m = 0 := by omega
            subst this;exact Int.le_refl _
  | succ n ih=>
    by_cases e:m=n+1
    · subst e;exact Int.le_refl _
    · have:=ih (by omega)
      have:=(nextK_sum _ (casc_nn p n)).1
      show _<=(nextK (casc p n)).sum
      omega
end Lv
namespace Lv
open PySem L2
theorem sIx_last {n:Nat}:HT.sIx (n+1) (n+1) (some (-1))=n:=by
  have:=HT.clip_eq (-1) (n+1) (n+1)
  rw[if_pos (by decide)] at this
  omega
theorem cut_lastK (xs:List V) (y:V):cutV (xs++[y]) none (some (-1))=xs:=by
  unfold cutV
  rw[show (xs++[y]).length=xs.length+1 by simp,sIx_last]
  show (xs++[y]).take (xs.length - 0)=xs
  rw[Nat.sub_zero,List.take_left]
theorem TTs.cut {H:Hp}{rs:List Addr}{N:List (List Int)} (h:TTs H rs N) (hN:1<=N.length):∃ rs' z I Z,rs=rs'++[z]/\N=I++[Z]/\TTs H rs' I/\H z=some (.tup (Z.map V.int)):=by
  have hl:=h.1
  have h1:N≠[]:=by intro z;rw[z] at hN;simp at hN
  have h2:rs≠[]:=by intro z;rw[z] at hl;simp at hl;exact h1 (List.length_eq_zero_iff.mp hl.symm)
  obtain⟨I,Z,rfl⟩:∃ I Z,N=I++[Z]:=⟨_,_,(List.dropLast_concat_getLast h1).symm⟩
  obtain⟨rs',z,rfl⟩:∃ I Z,rs=I++[Z]:=⟨_,_,(List.dropLast_concat_getLast h2).symm⟩
  have hl2:rs'.length=I.length:=by simpa using hl
  refine⟨rs',z,I,Z,rfl,rfl,⟨hl2,fun j r xs ha hb=>?_⟩,?_⟩
  · have j1:=(List.getElem?_eq_some_iff.mp ha).1
    refine h.2 j r xs ?_ ?_
    · rw[List.getElem?_append_left j1];exact ha
    · rw[List.getElem?_append_left (by omega)];exact hb
  · refine h.2 I.length z Z ?_ ?_
    · rw[List.getElem?_append_right (by omega)];simp[hl2]
    · rw[List.getElem?_append_right (by omega)];simp
theorem catE_all {K:PySem.W.Frag}{H:Hp}{a b:Addr}{xs ys:List Int}{Q:VK} (ha:H a=some (.tup (xs.map V.int))) (hb:H b=some (.tup (ys.map V.int))) (hz:xs.length+ys.length<=sizeLine) (q:∀ r H',H' r=some (.tup ((xs++ys).map V.int))->Same H H'->Q (.ref r) H'):rCatE K (.ref a) (.ref b) H Q:=by
  refine⟨a,b,_,_,rfl,rfl,SqT.of ha,SqT.of hb,by simpa using hz,fun e=>?_,fun e1 e2=>?_,fun e1 e2 p hp=>?_⟩
  · have e:xs=[]:=by simpa using e
    subst e
    exact q b H hb (Same.refl _)
  · have e:ys=[]:=by simpa using e2
    subst e
    exact q a H (by simpa using ha) (Same.refl _)
  · exact q p _ (by rw[upd_same];simp) (Same.new hp)
theorem TTs.rev {H:Hp}{rs:List Addr}{N:List (List Int)} (h:TTs H rs N):TTs H rs.reverse N.reverse:=by
  refine⟨by simp[h.1],fun j r xs ha hb=>?_⟩
  have j1:=(List.getElem?_eq_some_iff.mp ha).1
  have j2:=(List.getElem?_eq_some_iff.mp hb).1
  simp only[List.length_reverse] at j1 j2
  rw[List.getElem?_reverse j1] at ha
  rw[List.getElem?_reverse j2,<- h.1] at hb
  exact h.2 _ r xs ha hb
theorem TTs.cons {H:Hp}{rs:List Addr}{N:List (List Int)}{r:Addr}{x:List Int} (e:H r=some (.tup (x.map V.int))) (h:TTs H rs N):TTs H (r::rs) (x::N):=by
  refine⟨by simp[h.1],fun j r' xs ha hb=>?_⟩
  cases j with
  | zero=>
    have:r=r':=by simpa using ha
    have:x=xs:=by simpa using hb
    subst r' xs
    exact e
  | succ j=>exact h.2 j r' xs (by simpa using ha) (by simpa using hb)
end Lv
namespace Lv
open PySem L2
end Lv
namespace Lv
open PySem L2
def vec (L:Nat) (g:Nat->Int):List Int:=(List.range L).map g
theorem vec_len (L:Nat) (g:Nat->Int):(vec L g).length=L:=by simp[vec]
theorem vec_at {L:Nat}{g:Nat->Int}{j:Nat} (h:j<L):(vec L g)[j]?=some (g j):=by
  unfold vec
  rw[List.getElem?_map,List.getElem?_range h];rfl
theorem vec_congr {L:Nat}{g h:Nat->Int} (e:∀ j,j<L->g j=h j):vec L g=vec L h:=List.map_congr_left fun j hj=>e j (List.mem_range.mp hj)
theorem vec_set {L:Nat}{g:Nat->Int}{i:Nat}{x:Int}:(vec L g).set i x=vec L (fun m=>if m=i then x else g m):=by
  refine List.ext_getElem? fun j=>?_
  by_cases hj:j<L
  · rw[vec_at hj]
    by_cases e:i=j
    · subst e
      rw[List.getElem?_set_self (by rw[vec_len];exact hj),if_pos rfl]
    · rw[List.getElem?_set_ne e,vec_at hj,if_neg (fun z=>e z.symm)]
  · rw[List.getElem?_eq_none (by rw[List.length_set,vec_len];omega),List.getElem?_eq_none (by rw[vec_len];omega)]
def arr (L:Nat) (xs:List Int):List Int:=vec L fun m=>cn xs (m:Int)
def mre (p at_ o:Nat):Int:=if at_ > 0∨o<p - 1 then 1 else 0
theorem fin_trs (I:List (List Int)) (m:Int):∀ k,k<=I.length->cn (finN (I.take k)) m=trs (fun o=>cn (I.getD o []) (m - 1)) k
  | 0,_=>by rw[List.take_zero];exact cn_nil m
  | k+1,h=>by
    rw[List.take_succ_eq_append_getElem (by omega),finN_snoc,cn_app,fin_trs I m k (by omega),trs]
    have:I.getD k []=I[k]:=by rw[List.getD_eq_getElem?_getD,List.getElem?_eq_getElem (by omega)];rfl
    rw[this]
    unfold up1
    rw[cn_shift]
theorem goN_at (I:List (List Int)):∀ k,k<I.length->(goN [] I)[k]?=some (finN (I.take (k+1))):=by
  intro k hk
  have:∀ (r:List Int) (J:List (List Int)) (k:Nat),k<J.length->(goN r J)[k]?=some (r++finN (J.take (k+1))):=by
    intro r J
    induction J generalizing r with
    | nil=>intro k h;simp at h
    | cons A J ih=>
      intro k h
      rw[goN]
      cases k with
      | zero=>simp[finN]
      | succ k=>
        rw[List.getElem?_cons_succ,ih (r++up1 A) k (by simpa using h)]
        simp[finN]
  simpa using this [] I k hk
theorem nextK_cn {N:List (List Int)}{at_:Nat}{xs:List Int} (h2:1<=N.length) (h:(nextKN N)[at_]?=some xs) (m:Int):cn xs m=trs (fun o=>cn (N.getD o []) (m - mre N.length at_ o)) (N.length - at_):=by
  obtain⟨I,Z,rfl⟩:∃ I Z,N=I++[Z]:=by
    have hne:N≠[]:=by rintro rfl;simp at h2
    exact⟨N.dropLast,N.getLast hne,(List.dropLast_concat_getLast hne).symm⟩
  have hl:(I++[Z]).length=I.length+1:=by simp
  have hat:=(List.getElem?_eq_some_iff.mp h).1
  rw[nextKN_len,hl] at hat
  rw[nextKN_eq] at h
  have gI:∀ o,o<I.length->(I++[Z]).getD o []=I.getD o []:=fun o ho=>by
    rw[List.getD_eq_getElem?_getD,List.getElem?_append_left ho,List.getD_eq_getElem?_getD]
  rw[hl]
  cases at_ with
  | zero=>
    have h:finN I++Z=xs:=by simpa using h
    rw[<- h,cn_app,Nat.sub_zero,trs]
    have e1:=fin_trs I m I.length (Nat.le_refl _)
    rw[List.take_length] at e1
    rw[e1]
    congr 1
    · refine trs_congr fun o ho=>?_
      rw[gI o ho,mre,if_pos (.inr (by omega))]
    · rw[mre,if_neg (by omega),Int.sub_zero,List.getD_eq_getElem?_getD]
      simp
  | succ a=>
    have h:((goN [] I).reverse)[a]?=some xs:=by simpa using h
    rw[List.getElem?_reverse (by rw[goN_len];omega),goN_len,goN_at I _ (by omega)] at h
    have h:=Option.some.inj h
    rw[<- h,fin_trs I m _ (by omega)]
    have:I.length - 1 - a+1=I.length+1 - (a+1):=by omega
    rw[this]
    refine trs_congr fun o ho=>?_
    rw[gI o (by omega),mre,if_pos (.inl (by omega))]
end Lv
namespace Lv
open PySem L2
end Lv
namespace Lv
open PySem L2
def fill (x y:Int):List Bool:=List.replicate x.toNat false++List.replicate y.toNat true
def layB (c v:List Int):List (List Bool):=List.zipWith (fun x y=>fill (x - y) y) c v
def lay (p n:Nat):List (List Bool):=layB (cnt p (came p n).1) (came p n).2
end Lv
namespace L2
open PySem PySem.Spec PyProof.Rows
abbrev two (elt t1 i1:Expr) (f1:List Expr) (t2 i2:Expr) (f2:List Expr) (scope:Scope) (pos:Pos):Expr:=.ListComp elt [⟨t1,i1,f1,0⟩,⟨t2,i2,f2,0⟩] scope pos
theorem turn_two0 (elt t1 i1:Expr) (f1:List Expr) (t2 i2:Expr) (f2:List Expr) (scope:Scope) (pos:Pos) (it acc:Value) (env:Env) :
    compTurn (two elt t1 i1 f1 t2 i2 f2 scope pos) 0 it acc env=(do
      standAt i1.pos
      match <- pyNext it with
      | none=>pure (.done .next)
      | some v=>
        letOwnedTupleGo t1 it v
        assign t1 env v
        let mut ok:=true
        for c in f1 do
          if ok then ok <- isTrue c env (eval c env)
        if ok then
          let x <- eval i2 env
          standAt i2.pos
          let x <- foldedSetIterable i2 env x
          let _ <- runOwn (.compStart (two elt t1 i1 f1 t2 i2 f2 scope pos) 1 (<- holding [x] (pyIter x)) acc env) env
        again (.compLoop (two elt t1 i1 f1 t2 i2 f2 scope pos) 0 it acc env)):=by rfl
theorem turn_two1 (elt t1 i1:Expr) (f1:List Expr) (t2 i2:Expr) (f2:List Expr) (scope:Scope) (pos:Pos) (it acc:Value) (env:Env) :
    compTurn (two elt t1 i1 f1 t2 i2 f2 scope pos) 1 it acc env=(do
      standAt i2.pos
      match <- pyNext it with
      | none=>pure (.done .next)
      | some v=>
        letOwnedTupleGo t2 it v
        assign t2 env v
        let mut ok:=true
        for c in f2 do
          if ok then ok <- isTrue c env (eval c env)
        if ok then
          (do let _ <- call (.builtin "list.append") [acc,<- eval elt env])
        again (.compLoop (two elt t1 i1 f1 t2 i2 f2 scope pos) 1 it acc env)):=by rfl
section
variable {prog:Program}{w:World}{A:Around}{R:Result->Shared->Prop}{s:Shared}{elt t1 i1:Expr}{f1:List Expr}{t2 i2:Expr}{f2:List Expr}{scope:Scope}{pos:Pos}{it acc:Value}{env:Env}
theorem loop_two1 (I:Nat->Shared->Prop)
    (turn:∀ n s,I n s->wpAny (model prog w) A (pyNext it) (fun r s₁=>match r with
      | none=>R (.ok .next) s₁
      | some v=>wpAny (model prog w) A (letOwnedTupleGo t2 it v) (fun _ s₁'=>wpAny (model prog w) A (assign t2 env v) (fun _ s₂=>
          wpAny (model prog w) A (forIn f2 true fun c r=>if r=true then do let ok <- isTrue c env (eval c env);pure (ForInStep.yield ok) else pure (ForInStep.yield r)) (fun ok s₃=>
            if ok=true then wpAny (model prog w) A (eval elt env) (fun x s₄=>
              wpAny (model prog w) A (call (.builtin "list.append") [acc,x]) (fun _ s₅=>∃ m,m<n/\I m s₅) (fun _ _=>False) s₄) (fun _ _=>False) s₃
            else ∃ m,m<n/\I m s₃) (fun _ _=>False) s₂) (fun _ _=>False) s₁') (fun _ _=>False) s₁) (fun _ _=>False) s)
    (n:Nat) (h:I n s):codeAny (model prog w) A (.compLoop (two elt t1 i1 f1 t2 i2 f2 scope pos) 1 it acc env) R s:=by
  refine codeAny_loop rfl I (fun n s hI=>?_) n h
  show wpAny _ A ((compTurn (two elt t1 i1 f1 t2 i2 f2 scope pos) 1 it acc env).onRaise (fun x=>do noteFrame x env;theTreesLotGoes x)) _ _ s
  refine wpAny_noted ?_
  rw[turn_two1]
  refine wpAny_bind (wpAny_standAt (wpAny_bind (wpAny_mono (turn n s hI) (fun r s₁ h₁=>?_) fun _ _ h'=>h'.elim)))
  cases r with
  | none=>exact wpAny_pure h₁
  | some v=>
    refine wpAny_bind (wpAny_mono h₁ (fun _ s₁' h₁=>?_) fun _ _ h'=>h'.elim)
    refine wpAny_bind (wpAny_mono h₁ (fun _ s₂ h₂=>wpAny_bind (wpAny_mono h₂ (fun ok s₃ h₃=>?_) fun _ _ h'=>h'.elim)) fun _ _ h'=>h'.elim)
    cases ok with
    | false=>exact wpAny_pure ⟨rfl,h₃⟩
    | true=>
      exact wpAny_bind (wpAny_bind (wpAny_mono h₃ (fun x s₄ h₄=>wpAny_bind (wpAny_mono h₄ (fun _ s₅ h₅=>wpAny_pure (wpAny_pure ⟨rfl,h₅⟩)) fun _ _ h'=>h'.elim)) fun _ _ h'=>h'.elim))
theorem start_two1
    (h0:codeAny (model prog w) A (.compLoop (two elt t1 i1 f1 t2 i2 f2 scope pos) 1 it acc env) R s)
    (h:wpAny (model prog w) A (pyIter it) (fun it' s'=>codeAny (model prog w) A (.compLoop (two elt t1 i1 f1 t2 i2 f2 scope pos) 1 it' acc env) R s')
      (notedBy (model prog w) A env fun x s'=>R (.error x) s') s) :
    codeAny (model prog w) A (.compStart (two elt t1 i1 f1 t2 i2 f2 scope pos) 1 it acc env) R s:=by
  refine codeAny_of_tree ?_
  show wpAny _ _ ((compStart (two elt t1 i1 f1 t2 i2 f2 scope pos) 1 it acc env).onRaise (fun x=>do noteFrame x env;standAt theWindowsPlace)) _ _ s
  refine wpAny_notedAt ?_
  unfold compStart
  show wpAny _ _ (ask >>= _) _ _ s
  refine wpAny_bind (wpAny_askSetting (wpAny_ite ?_))
  split
  · first
      | exact wpAny_bind (wpAny_pure (wpAny_pure (And.intro rfl h0)))
      | exact wpAny_pure (And.intro rfl h0)
  · refine wpAny_bind (wpAny_rule ?_)
    show wpAny _ _ (standAt i2.pos >>= _) _ _ s
    exact wpAny_bind (wpAny_standAt (wpAny_bind (wpAny_mono h (fun it' s' h'=>wpAny_pure (And.intro rfl h')) fun _ _ x=>x)))
theorem loop_two0 (I:Nat->Shared->Prop) (hs:∀ x,foldedSetIterable i2 env x=pure x)
    (turn:∀ n s,I n s->wpAny (model prog w) A (pyNext it) (fun r s₁=>match r with
      | none=>R (.ok .next) s₁
      | some v=>wpAny (model prog w) A (letOwnedTupleGo t1 it v) (fun _ s₁'=>wpAny (model prog w) A (assign t1 env v) (fun _ s₂=>
          wpAny (model prog w) A (forIn f1 true fun c r=>if r=true then do let ok <- isTrue c env (eval c env);pure (ForInStep.yield ok) else pure (ForInStep.yield r)) (fun ok s₃=>
            if ok=true then wpAny (model prog w) A (eval i2 env) (fun x s₄=>wpAny (model prog w) A (pyIter x) (fun itv s₅=>
              codeAny (model prog w) A (.compStart (two elt t1 i1 f1 t2 i2 f2 scope pos) 1 itv acc env) (fun r s₆=>∃ fl,r=.ok fl/\∃ m,m<n/\I m s₆) s₅) (fun _ _=>False) s₄) (fun _ _=>False) s₃
            else ∃ m,m<n/\I m s₃) (fun _ _=>False) s₂) (fun _ _=>False) s₁') (fun _ _=>False) s₁) (fun _ _=>False) s)
    (n:Nat) (h:I n s):codeAny (model prog w) A (.compLoop (two elt t1 i1 f1 t2 i2 f2 scope pos) 0 it acc env) R s:=by
  refine codeAny_loop rfl I (fun n s hI=>?_) n h
  show wpAny _ A ((compTurn (two elt t1 i1 f1 t2 i2 f2 scope pos) 0 it acc env).onRaise (fun x=>do noteFrame x env;theTreesLotGoes x)) _ _ s
  refine wpAny_noted ?_
  rw[turn_two0]
  refine wpAny_bind (wpAny_standAt (wpAny_bind (wpAny_mono (turn n s hI) (fun r s₁ h₁=>?_) fun _ _ h'=>h'.elim)))
  cases r with
  | none=>exact wpAny_pure h₁
  | some v=>
    refine wpAny_bind (wpAny_mono h₁ (fun _ s₁' h₁=>?_) fun _ _ h'=>h'.elim)
    refine wpAny_bind (wpAny_mono h₁ (fun _ s₂ h₂=>wpAny_bind (wpAny_mono h₂ (fun ok s₃ h₃=>?_) fun _ _ h'=>h'.elim)) fun _ _ h'=>h'.elim)
    cases ok with
    | false=>exact wpAny_pure ⟨rfl,h₃⟩
    | true=>
      refine wpAny_bind (wpAny_mono h₃ (fun x s₄ h₄=>wpAny_bind (wpAny_standAt ?_)) fun _ _ h'=>h'.elim)
      rw[hs]
      refine wpAny_bind (wpAny_pure (wpAny_bind (wpAny_holding (wpAny_mono h₄ (fun itv s₅ h₅=>?_) fun _ _ h'=>h'.elim))))
      refine wpAny_bind (wpAny_runOwn (h:=none) (codeAny_mono h₅ fun r s₆ ⟨fl,er,h₆⟩=>?_))
      subst er
      exact wpAny_pure ⟨rfl,h₆⟩
end
end L2
namespace L2
open PySem PySem.Spec PyProof.Rows
def tInW (g2:TG) (tt2:TT) (te:TE) (τ:St) (acc:Addr) (J2:It) (H6:Hp) (Z:Hp->Prop):Prop :=
  ∃ (W2:Nat->Hp->Prop) (n2:Nat),W2 0 H6/\∀ k H7,W2 k H7->(J2.stop k H7/\Z H7)∨(k<n2/\J2.go k H7/\∀ y H8,J2.yld k H7 y H8->g2 y τ H8 fun τ2 H9=>tt2 τ2 H9 fun c H10=>
    if c=true then te τ2 H10 fun z H11=>∃ ys,H11 acc=some (.lst ys)/\ys.length<sizeLine/\W2 (k+1) (upd H11 acc (.lst (ys++[z]))) else W2 (k+1) H10)
def tComp2W (own:List Str) (js:List Nat) (g1:TG) (tt1:TT) (wi2:TI) (g2:TG) (tt2:TT) (te:TE) (σ:St) (J:It) (H1:Hp) (Q:VK):Prop :=
  ∀ acc,H1 acc=none->∃ (W:Nat->Hp->Prop) (n:Nat),W 0 (upd H1 acc (.lst []))/\∀ i H2,W i H2 ->
    (J.stop i H2/\Q (.ref acc) H2)∨(i<n/\J.go i H2/\∀ x H3,J.yld i H2 x H3->g1 x (blkσ own js σ) H3 fun τ H4=>tt1 τ H4 fun c H5=>
      if c=true then wi2 τ H5 fun J2 H6=>tInW g2 tt2 te τ acc J2 H6 (W (i+1)) else W (i+1) H5)
def tComp2 (own:List Str) (js:List Nat) (wi:TI) (g1:TG) (tt1:TT) (wi2:TI) (g2:TG) (tt2:TT) (te:TE):TE:=fun σ H Q=>wi σ H fun J H1=>tComp2W own js g1 tt1 wi2 g2 tt2 te σ J H1 Q
def Unset (fr:List Nat) (τ:St):Prop:=∀ i∈fr,∀ v,τ[i]?≠some (some v)
def GKeepF (own:List Str) (fr:List Nat) (g:TG):Prop:=∀ (js:List Nat) (σ:St) (x:V) (H:Hp) (Q:St->Hp->Prop),g x (blkσ own js σ) H Q ->
  g x (blkσ own js σ) H fun τ H'=>((∀ (j:Nat) v,(blkσ own js σ)[j]?=some (some v)->τ[j]?=some (some v))/\Unset fr τ)/\Q τ H'
def GKeepT (fr:List Nat) (g:TG):Prop:=∀ (τ:St),Unset fr τ->∀ (x:V) (H:Hp) (Q:St->Hp->Prop),g x τ H Q->g x τ H fun τ' H'=>(∀ (j:Nat) v,τ[j]?=some (some v)->τ'[j]?=some (some v))/\Q τ' H'
theorem gkeepF_two {K:PySem.W.Frag}{own:List Str}{i k:Nat}{fr:List Nat} (hi:i<own.length:=by decide) (hk:k<own.length:=by decide) (hf:∀ j∈fr,j<own.length/\j≠i/\j≠k:=by decide):GKeepF own fr (gTup K 2 (gCons (gName i) (gCons (gName k) gNil))):=fun js σ x H Q h=>by
  obtain⟨a,xs,rfl,hq,hl,v,r,rfl,w,r',rfl,e,h⟩:=h
  refine⟨a,_,rfl,hq,hl,v,_,rfl,w,r',rfl,e,⟨fun j z e=>?_,fun j hj z e=>?_⟩,h⟩
  · have hj:j≠i:=by rintro rfl;exact blkσ_own hi e
    have hj':j≠k:=by rintro rfl;exact blkσ_own hk e
    rw[List.getElem?_set_ne (Ne.symm hj'),List.getElem?_set_ne (Ne.symm hj)]
    exact e
  · obtain⟨h1,h2,h3⟩:=hf j hj
    rw[List.getElem?_set_ne (Ne.symm h3),List.getElem?_set_ne (Ne.symm h2)] at e
    exact blkσ_own h1 e
theorem gkeepT_two {K:PySem.W.Frag}{i k:Nat}:GKeepT [i,k] (gTup K 2 (gCons (gName i) (gCons (gName k) gNil))):=fun τ u x H Q h=>by
  obtain⟨a,xs,rfl,hq,hl,v,r,rfl,w,r',rfl,e,h⟩:=h
  refine⟨a,_,rfl,hq,hl,v,_,rfl,w,r',rfl,e,fun j z e=>?_,h⟩
  have hj:j≠i:=by rintro rfl;exact u j (by simp) _ e
  have hj':j≠k:=by rintro rfl;exact u j (by simp) _ e
  rw[List.getElem?_set_ne (Ne.symm hj'),List.getElem?_set_ne (Ne.symm hj)]
  exact e
section
variable {X:Cx}{scope:Scope}{own:List Str}{js fr:List Nat}{elt t1 i1:Expr}{f1:List Expr}{t2 i2:Expr}{f2:List Expr}{wi wi2:TI}{g1 g2:TG}{tt1 tt2:TT}{te:TE}{pos:Pos}
theorem inner_run {pins:List (Addr × Obj)}{s₂:Shared}{H2:Hp}{C:Addr}{fp:List Addr}{τ:St}{H6:Hp}{s6:Shared}{it2 acc:Addr}{fp2:List Addr}{tn2:Nat->Heap->Prop}{J2:It}{Z:Hp->Prop}{P:List (Addr × Obj)}
    (hc:X.calm=true) (hgk:GKeepT fr g2) (hu:Unset fr τ)
    (hg:PG (X.blk scope own js s₂ H2 C fp pins) t2 g2) (ht:PTs (X.blk scope own js s₂ H2 C fp pins) f2 tt2) (he:PE (X.blk scope own js s₂ H2 C fp pins) elt te)
    (I6:Inv (X.blk scope own js s₂ H2 C fp pins) P τ H6 s6) (T:Turn X.prog X.w X.K t2 J2 fp2 it2 tn2) (st:tn2 0 s6.heap) (hf:∀ b∈fp2,FpOk (X.blk scope own js s₂ H2 C fp pins) P H6 b) (h:tInW g2 tt2 te τ acc J2 H6 Z) :
    codeAny (model X.prog X.w) X.A (.compStart (two elt t1 i1 f1 t2 i2 f2 scope pos) 1 (.ref it2) (.ref acc) (compEnvC scope (clOf scope X.env) C X.env)) (fun r s'=>r=.ok .next/\∃ H',Inv (X.blk scope own js s₂ H2 C fp pins) P τ H' s'/\Z H') s6:=by
  obtain⟨W,nn,w0,turn⟩:=h
  have fOk:∀ {H':Hp},(∀ b∈fp2,H' b=none)->∀ b∈fp2,FpOk (X.blk scope own js s₂ H2 C fp pins) P H' b:=fun hn b hb=>⟨hn b hb,(hf b hb).2⟩
  have loop:codeAny (model X.prog X.w) X.A (.compLoop (two elt t1 i1 f1 t2 i2 f2 scope pos) 1 (.ref it2) (.ref acc) (compEnvC scope (clOf scope X.env) C X.env)) (fun r s'=>r=.ok .next/\∃ H',Inv (X.blk scope own js s₂ H2 C fp pins) P τ H' s'/\Z H') s6:=by
    refine loop_two1 (fun n s'=>∃ i H',n=nn - i/\Inv (X.blk scope own js s₂ H2 C fp pins) P τ H' s'/\tn2 i s'.heap/\(∀ b∈fp2,H' b=none)/\W i H') ?_ nn ⟨0,_,rfl,I6,st,fun b hb=>(hf b hb).1,w0⟩
    rintro n s3 ⟨i,H3,en,I3,st3,fr3,w3⟩
    rcases turn i H3 w3 with ⟨stop,qn⟩ | ⟨hin,go,step⟩
    · refine thn (T.done (X.blk scope own js s₂ H2 C fp pins) rfl rfl rfl hc i P s3 _ H3 (fun _ _=>False) I3 (fOk fr3) st3 stop) fun r s4 ⟨hr,I4⟩=>?_
      subst hr
      exact⟨rfl,H3,I4,qn⟩
    · refine thn (T.item (X.blk scope own js s₂ H2 C fp pins) rfl rfl rfl hc i P s3 _ H3 (fun _ _=>False) I3 (fOk fr3) st3 go) fun r s4 ⟨u,hr,h4⟩=>?_
      subst hr
      refine thn h4 fun _ s5 ⟨x,H5,I5,r5,y5,st5,fr5⟩=>?_
      have I5':=I5.pinned (fOk fr5) (T.obj _ _ st5)
      have again:∀ {σ7:St}{H7:Hp}{s7:Shared},Inv (X.blk scope own js s₂ H2 C fp pins) (P++pinsAt fp2 s5.heap) σ7 H7 s7->(∀ (j:Nat) v,τ[j]?=some (some v)->σ7[j]?=some (some v))->W (i+1) H7 ->
          ∃ m,m<n/\∃ i H',m=nn - i/\Inv (X.blk scope own js s₂ H2 C fp pins) P τ H' s7/\tn2 i s7.heap/\(∀ b∈fp2,H' b=none)/\W i H':=fun {σ7 H7 s7} I7 hw w7=>by
        refine⟨nn - (i+1),by omega,i+1,H7,rfl,(I7.unpinned).weak (I3.len.trans I7.len.symm) hw,T.keep _ _ _ st5 fun b hb o e=>(I7.pin (b,o) (List.mem_append_right _ (List.mem_append_right _ (mem_pinsAt hb e)))).1,fun b hb=>?_,w7⟩
        obtain⟨o,e,d⟩:=T.obj _ _ st5 b hb
        exact (I7.pin (b,o) (List.mem_append_right _ (List.mem_append_right _ (mem_pinsAt hb e)))).2.1
      refine thn (hg _ s5 _ H5 x u _ I5' r5 (hgk τ hu _ _ _ (step x H5 y5))) fun _ s6 ⟨σ6,H6,I6,kp,q6⟩=>?_
      refine thn (ht _ s6 σ6 H6 _ I6 q6) fun ok s7 ⟨H7,I7,q7⟩=>?_
      cases ok with
      | false=>exact again I7 kp q7
      | true=>
        refine thn (he _ s7 σ6 H7 _ I7 q7) fun y s8 ⟨v,H8,I8,r8,ys,hl,hz,w8⟩=>?_
        refine thn (mt_append (X:=X.blk scope own js s₂ H2 C fp pins) _ s8 σ6 H8 (.ref acc) [v] (.ref acc) [y] (fun _ H9=>W (i+1) H9) I8 rfl (.cons r8 .nil) ⟨acc,ys,v,rfl,rfl,hl,hz,w8⟩) fun _ s9 ⟨_,H9,I9,_,w9⟩=>?_
        exact again I9 kp w9
  exact start_two1 loop (T.self _ 0 _ _ _ st loop)
theorem blk_run2 {pins:List (Addr × Obj)}{σ:St}{H2:Hp}{s₂:Shared}{it:Addr}{fp:List Addr}{tn:Nat->Heap->Prop}{J:It}{Q:VK}{E:Value->Shared->Prop}{RR:Value->Addr->Result->Shared->Prop}
    (c:CompOk X scope own js) (hc:X.calm=true) (hgk:GKeepF own fr g1) (hgt:GKeepT fr g2)
    (hg:∀ s H C fp pins,PG (X.blk scope own js s H C fp pins) t1 g1) (ht:∀ s H C fp pins,PTs (X.blk scope own js s H C fp pins) f1 tt1) (hi2:∀ s H C fp pins,PI (X.blk scope own js s H C fp pins) t2 i2 wi2)
    (hg2:∀ s H C fp pins,PG (X.blk scope own js s H C fp pins) t2 g2) (ht2:∀ s H C fp pins,PTs (X.blk scope own js s H C fp pins) f2 tt2) (he:∀ s H C fp pins,PE (X.blk scope own js s H C fp pins) elt te)
    (hs2:∀ env x,foldedSetIterable i2 env x=pure x)
    (I:Inv X pins σ H2 s₂) (T:Turn X.prog X.w X.K t1 J fp it tn) (st:tn 0 s₂.heap) (hf:∀ b∈fp,FpOk X pins H2 b) (h:tComp2W own js g1 tt1 wi2 g2 tt2 te σ J H2 Q)
    (hRR:∀ acc C H' s' m,s₂.heap.objs.size<=C->H' C=none->Inv X pins σ H' s'->s'.heap.Ns C m->Q (.ref acc) H'->RR (.ref acc) C (.ok .next) s') :
    wpAny (model X.prog X.w) X.A (newList []) (fun acc s₃=>wpAny (model X.prog X.w) X.A (newFunctionEnv scope X.env.globals (clOf scope X.env) [] X.env.qual none .none (some X.env)) (fun cenv s₄=>
      codeAny (model X.prog X.w) X.A (.compStart (two elt t1 i1 f1 t2 i2 f2 scope pos) 0 (.ref it) acc { cenv with scope:=relabel scope X.env }) (RR acc cenv.locals) s₄) E s₃) E s₂:=by
  refine wpAny_newObj_type (wpAny_newFunctionEnv c.cell (by intro y hy;simp at hy) (fun h₁ hns₁ hsb₁=>?_) c.kind)
  dsimp only at hns₁ hsb₁ ⊢
  generalize hH2:s₂.heap.push { cls:=.type "list",dict:=none,data:=.seq ([]:List Value).toArray }=G2 at hns₁ hsb₁ ⊢
  have hC:G2.objs.size=s₂.heap.objs.size+1:=by rw[<- hH2,Heap.size_push]
  have hDC:s₂.heap.objs.size≠G2.objs.size:=by rw[hC];exact Nat.ne_of_lt (Nat.lt_succ_self _)
  have hCle:s₂.heap.objs.size<=G2.objs.size:=by rw[hC];exact Nat.le_succ _
  have old:∀ b o,s₂.heap.get? b=some o->h₁.get? b=some o:=fun b o e=>hsb₁.extBut b o (Nat.ne_of_lt (Nat.lt_of_lt_of_le (Heap.lt_size e) hCle)) (Heap.get?_push_of_some _ (hH2 ▸ Heap.get?_push_of_some _ e))
  have hacc:h₁.get? s₂.heap.objs.size=some { cls:=.type "list",data:=.seq ([]:List Value).toArray 0 }:=hsb₁.extBut _ _ hDC (Heap.get?_push_of_some _ (hH2 ▸ Heap.get?_push_size _ rfl))
  have ho2:∀ b∈fp,∃ o,s₂.heap.get? b=some o:=fun b hb=>let ⟨o,e,_⟩:=T.obj 0 _ st b hb;⟨o,e⟩
  have I0:∀ tk,Inv (X.blk scope own js s₂ H2 G2.objs.size fp pins) [] (blkσ own js σ) (upd H2 s₂.heap.objs.size (.lst [])) { s₂ with heap:=h₁,toks:=tk }:=fun tk=>
    blk_start c I hCle hf ho2 hns₁ old (Nat.le_refl _) hDC hacc
  obtain⟨W,nn,w0,turn⟩:=h s₂.heap.objs.size (I.hok.fresh (Nat.le_refl _))
  generalize hacc':s₂.heap.objs.size=acc at *
  generalize hGC:G2.objs.size=C at *
  have st1:tn 0 h₁:=T.keep 0 _ _ st fun b _ o e=>old b o e
  have fOk:∀ {H':Hp},(∀ b∈fp,H' b=none)->∀ b∈fp,FpOk (X.blk scope own js s₂ H2 C fp pins) [] H' b:=fun hn b hb=>by
    obtain⟨f0,f1,f2,f3,f4,f5⟩:=hf b hb
    obtain⟨o,e⟩:=ho2 b hb
    refine⟨hn b hb,Nat.ne_of_lt (Nat.lt_of_lt_of_le (Heap.lt_size e) (by rw[<- hacc'] at hCle;exact hCle)),fun z=>?_,.inl hb,fun x a h=>f4 x a (c.look I h),fun p hp=>f5 p (by simpa[Cx.blk] using hp)⟩
    rcases List.mem_cons.mp (I.stkSub b z) with q | q
    · exact f1 q
    · exact f2 q
  have loop:∀ s₃:Shared,s₃={ s₂ with heap:=h₁,toks:=s₂.toks+([]:List (Str × Value)).length } ->
      codeAny (model X.prog X.w) X.A (.compLoop (two elt t1 i1 f1 t2 i2 f2 scope pos) 0 (.ref it) (.ref acc) (compEnvC scope (clOf scope X.env) C X.env)) (RR (.ref acc) C) s₃:=by
    rintro s₃ rfl
    refine loop_two0 (fun n s'=>∃ i H',n=nn - i/\Inv (X.blk scope own js s₂ H2 C fp pins) [] (blkσ own js σ) H' s'/\tn i s'.heap/\(∀ b∈fp,H' b=none)/\W i H') (hs2 _) ?_ nn ⟨0,_,rfl,I0 _,st1,fun b hb=>?_,w0⟩
    · rintro n s3 ⟨i,H3,en,I3,st3,fr3,w3⟩
      rcases turn i H3 w3 with ⟨stop,qn⟩ | ⟨hin,go,step⟩
      · refine thn (T.done (X.blk scope own js s₂ H2 C fp pins) rfl rfl rfl hc i [] s3 _ H3 (fun _ _=>False) I3 (fOk fr3) st3 stop) fun r s4 ⟨hr,I4⟩=>?_
        subst hr
        obtain⟨m,hn,_⟩:=I4.loc
        exact hRR acc C H3 s4 m hCle I4.free (blk_end I hf I4) hn qn
      · refine thn (T.item (X.blk scope own js s₂ H2 C fp pins) rfl rfl rfl hc i [] s3 _ H3 (fun _ _=>False) I3 (fOk fr3) st3 go) fun r s4 ⟨u,hr,h4⟩=>?_
        subst hr
        refine thn h4 fun _ s5 ⟨x,H5,I5,r5,y5,st5,fr5⟩=>?_
        have I5':=I5.pinned (fOk fr5) (T.obj _ _ st5)
        have again:∀ {σ7:St}{H7:Hp}{s7:Shared},Inv (X.blk scope own js s₂ H2 C fp pins) ([]++pinsAt fp s5.heap) σ7 H7 s7->(∀ (j:Nat) v,(blkσ own js σ)[j]?=some (some v)->σ7[j]?=some (some v))->W (i+1) H7 ->
            ∃ m,m<n/\∃ i H',m=nn - i/\Inv (X.blk scope own js s₂ H2 C fp pins) [] (blkσ own js σ) H' s7/\tn i s7.heap/\(∀ b∈fp,H' b=none)/\W i H':=fun {σ7 H7 s7} I7 hw w7=>by
          refine⟨nn - (i+1),by omega,i+1,H7,rfl,(I7.unpinned).weak ((blk_len own js σ X).trans I7.len.symm) hw,T.keep _ _ _ st5 fun b hb o e=>(I7.pin (b,o) (List.mem_append_right _ (List.mem_append_right _ (mem_pinsAt hb e)))).1,fun b hb=>?_,w7⟩
          obtain⟨o,e,d⟩:=T.obj _ _ st5 b hb
          exact (I7.pin (b,o) (List.mem_append_right _ (List.mem_append_right _ (mem_pinsAt hb e)))).2.1
        refine thn (hg s₂ H2 C fp pins _ s5 _ H5 x u _ I5' r5 (hgk _ _ _ _ _ (step x H5 y5))) fun _ s6 ⟨σ6,H6,I6,⟨kp,un⟩,q6⟩=>?_
        refine thn (ht s₂ H2 C fp pins _ s6 σ6 H6 _ I6 q6) fun ok s7 ⟨H7,I7,q7⟩=>?_
        cases ok with
        | false=>exact again I7 kp q7
        | true=>
          refine thn (hi2 s₂ H2 C fp pins _ s7 σ6 H7 _ I7 q7) fun v s8 h8=>thn h8 fun itv s9 h9=>?_
          obtain⟨it2,fp2,tn2,J2,H9,e9,I9,T2,st9,f9,hw9⟩:=h9
          subst e9
          refine codeAny_mono (inner_run (t1:=t1) (i1:=i1) (f1:=f1) (i2:=i2) (pos:=pos) hc hgt un (hg2 s₂ H2 C fp pins) (ht2 s₂ H2 C fp pins) (he s₂ H2 C fp pins) I9 T2 st9 f9 hw9) fun r s10 ⟨er,H10,I10,w10⟩=>?_
          exact⟨_,er,again I10 kp w10⟩
    · rw[upd_ne ?_]
      · exact (hf b hb).1
      · obtain⟨o,e⟩:=ho2 b hb
        rw[<- hacc']
        exact Nat.ne_of_lt (Heap.lt_size e)
  exact codeAny_compStart_list (loop _ rfl) (T.self _ 0 _ _ _ st1 (loop _ rfl))
end
end L2
namespace L2
open PySem PySem.Spec PyProof.Rows
end L2
namespace Lv
open PySem L2
def sel (xs:List Int) (bs:List Bool):List Int:=((xs.zip bs).filter (·.2)).map (·.1)
def readL (N:List (List Int)) (B:List (List Bool)):List Int:=(List.zipWith sel N B).flatten
end Lv
namespace L2
open PySem PySem.Spec PyProof.Rows
section
variable {M:Model}{A:Around}{E:Value->Shared->Prop}
end
section
variable {X:Cx}{pins:List (Addr × Obj)}{σ:St}{H H':Hp}{s s':Shared}{scope:Scope}{own:List Str}{js:List Nat}{C:Addr}{fp:List Addr}
structure CompOkK (X:Cx) (scope:Scope) (own:List Str) (js:List Nat):Prop where
  kind:scope.kind=.function
  free:∀ y∈scope.names,y.2=.free->X.env.kindOf y.1=some .cell∨X.env.kindOf y.1=some .free
  names:∀ y∈scope.names,scope.names.lookup y.1=some y.2
  out:∀ j∈js,∃ x,X.N[j]?=some x/\scope.names.lookup x=some .free
end
section
variable {X:Cx}{scope:Scope}{own:List Str}{js:List Nat}{elt iter target:Expr}{ifs:List Expr}{wi:TI}{g:TG}{tt:TT}{te:TE}{pos:Pos}
end
end L2
namespace Lv
open PySem L2
end Lv
namespace Lv
open PySem L2
def nfR (ks:List (Int × Int)) (i:Nat) (x:Int):List Bool:=(List.range x.toNat).map fun (j:Nat)=>decide (((i:Int),(j:Int))∈ks)
def nf (ks:List (Int × Int)):Nat->List Int->List (List Bool)
  | _,[]=>[]
  | i,x::c=>nfR ks i x::nf ks (i+1) c
end Lv
namespace Lv
open PySem L2
end Lv
namespace Lv
open PySem L2
section
variable {S:Nat->List (List Int)}
def gS (S:Nat->List (List Int)) (r:Int) (n:Nat):Option Int:=leastC (S n).flatten r
structure Lvs (S:Nat->List (List Int)):Prop where
  bd:∀ n:Nat,Bd n (S n)
  ne:∀ n,(S n).flatten≠[]
  up:∀ n,∀ b∈(S (n+1)).flatten,∃ y∈(S n).flatten,y<=b
end
end Lv
namespace Lv
open PySem L2
end Lv
namespace Lv
open PySem L2
def Ps (h r:Int) (k:Nat):Prop:=r<=h ^ k/\∀ j,j<k->h ^ j<r
theorem Ps.uniq {h r:Int}{a b:Nat} (x:Ps h r a) (y:Ps h r b):a=b:=by
  rcases Nat.lt_trichotomy a b with z | z | z
  · have:=y.2 a z;have:=x.1;omega
  · exact z
  · have:=x.2 b z;have:=y.1;omega
structure Fil (S:Nat->List (List Int)) (p:Int):Prop where
  lv:Lvs S
  kr:∀ M n,n<=M->kr p M (S n).flatten<=p ^ M
  z:(S 0).flatten.length=1
  one:∀ n,∀ y∈(S (n+1)).flatten,1<=y
structure Bst (S:Nat->List (List Int)) (N:Nat) (r:Int) (q:Int × Nat):Prop where
  lt:q.2<N
  eq:gS S r q.2=some q.1
  le:∀ n v,n<N->gS S r n=some v->q.1<=v
  first:∀ n v,n<q.2->gS S r n=some v->q.1<v
end Lv
namespace Lv
open PySem L2
def fst1 (p r:Int):Int:=2+(r - 2) % (p - 1)
structure Od (p r:Nat) (left:List Int) (read:Int) (k x y:Nat) (w e:Int):Prop where
  is:left=List.replicate x ((p:Int) ^ k)++w::List.replicate y ((p:Int) ^ (k+1))
  lo:(p:Int) ^ k<=w
  hi:w<=(p:Int) ^ (k+1)
  all:(x:Int)*(p:Int) ^ k+w+(y:Int)*(p:Int) ^ (k+1)=r
  full:∃ j:Nat,x+y=j*(p - 1)
  rd:read=(x:Int)*(p:Int) ^ k*k+(y:Int)*(p:Int) ^ (k+1)*(k+1)+(w*k+e)
  kr:(p:Int)*(w - e)+e+((p:Int) - fst1 p r)=(p:Int) ^ (k+1)
end Lv
namespace Lv
open PySem L2
end Lv
namespace Lv
open PySem L2
def Rp (R xs:List Int):Prop:=R=arr R.length xs/\∀ m∈xs,0<=m/\m<R.length
theorem Rp.at {R xs:List Int} (h:Rp R xs) (m:Nat):R.getD m 0=cn xs m:=by
  by_cases hm:m<R.length
  · have h2:=vec_at (L:=R.length) (g:=fun m=>cn xs (m:Int)) hm
    have h3:R[m]?=some (cn xs m):=by
      have:=h.1
      rw[this]
      exact h2
    rw[List.getD_eq_getElem?_getD,h3]
    rfl
  · rw[List.getD_eq_getElem?_getD,List.getElem?_eq_none (by omega)]
    refine (cn_zero.mpr fun z=>?_).symm
    have:=h.2 _ z
    omega
theorem Rp.of {R xs:List Int} (h:∀ m:Nat,m<R.length->R.getD m 0=cn xs m) (hb:∀ m∈xs,0<=m/\m<R.length):Rp R xs:=by
  refine⟨List.ext_getElem? fun m=>?_,hb⟩
  by_cases hm:m<R.length
  · have e2:=h m hm
    rw[List.getD_eq_getElem?_getD,List.getElem?_eq_getElem hm] at e2
    show R[m]?=(vec R.length fun m=>cn xs (m:Int))[m]?
    rw[vec_at hm,List.getElem?_eq_getElem hm]
    exact congrArg some e2
  · rw[List.getElem?_eq_none (by omega),List.getElem?_eq_none (by show (vec _ _).length<=m;rw[vec_len];omega)]
theorem Rp.congr {R xs ys:List Int} (h:Rp R xs) (e:∀ m,cn ys m=cn xs m):Rp R ys :=
  Rp.of (fun m _=>by rw[h.at m,e]) fun m hm=>h.2 m (cn_ne.mp (by rw[<- e];exact cn_ne.mpr hm))
theorem cn_up1 (xs:List Int) (m:Int):cn (up1 xs) m=cn xs (m - 1):=by
  induction xs with
  | nil=>simp[up1,cn_nil]
  | cons x xs ih=>
    rw[show up1 (x::xs)=(x+1)::up1 xs from rfl,cn_cons,cn_cons,ih]
    by_cases h:m=x+1
    · rw[if_pos h,if_pos (by omega)]
    · rw[if_neg h,if_neg (by omega)]
theorem Rp.up {R xs:List Int} (h:Rp R xs):Rp (0::R) (up1 xs):=by
  refine Rp.of (fun m hm=>?_) fun m hm=>?_
  · rw[cn_up1]
    cases m with
    | zero=>
      refine (cn_zero.mpr fun z=>?_).symm
      have:=h.2 _ z
      simp at this
    | succ m=>
      rw[show (0::R).getD (m+1) 0=R.getD m 0 from rfl,h.at m,show ((m+1:Nat):Int) - 1=m by omega]
  · obtain⟨x,hx,rfl⟩:=List.mem_map.mp hm
    have:=h.2 x hx
    simp
    omega
def RpL (Us Ys:List (List Int)):Prop:=Us.length=Ys.length/\∀ (i:Nat) U Y,Us[i]?=some U->Ys[i]?=some Y->Rp U Y
theorem cn_flat (Ys:List (List Int)) (m:Int):cn Ys.flatten m=(Ys.map fun Y=>cn Y m).sum:=by
  induction Ys with
  | nil=>simp[cn_nil]
  | cons Y Ys ih=>rw[List.flatten_cons,cn_app,ih,List.map_cons,List.sum_cons]
theorem RpL.cons {U Y:List Int}{Us Ys:List (List Int)} (h:RpL (U::Us) (Y::Ys)):Rp U Y/\RpL Us Ys :=
  ⟨h.2 0 U Y rfl rfl,by have:=h.1;simpa using this,fun i u y a b=>h.2 (i+1) u y (by simpa using a) (by simpa using b)⟩
theorem RpL.sum:∀ {Us Ys:List (List Int)},RpL Us Ys->∀ m:Nat,(Us.map fun U=>U.getD m 0).sum=(Ys.map fun Y=>cn Y (m:Int)).sum
  | [],[],_,_=>rfl
  | [],_::_,h,_=>absurd h.1 (by simp)
  | _::_,[],h,_=>absurd h.1 (by simp)
  | U::Us,Y::Ys,h,m=>by
    obtain⟨a,b⟩:=h.cons
    rw[List.map_cons,List.sum_cons,List.map_cons,List.sum_cons,a.at m,RpL.sum b m]
theorem RpL.all {Us Ys:List (List Int)} (h:RpL Us Ys) {L:Nat} (hL:∀ U∈Us,U.length<=L):Rp (vec L fun m=>(Us.map fun U=>U.getD m 0).sum) Ys.flatten:=by
  refine Rp.of (fun m hm=>?_) fun m hm=>?_
  · rw[vec_len] at hm
    rw[List.getD_eq_getElem?_getD,vec_at hm,cn_flat,<- h.sum m]
    rfl
  · rw[vec_len]
    obtain⟨Y,hY,hmY⟩:=List.mem_flatten.mp hm
    obtain⟨i,hi,rfl⟩:=List.getElem_of_mem hY
    have hU:Us[i]?=some (Us[i]'(by rw[h.1];exact hi)):=List.getElem?_eq_getElem _
    have:=(h.2 i _ _ hU (List.getElem?_eq_getElem hi)).2 m hmY
    have:=hL _ (List.mem_of_getElem? hU)
    omega
def exr (xs:List Int) (i:Nat):List Int:=((List.range i).map fun (m:Nat)=>List.replicate (cn xs m).toNat (m:Int)).flatten
theorem exr_succ (xs:List Int) (i:Nat):exr xs (i+1)=exr xs i++List.replicate (cn xs i).toNat (i:Int):=by
  unfold exr
  rw[List.range_succ,List.map_append,List.flatten_append]
  simp
theorem exr_lt (xs:List Int):∀ i,∀ y∈exr xs i,0<=y/\y<i
  | 0,y,h=>by simp[exr] at h
  | i+1,y,h=>by
    rw[exr_succ] at h
    rcases List.mem_append.mp h with h | h
    · have:=exr_lt xs i y h
      omega
    · have:=List.eq_of_mem_replicate h
      omega
theorem exr_srt (xs:List Int):∀ i,(exr xs i).Pairwise (·<=·)
  | 0=>by simp[exr]
  | i+1=>by
    rw[exr_succ,List.pairwise_append]
    refine⟨exr_srt xs i,List.pairwise_replicate.mpr (.inr (Int.le_refl _)),fun a ha b hb=>?_⟩
    have:=exr_lt xs i a ha
    have:=List.eq_of_mem_replicate hb
    omega
theorem cn_rep (n:Nat) (a m:Int):cn (List.replicate n a) m=if m=a then n else 0:=by
  induction n with
  | zero=>simp[cn_nil]
  | succ n ih=>
    rw[List.replicate_succ,cn_cons,ih]
    by_cases h:m=a
    · rw[if_pos h,if_pos h,if_pos h];omega
    · rw[if_neg h,if_neg h,if_neg h];omega
theorem exr_cn (xs:List Int) (m:Int):∀ i:Nat,cn (exr xs i) m=if 0<=m/\m<i then cn xs m else 0
  | 0=>by simp[exr,cn_nil];omega
  | i+1=>by
    rw[exr_succ,cn_app,exr_cn xs m i,cn_rep]
    have h0:=cn_pos xs i
    by_cases e:m=i
    · subst e
      rw[if_neg (by omega),if_pos rfl,if_pos (by omega)]
      omega
    · rw[if_neg e]
      by_cases h:0<=m/\m<i
      · rw[if_pos h,if_pos (by omega)];omega
      · rw[if_neg h,if_neg (by omega)];omega
theorem perm_of_cn {xs ys:List Int} (h:∀ m,cn xs m=cn ys m):xs.Perm ys:=List.perm_iff_count.mpr fun m=>by
  have:=h m
  unfold cn at this
  omega
theorem exr_perm {xs:List Int}{i:Nat} (h:∀ m∈xs,0<=m/\m<i):(exr xs i).Perm xs:=perm_of_cn fun m=>by
  rw[exr_cn]
  by_cases z:0<=m/\m<i
  · rw[if_pos z]
  · rw[if_neg z]
    exact (cn_zero.mpr fun w=>z (h m w)).symm
def SS (c:Bool) (p:Nat):Nat->List (List Int):=if c then casN p else num p
def BstJ (S:Nat->List (List Int)) (L:Nat) (j:Int) (v:Int):Prop:=(v = -1/\∀ n,n<L->gS S j n=none)∨(0<=v/\(∃ n,n<L/\gS S j n=some v)/\∀ n u,n<L->gS S j n=some u->v<=u)
structure BestF (S:Nat->List (List Int)) (L most:Nat) (F:List Int):Prop where
  len:F.length=most+1
  at_:∀ j:Nat,1<=j->j<=most->BstJ S L j (F.getD j 0)
end Lv
namespace Lv
open PySem L2
def SL (c:Bool) (n i:Nat):List (Nat × Bool) :=
  if c then (if i=0 then (List.range (n - 1)).map (fun o=>(o,true))++[(n - 1,false)] else (List.range (n - i)).map (fun o=>(o,true)))
  else if i+1=n then [(0,true)] else [(0,true),(i+1,false)]
def pk {α:Type} (A B:List α) (d:α) (q:Nat × Bool):α:=(if q.2 then A else B).getD q.1 d
theorem SL_lt {c:Bool}{n i:Nat} (h2:2<=n) (hi:i<n):∀ q∈SL c n i,q.1<n:=fun q hq=>by
  unfold SL at hq
  split at hq
  · split at hq
    · rcases List.mem_append.mp hq with z | z
      · obtain⟨o,ho,rfl⟩:=List.mem_map.mp z
        have:=List.mem_range.mp ho
        show o<n
        omega
      · rw[List.mem_singleton] at z
        subst z
        show n - 1<n
        omega
    · obtain⟨o,ho,rfl⟩:=List.mem_map.mp hq
      have:=List.mem_range.mp ho
      show o<n
      omega
  · split at hq
    · rw[List.mem_singleton] at hq
      subst hq
      show 0<n
      omega
    · simp at hq
      rcases hq with rfl | rfl
      · show 0<n
        omega
      · show i+1<n
        omega
theorem SL_len {c:Bool}{n i:Nat} (h2:2<=n) (hi:i<n):1<=(SL c n i).length/\(SL c n i).length<=n:=by
  unfold SL
  split
  · split
    · simp
      omega
    · simp
      omega
  · split
    · simp
      omega
    · simp
      omega
theorem take_pk {α:Type}{A B:List α}{d:α}:∀ {k:Nat},k<=A.length->A.take k=((List.range k).map fun o=>(o,true)).map (pk A B d)
  | 0,_=>by simp
  | k+1,h=>by
    rw[List.take_add_one,take_pk (Nat.le_of_succ_le h),List.range_succ,List.map_append,List.map_append,List.getElem?_eq_getElem (by omega)]
    congr 1
    show [A[k]]=[A.getD k d]
    rw[List.getD_eq_getElem?_getD,List.getElem?_eq_getElem (by omega)]
    rfl
theorem cn_pk (N:List (List Int)) (m:Int) (b:Bool) (o:Nat):cn (pk (N.map up1) N [] (o,b)) m=cn (N.getD o []) (m - (if b then 1 else 0)):=by
  cases b
  · show cn (N.getD o []) m=cn (N.getD o []) (m - 0)
    rw[Int.sub_zero]
  · show cn ((N.map up1).getD o []) m=cn (N.getD o []) (m - 1)
    rw[<- cn_up1,List.getD_eq_getElem?_getD,List.getD_eq_getElem?_getD,List.getElem?_map]
    cases N[o]? <;> rfl
theorem rng_trs (N:List (List Int)) (m:Int):∀ k:Nat,((((List.range k).map fun o=>(o,true)).map (pk (N.map up1) N [])).map fun Y=>cn Y m).sum=trs (fun o=>cn (N.getD o []) (m - 1)) k
  | 0=>rfl
  | k+1=>by
    rw[List.range_succ,List.map_append,List.map_append,List.map_append,List.sum_append,rng_trs N m k,trs]
    show _+(cn (pk (N.map up1) N [] (k,true)) m+0)=_
    rw[cn_pk,Int.add_zero]
    rfl
theorem SL_cnK {N:List (List Int)}{i:Nat} (h2:2<=N.length) (hi:i<N.length) (m:Int):cn ((nextKN N).getD i []) m=cn ((SL true N.length i).map (pk (N.map up1) N [])).flatten m:=by
  have hi':i<(nextKN N).length:=by rw[nextKN_len];exact hi
  have hx:(nextKN N)[i]?=some (nextKN N)[i]:=List.getElem?_eq_getElem hi'
  rw[cn_flat,List.getD_eq_getElem?_getD,hx,Option.getD_some,nextK_cn (by omega) hx]
  show _=(((if i=0 then (List.range (N.length - 1)).map (fun o=>(o,true))++[(N.length - 1,false)] else (List.range (N.length - i)).map (fun o=>(o,true))).map _).map _).sum
  split
  · rename_i z
    subst z
    rw[List.map_append,List.map_append,List.sum_append,rng_trs]
    show _=_+(cn (pk (N.map up1) N [] (N.length - 1,false)) m+0)
    rw[cn_pk,Int.add_zero,show N.length - 0=(N.length - 1)+1 by omega,trs]
    congr 1
    · refine trs_congr fun j hj=>?_
      rw[show mre N.length 0 j=1 from if_pos (Or.inr hj)]
    · show cn _ (m - mre N.length 0 (N.length - 1))=cn _ (m - 0)
      rw[show mre N.length 0 (N.length - 1)=0 from if_neg (by omega)]
  · rename_i z
    rw[rng_trs]
    refine trs_congr fun j hj=>?_
    rw[show mre N.length i j=1 from if_pos (Or.inl (by omega))]
theorem SL_cnN {N:List (List Int)}{i:Nat} (h2:2<=N.length) (hi:i<N.length) (m:Int):cn ((nextN N).getD i []) m=cn ((SL false N.length i).map (pk (N.map up1) N [])).flatten m:=by
  obtain⟨A,B,rfl⟩:∃ A B,N=A::B:=by
    cases N with
    | nil=>simp at h2
    | cons A B=>exact⟨A,B,rfl⟩
  have e:nextN (A::B)=B.map (up1 A++·)++[up1 A]:=rfl
  rw[e]
  show _=cn (((if i+1=(A::B).length then [(0,true)] else [(0,true),(i+1,false)])).map _).flatten m
  simp only[List.length_cons] at hi ⊢
  split
  · rename_i z
    rw[List.getD_eq_getElem?_getD,List.getElem?_append_right (by rw[List.length_map];omega),List.length_map,show i - B.length=0 by omega]
    show cn (up1 A) m=cn (up1 A++[]) m
    rw[List.append_nil]
  · rename_i z
    have hB:i<B.length:=by omega
    rw[List.getD_eq_getElem?_getD,List.getElem?_append_left (by rw[List.length_map];omega),List.getElem?_map]
    show _=cn (up1 A++(((A::B).getD (i+1) [])++[])) m
    rw[List.append_nil,List.getD_eq_getElem?_getD,List.getElem?_cons_succ,List.getElem?_eq_getElem hB]
    rfl
theorem pk_rp {Rs N:List (List Int)} (h:RpL Rs N) {q:Nat × Bool} (hq:q.1<N.length):Rp (pk (Rs.map (0::·)) Rs [] q) (pk (N.map up1) N [] q):=by
  obtain⟨o,b⟩:=q
  have ho:o<N.length:=hq
  have ho':o<Rs.length:=by rw[h.1];exact ho
  have e1:Rs[o]?=some Rs[o]:=List.getElem?_eq_getElem ho'
  have e2:N[o]?=some N[o]:=List.getElem?_eq_getElem ho
  have r:=h.2 o _ _ e1 e2
  cases b
  · show Rp (Rs.getD o []) (N.getD o [])
    rw[List.getD_eq_getElem?_getD,List.getD_eq_getElem?_getD,e1,e2]
    exact r
  · show Rp ((Rs.map (0::·)).getD o []) ((N.map up1).getD o [])
    rw[List.getD_eq_getElem?_getD,List.getD_eq_getElem?_getD,List.getElem?_map,List.getElem?_map,e1,e2]
    exact r.up
theorem pk_rpl {Rs N:List (List Int)} (h:RpL Rs N) {L:List (Nat × Bool)} (hL:∀ q∈L,q.1<N.length):RpL (L.map (pk (Rs.map (0::·)) Rs [])) (L.map (pk (N.map up1) N [])):=by
  refine⟨by simp,fun i U Y h1 h2=>?_⟩
  rw[List.getElem?_map,Option.map_eq_some_iff] at h1 h2
  obtain⟨q,hq,rfl⟩:=h1
  obtain⟨q',hq',rfl⟩:=h2
  rw[hq] at hq'
  cases hq'
  exact pk_rp h (hL q (List.mem_of_getElem? hq))
theorem pk_len {Rs:List (List Int)}{M:Nat} (h:∀ R∈Rs,R.length<=M) {q:Nat × Bool} (hq:q.1<Rs.length):(pk (Rs.map (0::·)) Rs [] q).length<=M+1:=by
  obtain⟨o,b⟩:=q
  have ho:o<Rs.length:=hq
  have e1:Rs[o]?=some Rs[o]:=List.getElem?_eq_getElem ho
  have:=h _ (List.getElem_mem ho)
  cases b
  · show (Rs.getD o []).length<=_
    rw[List.getD_eq_getElem?_getD,e1]
    exact Nat.le_succ_of_le this
  · show ((Rs.map (0::·)).getD o []).length<=_
    rw[List.getD_eq_getElem?_getD,List.getElem?_map,e1]
    exact Nat.succ_le_succ this
theorem pk_lls {H:Hp}{ms rs:List Addr}{Rs:List (List Int)}{d:Addr} (h1:LLs H ms (Rs.map (0::·))) (h2:LLs H rs Rs) {L:List (Nat × Bool)} (hL:∀ q∈L,q.1<Rs.length):LLs H (L.map (pk ms rs d)) (L.map (pk (Rs.map (0::·)) Rs [])):=by
  have l1:ms.length=Rs.length:=by rw[h1.1,List.length_map]
  have l2:=h2.1
  refine⟨by simp,fun i U Y h1' h2'=>?_⟩
  rw[List.getElem?_map,Option.map_eq_some_iff] at h1' h2'
  obtain⟨q,hq,rfl⟩:=h1'
  obtain⟨q',hq',rfl⟩:=h2'
  rw[hq] at hq'
  cases hq'
  have ho:=hL q (List.mem_of_getElem? hq)
  obtain⟨o,b⟩:=q
  have ho:o<Rs.length:=ho
  cases b
  · show H (rs.getD o d)=some (.lst ((Rs.getD o []).map V.int))
    rw[List.getD_eq_getElem?_getD,List.getD_eq_getElem?_getD,List.getElem?_eq_getElem ho,List.getElem?_eq_getElem (by omega:o<rs.length)]
    exact h2.2 o _ _ (List.getElem?_eq_getElem (by omega:o<rs.length)) (List.getElem?_eq_getElem ho)
  · show H (ms.getD o d)=some (.lst (((Rs.map (0::·)).getD o []).map V.int))
    have ho':o<(Rs.map (0::·)).length:=by rw[List.length_map];exact ho
    rw[List.getD_eq_getElem?_getD,List.getD_eq_getElem?_getD,List.getElem?_eq_getElem ho',List.getElem?_eq_getElem (by omega:o<ms.length)]
    exact h1.2 o _ _ (List.getElem?_eq_getElem (by omega:o<ms.length)) (List.getElem?_eq_getElem ho')
theorem lls_had {H:Hp}{us:List Addr}{Us:List (List Int)} (h:LLs H us Us):∀ u∈us,∃ o,H u=some o:=fun u hu=>by
  obtain⟨j,hj⟩:=List.getElem?_of_mem hu
  have hl:=(List.getElem?_eq_some_iff.mp hj).1
  rw[h.1] at hl
  exact⟨_,h.2 j u _ hj (List.getElem?_eq_getElem hl)⟩
theorem SL_z (n:Nat):SL true n 0=(List.range (n - 1)).map (fun o=>(o,true))++[(n - 1,false)]:=rfl
theorem SL_s {n i:Nat} (h:i≠0):SL true n i=(List.range (n - i)).map (fun o=>(o,true)):=by
  unfold SL
  rw[if_pos rfl,if_neg h]
theorem SL_l {n i:Nat} (h:i+1=n):SL false n i=[(0,true)]:=by
  unfold SL
  rw[if_neg (by decide),if_pos h]
theorem SL_m {n i:Nat} (h:i+1≠n):SL false n i=[(0,true),(i+1,false)]:=by
  unfold SL
  rw[if_neg (by decide),if_neg h]
theorem take_last {α:Type}{xs:List α}{n:Nat} (d:α) (h:xs.length=n+1):xs=xs.take n++[xs.getD n d]:=by
  have:xs.take (n+1)=xs:=List.take_of_length_le (by omega)
  rw[List.take_add_one,List.getElem?_eq_getElem (by omega)] at this
  rw[List.getD_eq_getElem?_getD,List.getElem?_eq_getElem (by omega)]
  exact this.symm
theorem at_last {xs:List Addr}{n:Nat} (d:Addr) (h:xs.length=n+1):atI (xs.map V.ref) (-1)=some (.ref (xs.getD n d)) :=
  (congrArg (fun z:List Addr=>atI (z.map V.ref) (-1)) (take_last d h)).trans (by rw[List.map_append];exact atI_last _ _)
theorem at_ref {xs:List Addr}{n:Nat} (d:Addr) (h:n<xs.length):atI (xs.map V.ref) (n:Int)=some (.ref (xs.getD n d)):=by
  refine atI_nat ?_
  rw[List.getElem?_map,List.getD_eq_getElem?_getD,List.getElem?_eq_getElem h]
  rfl
theorem cut_nat {xs:List Addr}{k:Nat} (h:k<=xs.length):cutV (xs.map V.ref) none (some (k:Int))=(xs.take k).map V.ref:=by
  show ((xs.map V.ref).drop 0).take (HT.sIx (xs.map V.ref).length (xs.map V.ref).length (some ((k:Nat):Int)) - 0)=_
  rw[HT.sIx_nat,Nat.sub_zero,List.drop_zero,List.length_map,Nat.min_eq_left h,List.map_take]
theorem cut_lastH {xs:List Addr}{n:Nat} (h:xs.length=n+1):cutV (xs.map V.ref) none (some (-1))=(xs.take n).map V.ref:=by
  show ((xs.map V.ref).drop 0).take ((-1+((xs.map V.ref).length:Int)).toNat - 0)=_
  rw[Nat.sub_zero,List.drop_zero,List.length_map,List.map_take,show (-1+(xs.length:Int)).toNat=n by omega]
theorem RpL.snoc {Us Ys:List (List Int)}{U Y:List Int} (h:RpL Us Ys) (r:Rp U Y):RpL (Us++[U]) (Ys++[Y]):=by
  refine⟨by simp[h.1],fun i A B h1 h2=>?_⟩
  rcases Nat.lt_or_ge i Us.length with z | z
  · rw[List.getElem?_append_left z] at h1
    rw[List.getElem?_append_left (by rw[<- h.1];exact z)] at h2
    exact h.2 i A B h1 h2
  · rw[List.getElem?_append_right z] at h1
    rw[List.getElem?_append_right (by rw[<- h.1];exact z)] at h2
    have e1:A=U:=by simpa using List.mem_of_getElem? h1
    have e2:B=Y:=by simpa using List.mem_of_getElem? h2
    subst e1 e2
    exact r
theorem rep_vec (n:Nat):(List.replicate n [V.int 0]).flatten=(vec n fun _=>0).map V.int:=by
  have:(List.replicate n [V.int 0]).flatten=List.replicate n (V.int 0):=by
    induction n with
    | zero=>rfl
    | succ n ih=>rw[List.replicate_succ,List.flatten_cons,ih,List.replicate_succ];rfl
  rw[this]
  unfold vec
  rw[List.map_map]
  refine (List.ext_getElem? fun j=>?_)
  rw[List.getElem?_replicate,List.getElem?_map]
  by_cases h:j<n
  · rw[if_pos h,List.getElem?_range h];rfl
  · rw[if_neg h,List.getElem?_eq_none (by simpa using h)];rfl
end Lv
namespace Lv
open PySem L2
def big61:Int:=10000000000000000000000000000000000000000000000000000000000000
def upI:List Int->Bool
  | []=>true
  | [_]=>true
  | a::b::r=>decide (a<=b) && upI (b::r)
inductive El (H:Hp):V->Prop
  | int {z:Int} (h1:-big61 - 2<z) (h2:z<big61+2):El H (.int z)
  | bl (b:Bool):El H (.bl b)
  | non:El H .non
  | str {x:Str} (h:x.length<=400) (hc:∀ c∈x.cps.toList,c<16 ^ 8):El H (.str x)
  | lst {a:Addr}{zs:List Int} (e:H a=some (.lst (zs.map V.int))) (hl:zs.length<=3) (hb:∀ z∈zs,-big61 - 2<z/\z<big61+2):El H (.ref a)
  | tup {a:Addr}{zs:List Int} (e:H a=some (.tup (zs.map V.int))) (hl:zs.length<=3) (hb:∀ z∈zs,-big61 - 2<z/\z<big61+2):El H (.ref a)
inductive Lf (H:Hp):V->Prop
  | non:Lf H .non
  | int (i:Int) (h:i=7):Lf H (.int i)
  | bl (b:Bool):Lf H (.bl b)
  | str (x:Str):Lf H (.str x)
  | d0 {a:Addr} (e:H a=some (.dK [])):Lf H (.ref a)
  | d1 {a:Addr} (e:H a=some (.dK [(.inl 1,.int 2)])):Lf H (.ref a)
structure Sh (d:PyData) (n:Nat):Prop where
  ok:d.showable=true
  nd:d.hasDict=false
  dp:d.depth<=1
  sz:d.shown.length<=n
end Lv
namespace Lv
open PySem L2
def Free (N:List (List Int)) (m:List Nat) (o:Int):Prop:=0<=o/\o<N.length/\m.getD o.toNat 0≠(N.getD o.toNat []).length
instance (N:List (List Int)) (m:List Nat) (o:Int):Decidable (Free N m o):=by unfold Free;infer_instance
def nextM (m:List Nat) (o:Int):List Nat:=m.set o.toNat (m.getD o.toNat 0+1)
def atO (N:List (List Int)) (m:List Nat) (o:Int):Int:=(N.getD o.toNat []).getD (m.getD o.toNat 0) 0
def hold (N:List (List Int)):List Nat->List Int->List Int->Option (List Nat × List Int)
  | m,t,[]=>some (m,t)
  | m,t,o::os=>if Free N m o then hold N (nextM m o) (t++[atO N m o]) os else none
def InM (N:List (List Int)) (m:List Nat):Prop:=m.length=N.length/\∀ j,j<N.length->m.getD j 0<=(N.getD j []).length
end Lv
namespace Lv
open PySem L2
def lenN (N:List (List Int)):List Nat:=N.map List.length
def opn (N:List (List Int)) (m:List Nat) (j:Nat):Bool:=decide (m.getD j 0<(N.getD j []).length)
def opnL (N:List (List Int)) (m:List Nat):List Nat:=(List.range N.length).filter (opn N m)
structure OrS (N:List (List Int)) (m:List Nat) (t os:List Int):Prop where
  hd:hold N (N.map fun _=>0) [] os=some (m,t)
  up:upI t=true
  lst:∀ l,t.getLast?=some l->∀ j∈opnL N m,l<=atO N m j
  inm:InM N m
  sm:m.sum=os.length
end Lv
namespace L2
open PySem PySem.Spec PyProof.Rows PySem.SeqAt
def ItlB (b:Bool) (K:PySem.W.Frag) (a:Addr):It:=match b with | true=>Itl K a | false=>Itt K a
def iSeqB (K:PySem.W.Frag) (tl:TE):TI:=fun σ H R=>tl σ H fun x H1=>∃ a b,x=.ref a/\(∃ xs,SqB b K H1 a xs)/\R (ItlB b K a) H1
theorem piK_seqB (K:PySem.W.Frag) {X:Cx}{tg l:Expr}{tl:TE} (hl:PE X l tl) (hK:X.K=K:=by rfl):PI X tg l (iSeqB K tl):=by
  subst hK
  intro pins s σ H R I h
  refine thn (hl pins s σ H _ I h) fun v s1 ⟨x,H1,I1,r1,q1⟩=>?_
  obtain⟨a,b,e,⟨xs,hq⟩,q⟩:=q1
  subst e
  cases r1
  have fp:∀ b∈[s1.heap.objs.size],FpOk X pins H1 b:=fun b hb=>by
    have e:b=s1.heap.objs.size:=by simpa using hb
    subst e
    exact I1.fpOk (Nat.le_refl _) (I1.hok.fresh (Nat.le_refl _))
  cases b with
  | true=>
    obtain⟨its,rv,p,hz⟩:=I1.list hq
    exact wpAny_pyIter_list p.isList ⟨s1.heap.objs.size,[s1.heap.objs.size],_,_,H1,rfl,I1.kept (t':=s1.toks) fun b o e=>Heap.get?_push_of_some _ e,turn_list a _,⟨_,Heap.get?_push_size _ rfl,rfl,rfl⟩,fp,q⟩
  | false=>
    obtain⟨its,rv,p,hz⟩:=I1.tuple hq
    exact wpAny_pyIter_tuple (show s1.heap.IsTuple a its.toArray from p) ⟨s1.heap.objs.size,[s1.heap.objs.size],_,_,H1,rfl,I1.kept (t':=s1.toks) fun b o e=>Heap.get?_push_of_some _ e,turn_tuple a _,⟨_,Heap.get?_push_size _ rfl,rfl,rfl⟩,fp,q⟩
theorem pi_seqB {X:Cx}{tg l:Expr}{tl:TE} (hl:PE X l tl):PI X tg l (iSeqB X.K tl):=piK_seqB X.K hl
theorem itlB_go {b:Bool}{K:PySem.W.Frag}{H:Hp}{a:Addr}{xs:List V}{i:Nat} (q:SqB b K H a xs) (hi:i<xs.length):(ItlB b K a).go i H:=by
  cases b <;> exact⟨xs,xs[i],q,List.getElem?_eq_getElem hi⟩
theorem itlB_yld {b:Bool}{K:PySem.W.Frag}{H H':Hp}{a:Addr}{xs:List V}{i:Nat}{x:V} (q:SqB b K H a xs) (y:(ItlB b K a).yld i H x H'):H'=H/\xs[i]?=some x:=by
  cases b <;> exact⟨y.1,y.2 xs q⟩
theorem itlB_stop {b:Bool}{K:PySem.W.Frag}{H:Hp}{a:Addr}{xs:List V}{i:Nat} (q:SqB b K H a xs) (hi:xs.length<=i):(ItlB b K a).stop i H:=by
  cases b <;> exact⟨xs,q,hi⟩
theorem iteB_go {b:Bool}{K:PySem.W.Frag}{H:Hp}{a:Addr}{xs:List V}{i:Nat} (q:SqB b K H a xs) (hi:i<xs.length):(IteB b K a).go i H:=by
  cases b <;> exact⟨xs,xs[i],q,List.getElem?_eq_getElem hi⟩
theorem iteB_yld {b:Bool}{K:PySem.W.Frag}{H H':Hp}{a:Addr}{xs:List V}{i:Nat}{x:V} (q:SqB b K H a xs) (y:(IteB b K a).yld i H x H'):∃ p z,H p=none/\x=.ref p/\H'=upd H p (.tup [.int i,z])/\xs[i]?=some z:=by
  cases b with
  | true=>obtain⟨p,z,hp,e1,e2,y⟩:=y;exact⟨p,z,hp,e1,e2,y xs q⟩
  | false=>obtain⟨p,z,hp,e1,e2,y⟩:=y;exact⟨p,z,hp,e1,e2,y xs q⟩
theorem iteB_stop {b:Bool}{K:PySem.W.Frag}{H:Hp}{a:Addr}{xs:List V}{i:Nat} (q:SqB b K H a xs) (hi:xs.length<=i):(IteB b K a).stop i H:=by
  cases b <;> exact⟨xs,q,hi⟩
section
variable {b:Bool}{K:PySem.W.Frag}{own:List Str}{js:List Nat}{g1 g2 g:TG}{tt1 tt2 tt:TT}{wi2:TI}{te:TE}{σ τ:St}{H1 H6:Hp}{Q:VK}{a acc:Addr}{xs:List V}
theorem comp_seqB (Pv:Addr->Nat->Hp->Prop) (h0:∀ acc,H1 acc=none->Pv acc 0 (upd H1 acc (.lst []))) (hl:∀ acc i H,H1 acc=none->i<=xs.length->Pv acc i H->SqB b K H a xs)
    (hs:∀ acc i x H,H1 acc=none->xs[i]?=some x->Pv acc i H->g x (blkσ own js σ) H fun τ H4=>tt τ H4 fun c H5=>
      if c=true then te τ H5 fun y H6=>∃ ys,H6 acc=some (.lst ys)/\ys.length<sizeLine/\(i+1<=xs.length/\Pv acc (i+1) (upd H6 acc (.lst (ys++[y])))) else (i+1<=xs.length/\Pv acc (i+1) H5))
    (hd:∀ acc H,H1 acc=none->Pv acc xs.length H->Q (.ref acc) H):tCompW own js g tt te σ (ItlB b K a) H1 Q:=by
  intro acc hacc
  refine⟨fun i H=>i<=xs.length/\Pv acc i H,xs.length,⟨Nat.zero_le _,h0 acc hacc⟩,?_⟩
  rintro i H ⟨hi,p⟩
  have q:=hl acc i H hacc hi p
  rcases Nat.lt_or_ge i xs.length with hlt | hge
  · refine .inr ⟨hlt,itlB_go q hlt,fun x H' y=>?_⟩
    obtain⟨rfl,hx⟩:=itlB_yld q y
    exact hs acc i x _ hacc hx p
  · obtain rfl:i=xs.length:=by omega
    exact .inl ⟨itlB_stop q (Nat.le_refl _),hd acc H hacc p⟩
theorem comp2_enumB (Pv:Addr->Nat->Hp->Prop) (h0:∀ acc,H1 acc=none->Pv acc 0 (upd H1 acc (.lst []))) (hl:∀ acc i H,H1 acc=none->i<=xs.length->Pv acc i H->SqB b K H a xs)
    (hs:∀ acc i x p H,H1 acc=none->xs[i]?=some x->Pv acc i H->H p=none->g1 (.ref p) (blkσ own js σ) (upd H p (.tup [.int i,x])) fun τ H4=>tt1 τ H4 fun c H5=>
      if c=true then wi2 τ H5 fun J2 H6=>tInW g2 tt2 te τ acc J2 H6 (fun H7=>i+1<=xs.length/\Pv acc (i+1) H7) else (i+1<=xs.length/\Pv acc (i+1) H5))
    (hd:∀ acc H,H1 acc=none->Pv acc xs.length H->Q (.ref acc) H):tComp2W own js g1 tt1 wi2 g2 tt2 te σ (IteB b K a) H1 Q:=by
  intro acc hacc
  refine⟨fun i H=>i<=xs.length/\Pv acc i H,xs.length,⟨Nat.zero_le _,h0 acc hacc⟩,?_⟩
  rintro i H ⟨hi,p⟩
  have q:=hl acc i H hacc hi p
  rcases Nat.lt_or_ge i xs.length with hlt | hge
  · refine .inr ⟨hlt,iteB_go q hlt,fun x H' y=>?_⟩
    obtain⟨pa,z,hp,rfl,rfl,hx⟩:=iteB_yld q y
    exact hs acc i z pa H hacc hx p hp
  · obtain rfl:i=xs.length:=by omega
    exact .inl ⟨iteB_stop q (Nat.le_refl _),hd acc H hacc p⟩
theorem for_seqB {tb:TS}{D:Ends}{H:Hp} (Pv:Nat->St->Hp->Prop) (h0:Pv 0 σ H) (hl:∀ i σ H,i<=xs.length->Pv i σ H->SqB b K H a xs)
    (hs:∀ i x σ H,xs[i]?=some x->Pv i σ H->g x σ H fun σ2 H2=>tb { D with nx:=Pv (i+1),ct:=Pv (i+1),bk:=D.nx } σ2 H2) (hd:∀ σ H,Pv xs.length σ H->D.nx σ H) :
    ∃ W:Nat->Nat->St->Hp->Prop,(∃ m,W 0 m σ H)/\∀ i m σ H,W i m σ H ->
      ((ItlB b K a).stop i H/\D.nx σ H)∨((ItlB b K a).go i H/\∃ N:St->Hp->Prop,(∀ σ' H',N σ' H'->∃ m',m'<m/\W (i+1) m' σ' H')/\∀ x H',(ItlB b K a).yld i H x H'->g x σ H' fun σ2 H2=>tb { D with nx:=N,ct:=N,bk:=D.nx } σ2 H2):=by
  refine⟨fun i m σ H=>m=xs.length - i/\i<=xs.length/\Pv i σ H,⟨xs.length,by simp,Nat.zero_le _,h0⟩,?_⟩
  rintro i m σ H ⟨rfl,hi,p⟩
  have q:=hl i σ H hi p
  rcases Nat.lt_or_ge i xs.length with hlt | hge
  · refine .inr ⟨itlB_go q hlt,Pv (i+1),fun σ' H' z=>⟨xs.length - (i+1),by omega,rfl,hlt,z⟩,fun x H' y=>?_⟩
    obtain⟨rfl,hx⟩:=itlB_yld q y
    exact hs i x σ _ hx p
  · obtain rfl:i=xs.length:=by omega
    exact .inl ⟨itlB_stop q (Nat.le_refl _),hd σ H p⟩
end
end L2
namespace Lv
open PySem L2
def prs:Nat->List (List Int)->List Nat->List (Int × Nat)
  | k,x::N,m::ms=>(x.drop m).map (fun z=>(z,k))++prs (k+1) N ms
  | _,_,_=>[]
def lexle (p q:Int × Nat):Prop:=p.1<q.1∨(p.1=q.1/\p.2<=q.2)
structure MgS (N:List (List Int)) (m:List Nat) (tk:List (Int × Nat)):Prop where
  inm:InM N m
  perm:(tk++prs 0 N m).Perm (prs 0 N (N.map fun _=>0))
  srt:tk.Pairwise lexle
  le:∀ p∈tk,∀ q∈prs 0 N m,lexle p q
  sm:m.sum=tk.length
theorem srt_eq {a b:List Int} (h:a.Perm b) (h1:a.Pairwise (·<=·)) (h2:b.Pairwise (·<=·)):a=b :=
  List.Perm.eq_of_pairwise (fun a b _ _ h1 h2=>Int.le_antisymm h1 h2) h1 h2 h
def SeqI (H:Hp) (r:Addr) (xs:List V):Prop:=H r=some (.lst xs)∨H r=some (.tup xs)
structure RwS (H:Hp) (a:Addr) (rs:List Addr) (N:List (List Int)):Prop where
  top:SeqI H a (rs.map V.ref)
  len:rs.length=N.length
  row:∀ (j:Nat) r xs,rs[j]?=some r->N[j]?=some xs->SeqI H r (xs.map V.int)
theorem get_ref {qs:List Addr}{i:Nat}{x:V} (h:(qs.map V.ref)[i]?=some x):∃ p,qs[i]?=some p/\x=.ref p:=by
  rw[List.getElem?_map] at h
  cases e:qs[i]? with
  | none=>rw[e] at h;cases h
  | some p=>rw[e] at h;exact⟨p,rfl,(Option.some.inj h).symm⟩
structure GoodT (N:List (List Int)):Prop where
  many:N.length<=12
  tot:(lenN N).sum<=400
  bnd:∀ xs∈N,∀ z∈xs,-big61<z/\z<big61
  srt:∀ xs∈N,xs.Pairwise (·<=·)
structure GoodB (b:Nat) (N:List (List Int)):Prop where
  len:∀ xs∈N,xs.length<=b
  bnd:∀ xs∈N,∀ z∈xs,-big61<z/\z<big61
  srt:∀ xs∈N,xs.Pairwise (·<=·)
end Lv
namespace L2
open PySem PySem.Spec PyProof.Rows PySem.SeqAt
section
variable {X:Cx}
end
end L2
namespace Lv
open PySem L2
def Fr (S:List Addr) (H H':Hp):Prop:=∀ b o,H b=some o->b ∉ S->H' b=some o
abbrev Rows:=List (Option (List Int))
def datO:Option (List Int)->PyData
  | none=>.none
  | some xs=>.list (xs.map PyData.int)
def reelD (ds:Rows):PyData:=.list (ds.map datO)
def shp (D:List Rows):List (List Bool):=D.map fun ds=>ds.map Option.isSome
abbrev Cell:=Option (Addr × List Int)
abbrev Reel:=Addr × List Cell
def cV:Cell->V
  | none=>.non
  | some (r,_)=>.ref r
def cA:Cell->List Addr
  | none=>[]
  | some (r,_)=>[r]
def cOk (H:Hp):Cell->Prop
  | none=>True
  | some (r,xs)=>H r=some (.lst (xs.map V.int))
def tA (t:Reel):List Addr:=t.1::t.2.flatMap cA
def adr (T:List Reel):List Addr:=T.flatMap tA
def tOk (H:Hp) (t:Reel):Prop:=H t.1=some (.lst (t.2.map cV))/\∀ c∈t.2,cOk H c
def NRL (H:Hp) (T:List Reel):Prop:=∀ t∈T,tOk H t
def TB (H:Hp) (tr:List Addr) (B:List (List Bool)):Prop:=tr.length=B.length/\∀ (j:Nat) r bs,tr[j]?=some r->B[j]?=some bs->H r=some (.tup (bs.map V.bl))
end Lv
namespace Lv
open PySem L2
def St (S:List Addr) (H:Hp) (Φ:Hp->Prop):Prop:=∀ H',Fr S H H'->Φ H'
structure Bld (S:List Addr) (H:Hp) (us:List V) (rs tr:List Addr) (D:List Rows) (R:List (List Int)):Prop where
  due:St S H fun H'=>RdL H' us (D.map reelD)
  rows:St S H fun H'=>LLs H' rs R
  lay:St S H fun H'=>TB H' tr (shp D)
end Lv
namespace Lv
open PySem L2
end Lv
namespace Lv
open PySem L2
def les (m x:Int):Int:=if x - m > 0 then x - m else 0
def behindP (c:List Int) (out:Nat) (m:Int):List Int:=(c.map (les m)).set out m
def LeAll (a b:List Int):Prop:=a.length=b.length/\∀ j:Nat,a.getD j 0<=b.getD j 0
def Cov (c L:List Int):Prop:=∃ l:List Int,l.Perm (c)/\LeAll l (L++[0])
end Lv
namespace L2
open PySem PySem.Spec PyProof.Rows PySem.SeqAt
section
variable {X:Cx}
end
end L2
namespace Lv
open PySem L2
def CovL (L r:List Int):Prop:=∀ j,j<L.length->r.getD j 0<=L.getD j 0
instance (L r:List Int):Decidable (CovL L r):=inferInstanceAs (Decidable (∀ j,j<L.length->r.getD j 0<=L.getD j 0))
def big:Int:=1000000000000000000000000000000000000000000000000000000000000
structure Stand (p:Nat) (st:List Int):Prop where
  p2:2<=p
  p7:p<=7
  len:st.length=p+1
  nn:∀ x∈st,0<=x
  le:∀ x∈st,x<=big
  zero:(0:Int)∈st
  pos:∃ x∈st,1<=x
def mxl:List Int->Int
  | []=>0
  | x::r=>if mxl r > x then mxl r else x
structure On (p:Nat) (c:List Int) (n:Nat):Prop where
  len:c.length=p+1
  cov:Cov c (cnt p n)
  nn:∀ x∈c,0<=x
  pos:∃ x∈c,1<=x
end Lv
namespace Lv
open PySem L2
end Lv
namespace Lv
open PySem L2
end Lv
namespace L2
open PySem PySem.Spec PyProof.Rows
section
variable {X:Cx}
end
end L2
namespace Lv
open PySem L2
end Lv
namespace L2
open PySem PySem.Spec PyProof.Rows PySem.W
abbrev VB:List Value:=[.type "ValueError",.type "Exception",.type "BaseException",.type "object"]
def excInI (K:Frag) (C:Addr):Bool:=match K.lookup C with
  | some ⟨.type "type",_,.cls cd,sl⟩=>(match cd.mro,sl.toList with
    | .ref D::bm,[_,_,_,_,some (.builtin n),_]=>D == C && (n == "ValueError.__new__" && (!cd.hasDel && (tailIn K VB bm && (nsOkIn K cd.ns && cd.hasDict))))
    | _,_=>false)
  | _=>false
def excAllI (K:Frag) (C fI:Addr):Bool:=excInI K C && (excRest K C && (findIn K (.ref C) "__setattr__" == some (some (.builtin "object.__setattr__")) && (findIn K (.ref C) "at" == some none && (isFn K (.ref fI) && (keepIn K (.ref C) && findIn K (.ref C) "__init__" == some (some (.ref fI)))))))
section
variable {prog:Program}{w:World}{A:Around}{E:Value->Shared->Prop}{s:Shared}{K:Frag}{x C fI:Addr}{v:Value}
abbrev newExc (C t:Addr):Obj:={ cls:=.ref C,data:=.fields #[.ref t,.none,.none,.none,.bool false,.none] }
end
end L2
namespace L2
open PySem PySem.Spec PyProof.Rows PySem.W
section
variable {X:Cx}{o value:Expr}{pos pos':Pos}{ta tv:TE}{C fI:Addr}
end
end L2
namespace Lv
open PySem L2 PySem.W
structure ExcTabI (K:Frag) (reel C fI:Addr) (all:List Addr):Prop where
  ok:excAllI K C fI=true
  exm:exmOne K (.ref C) (.ref reel)=some true
  exmS:exmOne K (.ref C) (.ref C)=some true
  isR:kitOne K (.ref C) (.ref reel)=some true
  isV:kitOne K (.ref C) (.type "ValueError")=some true
  one:∀ D∈all,kitOne K (.ref C) (.ref D)=some (D == C)
end Lv
namespace Lv
open PySem L2
def PhOk (c:List Int) (out m:Int):Prop:=(0<=out/\out<(c.length:Int))/\(c.getD out.toNat 0<=0/\(1<=m/\m<=mxl c))
instance (c:List Int) (out m:Int):Decidable (PhOk c out m):=by unfold PhOk;infer_instance
end Lv
namespace Lv
open PySem L2
def wk:List Int->List (Int × Int)->Nat->Except Nat (List Int)
  | c,[],_=>.ok c
  | c,(o,m)::r,i=>if PhOk c o m then wk (behindP c o.toNat m) r (i+1) else .error i
def fin (c:List Int) (ps:List (Int × Int)):Except Nat (List Int):=match wk c ps 0 with
  | .ok d=>if 1<d.sum then .error ps.length else .ok d
  | .error i=>.error i
structure Way (c0:List Int) (ps:List (Int × Int)) (i:Nat) (c:List Int):Prop where
  wk:wk c0 ps 0=wk c (ps.drop i) i
  len:c.length=c0.length
  nn:∀ x∈c,0<=x
structure Cts (p:Nat) (c:List Int):Prop where
  len:c.length=p+1
  nn:∀ x∈c,0<=x
  le:∀ x∈c,x<=big
  pos:∃ x∈c,1<=x
end Lv
namespace Lv
open PySem L2
end Lv
namespace Lv
open PySem L2
def srt (xs:List Int):List Int:=xs.mergeSort fun a b=>decide (a<=b)
theorem srt_perm (xs:List Int):(srt xs).Perm xs:=List.mergeSort_perm _ _
theorem srt_up (xs:List Int):(srt xs).Pairwise (·<=·):=by
  have h:=List.pairwise_mergeSort (le:=fun a b:Int=>decide (a<=b)) (fun a b c h1 h2=>by simp at *;omega) (fun a b=>by simp;omega) xs
  exact h.imp fun h=>by simpa using h
theorem srt_of {ms xs:List Int} (h:ms.Perm xs) (hs:ms.Pairwise (·<=·)):ms=srt xs:=srt_eq (h.trans (srt_perm xs).symm) hs (srt_up xs)
def rl90 (cs:Rows):List (List Int):=cs.filterMap id
def mrg (cs:Rows):Option (List Int):=if rl90 cs=[] then none else some (srt (rl90 cs).flatten)
def tkA (D:List Rows) (m i:Nat):Rows:=D.filterMap fun r=>(r.take m)[i]?
def phR (D:List Rows) (o m:Nat):List Rows:=(D.map (·.drop m)).set o ((List.range m).map fun i=>mrg (tkA D m i))
def thg (cs:Rows):Int:=((rl90 cs).map fun xs=>(xs.length:Int)).sum
def lns (D:List Rows):List Int:=D.map fun r=>(r.length:Int)
def allT (D:List Rows):List Int:=(rl90 D.flatten).flatten
abbrev refT (T:List Reel):List V:=T.map fun t=>V.ref t.1
def plR:List Rows->List (Int × Int)->List Rows
  | D,[]=>D
  | D,(o,m)::r=>plR (phR D o.toNat m.toNat) r
def rdR:List Rows->List (Int × Int)->List (List Int)
  | _,[]=>[]
  | D,(o,m)::r=>(D.map fun q=>thg (q.take m.toNat))::rdR (phR D o.toNat m.toNat) r
def Pls:List Rows->List (Int × Int)->Prop
  | _,[]=>True
  | D,(o,m)::r=>PhOk (lns D) o m/\Pls (phR D o.toNat m.toNat) r
end Lv
namespace Lv
open PySem L2
def dot:List Int->List Int->Int
  | w::ws,n::ns=>w*n+dot ws ns
  | _,_=>0
def fmJ (p:Int) (L:Nat):Nat:=(((L:Int) - 2) % (p - 1)+2).toNat
def hfF (p:Int):Nat->List Int->Int
  | 0,_=>0
  | k+1,ws=>if ws.length<=1 then 0 else (ws.take (fmJ p ws.length)).sum+hfF p k (srt ((ws.take (fmJ p ws.length)).sum::ws.drop (fmJ p ws.length)))
def hf (p:Int) (ws:List Int):Int:=hfF p ws.length (srt ws)
theorem srt_len (xs:List Int):(srt xs).length=xs.length:=(srt_perm xs).length_eq
theorem fm_spec {p:Int} (hp:2<=p) {L:Nat} (hL:2<=L):2<=fmJ p L/\fmJ p L<=L/\((fmJ p L:Nat):Int)<=p/\∃ q:Int,0<=q/\(L:Int)=fmJ p L+(p - 1)*q:=by
  have h1:=Int.emod_nonneg ((L:Int) - 2) (show p - 1≠0 by omega)
  have h2:=Int.emod_lt_of_pos ((L:Int) - 2) (show 0<p - 1 by omega)
  have h3:=Int.mul_ediv_add_emod ((L:Int) - 2) (p - 1)
  have h4:0<=((L:Int) - 2) / (p - 1):=Int.ediv_nonneg (by omega) (by omega)
  have h5:0<=(p - 1)*(((L:Int) - 2) / (p - 1)):=Int.mul_nonneg (by omega) h4
  have e:((fmJ p L:Nat):Int)=((L:Int) - 2) % (p - 1)+2:=by unfold fmJ;omega
  exact⟨by omega,by omega,by omega,((L:Int) - 2) / (p - 1),h4,by omega⟩
theorem fm_next {p:Int} (hp:2<=p) {L:Nat} (hL:2<=L) (h:2<=L - fmJ p L+1):((fmJ p (L - fmJ p L+1):Nat):Int)=p:=by
  obtain⟨h1,h2,h3,q,hq,e⟩:=fm_spec hp hL
  have e2:(((L - fmJ p L+1:Nat):Int) - 2)=(p - 2)+(p - 1)*(q - 1):=by
    have:(p - 1)*(q - 1)=(p - 1)*q - (p - 1):=by rw[Int.mul_sub,Int.mul_one]
    omega
  have e3:(((L - fmJ p L+1:Nat):Int) - 2) % (p - 1)=p - 2:=by
    rw[e2,Int.add_mul_emod_self_left]
    exact Int.emod_eq_of_lt (by omega) (by omega)
  unfold fmJ at e3 ⊢
  omega
theorem hfF_more {p:Int} (hp:2<=p):∀ (k:Nat) (ws:List Int),ws.length<=k->hfF p k ws=hfF p ws.length ws:=by
  intro k
  induction k using Nat.strongRecOn with
  | ind k ih=>
    intro ws h
    match k,ws,h with
    | 0,ws,h=>rw[List.length_eq_zero_iff.mp (Nat.le_zero.mp h)];rfl
    | k+1,[],h=>simp[hfF]
    | k+1,w::ws,h=>
      rw[List.length_cons,hfF,hfF]
      by_cases z:(w::ws).length<=1
      · rw[if_pos z,if_pos z]
      · rw[if_neg z,if_neg z]
        obtain⟨h1,h2,_⟩:=fm_spec hp (L:=(w::ws).length) (by omega)
        have hl:(srt (((w::ws).take (fmJ p (w::ws).length)).sum::(w::ws).drop (fmJ p (w::ws).length))).length<=ws.length:=by
          rw[srt_len,List.length_cons,List.length_drop]
          rw[List.length_cons] at h1 h2 ⊢
          omega
        have hk:ws.length<=k:=by rw[List.length_cons] at h;omega
        congr 1
        rw[ih k (by omega) _ (by omega)]
        by_cases z2:ws.length=k
        · rw[z2,ih k (by omega) _ (by omega)]
        · rw[ih ws.length (by omega) _ hl]
theorem hf_step {p:Int} (hp:2<=p) {ws:List Int} (hs:ws.Pairwise (·<=·)) (h:2<=ws.length):hf p ws=(ws.take (fmJ p ws.length)).sum+hf p ((ws.take (fmJ p ws.length)).sum::ws.drop (fmJ p ws.length)):=by
  obtain⟨h1,h2,_⟩:=fm_spec hp h
  have e:srt ws=ws:=(srt_of (List.Perm.refl ws) hs).symm
  unfold hf
  rw[e]
  have hl:((ws.take (fmJ p ws.length)).sum::ws.drop (fmJ p ws.length)).length<=ws.length - 1:=by
    rw[List.length_cons,List.length_drop]
    omega
  obtain⟨k,hk⟩:∃ k,ws.length=k+1:=⟨ws.length - 1,by omega⟩
  conv=>lhs;rw[hk,hfF,if_neg (by omega)]
  congr 1
  rw[hfF_more hp k _ (by rw[srt_len];omega),srt_len]
theorem hf_small {p:Int}{ws:List Int} (h:ws.length<=1):hf p ws=0:=by
  unfold hf
  cases e:ws.length with
  | zero=>rfl
  | succ k=>rw[hfF,if_pos (by rw[srt_len];omega)]
theorem hf_perm {p:Int}{ws vs:List Int} (h:ws.Perm vs):hf p ws=hf p vs:=by
  unfold hf
  rw[h.length_eq,srt_of ((srt_perm ws).trans h) (srt_up ws)]
end Lv
namespace L2
open PySem PySem.Spec PyProof.Rows PySem.SeqAt
section
variable {prog:Program}{w:World}{A:Around}{E:Value->Shared->Prop}{s:Shared}
end
section
variable {X:Cx}{tg:Expr}
end
end L2
namespace L2
open PySem PySem.Spec PyProof.Rows
section
variable {X:Cx}{tg:Expr}
end
end L2
namespace Lv
open PySem L2
def fol:Int->List (List Int)->Int->Nat
  | _,[],_=>0
  | m,T::L,x=>if x∈T then 1+fol (m+1) L m else fol (m+1) L x
inductive Chain (p:Nat):Int->List Int->List (List Int)->Prop
  | one (m x:Int):Chain p m [x] []
  | step (m:Int) (th T rest:List Int) (L:List (List Int)) (h1:th.Perm (T++rest)) (h2:T≠[]) (h3:T.length<=p) (h:Chain p (m+1) (rest++[m]) L):Chain p m th (T::L)
def pw (p D:Nat) (f:Int->Nat) (xs:List Int):Nat:=(xs.map fun x=>p ^ (D - f x)).sum
inductive Built (p r:Nat):List (List Int)->List Int->Prop
  | nil:Built p r [] ((List.range r).map fun (i:Nat)=>(i:Int))
  | snoc (L:List (List Int)) (th T rest:List Int) (h:Built p r L th) (h1:th.Perm (T++rest)) (h2:T≠[]) (h3:T.length<=p):Built p r (L++[T]) (rest++[((r+L.length:Nat):Int)])
def Wf (r:Nat) (L:List (List Int)):Prop:=∀ (i:Nat) T,L[i]?=some T->∀ x∈T,0<=x/\x<((r+i:Nat):Int)
def dep (r:Nat) (L:List (List Int)):List Int:=(List.range r).map fun (i:Nat)=>((fol r L i:Nat):Int)
end Lv
namespace Lv
open PySem L2
end Lv
namespace L2
open PySem PySem.Spec PyProof.Rows PySem.SeqAt
end L2
namespace Lv
open PySem L2
def upL (ks:List (List Int)):Prop:=ks.Pairwise (fun p q=>lxB q p=false)
def k0 (k:List Int):Int:=k.getD 0 0
def k1 (k:List Int):Int:=k.getD 1 0
inductive JRun (p:Nat):Nat->Int->List (List Int)->Int->List (List Int)->Prop
  | done (m:Nat) (n:Int) (ks:List (List Int)) (h:ks.length<=1):JRun p m n ks 0 []
  | step (m:Nat) (n:Int) (ks ks':List (List Int)) (r:Int) (T:List Int) (L:List (List Int)) (h2:2<=ks.length)
      (hT:T.Perm ((ks.take m).map k1)) (hT2:T.Pairwise (·<=·)) (hk:ks'.Perm (ks.drop m++[[((ks.take m).map k0).sum,n]])) (hs:upL ks')
      (h:JRun p p (n+1) ks' r L):JRun p m n ks (((ks.take m).map k0).sum+r) (T::L)
def prK (ls:List Int):List (List Int):=ls.mapIdx fun j l=>[l,(j:Int)]
theorem prK_len (ls:List Int):(prK ls).length=ls.length:=by unfold prK;simp
theorem prK_k0 (ls:List Int):(prK ls).map k0=ls:=by
  unfold prK k0
  exact List.ext_getElem (by simp) fun i h1 h2=>by simp
theorem prK_k1 (ls:List Int):(prK ls).map k1=(List.range ls.length).map fun (i:Nat)=>(i:Int):=by
  unfold prK k1
  exact List.ext_getElem (by simp) fun i h1 h2=>by simp
theorem prK_two {ls:List Int}{k:List Int} (h:k∈prK ls):∃ a b,k=[a,b]:=by
  obtain⟨j,hj⟩:=List.getElem?_of_mem h
  unfold prK at hj
  rw[List.getElem?_mapIdx] at hj
  cases e:ls[j]? with
  | none=>rw[e] at hj;cases hj
  | some l=>rw[e] at hj;cases hj;exact⟨_,_,rfl⟩
def Joined (p:Nat) (ls:List Int) (r:Int) (L:List (List Int)):Prop:=∃ ks,ks.Perm (prK ls)/\upL ks/\JRun p (fmJ p ls.length) ls.length ks r L
theorem Chain.perm {p:Nat}{m:Int}{th th':List Int}{L:List (List Int)} (h:Chain p m th L) (e:th.Perm th'):Chain p m th' L:=by
  cases h with
  | one m x=>
    have:th'=[x]:=List.perm_singleton.mp e.symm
    subst this
    exact .one m x
  | step m th T rest L h1 h2 h3 h=>exact .step m th' T rest L (e.symm.trans h1) h2 h3 h
theorem upL.fst {x y:Int}{a b:List Int} (h:lxB (y::b) (x::a)=false):x<=y:=by
  rw[lxB] at h
  by_cases e:y=x
  · omega
  · rw[if_neg e] at h
    have:=of_decide_eq_false h
    omega
theorem k_up {ks:List (List Int)} (h2:∀ k∈ks,∃ a b,k=[a,b]) (h:upL ks):(ks.map k0).Pairwise (·<=·):=by
  refine List.pairwise_map.mpr ?_
  refine List.Pairwise.imp_of_mem ?_ h
  intro p q hp hq z
  obtain⟨a,b,rfl⟩:=h2 p hp
  obtain⟨c,d,rfl⟩:=h2 q hq
  exact upL.fst z
theorem JRun.spec {p:Nat} (hp:2<=p) {m:Nat}{n:Int}{ks:List (List Int)}{r:Int}{L:List (List Int)} (a:JRun p m n ks r L):ks≠[]->(∀ k∈ks,∃ a b,k=[a,b])->(ks.map k1).Nodup->(∀ k∈ks,k1 k<n)->(2<=ks.length->m=fmJ p ks.length)->upL ks ->
    r=hf p (ks.map k0)/\Chain p n (ks.map k1) L/\r=(ks.map fun k=>k0 k*(fol n L (k1 k):Nat)).sum/\L.length+1<=ks.length/\(∀ T∈L,T.length<=p):=by
  induction a with
  | done m n ks h=>
    intro h0 h2 hnd hlt hm hup
    match ks,h,h0 with
    | [k],_,_=>exact⟨(hf_small (by simp)).symm,.one _ _,by simp[fol],by simp,fun T hT=>(nomatch hT)⟩
  | step m n ks ks' r T L hl hT hT2 hk hs h ih=>
    intro h0 h2 hnd hlt hm hup
    have em:=hm hl
    obtain⟨f1,f2,f3,_⟩:=fm_spec (p:=(p:Int)) (by omega) hl
    rw[<- em] at f1 f2 f3
    have hkl:ks'.length=ks.length - m+1:=by rw[hk.length_eq,List.length_append,List.length_drop];rfl
    have hids:(ks'.map k1).Perm ((ks.drop m).map k1++[n]):=by
      have:=hk.map k1
      rwa [List.map_append] at this
    have hsplit:(ks.map k1).Perm ((ks.take m).map k1++(ks.drop m).map k1):=by rw[<- List.map_append,List.take_append_drop]
    have hnd2:=hsplit.nodup_iff.mp hnd
    have hdl:∀ x∈(ks.drop m).map k1,x<n:=fun x hx=>by
      obtain⟨k,hk',rfl⟩:=List.mem_map.mp hx
      exact hlt k (List.mem_of_mem_drop hk')
    obtain⟨i1,i2,i3,i4,i5⟩:=ih (by intro z;rw[z] at hkl;simp at hkl) (fun k hk'=>by
        rcases List.mem_append.mp (hk.subset hk') with z | z
        · exact h2 k (List.mem_of_mem_drop z)
        · exact⟨_,_,List.mem_singleton.mp z⟩) (hids.nodup_iff.mpr (List.nodup_append.mpr ⟨(List.nodup_append.mp hnd2).2.1,by simp,fun x hx y hy=>by
          have:=hdl x hx
          rw[List.mem_singleton.mp hy]
          omega⟩)) (fun k hk'=>by
        rcases List.mem_append.mp (hk.subset hk') with z | z
        · have:=hlt k (List.mem_of_mem_drop z)
          omega
        · rw[List.mem_singleton.mp z]
          show n<n+1
          omega) (fun z=>by
        have:=fm_next (p:=(p:Int)) (by omega) hl (by rw[<- em];omega)
        rw[<- em,<- hkl] at this
        omega) hs
    have hTl:T.length=m:=by rw[hT.length_eq,List.length_map,List.length_take];omega
    have hTm:∀ x,x∈T↔x∈(ks.take m).map k1:=fun x=>hT.mem_iff
    have hTd:∀ x∈(ks.drop m).map k1,x ∉ T:=fun x hx hx'=>(List.nodup_append.mp hnd2).2.2 x ((hTm x).mp hx') x hx rfl
    have hws:=k_up h2 hup
    refine⟨?_,?_,?_,?_,?_⟩
    · have hst:=hf_step (p:=(p:Int)) (by omega) hws (by rw[List.length_map];exact hl)
      rw[List.length_map,<- em] at hst
      rw[hst,i1,List.map_take,hf_perm (p:=(p:Int)) (hk.map k0)]
      congr 1
      refine hf_perm ?_
      rw[List.map_append,<- List.map_drop,<- List.map_take]
      show (_++[((ks.take m).map k0).sum]).Perm _
      exact List.perm_append_comm (l₂:=[_])
    · refine .step n _ T ((ks.drop m).map k1) L (hsplit.trans (hT.symm.append_right _)) (fun z=>by rw[z] at hTl;simp at hTl;omega) (by omega) (i2.perm hids)
    · have e1:(ks.map fun k=>k0 k*(fol n (T::L) (k1 k):Nat)).sum=((ks.take m).map fun k=>k0 k*(fol n (T::L) (k1 k):Nat)).sum+((ks.drop m).map fun k=>k0 k*(fol n (T::L) (k1 k):Nat)).sum:=by
        rw[<- List.sum_append,<- List.map_append,List.take_append_drop]
      have e2:((ks.take m).map fun k=>k0 k*(fol n (T::L) (k1 k):Nat))=(ks.take m).map fun k=>k0 k*(1+(fol (n+1) L n:Nat)):=List.map_congr_left fun k hk'=>by
        rw[fol,if_pos ((hTm _).mpr (List.mem_map_of_mem hk'))]
        simp
      have e3:((ks.drop m).map fun k=>k0 k*(fol n (T::L) (k1 k):Nat))=(ks.drop m).map fun k=>k0 k*(fol (n+1) L (k1 k):Nat):=List.map_congr_left fun k hk'=>by
        rw[fol,if_neg (hTd _ (List.mem_map_of_mem hk'))]
      have e4:∀ (xs:List (List Int)) (c:Int),(xs.map fun k=>k0 k*c).sum=(xs.map k0).sum*c:=fun xs c=>by
        induction xs with
        | nil=>simp
        | cons x xs ih=>rw[List.map_cons,List.sum_cons,List.map_cons,List.sum_cons,ih,Int.add_mul]
      have e5:r=((ks.drop m).map fun k=>k0 k*(fol (n+1) L (k1 k):Nat)).sum+((ks.take m).map k0).sum*(fol (n+1) L n:Nat):=by
        rw[i3,perm_sum (hk.map fun k=>k0 k*(fol (n+1) L (k1 k):Nat)),List.map_append,List.sum_append]
        simp[k0,k1]
      rw[e1,e2,e3,e4,e5,Int.mul_add,Int.mul_one]
      omega
    · rw[List.length_cons];omega
    · intro T' hT'
      rcases List.mem_cons.mp hT' with rfl | z
      · omega
      · exact i5 T' z
theorem range_nd (r:Nat):((List.range r).map fun (i:Nat)=>(i:Int)).Nodup:=by
  rw[List.nodup_iff_pairwise_ne,List.pairwise_map]
  exact List.nodup_range.imp fun {a b} h z=>h (by exact_mod_cast z)
theorem Chain.wf {p r:Nat}{m:Int}{th:List Int}{L:List (List Int)} (c:Chain p m th L):(∀ x∈th,0<=x/\x<m)->0<=m->∀ (i:Nat) T,L[i]?=some T->∀ x∈T,0<=x/\x<m+i:=by
  induction c with
  | one m x=>intro _ _ i T h;simp at h
  | step m th T rest L h1 h2 h3 h ih=>
    intro hlt h0 i T' hT' x hx
    match i,hT' with
    | 0,hT'=>
      have:T=T':=by simpa using hT'
      subst this
      have:=hlt x (h1.mem_iff.mpr (List.mem_append_left _ hx))
      omega
    | i+1,hT'=>
      have:=ih (fun y hy=>by
        rcases List.mem_append.mp hy with z | z
        · have:=hlt y (h1.mem_iff.mpr (List.mem_append_right _ z));omega
        · rw[List.mem_singleton.mp z];omega) (by omega) i T' (by simpa using hT') x hx
      omega
theorem dot_dep:∀ (ls:List Int) (r:Nat) (f:Int->Nat),((prK ls).map fun k=>k0 k*(f (k1 k):Nat)).sum=dot ls ((List.range ls.length).map fun (i:Nat)=>((f i:Nat):Int)):=by
  intro ls r f
  have h:∀ (ls:List Int) (s:Nat),((ls.mapIdx fun j l=>[l,((s+j:Nat):Int)]).map fun k=>k0 k*(f (k1 k):Nat)).sum=dot ls ((List.range ls.length).map fun (i:Nat)=>((f ((s+i:Nat):Int):Nat):Int)):=by
    intro ls
    induction ls with
    | nil=>intro s;simp[dot]
    | cons l ls ih=>
      intro s
      rw[List.mapIdx_cons,List.map_cons,List.sum_cons,List.length_cons,List.range_succ_eq_map,List.map_cons,dot]
      have:=ih (s+1)
      have e:(ls.mapIdx fun j l=>[l,((s+1+j:Nat):Int)])=ls.mapIdx fun j l=>[l,((s+(j+1):Nat):Int)]:=by
        congr 1
        funext j l
        rw[show s+1+j=s+(j+1) by omega]
      rw[e] at this
      rw[this,List.map_map]
      have e2:((fun (i:Nat)=>((f ((s+i:Nat):Int):Nat):Int)) ∘ Nat.succ)=fun (i:Nat)=>((f ((s+1+i:Nat):Int):Nat):Int):=by
        funext i
        show ((f ((s+(i+1):Nat):Int):Nat):Int)=_
        rw[show s+(i+1)=s+1+i by omega]
      rw[e2]
      rfl
  have:=h ls 0
  simpa[prK] using this
theorem Joined.spec {p:Nat} (hp:2<=p) {ls:List Int}{r:Int}{L:List (List Int)} (h:Joined p ls r L) (h1:1<=ls.length) :
    r=hf p ls/\Chain p ls.length ((List.range ls.length).map fun (i:Nat)=>(i:Int)) L/\r=dot ls (dep ls.length L)/\Wf ls.length L/\L.length+1<=ls.length/\(∀ T∈L,T.length<=p):=by
  obtain⟨ks,pm,up,j⟩:=h
  have hl:ks.length=ls.length:=by rw[pm.length_eq,prK_len]
  have hid:(ks.map k1).Perm ((List.range ls.length).map fun (i:Nat)=>(i:Int)):=by rw[<- prK_k1];exact pm.map _
  obtain⟨a1,a2,a3,a4,a5⟩:=j.spec hp (fun z=>by rw[z] at hl;simp at hl;omega) (fun k hk=>prK_two (pm.subset hk)) (hid.nodup_iff.mpr (range_nd _)) (fun k hk=>by
    have:=hid.subset (List.mem_map_of_mem hk)
    obtain⟨i,hi,e⟩:=List.mem_map.mp this
    have:=List.mem_range.mp hi
    omega) (fun _=>by rw[hl]) up
  have c:=a2.perm hid
  refine⟨?_,c,?_,fun i T hT x hx=>?_,by omega,a5⟩
  · rw[a1]
    refine hf_perm ?_
    have:=pm.map k0
    rwa [prK_k0] at this
  · rw[a3,perm_sum (pm.map _)]
    exact dot_dep ls 0 _
  · have:=c.wf (r:=0) (fun y hy=>by
      obtain⟨i,hi,rfl⟩:=List.mem_map.mp hy
      have:=List.mem_range.mp hi
      omega) (by omega) i T hT x hx
    omega
def lkI (D:List (Int × Int)) (x:Int):Option Int:=(D.find? fun q=>decide (q.1=x)).map (·.2)
def okT (m:Nat) (D:List (Int × Int)) (T:List Int):Prop:=T.length=m/\(∀ x∈T,(lkI D x).isSome=true)/\T.Pairwise (·<·)/\srt (T.map fun x=>(lkI D x).getD 0)=(srt (D.map (·.2))).take T.length
instance (m:Nat) (D:List (Int × Int)) (T:List Int):Decidable (okT m D T):=by unfold okT;infer_instance
theorem prK_take {ls:List Int}{j:Nat}{l:Int} (h:ls[j]?=some l):prK (ls.take (j+1))=prK (ls.take j)++[[l,(j:Int)]]:=by
  have hl:=(List.getElem?_eq_some_iff.mp h).1
  unfold prK
  rw[List.take_add_one,h,Option.toList_some,List.mapIdx_append]
  simp[List.length_take,Nat.min_eq_left (Nat.le_of_lt hl)]
theorem TTs.snocJ {H:Hp}{rs:List Addr}{N:List (List Int)}{q:Addr}{xs:List Int} (h:TTs H rs N) (e:H q=some (.tup (xs.map V.int))):TTs H (rs++[q]) (N++[xs]):=⟨by rw[List.length_append,List.length_append,h.1];rfl,fun j r ys a b=>by
  rcases snoc_get a with z | ⟨z1,z2⟩
  · have hj:=(List.getElem?_eq_some_iff.mp z).1
    rcases snoc_get b with y | ⟨y1,y2⟩
    · exact h.2 j r ys z y
    · rw[h.1] at hj;omega
  · subst z1 z2
    rw[h.1,List.getElem?_append_right (Nat.le_refl _)] at b
    simp at b
    rw[<- b]
    exact e⟩
theorem TTs.sameJ {H H':Hp}{rs:List Addr}{N:List (List Int)} (h:TTs H rs N) (s:Same H H'):TTs H' rs N:=⟨h.1,fun j r xs a b=>s _ _ (h.2 j r xs a b)⟩
theorem TTs.offJ {H:Hp}{rs:List Addr}{N:List (List Int)}{l:Addr}{xs:List V}{o:HO} (h:TTs H rs N) (e:H l=some (.lst xs)):TTs (upd H l o) rs N:=⟨h.1,fun j r ys a b=>by
  have h1:=h.2 j r ys a b
  rw[upd_ne (fun z=>by rw[z,e] at h1;cases h1)]
  exact h1⟩
theorem fm_eq {p:Int} (hp:2<=p) (L:Nat):((L:Int) - 2) % (p - 1)+2=(fmJ p L:Nat):=by
  have:=Int.emod_nonneg ((L:Int) - 2) (show p - 1≠0 by omega)
  unfold fmJ
  omega
end Lv
namespace Lv
open PySem L2
end Lv
namespace L2
open PySem PySem.Spec PyProof.Rows PySem.SeqAt
section
variable {X:Cx}{scope:Scope}{own:List Str}{js fr:List Nat}{elt i1 t1 i2 t2:Expr}{f1 f2:List Expr}{wi wi2:TI}{g1 g2:TG}{tt1 tt2:TT}{te:TE}{pos:Pos}
theorem ps_comp2 {i:Nat}{y:Str}{py spos:Pos} (hN:X.N.Nodup) (hy:X.N[i]?=some y) (hyl:X.env.scope.names.lookup y=some .local) (c:CompOk X scope own js) (hc:X.calm=true) (hi:PI X t1 i1 wi) (hgk:GKeepF own fr g1) (hgt:GKeepT fr g2)
    (hg:∀ s H C fp pins,PG (X.blk scope own js s H C fp pins) t1 g1) (ht:∀ s H C fp pins,PTs (X.blk scope own js s H C fp pins) f1 tt1) (hi2:∀ s H C fp pins,PI (X.blk scope own js s H C fp pins) t2 i2 wi2)
    (hg2:∀ s H C fp pins,PG (X.blk scope own js s H C fp pins) t2 g2) (ht2:∀ s H C fp pins,PTs (X.blk scope own js s H C fp pins) f2 tt2) (he:∀ s H C fp pins,PE (X.blk scope own js s H C fp pins) elt te)
    (hsw:swapsWith (two elt t1 i1 f1 t2 i2 f2 scope pos) (some (.Name y py)) spos.line X.env=pure true:=by rfl)
    (hs:∀ x,foldedSetIterable i1 X.env x=pure x:=by intro _;rfl) (hs2:∀ env x,foldedSetIterable i2 env x=pure x:=by intro _ _;rfl):PS X (.Assign [.Name y py] (two elt t1 i1 f1 t2 i2 f2 scope pos) spos) (tAsg (tComp2 own js wi g1 tt1 wi2 g2 tt2 te) (gName i)):=by
  intro pins s σ H D I h
  rw[exec_Assign_Name_used _ _ _ _ hsw]
  refine wpAny_bind (wpAny_standAt (wpAny_bind ?_))
  show wpAny _ X.A (do let _ <- comprehension (two elt t1 i1 f1 t2 i2 f2 scope pos) scope X.env _ (newList []) false (eval i1 X.env) (some (assign (.Name y py) X.env))) _ _ s
  refine wpAny_bind (wpAny_mono (wpAny_comprehension_free (use:=some (assign (.Name y py) X.env)) (Q:=fun _ s'=>SP X pins D .next s') rfl hs (closure_cl (c.cl I)) c.kind c.names
    (thn (hi pins s σ H _ I h) fun v s1 h1=>thn h1 fun itv s2 h2=>?_)) (fun _ s' hq=>wpAny_pure (wpAny_pure hq)) fun _ _ e=>e)
  obtain⟨it,fp,tn,J,H2,e,I2,T,st2,f2',hw⟩:=h2
  subst e
  refine blk_run2 (Q:=fun x H1=>gName i x σ H1 D.nx) (RR:=fun acc C=>compPost (model X.prog X.w) X.A X.xe (some (assign (.Name y py) X.env)) (fun _ s'=>SP X pins D .next s') acc C) c hc hgk hgt hg ht hi2 hg2 ht2 he hs2 I2 T st2 f2' hw ?_
  intro acc C H' s' m hCs hCn I' hn q
  have hL:C≠X.env.locals:=Nat.ne_of_gt (Nat.lt_of_lt_of_le I2.lt hCs)
  have hcell:∀ x a,X.env.cells.lookup x=some a->a≠C:=by
    intro x a e z
    obtain⟨v,q⟩:=I2.cell x a e
    exact absurd (Nat.lt_of_lt_of_le q.lt (by rw[z];exact hCs)) (Nat.lt_irrefl _)
  refine wpAny_assign_Name (store_ok2 I' hN hy (.inl hyl) (v:=.ref acc) rfl (fun s2 I'' hch=>?_) (.inr hyl))
  obtain⟨a,sb,ha⟩:=hch
  have hCa:C≠a:=by
    rcases ha with rfl | ha
    · exact hL
    · exact Ne.symm (hcell _ _ ha)
  refine⟨m,hn.sameBut sb hCa,fun h' hs'=>⟨_,H',I''.other hs' hCn hL (Nat.le_trans I2.sz hCs) hcell ?_,q⟩⟩
  intro p hp z
  exact absurd (Nat.lt_of_lt_of_le (Heap.lt_size (I2.pin p hp).1) (by rw[z];exact hCs)) (Nat.lt_irrefl _)
end
end L2
namespace L2
open PySem PySem.Spec PyProof.Rows PySem.SeqAt
theorem piK_enumB (K:PySem.W.Frag) {X:Cx}{es:List Expr}{x1}{tpos:Pos}{e:Expr}{ta:TA}{p pos:Pos} (hg:Gl X "enumerate") (hm:X.mg "enumerate"=none) (ha:PA X [e] ta) (hK:X.K=K:=by rfl) (hs:starEach [e] X.env=[(false,eval e X.env)]:=by rfl) :
    PI X (.Tuple es x1 tpos) (.Call (.Name "enumerate" p) [e] [] pos) (iEnumB K ta):=by subst hK;exact pi_enumB hg hm ha hs
section
variable {b:Bool}{K:PySem.W.Frag}{g2:TG}{tt2:TT}{te:TE}{τ:St}{H6:Hp}{a acc:Addr}{xs:List V}
theorem in_enumB {Z:Hp->Prop} (W2:Nat->Hp->Prop) (h0:W2 0 H6) (hl:∀ i H,i<=xs.length->W2 i H->SqB b K H a xs)
    (hs:∀ i x p H,xs[i]?=some x->W2 i H->H p=none->g2 (.ref p) τ (upd H p (.tup [.int i,x])) fun τ2 H9=>tt2 τ2 H9 fun c H10=>
      if c=true then te τ2 H10 fun z H11=>∃ zs,H11 acc=some (.lst zs)/\zs.length<sizeLine/\(i+1<=xs.length/\W2 (i+1) (upd H11 acc (.lst (zs++[z])))) else (i+1<=xs.length/\W2 (i+1) H10))
    (hd:∀ H,W2 xs.length H->Z H):tInW g2 tt2 te τ acc (IteB b K a) H6 Z:=by
  refine⟨fun i H=>i<=xs.length/\W2 i H,xs.length,⟨Nat.zero_le _,h0⟩,?_⟩
  rintro i H ⟨hi,p⟩
  have q:=hl i H hi p
  rcases Nat.lt_or_ge i xs.length with hlt | hge
  · refine .inr ⟨hlt,iteB_go q hlt,fun x H' y=>?_⟩
    obtain⟨pa,z,hp,rfl,rfl,hx⟩:=iteB_yld q y
    exact hs i z pa H hx p hp
  · obtain rfl:i=xs.length:=by omega
    exact .inl ⟨iteB_stop q (Nat.le_refl _),hd H p⟩
end
end L2
namespace Lv
open PySem L2
def intW:V->Int
  | .int i=>i
  | _=>0
def kf (H:Hp) (p:Addr):List Int:=match H p with
  | some (.tup vs)=>vs.map intW
  | _=>[]
theorem kf_of {H:Hp}{p:Addr}{k:List Int} (h:H p=some (.tup (k.map V.int))):kf H p=k:=by
  unfold kf
  rw[h]
  show (k.map V.int).map intW=k
  rw[List.map_map]
  exact (List.map_congr_left fun _ _=>rfl).trans (List.map_id k)
def TuM (H:Hp) (ps:List Addr) (ks:List (List Int)):Prop:=(∀ p∈ps,∃ k:List Int,k≠[]/\H p=some (.tup (k.map V.int)))/\ps.map (kf H)=ks
theorem TuM.nil {H:Hp}:TuM H [] []:=⟨fun p hp=>(nomatch hp),rfl⟩
theorem TuM.keep {H H':Hp}{ps:List Addr}{ks:List (List Int)} (h:TuM H ps ks) (k:∀ p∈ps,H' p=H p):TuM H' ps ks:=by
  refine⟨fun p hp=>by rw[k p hp];exact h.1 p hp,?_⟩
  rw[<- h.2]
  refine List.map_congr_left fun p hp=>?_
  unfold kf
  rw[k p hp]
theorem TuM.same {H H':Hp}{ps:List Addr}{ks:List (List Int)} (h:TuM H ps ks) (s:Same H H'):TuM H' ps ks:=h.keep fun p hp=>by
  obtain⟨k,_,e⟩:=h.1 p hp
  rw[e,s _ _ e]
theorem TuM.snoc {H:Hp}{ps:List Addr}{ks:List (List Int)}{p:Addr}{k:List Int} (h:TuM H ps ks) (e:H p=some (.tup (k.map V.int))) (hk:k≠[]):TuM H (ps++[p]) (ks++[k]):=by
  refine⟨fun q hq=>?_,by rw[List.map_append,h.2,List.map_cons,List.map_nil,kf_of e]⟩
  rcases List.mem_append.mp hq with hq | hq
  · exact h.1 q hq
  · rw[List.mem_singleton.mp hq];exact⟨k,hk,e⟩
theorem TuM.at {H:Hp}{ps:List Addr}{ks:List (List Int)} (h:TuM H ps ks) {j:Nat}{p:Addr} (e:ps[j]?=some p):∃ k,ks[j]?=some k/\H p=some (.tup (k.map V.int)):=by
  obtain⟨k,_,e2⟩:=h.1 p (List.mem_of_getElem? e)
  exact⟨k,by rw[<- h.2,List.getElem?_map,e,Option.map_some,kf_of e2],e2⟩
theorem TuM.len {H:Hp}{ps:List Addr}{ks:List (List Int)} (h:TuM H ps ks):ps.length=ks.length:=by rw[<- h.2,List.length_map]
def tripR (k:Nat) (xs:List Int):List (List Int):=xs.mapIdx fun j z=>[z,(k:Int),(j:Int)]
def trip:Nat->List (List Int)->List (List Int)
  | _,[]=>[]
  | k,xs::N=>tripR k xs++trip (k+1) N
theorem tripR_take {k:Nat}{xs:List Int}{j:Nat}{z:Int} (h:xs[j]?=some z):tripR k (xs.take (j+1))=tripR k (xs.take j)++[[z,(k:Int),(j:Int)]]:=by
  have hl:=(List.getElem?_eq_some_iff.mp h).1
  unfold tripR
  rw[List.take_add_one,h,Option.toList_some,List.mapIdx_append]
  simp[List.length_take,Nat.min_eq_left (Nat.le_of_lt hl)]
theorem trip_snoc:∀ (N:List (List Int)) (k:Nat) (xs:List Int),trip k (N++[xs])=trip k N++tripR (k+N.length) xs
  | [],k,xs=>by simp[trip]
  | y::N,k,xs=>by rw[List.cons_append,trip,trip_snoc N (k+1) xs,trip,List.append_assoc,List.length_cons,show k+1+N.length=k+(N.length+1) by omega]
theorem trip_take {N:List (List Int)}{i:Nat}{xs:List Int} (h:N[i]?=some xs):trip 0 (N.take (i+1))=trip 0 (N.take i)++tripR i xs:=by
  have hl:=(List.getElem?_eq_some_iff.mp h).1
  rw[List.take_add_one,h,Option.toList_some,trip_snoc,List.length_take,Nat.min_eq_left (Nat.le_of_lt hl),Nat.zero_add]
theorem tripR_len (k:Nat) (xs:List Int):(tripR k xs).length=xs.length:=by unfold tripR;simp
theorem trip_len:∀ (N:List (List Int)) (k:Nat),(trip k N).length=N.flatten.length
  | [],_=>rfl
  | xs::N,k=>by rw[trip,List.length_append,tripR_len,trip_len N,List.flatten_cons,List.length_append]
theorem trip_fst:∀ (N:List (List Int)) (k:Nat),(trip k N).map (fun t=>t.getD 0 0)=N.flatten
  | [],_=>rfl
  | xs::N,k=>by
    rw[trip,List.map_append,trip_fst N,List.flatten_cons]
    congr 1
    unfold tripR
    exact List.ext_getElem (by simp) fun i h1 h2=>by simp
def spPlacesIn:Sp:=fun vs H Q _=>∃ (a:Addr) (rs:List Addr) (N:List (List Int)),vs=[.ref a]/\H a=some (.tup (rs.map V.ref))/\TTs H rs N/\N.length<=7/\∀ H',Same H H'->Q (.int (N.flatten.length:Int)) H'
def spLeastP:Sp:=fun vs H Q _=>∃ (a:Addr) (rs:List Addr) (N:List (List Int)) (m:Nat),vs=[.ref a,.int m]/\H a=some (.tup (rs.map V.ref))/\TTs H rs N/\N.length<=7/\N.flatten.length<=100000 /\
  ∀ (l:Addr) (qs:List Addr) (ks:List (List Int)) H',H l=none->H' l=some (.lst ((qs.take m).map V.ref))->TuM H' qs ks->ks.Perm (trip 0 N)->ks.Pairwise (fun p q=>lxB q p=false)->Same H H'->Q (.ref l) H'
end Lv
namespace L2
open PySem PySem.Spec PyProof.Rows PySem.SeqAt
theorem gkeep_nest {K:PySem.W.Frag}{own:List Str}{i k m:Nat} (hi:i<own.length:=by decide) (hk:k<own.length:=by decide) (hm:m<own.length:=by decide):GKeep own (gTup K 2 (gCons (gName i) (gCons (gTup K 2 (gCons (gName k) (gCons (gName m) gNil))) gNil))):=fun js σ x H Q h=>by
  obtain⟨a,xs,rfl,hq,hl,v,r,rfl,w,r',rfl,⟨b,ys,rfl,hq2,hl2,v2,r2,rfl,w2,r3,rfl,e2,e,h⟩⟩:=h
  refine⟨a,_,rfl,hq,hl,v,_,rfl,_,r',rfl,⟨b,_,rfl,hq2,hl2,v2,_,rfl,w2,r3,rfl,e2,e,fun j z e=>?_,h⟩⟩
  have hj:j≠i:=by rintro rfl;exact blkσ_own hi e
  have hj':j≠k:=by rintro rfl;exact blkσ_own hk e
  have hj3:j≠m:=by rintro rfl;exact blkσ_own hm e
  rw[List.getElem?_set_ne (Ne.symm hj3),List.getElem?_set_ne (Ne.symm hj'),List.getElem?_set_ne (Ne.symm hj)]
  exact e
theorem ixK_tupP (K:PySem.W.Frag) {X:Cx} (hK:X.K=K:=by rfl):IxR X (rIxT K):=by subst hK;exact ix_tup
end L2
namespace Lv
open PySem L2
def numV (N:List (List Int)) (k:List Int):Int:=(N.getD (k.getD 0 0).toNat []).getD (k.getD 1 0).toNat 0
def InN (N:List (List Int)) (k:List Int):Prop:=∃ (r p:Nat) (xs:List Int),k=[(r:Int),(p:Int)]/\N[r]?=some xs/\p<xs.length
def readV (N:List (List Int)) (ls:List Int) (ks:List (List Int)):List Int:=List.zipWith (fun l k=>l*numV N k) ls ks
theorem readV_take {N:List (List Int)}{ls:List Int}{ks:List (List Int)}{i:Nat}{l:Int}{k:List Int} (h1:ls[i]?=some l) (h2:ks[i]?=some k):readV N (ls.take (i+1)) (ks.take (i+1))=readV N (ls.take i) (ks.take i)++[l*numV N k]:=by
  have a:=(List.getElem?_eq_some_iff.mp h1).1
  have b:=(List.getElem?_eq_some_iff.mp h2).1
  unfold readV
  rw[List.take_add_one,h1,List.take_add_one,h2,Option.toList_some,Option.toList_some,List.zipWith_append (by rw[List.length_take,List.length_take];omega)]
  rfl
def spReadBy (K:PySem.W.Frag):Sp:=fun vs H Q _=>∃ (a ll pl:Addr) (b:Bool) (rs qs:List Addr) (N:List (List Int)) (ls:List Int) (ks:List (List Int)),vs=[.ref a,.ref ll,.ref pl]/\H a=some (.tup (rs.map V.ref))/\TTs H rs N/\SqB b K H ll (ls.map V.int)/\H pl=some (.lst (qs.map V.ref))/\TuM H qs ks/\(∀ k∈ks,InN N k)/\ls.length=ks.length/\ls.length<=100000 /\
  (∀ l∈ls,Builtin.Int.intBits l<=8000)/\(∀ xs∈N,∀ z∈xs,Builtin.Int.intBits z<=8000)/\∀ H',Same H H'->Q (.int (readV N ls ks).sum) H'
end Lv
namespace L2
open PySem PySem.Spec PyProof.Rows PySem.SeqAt
theorem for_zip {b1 b2:Bool}{K:PySem.W.Frag}{a b:Addr}{xs ys:List V}{g:TG}{tb:TS}{D:Ends}{σ:St}{H:Hp} (hlen:xs.length<=ys.length) (Pv:Nat->St->Hp->Prop) (h0:Pv 0 σ H)
    (hl:∀ i σ H,i<=xs.length->Pv i σ H->SqB b1 K H a xs/\SqB b2 K H b ys)
    (hs:∀ i x y p σ H,xs[i]?=some x->ys[i]?=some y->Pv i σ H->H p=none->g (.ref p) σ (upd H p (.tup [x,y])) fun σ2 H2=>tb { D with nx:=Pv (i+1),ct:=Pv (i+1),bk:=D.nx } σ2 H2) (hd:∀ σ H,Pv xs.length σ H->D.nx σ H) :
    ∃ W:Nat->Nat->St->Hp->Prop,(∃ m,W 0 m σ H)/\∀ i m σ H,W i m σ H ->
      ((ItzB b1 b2 K a b).stop i H/\D.nx σ H)∨((ItzB b1 b2 K a b).go i H/\∃ N:St->Hp->Prop,(∀ σ' H',N σ' H'->∃ m',m'<m/\W (i+1) m' σ' H')/\∀ x H',(ItzB b1 b2 K a b).yld i H x H'->g x σ H' fun σ2 H2=>tb { D with nx:=N,ct:=N,bk:=D.nx } σ2 H2):=by
  refine⟨fun i m σ H=>m=xs.length - i/\i<=xs.length/\Pv i σ H,⟨xs.length,by simp,Nat.zero_le _,h0⟩,?_⟩
  rintro i m σ H ⟨rfl,hi,p⟩
  obtain⟨q1,q2⟩:=hl i σ H hi p
  by_cases hlt:i<xs.length
  · have gx:xs[i]?=some xs[i]:=List.getElem?_eq_getElem hlt
    have gy:ys[i]?=some ys[i]:=List.getElem?_eq_getElem (by omega)
    refine .inr ⟨⟨xs,ys,xs[i],ys[i],q1,q2,gx,gy⟩,Pv (i+1),fun σ' H' z=>⟨xs.length - (i+1),by omega,rfl,hlt,z⟩,fun x H' y=>?_⟩
    obtain⟨pa,z,z',hp,e1,e2,y1,y2⟩:=y
    subst e1 e2
    exact hs i z z' pa σ H (y1 xs q1) (y2 ys q2) p hp
  · obtain rfl:i=xs.length:=by omega
    exact .inl ⟨⟨xs,ys,q1,q2,.inl (Nat.le_refl _)⟩,hd σ H p⟩
end L2
namespace Lv
open PySem L2
def prL (ls:List Int):List (List Int):=ls.mapIdx fun j l=>[-l,(j:Int)]
theorem prL_take {ls:List Int}{j:Nat}{l:Int} (h:ls[j]?=some l):prL (ls.take (j+1))=prL (ls.take j)++[[-l,(j:Int)]]:=by
  have hl:=(List.getElem?_eq_some_iff.mp h).1
  unfold prL
  rw[List.take_add_one,h,Option.toList_some,List.mapIdx_append]
  simp[List.length_take,Nat.min_eq_left (Nat.le_of_lt hl)]
theorem prL_len (ls:List Int):(prL ls).length=ls.length:=by unfold prL;simp
theorem prL_at {ls:List Int}{j:Nat}{l:Int} (h:ls[j]?=some l):(prL ls)[j]?=some [-l,(j:Int)]:=by
  unfold prL
  rw[List.getElem?_mapIdx,h]
  rfl
theorem prL_mem {ls:List Int}{f:List Int} (h:f∈prL ls):∃ (j:Nat) (l:Int),f=[-l,(j:Int)]/\ls[j]?=some l:=by
  obtain⟨j,hj⟩:=List.mem_iff_getElem?.mp h
  unfold prL at hj
  rw[List.getElem?_mapIdx] at hj
  cases e:ls[j]? with
  | none=>rw[e] at hj;cases hj
  | some l=>rw[e] at hj;cases hj;exact⟨j,l,rfl,e⟩
theorem tripR_mem {k:Nat}{xs f:List Int} (h:f∈tripR k xs):∃ (j:Nat) (z:Int),f=[z,(k:Int),(j:Int)]/\xs[j]?=some z:=by
  obtain⟨j,hj⟩:=List.mem_iff_getElem?.mp h
  unfold tripR at hj
  rw[List.getElem?_mapIdx] at hj
  cases e:xs[j]? with
  | none=>rw[e] at hj;cases hj
  | some l=>rw[e] at hj;cases hj;exact⟨j,l,rfl,e⟩
theorem trip_mem:∀ {N:List (List Int)}{k:Nat}{f:List Int},f∈trip k N->∃ (r j:Nat) (z:Int) (xs:List Int),f=[z,((k+r:Nat):Int),(j:Int)]/\N[r]?=some xs/\xs[j]?=some z
  | [],_,_,h=>nomatch h
  | ys::N,k,f,h=>by
    rw[trip] at h
    rcases List.mem_append.mp h with h | h
    · obtain⟨j,z,e,hz⟩:=tripR_mem h
      exact⟨0,j,z,ys,e,rfl,hz⟩
    · obtain⟨r,j,z,xs,e,hx,hz⟩:=trip_mem h
      exact⟨r+1,j,z,xs,by rw[e,show k+1+r=k+(r+1) by omega],hx,hz⟩
theorem rows_nodup {ls:List Int}{lf:List (List Int)} (h:lf.Perm (prL ls)):(lf.map fun f=>f.getD 1 0).Nodup:=by
  refine ((h.map _).nodup_iff).mpr ?_
  have e:(prL ls).map (fun f=>f.getD 1 0)=(List.range ls.length).map fun (j:Nat)=>(j:Int):=by
    unfold prL
    exact List.ext_getElem (by simp) fun i h1 h2=>by simp
  rw[e]
  refine List.pairwise_map.mpr (List.nodup_range.imp fun {a b} hab=>?_)
  omega
theorem all_tup {H:Hp}{N:List (List Int)}:∀ {vs:List V},(∀ (j:Nat),j<vs.length->∃ (q:Addr) (k:List Int),vs[j]?=some (.ref q)/\H q=some (.tup (k.map V.int))/\InN N k)->∃ (qs:List Addr) (ks:List (List Int)),vs=qs.map V.ref/\TuM H qs ks/\∀ k∈ks,InN N k
  | [],_=>⟨[],[],rfl,TuM.nil,fun k hk=>nomatch hk⟩
  | v::vs,h=>by
    obtain⟨qs,ks,e1,e2,e3⟩:=all_tup (vs:=vs) fun j hj=>h (j+1) (by simpa using hj)
    obtain⟨q,k,a1,a2,a3⟩:=h 0 (by simp)
    have a1:v=.ref q:=by simpa using a1
    have hk:k≠[]:=by obtain⟨r,p,xs,e,_⟩:=a3;rw[e];simp
    refine⟨q::qs,k::ks,by rw[a1,e1];rfl,⟨fun p hp=>?_,by rw[List.map_cons,e2.2,kf_of a2]⟩,fun k' hk'=>?_⟩
    · rcases List.mem_cons.mp hp with rfl | hp
      · exact⟨k,hk,a2⟩
      · exact e2.1 p hp
    · rcases List.mem_cons.mp hk' with rfl | hk'
      · exact a3
      · exact e3 k' hk'
def Stands (ls:List Int) (N:List (List Int)) (ks lf lp:List (List Int)):Prop:=ks.length=ls.length/\lf.Perm (prL ls)/\lf.Pairwise (fun p q=>lxB q p=false)/\lp.Perm (trip 0 N)/\lp.Pairwise (fun p q=>lxB q p=false) /\
  ∀ (t:Nat) f p,lf[t]?=some f->lp[t]?=some p->ks[(f.getD 1 0).toNat]?=some [p.getD 1 0,p.getD 2 0]
def spLeastBy (K:PySem.W.Frag):Sp:=fun vs H Q _=>∃ (a ll:Addr) (b:Bool) (rs:List Addr) (N:List (List Int)) (ls:List Int),vs=[.ref a,.ref ll]/\H a=some (.tup (rs.map V.ref))/\TTs H rs N/\N.length<=7/\N.flatten.length<=100000/\SqB b K H ll (ls.map V.int)/\ls.length<=N.flatten.length /\
  (∀ l∈ls,Builtin.Int.intBits l<=8000)/\(∀ xs∈N,∀ z∈xs,Builtin.Int.intBits z<=8000) /\
  ∀ (t pl:Addr) (qs:List Addr) (ks lf lp:List (List Int)) H',H t=none->H' t=some (.tup [.int (readV N ls ks).sum,.ref pl])->H pl=none->H' pl=some (.lst (qs.map V.ref))->TuM H' qs ks->(∀ k∈ks,InN N k)->Stands ls N ks lf lp->Same H H'->Q (.ref t) H'
end Lv
namespace Lv
open PySem L2
def LvsT (H:Hp) (as:List Addr) (L:List (List (List Int))):Prop:=as.length=L.length/\∀ (j:Nat) q N,as[j]?=some q->L[j]?=some N->∃ rs:List Addr,H q=some (.tup (rs.map V.ref))/\TTs H rs N
theorem LvsT.same {H H':Hp}{as:List Addr}{L:List (List (List Int))} (h:LvsT H as L) (s:Same H H'):LvsT H' as L:=⟨h.1,fun j q N a b=>by obtain⟨rs,e1,e2⟩:=h.2 j q N a b;exact⟨rs,s _ _ e1,e2.same s⟩⟩
def ReadOf (ls:List Int) (N:List (List Int)) (R:Int):Prop:=∃ ks lf lp:List (List Int),Stands ls N ks lf lp/\(∀ k∈ks,InN N k)/\R=(readV N ls ks).sum
def Fit (ls:List Int) (N:List (List Int)):Prop:=ls.length<=N.flatten.length
def BestOf (ls:List Int) (L:List (List (List Int))) (m:Nat):Option (Int × Nat)->Prop
  | none=>∀ j N,j<m->L[j]?=some N->¬ Fit ls N
  | some (R,n)=>n<m/\(∃ N,L[n]?=some N/\Fit ls N/\ReadOf ls N R)/\∀ j N,j<m->L[j]?=some N->Fit ls N->∃ R',ReadOf ls N R'/\R<=R'/\(j<n->R<R')
theorem BestOf.skip {ls:List Int}{L:List (List (List Int))}{m:Nat}{N:List (List Int)}{o:Option (Int × Nat)} (h:BestOf ls L m o) (e:L[m]?=some N) (hn:¬ Fit ls N):BestOf ls L (m+1) o:=by
  match o,h with
  | none,h=>
    intro j N' hj e' hf
    by_cases ej:j=m
    · subst ej;rw[e] at e';cases e';exact hn hf
    · exact h j N' (by omega) e' hf
  | some (R,n),⟨h1,h2,h3⟩=>
    refine⟨by omega,h2,fun j N' hj e' hf=>?_⟩
    by_cases ej:j=m
    · subst ej;rw[e] at e';cases e';exact absurd hf hn
    · exact h3 j N' (by omega) e' hf
theorem BestOf.first {ls:List Int}{L:List (List (List Int))}{m:Nat}{N:List (List Int)}{R:Int} (h:BestOf ls L m none) (e:L[m]?=some N) (hf:Fit ls N) (hr:ReadOf ls N R):BestOf ls L (m+1) (some (R,m)):=by
  refine⟨by omega,⟨N,e,hf,hr⟩,fun j N' hj e' hf'=>?_⟩
  by_cases ej:j=m
  · subst ej;rw[e] at e';cases e';exact⟨R,hr,Int.le_refl _,fun z=>absurd z (Nat.lt_irrefl _)⟩
  · exact absurd hf' (h j N' (by omega) e')
theorem BestOf.better {ls:List Int}{L:List (List (List Int))}{m n:Nat}{N:List (List Int)}{R R':Int} (h:BestOf ls L m (some (R',n))) (e:L[m]?=some N) (hf:Fit ls N) (hr:ReadOf ls N R) (hlt:R<R'):BestOf ls L (m+1) (some (R,m)):=by
  obtain⟨h1,h2,h3⟩:=h
  refine⟨by omega,⟨N,e,hf,hr⟩,fun j N' hj e' hf'=>?_⟩
  by_cases ej:j=m
  · subst ej;rw[e] at e';cases e';exact⟨R,hr,Int.le_refl _,fun z=>absurd z (Nat.lt_irrefl _)⟩
  · obtain⟨R2,a,b,_⟩:=h3 j N' (by omega) e' hf'
    exact⟨R2,a,by omega,fun _=>by omega⟩
theorem BestOf.worse {ls:List Int}{L:List (List (List Int))}{m n:Nat}{N:List (List Int)}{R R':Int} (h:BestOf ls L m (some (R',n))) (e:L[m]?=some N) (hf:Fit ls N) (hr:ReadOf ls N R) (hge:¬ R<R'):BestOf ls L (m+1) (some (R',n)):=by
  obtain⟨h1,h2,h3⟩:=h
  refine⟨by omega,h2,fun j N' hj e' hf'=>?_⟩
  by_cases ej:j=m
  · subst ej;rw[e] at e';cases e';exact⟨R,hr,by omega,fun z=>absurd z (by omega)⟩
  · exact h3 j N' (by omega) e' hf'
def BestV (H:Hp):Option (Int × Nat)->V->Prop
  | none,v=>v=.non
  | some (R,n),v=>∃ t pl:Addr,v=.ref t/\H t=some (.tup [.int R,.int (n:Int),.ref pl])
def spBestBy (K:PySem.W.Frag):Sp:=fun vs H Q _=>∃ (lv ll:Addr) (b:Bool) (as:List Addr) (L:List (List (List Int))) (ls:List Int),vs=[.ref lv,.ref ll]/\H lv=some (.lst (as.map V.ref))/\LvsT H as L/\SqB b K H ll (ls.map V.int) /\
  (∀ N∈L,N.length<=7/\N.flatten.length<=100000/\∀ xs∈N,∀ z∈xs,Builtin.Int.intBits z<=8000)/\(∀ l∈ls,Builtin.Int.intBits l<=8000)/\∀ (o:Option (Int × Nat)) (v:V) H',BestOf ls L L.length o->BestV H' o v->Same H H'->Q v H'
end Lv
namespace Lv
open PySem L2
theorem flat_lens (N:List (List Int)):(N.flatten.length:Int)=(lensK N).sum:=by
  unfold lensK
  induction N with
  | nil=>rfl
  | cons xs N ih=>rw[List.flatten_cons,List.length_append,List.map_cons,List.sum_cons,<- ih];omega
theorem nextK_grows:∀ {c:List Int},2<=c.length->(∀ x∈c,0<=x)->1<=c.headD 0->c.sum+1<=(nextK c).sum/\1<=(nextK c).headD 0:=by
  intro c h2 hn h1
  match c,h2,hn,h1 with
  | x::y::r,h2,hn,h1=>
    have h1:1<=x:=h1
    have hy:=nextK_sum (y::r) fun z hz=>hn z (List.mem_cons_of_mem _ hz)
    have hlen:(nextK (y::r)).length=(y::r).length:=by
      unfold nextK
      rw[List.length_reverse]
      have:∀ (s:Int) (c:List Int),(pre s c).length=c.length:=by
        intro s c
        induction c generalizing s with
        | nil=>rfl
        | cons a b ih=>simp[pre,ih]
      exact this 0 _
    rw[nextK_cons]
    refine⟨?_,?_⟩
    · rw[List.sum_append,sum_map_c,hlen,List.sum_cons]
      have:(1:Int)*x<=((y::r).length:Int)*x:=Int.mul_le_mul_of_nonneg_right (by simp;omega) (by omega)
      simp only[List.sum_cons,List.sum_nil] at *
      omega
    · cases e:nextK (y::r) with
      | nil=>rw[e] at hlen;simp at hlen
      | cons z zs=>
        have hz:=hy.2 z (by rw[e];exact List.mem_cons_self)
        show 1<=x+z
        omega
theorem casc_grows {p:Nat} (hp:2<=p):∀ n,1<=(casc p n).headD 0/\(n:Int)+1<=(casc p n).sum:=by
  have hl:∀ n,(casc p n).length=p:=fun n=>by
    rw[<- lens_cas (by omega)]
    unfold lensK
    rw[List.length_map,casN_len (by omega)]
  intro n
  induction n with
  | zero=>
    have h0:casc p 0=1::List.replicate (p - 1) 0:=by
      obtain⟨m,rfl⟩:∃ m,p=m+1:=⟨p - 1,by omega⟩
      rfl
    rw[h0]
    exact⟨Int.le_refl _,by simp⟩
  | succ n ih=>
    have:=nextK_grows (c:=casc p n) (by rw[hl];exact hp) (casc_nn p n) ih.1
    have e:casc p (n+1)=nextK (casc p n):=rfl
    rw[e]
    exact⟨this.2,by omega⟩
def toldN (p m:Nat):List (List (List Int)):=(List.range m).map (casN p)
def spToldN (fn:Addr):Sp:=fun vs H Q _=>∃ p:Nat,vs=[.int p,.ref fn]/\2<=p/\p<=7/\∀ (l:Addr) (as:List Addr) (m:Nat) H',H l=none->H' l=some (.lst (as.map V.ref))->LvsT H' as (toldN p m)->(∀ i,i<m->(casN p i).flatten.length<=4000)->4000<(casN p m).flatten.length->Same H H'->Q (.ref l) H'
end Lv
namespace Lv
open PySem L2
theorem LvsT.lst {H:Hp}{as:List Addr}{L:List (List (List Int))}{l:Addr}{ys zs:List V} (h:LvsT H as L) (e:H l=some (.lst zs)):LvsT (upd H l (.lst ys)) as L:=⟨h.1,fun j q N a b=>by
  obtain⟨rs,e1,e2⟩:=h.2 j q N a b
  refine⟨rs,?_,TTs.lst e2 e⟩
  rw[upd_ne fun z=>by rw[z,e] at e1;cases e1]
  exact e1⟩
theorem LvsT.snoc {H:Hp}{as rs:List Addr}{L:List (List (List Int))}{q:Addr}{N:List (List Int)} (h:LvsT H as L) (e:H q=some (.tup (rs.map V.ref))) (t:TTs H rs N):LvsT H (as++[q]) (L++[N]):=⟨by rw[List.length_append,List.length_append,h.1];rfl,fun j x M a b=>by
  rcases Nat.lt_or_ge j as.length with hj | hj
  · rw[List.getElem?_append_left hj] at a
    rw[List.getElem?_append_left (by rw[<- h.1];exact hj)] at b
    exact h.2 j x M a b
  · rw[List.getElem?_append_right hj] at a
    rw[List.getElem?_append_right (by rw[<- h.1];exact hj),<- h.1] at b
    cases e3:j - as.length with
    | zero=>rw[e3] at a b;cases a;cases b;exact⟨rs,e,t⟩
    | succ n=>rw[e3] at a;cases a⟩
theorem toldN_succ (p m:Nat):toldN p (m+1)=toldN p m++[casN p m]:=by unfold toldN;rw[List.range_succ,List.map_append];rfl
theorem toldN_len (p m:Nat):(toldN p m).length=m:=by unfold toldN;rw[List.length_map,List.length_range]
end Lv
namespace Lv
open PySem L2
theorem nextKN_mem:∀ {N:List (List Int)}{xs:List Int}{z:Int},xs∈nextKN N->z∈xs->∃ ys∈N,z∈ys∨z - 1∈ys
  | [Z],xs,z,h,hz=>by
    have:xs=Z:=by simpa[nextKN] using h
    subst this
    exact⟨xs,List.mem_cons_self,.inl hz⟩
  | A::B::r,xs,z,h,hz=>by
    have up:∀ {w:Int},w∈up1 A->w - 1∈A:=fun {w} hw=>by
      unfold up1 at hw
      obtain⟨v,hv,rfl⟩:=List.mem_map.mp hw
      rw[show v+1 - 1=v by omega]
      exact hv
    rw[nextKN] at h
    rcases List.mem_append.mp h with h | h
    · obtain⟨ys,hy,rfl⟩:=List.mem_map.mp h
      rcases List.mem_append.mp hz with hz | hz
      · exact⟨A,List.mem_cons_self,.inr (up hz)⟩
      · obtain⟨ws,hw,hd⟩:=nextKN_mem hy hz
        exact⟨ws,List.mem_cons_of_mem _ hw,hd⟩
    · rw[List.mem_singleton.mp h] at hz
      exact⟨A,List.mem_cons_self,.inr (up hz)⟩
theorem casN_bound {p:Nat}:∀ (i:Nat) (xs:List Int) (z:Int),xs∈casN p i->z∈xs->0<=z/\z<=i
  | 0,xs,z,h,hz=>by
    have h:xs∈([0]::List.replicate (p - 1) []:List (List Int)):=h
    rcases List.mem_cons.mp h with rfl | h
    · rw[List.mem_singleton.mp hz];exact⟨Int.le_refl _,Int.le_refl _⟩
    · rw[List.eq_of_mem_replicate h] at hz;cases hz
  | i+1,xs,z,h,hz=>by
    obtain⟨ys,hy,hd⟩:=nextKN_mem (N:=casN p i) h hz
    rcases hd with hd | hd
    · have:=casN_bound i ys z hy hd;omega
    · have:=casN_bound i ys (z - 1) hy hd;omega
theorem nextK_le:∀ (c:List Int),(∀ x∈c,0<=x)->(nextK c).sum<=(c.length:Int)*c.sum
  | [],_=>by simp[nextK,pre]
  | x::r,h=>by
    have hx:=h x List.mem_cons_self
    have ih:=nextK_le r fun z hz=>h z (List.mem_cons_of_mem _ hz)
    have hr:0<=r.sum:=by
      clear ih
      induction r with
      | nil=>exact Int.le_refl _
      | cons y r ih2=>
        rw[List.sum_cons]
        have:=h y (by simp)
        have:=ih2 fun z hz=>h z (by rcases List.mem_cons.mp hz with rfl | hz;exact List.mem_cons_self;exact List.mem_cons_of_mem _ (List.mem_cons_of_mem _ hz))
        omega
    rw[nextK_cons,List.sum_append,sum_map_c,nextK_len,List.length_cons,List.sum_cons,List.sum_cons,List.sum_nil]
    have e:((r.length+1:Nat):Int)*(x+r.sum)=(r.length:Int)*x+x+(r.length:Int)*r.sum+r.sum:=by
      rw[Int.natCast_add,Int.add_mul,Int.mul_add]
      simp
      omega
    rw[e]
    omega
theorem told_fits {p m:Nat} (h2:2<=p) (h7:p<=7) (h:4000<(casN p m).flatten.length):1<=m/\500<=(casN p (m - 1)).flatten.length:=by
  have hf:∀ i,((casN p i).flatten.length:Int)=(casc p i).sum:=fun i=>by rw[flat_lens,lens_cas (by omega)]
  cases m with
  | zero=>
    exfalso
    have:(casN p 0).flatten.length=1:=by
      show ([0]::List.replicate (p - 1) []:List (List Int)).flatten.length=1
      simp
    omega
  | succ m=>
    refine⟨by omega,?_⟩
    have a:=hf (m+1)
    have b:=hf m
    have c:=nextK_le (casc p m) (casc_nn p m)
    have d:(casc p m).length=p:=casc_len (by omega) m
    have e:casc p (m+1)=nextK (casc p m):=rfl
    rw[d] at c
    rw[e] at a
    show 500<=(casN p m).flatten.length
    have g:(p:Int)*(casc p m).sum<=7*(casc p m).sum:=Int.mul_le_mul_of_nonneg_right (by omega) (by rw[<- b];omega)
    omega
end Lv
namespace Lv
open PySem L2
def spLongC (K:PySem.W.Frag):Sp:=fun vs H Q _=>∃ (p:Nat) (ll:Addr) (b:Bool) (ls:List Int),vs=[.int p,.ref ll]/\2<=p/\p<=7/\SqB b K H ll (ls.map V.int)/\ls.length<=500/\(∀ l∈ls,Builtin.Int.intBits l<=8000) /\
  ∀ (t:Addr) (R:Int) (n m:Nat) H',H t=none->H' t=some (.tup [.int R,.int (n:Int)])->BestOf ls (toldN p m) m (some (R,n))->(∀ i,i<m->(casN p i).flatten.length<=4000)->4000<(casN p m).flatten.length->Same H H'->Q (.ref t) H'
end Lv
namespace Lv
open PySem L2
theorem perm_sumI {a b:List Int} (h:a.Perm b):a.sum=b.sum:=by
  induction h with
  | nil=>rfl
  | cons x _ ih=>rw[List.sum_cons,List.sum_cons,ih]
  | swap x y l=>rw[List.sum_cons,List.sum_cons,List.sum_cons,List.sum_cons];omega
  | trans _ _ h1 h2=>exact h1.trans h2
theorem stands_sum {ls:List Int}{N ks lf lp:List (List Int)} (h:Stands ls N ks lf lp) (hle:ls.length<=N.flatten.length):(readV N ls ks).sum=(List.zipWith (fun f p=>-(f.getD 0 0)*p.getD 0 0) lf lp).sum:=by
  obtain⟨h1,h2,_,h4,_,h6⟩:=h
  have e1:readV N ls ks=(prL ls).map fun f=>-(f.getD 0 0)*numV N (ks.getD (f.getD 1 0).toNat []):=by
    refine List.ext_getElem (by unfold readV prL;simp;omega) fun i a b=>?_
    have hi:i<ls.length:=by rw[List.length_map,prL_len] at b;exact b
    have hk:i<ks.length:=by omega
    have hp:(prL ls)[i]?=some [-ls[i],(i:Int)]:=prL_at (List.getElem?_eq_getElem hi)
    have hp2:(prL ls)[i]'(by rw[prL_len];exact hi)=[-ls[i],(i:Int)]:=(List.getElem?_eq_some_iff.mp hp).2
    rw[List.getElem_map,hp2]
    have hz:(readV N ls ks)[i]?=some (ls[i]*numV N ks[i]):=by
      unfold readV
      rw[List.getElem?_zipWith,List.getElem?_eq_getElem hi,List.getElem?_eq_getElem hk]
    rw[(List.getElem?_eq_some_iff.mp hz).2]
    show ls[i]*numV N ks[i] = -(-ls[i])*numV N (ks.getD ((i:Int)).toNat [])
    rw[Int.neg_neg,Int.toNat_natCast,List.getD_eq_getElem?_getD,List.getElem?_eq_getElem hk]
    rfl
  have e2:List.zipWith (fun f p=>-(f.getD 0 0)*p.getD 0 0) lf lp=lf.map fun f=>-(f.getD 0 0)*numV N (ks.getD (f.getD 1 0).toNat []):=by
    have l1:lf.length=ls.length:=by rw[h2.length_eq,prL_len]
    have l2:lp.length=N.flatten.length:=by rw[h4.length_eq,trip_len]
    refine List.ext_getElem (by simp;omega) fun i a b=>?_
    have hi:i<lf.length:=by rw[List.length_map] at b;exact b
    have hj:i<lp.length:=by omega
    have g:=h6 i lf[i] lp[i] (List.getElem?_eq_getElem hi) (List.getElem?_eq_getElem hj)
    obtain⟨r,jj,z,xs,ep,hr,hz⟩:=trip_mem (h4.mem_iff.mp (List.getElem_mem hj))
    rw[List.getElem_zipWith,List.getElem_map,List.getD_eq_getElem?_getD (l:=ks),g,Option.getD_some,ep]
    congr 1
    show z=numV N [((0+r:Nat):Int),(jj:Int)]
    unfold numV
    simp[List.getD_eq_getElem?_getD,hr,hz]
  rw[e1,e2]
  exact perm_sumI (h2.symm.map _)
end Lv
namespace Lv
open PySem L2
def isrt (l:List Int):List Int:=l.mergeSort (fun a b=>decide (a<=b))
def isrtR (l:List Int):List Int:=l.mergeSort (fun a b=>decide (b<=a))
theorem isrt_of {l m:List Int} (h:m.Perm l) (hs:m.Pairwise (·<=·)):m=isrt l:=by
  refine List.Perm.eq_of_pairwise (le:=(·<=·)) (fun a b _ _ h1 h2=>Int.le_antisymm h1 h2) hs ?_ (h.trans (List.mergeSort_perm l _).symm)
  refine (List.pairwise_mergeSort (fun a b c h1 h2=>?_) (fun a b=>?_) l).imp fun h=>of_decide_eq_true h
  · have:=of_decide_eq_true h1
    have:=of_decide_eq_true h2
    exact decide_eq_true (by omega)
  · by_cases h:a<=b
    · simp[h]
    · simp;omega
theorem isrtR_of {l m:List Int} (h:m.Perm l) (hs:m.Pairwise (· ≥ ·)):m=isrtR l:=by
  refine List.Perm.eq_of_pairwise (le:=(· ≥ ·)) (fun a b _ _ h1 h2=>Int.le_antisymm h2 h1) hs ?_ (h.trans (List.mergeSort_perm l _).symm)
  refine (List.pairwise_mergeSort (fun a b c h1 h2=>?_) (fun a b=>?_) l).imp fun h=>of_decide_eq_true h
  · have:=of_decide_eq_true h1
    have:=of_decide_eq_true h2
    exact decide_eq_true (by omega)
  · by_cases h:b<=a
    · simp[h]
    · simp;omega
def rdF (ls:List Int) (N:List (List Int)):Int:=(List.zipWith (·*·) (isrt N.flatten) (isrtR ls)).sum
theorem lxB_fst {x y:Int}{a b:List Int} (h:lxB (y::b) (x::a)=false):x<=y:=by
  rw[lxB] at h
  by_cases e:y=x
  · omega
  · rw[if_neg e] at h
    have:=of_decide_eq_false h
    omega
theorem read_rdF {ls:List Int}{N:List (List Int)}{R:Int} (h:ReadOf ls N R) (hf:Fit ls N):R=rdF ls N:=by
  obtain⟨ks,lf,lp,hs,_,rfl⟩:=h
  rw[stands_sum hs hf]
  obtain⟨_,h2,h3,h4,h5,_⟩:=hs
  have e1:lp.map (fun t=>t.getD 0 0)=isrt N.flatten:=by
    refine isrt_of ?_ ?_
    · rw[<- trip_fst N 0];exact h4.map _
    · refine List.pairwise_map.mpr (List.Pairwise.imp_of_mem (fun {p q} hp hq h=>?_) h5)
      obtain⟨_,_,_,_,rfl,_⟩:=trip_mem (h4.mem_iff.mp hp)
      obtain⟨_,_,_,_,rfl,_⟩:=trip_mem (h4.mem_iff.mp hq)
      exact lxB_fst h
  have e2:lf.map (fun f=>-(f.getD 0 0))=isrtR ls:=by
    refine isrtR_of ?_ ?_
    · have:(prL ls).map (fun f=>-(f.getD 0 0))=ls:=by
        refine List.ext_getElem (by simp[prL]) fun i h1 h2=>?_
        simp[prL]
      exact (h2.map _).trans (by rw[this])
    · refine List.pairwise_map.mpr (List.Pairwise.imp_of_mem (fun {p q} hp hq h=>?_) h3)
      obtain⟨_,_,rfl,_⟩:=prL_mem (h2.mem_iff.mp hp)
      obtain⟨_,_,rfl,_⟩:=prL_mem (h2.mem_iff.mp hq)
      have:=lxB_fst h
      show (-(-_:Int)) ≥ -(-_)
      omega
  unfold rdF
  rw[<- e1,<- e2,List.zipWith_map]
  congr 1
  rw[List.zipWith_comm]
  congr 1
  funext p f
  exact Int.mul_comm _ _
def BestG (f:Nat->Option Int) (m:Nat):Option (Int × Nat)->Prop
  | none=>∀ j,j<m->f j=none
  | some (R,n)=>n<m/\f n=some R/\∀ j R',j<m->f j=some R'->R<=R'/\(j<n->R<R')
theorem BestG.one {f:Nat->Option Int}{m:Nat}{R R':Int}{n n':Nat} (h:BestG f m (some (R,n))) (h':BestG f m (some (R',n'))):R=R'/\n=n':=by
  obtain⟨a1,a2,a3⟩:=h
  obtain⟨b1,b2,b3⟩:=h'
  have x:=a3 n' R' b1 b2
  have y:=b3 n R a1 a2
  refine⟨by omega,?_⟩
  rcases Nat.lt_trichotomy n n' with z | z | z
  · have:=y.2 z;omega
  · exact z
  · have:=x.2 z;omega
theorem BestG.skip {f:Nat->Option Int}{m:Nat}{o:Option (Int × Nat)} (h:BestG f m o) (e:f m=none):BestG f (m+1) o:=by
  match o,h with
  | none,h=>
    intro j hj
    by_cases ej:j=m
    · subst ej;exact e
    · exact h j (by omega)
  | some (R,n),⟨h1,h2,h3⟩=>
    refine⟨by omega,h2,fun j R' hj e'=>?_⟩
    by_cases ej:j=m
    · subst ej;rw[e] at e';cases e'
    · exact h3 j R' (by omega) e'
theorem BestG.first {f:Nat->Option Int}{m:Nat}{R:Int} (h:BestG f m none) (e:f m=some R):BestG f (m+1) (some (R,m)):=by
  refine⟨by omega,e,fun j R' hj e'=>?_⟩
  by_cases ej:j=m
  · subst ej;rw[e] at e';cases e';exact⟨Int.le_refl _,fun z=>absurd z (Nat.lt_irrefl _)⟩
  · rw[h j (by omega)] at e';cases e'
theorem BestG.better {f:Nat->Option Int}{m n:Nat}{R R':Int} (h:BestG f m (some (R',n))) (e:f m=some R) (hlt:R<R'):BestG f (m+1) (some (R,m)):=by
  obtain⟨h1,h2,h3⟩:=h
  refine⟨by omega,e,fun j R2 hj e'=>?_⟩
  by_cases ej:j=m
  · subst ej;rw[e] at e';cases e';exact⟨Int.le_refl _,fun z=>absurd z (Nat.lt_irrefl _)⟩
  · have:=h3 j R2 (by omega) e'
    exact⟨by omega,fun _=>by omega⟩
theorem BestG.worse {f:Nat->Option Int}{m n:Nat}{R R':Int} (h:BestG f m (some (R',n))) (e:f m=some R) (hge:¬ R<R'):BestG f (m+1) (some (R',n)):=by
  obtain⟨h1,h2,h3⟩:=h
  refine⟨by omega,h2,fun j R2 hj e'=>?_⟩
  by_cases ej:j=m
  · subst ej;rw[e] at e';cases e';exact⟨by omega,fun z=>absurd z (by omega)⟩
  · exact h3 j R2 (by omega) e'
def fitF (ls:List Int) (L:Nat->List (List Int)) (j:Nat):Option Int:=if ls.length<=(L j).flatten.length then some (rdF ls (L j)) else none
theorem BestG.of {ls:List Int}{L:Nat->List (List Int)}{m n:Nat}{R:Int} (h:BestOf ls ((List.range m).map L) m (some (R,n))):BestG (fitF ls L) m (some (R,n)):=by
  obtain⟨h1,⟨N,hN,hf,hr⟩,h3⟩:=h
  have at_:∀ j,j<m->((List.range m).map L)[j]?=some (L j):=fun j hj=>by rw[List.getElem?_map,List.getElem?_range hj];rfl
  rw[at_ n h1] at hN
  cases hN
  refine⟨h1,?_,fun j R' hj e=>?_⟩
  · unfold fitF
    unfold Fit at hf
    rw[if_pos hf,<- read_rdF hr hf]
  · unfold fitF at e
    by_cases hj2:ls.length<=(L j).flatten.length
    · rw[if_pos hj2] at e
      obtain⟨R2,r2,a,b⟩:=h3 j _ hj (at_ j hj) hj2
      have:=read_rdF r2 hj2
      cases e
      rw[<- this]
      exact⟨a,b⟩
    · rw[if_neg hj2] at e;cases e
end Lv
namespace Lv
open PySem L2
end Lv
namespace Lv
open PySem L2
end Lv
namespace Lv
open PySem L2
section
variable {S:List Addr}{H H':Hp}{a w:Addr}
end
end Lv
namespace Lv
open PySem L2
section
variable {α:Type}
def ones (RR:List (List (List α))):List (List Int):=RR.map fun R=>R.map fun _=>1
def tl (g:List α->Int) (RR:List (List (List α))):Int:=(RR.map fun R=>sg g R).sum
end
end Lv
namespace Lv
open PySem L2
def phO (p t:Nat):Int:=((p:Int) - t) % ((p:Int)+1)
end Lv
namespace Lv
open PySem L2
def opr (D:List Rows):List (List (List Int)):=D.map fun r=>r.map fun c=>c.getD []
def gl (r:List Int):Int:=(r.length:Nat)
def phL (p:Nat):Nat->Nat->List (Int × Int)
  | _,0=>[]
  | t,m+1=>(phO p t,hd p m)::phL p (t+1) m
def SrtD (D:List Rows):Prop:=∀ r∈D,∀ xs:List Int,some xs∈r->xs.Pairwise (·<=·)
def HasR (D:List Rows):Prop:=∃ r∈D,∃ xs:List Int,some xs∈r
def OneOut (o:Int) (s:List Int):Prop:=∃ a:Nat,o=a/\s[a]?=some 0/\∀ (j:Nat) x,s[j]?=some x->j≠a->1<=x
end Lv
namespace Lv
open PySem L2
def fil1:List Bool->List (List Int)->Rows
  | [],_=>[]
  | false::bs,rows=>none::fil1 bs rows
  | true::bs,rows=>some (rows.headD [])::fil1 bs rows.tail
def filB:List (List Bool)->List (List Int)->List Rows
  | [],_=>[]
  | b::B,rows=>fil1 b (rows.take (b.count true))::filB B (rows.drop (b.count true))
def wS (rows:List (List Int)) (ns:List Int):List Int:=List.zipWith (fun r w=>(r.length:Int)*w) rows ns
structure Pl52 (p n:Nat) (B:List (List Bool)) (rows:List (List Int)):Prop where
  pls:Pls (filB B rows++[[]]) (phL p 0 n)
  left:(plR (filB B rows++[[]]) (phL p 0 n)).flatten=[some (srt rows.flatten)]
  read:((rdR (filB B rows++[[]]) (phL p 0 n)).map List.sum).sum=(wS rows (readL (num p n) B)).sum
  out:(∀ b∈B,∀ x∈b,x=true)->(∀ r∈rows,r≠[])->∀ (i:Nat) q s,(phL p 0 n)[i]?=some q->(rdR (filB B rows++[[]]) (phL p 0 n))[i]?=some s->OneOut q.1 s
end Lv
namespace Lv
open PySem L2
def toldM (p m:Nat):List (List (List Int)):=(List.range m).map (num p)
theorem toldM_len (p m:Nat):(toldM p m).length=m:=by unfold toldM;simp
theorem toldM_succ (p m:Nat):toldM p (m+1)=toldM p m++[num p m]:=by unfold toldM;rw[List.range_succ,List.map_append];rfl
theorem toldM_get {p m n:Nat} (h:n<m):(toldM p m)[n]?=some (num p n):=by unfold toldM;rw[List.getElem?_map,List.getElem?_range h];rfl
theorem num_flat (p n:Nat):((num p n).flatten.length:Int)=tot p n:=by
  unfold tot
  rw[<- lens_num]
  have:∀ N:List (List Int),((N.flatten.length:Nat):Int)=(lens N).sum:=fun N=>by
    induction N with
    | nil=>rfl
    | cons x N ih=>
      unfold lens at *
      rw[List.flatten_cons,List.length_append,List.map_cons,List.sum_cons]
      omega
  exact this _
theorem tot_ge1 {p:Nat} (hp:2<=p):∀ n:Nat,(n:Int)+1<=tot p n
  | 0=>by
    have:=tot_mono hp (Nat.le_refl 0)
    have h0:tot p 0=1:=by
      rw[<- num_flat]
      show ((([0]::List.replicate (p - 1) []:List (List Int)).flatten.length:Nat):Int)=1
      simp
    omega
  | n+1=>by
    have:=tot_ge1 hp n
    have:=tot_lt hp n
    omega
theorem told_fitsM {p m:Nat} (h2:2<=p) (h7:p<=7) (h:4000<(num p m).flatten.length):1<=m/\500<=(num p (m - 1)).flatten.length:=by
  have e:=num_flat p m
  cases m with
  | zero=>
    exfalso
    have:(num p 0).flatten.length=1:=by
      show ([0]::List.replicate (p - 1) []:List (List Int)).flatten.length=1
      simp
    omega
  | succ m=>
    refine⟨by omega,?_⟩
    have e2:=num_flat p m
    have e3:=tot_succ h2 m
    obtain⟨x,y,r,ec,_⟩:=cnt_cons h2 m
    have h1:hd p m<=tot p m:=by
      unfold hd tot
      exact le_sum (down_cnt p m).2 (by rw[ec];simp)
    have h0:=hd_pos h2 m
    have h6:((p - 1:Nat):Int)*hd p m<=6*hd p m:=Int.mul_le_mul_of_nonneg_right (by omega) (by omega)
    show 500<=(num p m).flatten.length
    omega
def spToldM (fn:Addr):Sp:=fun vs H Q _=>∃ p:Nat,vs=[.int p,.ref fn]/\2<=p/\p<=7/\∀ (l:Addr) (as:List Addr) (m:Nat) H',H l=none->H' l=some (.lst (as.map V.ref))->LvsT H' as (toldM p m)->(∀ i,i<m->(num p i).flatten.length<=4000)->4000<(num p m).flatten.length->Same H H'->Q (.ref l) H'
def BestVP (ls:List Int) (L:List (List (List Int))) (H:Hp):Option (Int × Nat)->V->Prop
  | none,v=>v=.non
  | some (R,n),v=>∃ (t pl:Addr) (qs:List Addr) (N ks lf lp:List (List Int)) ,v=.ref t/\H t=some (.tup [.int R,.int (n:Int),.ref pl])/\H pl=some (.lst (qs.map V.ref))/\TuM H qs ks/\L[n]?=some N/\Stands ls N ks lf lp/\(∀ k∈ks,InN N k)/\Fit ls N/\R=(readV N ls ks).sum
theorem BestVP.same {ls:List Int}{L:List (List (List Int))}{H H':Hp}{o:Option (Int × Nat)}{v:V} (h:BestVP ls L H o v) (s:Same H H'):BestVP ls L H' o v:=by
  match o,h with
  | none,h=>exact h
  | some (R,n),⟨t,pl,qs,N,ks,lf,lp,e,q,a,b,r⟩=>exact⟨t,pl,qs,N,ks,lf,lp,e,s _ _ q,s _ _ a,b.same s,r⟩
def spBestByP (K:PySem.W.Frag):Sp:=fun vs H Q _=>∃ (lv ll:Addr) (b:Bool) (as:List Addr) (L:List (List (List Int))) (ls:List Int),vs=[.ref lv,.ref ll]/\H lv=some (.lst (as.map V.ref))/\LvsT H as L/\SqB b K H ll (ls.map V.int) /\
  (∀ N∈L,N.length<=7/\N.flatten.length<=100000/\∀ xs∈N,∀ z∈xs,Builtin.Int.intBits z<=8000)/\(∀ l∈ls,Builtin.Int.intBits l<=8000)/\∀ (o:Option (Int × Nat)) (v:V) H',BestOf ls L L.length o->BestVP ls L H' o v->Same H H'->Q v H'
def spBPl (K:PySem.W.Frag):Sp:=fun vs H Q _=>∃ (p:Nat) (ll:Addr) (b:Bool) (ls:List Int),vs=[.int p,.ref ll]/\2<=p/\p<=7/\SqB b K H ll (ls.map V.int)/\ls.length<=500/\(∀ l∈ls,Builtin.Int.intBits l<=8000) /\
  ∀ (t pl:Addr) (qs:List Addr) (ks lf lp:List (List Int)) (n m:Nat) H',H t=none∨True->H' t=some (.tup [.int (readV (num p n) ls ks).sum,.int (n:Int),.ref pl])->H' pl=some (.lst (qs.map V.ref))->TuM H' qs ks->Stands ls (num p n) ks lf lp->(∀ k∈ks,InN (num p n) k)->Fit ls (num p n)->tot p n<=4000->n<m->BestOf ls (toldM p m) m (some ((readV (num p n) ls ks).sum,n))->(∀ i,i<m->tot p i<=4000)->4000<tot p m->Same H H'->Q (.ref t) H'
end Lv
namespace Lv
open PySem L2
structure Plcd (N:List (List Int)) (rows:List (List Int)) (ks:List (List Int)) (i:Nat) (D:List Rows):Prop where
  len:D.map List.length=(N++[[]]).map List.length
  free:∀ (r j:Nat) xs,N[r]?=some xs->j<xs.length->[(r:Int),(j:Int)] ∉ ks.take i->∃ row,D[r]?=some row/\row[j]?=some none
  all:(allT D).Perm (rows.take i).flatten
  pt:ptR gl (opr D) (N++[[]])=(readV N ((rows.take i).map fun r=>(r.length:Int)) (ks.take i)).sum
  srt:(∀ r∈rows,r.Pairwise (·<=·))->SrtD D
  has:1<=i->1<=rows.length->HasR D
end Lv
namespace L2
open PySem PySem.Spec PyProof.Rows PySem.SeqAt
end L2
namespace Lv
open PySem L2
theorem Same.sqB {b:Bool}{K:PySem.W.Frag}{H H':Hp}{a:Addr}{xs:List V} (e:Same H H') (h:SqB b K H a xs):SqB b K H' a xs:=by
  cases b with
  | true=>exact e.seq h
  | false=>exact e.tup h
theorem comp_mapB {b:Bool}{K:PySem.W.Frag}{own:List Str}{js:List Nat}{g:TG}{te:TE}{σ:L2.St}{H1:Hp}{Q:VK}{a:Addr}{xs:List V} (ys:List V) (hq:SqB b K H1 a xs) (hl:xs.length=ys.length) (hlen:xs.length<=20000)
    (hs:∀ (i:Nat) x y,xs[i]?=some x->ys[i]?=some y->∀ H,Same H1 H->∀ R:VK,(∀ H',Same H H'->R y H')->g x (blkσ own js σ) H fun τ H4=>te τ H4 R)
    (hd:∀ acc H,H1 acc=none->Same H1 H->H acc=some (.lst ys)->Q (.ref acc) H):tCompW own js g tTrue te σ (ItlB b K a) H1 Q:=by
  refine comp_seqB (b:=b) (K:=K) (a:=a) (xs:=xs) (fun acc i H=>Same H1 H/\H acc=some (.lst (ys.take i))) (fun acc h0=>⟨Same.new h0,upd_same⟩) (fun acc i H h0 _ z=>?_) ?_ ?_
  · exact Same.sqB z.1 hq
  · rintro acc i x H h0 hx ⟨s1,hacc⟩
    have hi:=(List.getElem?_eq_some_iff.mp hx).1
    have hy:=List.getElem?_eq_getElem (l:=ys) (i:=i) (by omega)
    refine (cast ?_ (hs i x _ hx hy H s1 (fun y H6=>∃ zs,H6 acc=some (.lst zs)/\zs.length<sizeLine/\(i+1<=xs.length/\(Same H1 (upd H6 acc (.lst (zs++[y])))/\upd H6 acc (.lst (zs++[y])) acc=some (.lst (ys.take (i+1)))))) fun H' s'=>?_))
    · unfold tTrue
      simp only[if_true]
    · refine⟨_,s' _ _ hacc,?_,hi,(s1.trans s').put h0,?_⟩
      · rw[sizeLine_eq,List.length_take]
        omega
      · rw[upd_same,List.take_add_one,hy]
        simp
  · rintro acc H h0 ⟨s1,hacc⟩
    rw[hl,List.take_length] at hacc
    exact hd acc H h0 s1 hacc
end Lv
namespace Lv
open PySem L2
end Lv
namespace Lv
open PySem L2
structure Bl (H:Hp) (l pl cl rl tg:Addr) (fs cs:List Int) (T:List Reel) (ts:List Int):Prop where
  hl:H l=some (.lst (fs.map V.int))
  hc:H cl=some (.lst (cs.map V.int))
  hr:H rl=some (.lst (refT T))
  ht:H tg=some (.lst (ts.map V.int))
  hN:NRL H T
  hA:∀ x∈adr T,x≠pl/\x≠rl/\x≠tg
structure Dst (l pl cl rl tg:Addr):Prop where
  lp:l≠pl
  lr:l≠rl
  lt:l≠tg
  cp:cl≠pl
  cr:cl≠rl
  ct:cl≠tg
  rp:rl≠pl
  rt:rl≠tg
  tp:tg≠pl
variable {H H':Hp}{l pl cl rl tg:Addr}{fs cs:List Int}{T:List Reel}{ts:List Int}
end Lv
namespace Lv
open PySem L2
section
variable {K:PySem.W.Frag}
end
end Lv
namespace Fw
open PySem L2
def val (ns:List Int) (p:Int):Int:=ns.getD p.toNat 0
def upto (n:Nat):List Int:=(List.range n).map fun (i:Nat)=>(i:Int)
def there (n:Nat) (r:Int) (w:List Int):List Int:=(upto (min n (w.length+r.toNat))).filter fun p=>!w.contains p
def fits (ns w:List Int) (p:Int):Bool:=w.isEmpty || decide (val ns (w.getLast?.getD 0)<=val ns p)
def cand (ns hs w:List Int):List Int:=if (hs.filter (fits ns w)).isEmpty then hs else hs.filter (fits ns w)
def pick (ns:List Int):List Int->Int
  | []=>0
  | b::c=>(b::c).foldl (fun b p=>if val ns p<val ns b then p else b) b
def writ (ns:List Int) (r:Int):Nat->List Int
  | 0=>[]
  | t+1=>writ ns r t++[pick ns (cand ns (there ns.length r (writ ns r t)) (writ ns r t))]
structure Good (n:Nat) (r:Int) (w:List Int):Prop where
  nd:w.Nodup
  lt:∀ q∈w,0<=q/\q<n/\q+1<w.length+r
def better (ns:List Int) (b p:Int):Int:=if val ns p<val ns b then p else b
end Fw
namespace Fw
open PySem L2
end Fw
namespace Fw
open PySem L2
abbrev Key2:=Nat × Int
def kle (a b:Key2):Prop:=a.1<b.1∨(a.1=b.1/\a.2<=b.2)
def nxtK (k:Option Key2) (v:Int):Key2:=match k with | none=>(0,v) | some (r,l)=>(if v<l then r+1 else r,v)
def keysFrom:Option Key2->List Int->List Key2
  | _,[]=>[]
  | k,v::vs=>nxtK k v::keysFrom (some (nxtK k v)) vs
def wk (ns:List Int) (r:Int) (t:Nat):List Key2:=keysFrom none ((writ ns r t).map (val ns))
def lk (ns:List Int) (r:Int) (t:Nat):Option Key2:=(wk ns r t).getLast?
def pk (ns:List Int) (r:Int) (t:Nat):Int:=pick ns (cand ns (there ns.length r (writ ns r t)) (writ ns r t))
structure Holds (n:Nat) (r:Int) (v:List Int):Prop where
  nd:v.Nodup
  lt:∀ (i:Nat) p,v[i]?=some p->0<=p/\p<n/\p<i+r
end Fw
namespace Lv
open PySem L2 Fw
end Lv
namespace L2
open PySem PySem.Spec PyProof.Rows PySem.SeqAt
end L2
namespace Lv
open PySem L2 Fw
structure Rws3 (H0 H:Hp) (l:Addr) (rf:List Addr) (R:List (List Int)):Prop where
  top:H l=some (.lst (rf.map V.ref))
  rows:LLs H rf R
  own:∀ q∈rf,H0 q=none/\q≠l
  nd:rf.Nodup
end Lv
namespace L2
open PySem PySem.Spec PyProof.Rows PySem.SeqAt
section
variable {X:Cx}
end
end L2
namespace Lv
open PySem L2 Fw
structure HoldsP (n:Nat) (r:Int) (ws:List Int):Prop where
  len:ws.length=n
  nd:ws.Nodup
  rg:∀ p∈ws,0<=p/\p<(n:Int)
  bd:∀ (i:Nat) (p:Int),ws[i]?=some p->p<i+r
structure HoldsT (n:Nat) (r:Int) (ws:List Int) (t:Nat):Prop where
  nd:(ws.take t).Nodup
  rg:∀ p∈ws.take t,0<=p/\p<(n:Int)
  bd:∀ (i:Nat) (p:Int),(ws.take t)[i]?=some p->p<i+r
end Lv
namespace Lv
open PySem L2 Fw
end Lv
namespace Lv
open PySem L2 Fw
structure HI (n:Nat) (r:Int) (ly fs:List Int) (c:Nat):Prop where
  pm:(fs++ly).Perm (upto c)
  bd:∀ (i:Nat) (p:Int),fs[i]?=some p->p<i+r
  cn:c=min n (fs.length+r.toNat)
end Lv
namespace Lv
open PySem L2 Fw
end Lv
namespace Lv
open PySem L2 Fw
end Lv
namespace Lv
open PySem L2
end Lv
namespace Lv
open PySem L2
def lastR (r:List (List Int)):List Int:=r.getLastD []
def wr (L:List (List (List Int))):List Int:=(L.map lastR).flatten
end Lv
namespace Lv
open PySem L2
def PotT (H:Hp) (p:Addr):Prop:=∃ a b:Int,H p=some (.lst [.int a,.int b])/\0<=b/\b<2147483648
theorem PotT.ne {H:Hp}{p q:Addr} (h:PotT H p) (hq:H q=none):q≠p:=by
  obtain⟨a,b,e,_⟩:=h
  exact Ne.symm (ne_of_none e hq)
theorem PotT.same {H H':Hp}{p:Addr} (h:PotT H p) (s:Same H H'):PotT H' p:=by
  obtain⟨a,b,e,z⟩:=h
  exact⟨a,b,s p _ e,z⟩
def spPotT (K:PySem.W.Frag):Sp:=fun vs H Q _=>∃ (a:Addr) (ns:List Int) (k:Int),vs=[.ref a,.int k]/\SqL K H a (ns.map V.int)/\0<=k/\k<=1000/\∀ p H',H p=none->PotT H' p->Same H H'->Q (.ref p) H'
def spTakeT:Sp:=fun vs H Q _=>∃ p m,vs=[.ref p,.int m]/\PotT H p/\0<m/\Builtin.Int.intBits m<=8000/\∀ d H',0<=d->d<m->PotT H' p->Sm p H H'->Q (.int d) H'
theorem pow60:(0:Int)<10 ^ Int.toNat 60*10 ^ Int.toNat 60*10 ^ Int.toNat 60/\Builtin.Int.intBits ((10:Int) ^ Int.toNat 60)<=1000/\Builtin.Int.intBits ((10:Int) ^ Int.toNat 60*10 ^ Int.toNat 60)<=1000:=by decide +kernel
theorem cut_take (xs:List V) (c:Nat):cutV xs none (some (c:Int))=xs.take c:=by
  unfold cutV
  show (xs.drop 0).take (HT.sIx xs.length xs.length (some (c:Int)) - 0)=_
  rw[HT.sIx_nat,Nat.sub_zero,List.drop_zero]
  by_cases h:c<=xs.length
  · rw[Nat.min_eq_left h]
  · rw[Nat.min_eq_right (by omega),List.take_length,List.take_of_length_le (by omega)]
theorem cut_drop (xs:List V) (c:Nat):cutV xs (some (c:Int)) none=xs.drop c:=by
  unfold cutV
  rw[HT.sIx_nat]
  show (xs.drop (min c xs.length)).take (xs.length - min c xs.length)=_
  by_cases h:c<=xs.length
  · rw[Nat.min_eq_left h,List.take_of_length_le (by simp)]
  · rw[Nat.min_eq_right (by omega),List.drop_length,List.drop_of_length_le (by omega)]
    simp
end Lv
namespace L2
open PySem PySem.Spec PyProof.Rows PySem.SeqAt
section
variable {X:Cx}{tg:Expr}
end
end L2
namespace L2
open PySem PySem.Spec PyProof.Rows
section
variable {own:List Str}{js:List Nat}{g:TG}{tt:TT}{te:TE}{σ:L2.St}{H1:Hp}{Q:VK}
theorem comp_zipM {b1 b2:Bool}{K:PySem.W.Frag}{a b:Addr}{xs ys:List V} (zs:List V) (hq1:SqB b1 K H1 a xs) (hq2:SqB b2 K H1 b ys) (hl:ys.length<=xs.length) (hz:zs.length=ys.length) (hlen:ys.length<=20000)
    (hs:∀ (i:Nat) x y z,xs[i]?=some x->ys[i]?=some y->zs[i]?=some z->∀ p H,Same H1 H->H p=some (.tup [x,y])->∀ R:VK,(∀ H',Same H H'->R z H')->g (.ref p) (blkσ own js σ) H fun τ H4=>te τ H4 R)
    (hd:∀ acc H,H1 acc=none->Same H1 H->H acc=some (.lst zs)->Q (.ref acc) H):tCompW own js g tTrue te σ (ItzB b1 b2 K a b) H1 Q:=by
  refine comp_zipR (xs:=xs) (ys:=ys) hl (fun acc i H=>Same H1 H/\H acc=some (.lst (zs.take i))) (fun acc h0=>⟨Same.new h0,upd_same⟩) (fun acc i H h0 _ z=>⟨Lv.Same.sqB z.1 hq1,Lv.Same.sqB z.1 hq2⟩) ?_ ?_
  · rintro acc i x y p H h0 hx hy ⟨s1,hacc⟩ hp
    have hi:=(List.getElem?_eq_some_iff.mp hy).1
    have hy':=List.getElem?_eq_getElem (l:=zs) (i:=i) (by omega)
    have s2:Same H (upd H p (.tup [x,y])):=Same.new hp
    refine (cast ?_ (hs i x y _ hx hy hy' p _ (s1.trans s2) upd_same (fun y H6=>∃ zs',H6 acc=some (.lst zs')/\zs'.length<sizeLine/\(i+1<=ys.length/\(Same H1 (upd H6 acc (.lst (zs'++[y])))/\upd H6 acc (.lst (zs'++[y])) acc=some (.lst (zs.take (i+1)))))) fun H' s'=>?_))
    · unfold tTrue
      simp only[if_true]
    · refine⟨_,s' _ _ (s2 _ _ hacc),?_,hi,((s1.trans s2).trans s').put h0,?_⟩
      · rw[sizeLine_eq,List.length_take]
        omega
      · rw[upd_same,List.take_add_one,hy']
        simp
  · rintro acc H h0 ⟨s1,hacc⟩
    rw[<- hz,List.take_length] at hacc
    exact hd acc H h0 s1 hacc
end
end L2
namespace L2
open PySem PySem.Spec PyProof.Rows PySem.SeqAt
end L2
namespace L2
open PySem PySem.Spec PyProof.Rows PySem.SeqAt Lv
end L2
namespace L2
open PySem PySem.Spec PyProof.Rows PySem.W
end L2
namespace Lv
open PySem L2
end Lv
namespace L2
open PySem PySem.Spec PyProof.Rows
theorem call_sumB {X:Cx} (hc:X.calm=true):CallR X (.builtin "sum") (fun xs H Q=>∃ (a:Addr) (b:Bool) (ns:List Int),xs=[.ref a]/\SqB b X.K H a (ns.map V.int)/\Q (.int ns.sum) H):=by
  intro pins s σ H xs us Q I r h
  obtain⟨a,b,ns,rfl,hq,q⟩:=h
  cases b
  · exact call_sumT hc pins s σ H _ us Q I r ⟨a,ns,rfl,hq,q⟩
  · exact call_sumI hc pins s σ H _ us Q I r ⟨a,ns,rfl,hq,q⟩
end L2
namespace L2
open PySem PySem.Spec PyProof.Rows
theorem callK_sumJ (K:PySem.W.Frag) {X:Cx} (hc:X.calm=true) (hK:X.K=K:=by rfl):CallR X (.builtin "sum") (fun xs H Q=>∃ (a:Addr) (ns:List Int),xs=[.ref a]/\SqL K H a (ns.map V.int)/\Q (.int ns.sum) H):=by subst hK;exact call_sumI hc
end L2
namespace L2
open PySem PySem.Spec PyProof.Rows
section
variable {own:List Str}{js:List Nat}{g:TG}{te:TE}{σ:St}{H1:Hp}{Q:VK}
theorem LLs.snocC {H:Hp}{rs:List Addr}{N:List (List Int)}{q:Addr}{xs:List Int} (h:LLs H rs N) (e:H q=some (.lst (xs.map V.int))):LLs H (rs++[q]) (N++[xs]):=⟨by rw[List.length_append,List.length_append,h.1];rfl,fun j r ys a b=>by
  have hl:=h.1
  by_cases hj:j<rs.length
  · rw[List.getElem?_append_left hj] at a
    rw[List.getElem?_append_left (by omega)] at b
    exact h.2 j r ys a b
  · rw[List.getElem?_append_right (by omega)] at a b
    have e0:j - rs.length=0:=by
      have:=(List.getElem?_eq_some_iff.mp a).1
      simp at this
      omega
    rw[e0] at a
    rw[<- hl,e0] at b
    cases a
    cases b
    exact e⟩
theorem comp_rngL {lo:Int}{n:Nat} (N:List (List Int)) (hN:N.length=n) (hlen:n<=20000)
    (hs:∀ i xs,i<n->N[i]?=some xs->∀ H,Same H1 H->∀ R:VK,(∀ q H',H q=none->Same H H'->H' q=some (.lst (xs.map V.int))->R (.ref q) H')->g (.int (lo+(i:Nat))) (blkσ own js σ) H fun τ H4=>te τ H4 R)
    (hd:∀ acc (qs:List Addr) H,H1 acc=none->Same H1 H->H acc=some (.lst (qs.map V.ref))->LLs H qs N->(∀ q∈qs,q≠acc/\H1 q=none)->Q (.ref acc) H):tCompW own js g tTrue te σ (Itr lo n) H1 Q:=by
  refine comp_range (fun acc i H=>Same H1 H/\∃ qs:List Addr,H acc=some (.lst (qs.map V.ref))/\LLs H qs (N.take i)/\∀ q∈qs,q≠acc/\H1 q=none) (fun acc h0=>⟨Same.new h0,[],upd_same,⟨rfl,fun j r xs a=>(nomatch a)⟩,fun q h=>nomatch h⟩) ?_ fun acc H h0 ⟨s1,qs,hacc,hL,hq⟩=>hd acc qs H h0 s1 hacc (by rwa [<- hN,List.take_length] at hL) hq
  rintro acc i H h0 hi ⟨s1,qs,hacc,hL,hq⟩
  have hy':=List.getElem?_eq_getElem (l:=N) (i:=i) (by omega)
  have hql:qs.length=i:=by rw[hL.1,List.length_take];omega
  refine (cast ?_ (hs i _ hi hy' H s1 (fun y H6=>∃ zs',H6 acc=some (.lst zs')/\zs'.length<sizeLine/\(i+1<=n/\(Same H1 (upd H6 acc (.lst (zs'++[y])))/\∃ qs:List Addr,upd H6 acc (.lst (zs'++[y])) acc=some (.lst (qs.map V.ref))/\LLs (upd H6 acc (.lst (zs'++[y]))) qs (N.take (i+1))/\∀ q∈qs,q≠acc/\H1 q=none))) fun q H' nq s' hq'=>?_))
  · unfold tTrue
    simp only[if_true]
  · have hqa:q≠acc:=fun e=>by rw[e,hacc] at nq;cases nq
    refine⟨_,s' _ _ hacc,?_,hi,(s1.trans s').put h0,qs++[q],by rw[upd_same,List.map_append];rfl,?_,fun x hx=>?_⟩
    · rw[sizeLine_eq,List.length_map]
      omega
    · rw[List.take_add_one,hy']
      have h5:=(hL.same s').snocC hq'
      refine⟨h5.1,fun j r xs a b=>?_⟩
      have hne:r≠acc:=by
        rcases List.mem_append.mp (List.mem_of_getElem? a) with z | z
        · exact (hq r z).1
        · rw[List.mem_singleton.mp z];exact hqa
      rw[upd_ne hne]
      exact h5.2 j r xs a b
    · rcases List.mem_append.mp hx with z | z
      · exact hq x z
      · rw[List.mem_singleton.mp z];exact⟨hqa,s1.free nq⟩
end
end L2
namespace Lv
open PySem L2
theorem exr_len (xs:List Int):∀ i,((exr xs i).length:Int)=((List.range i).map fun (m:Nat)=>cn xs (m:Int)).sum
  | 0=>by simp[exr]
  | i+1=>by
    rw[exr_succ,List.length_append,List.length_replicate,List.range_succ,List.map_append,List.sum_append,Int.natCast_add,exr_len xs i]
    have:0<=cn xs (i:Int):=by unfold cn;omega
    simp
    omega
theorem Rp.sumL {R xs:List Int} (h:Rp R xs):R.sum=(xs.length:Int):=by
  have e:=(exr_perm h.2).length_eq
  have e2:=exr_len xs R.length
  rw[e] at e2
  rw[e2]
  conv=>lhs;rw[h.1]
  rfl
theorem RpL.total:∀ {Rs N:List (List Int)},RpL Rs N->(Rs.map List.sum).sum=(N.flatten.length:Int)
  | [],[],_=>rfl
  | [],_::_,h=>by have:=h.1;simp at this
  | _::_,[],h=>by have:=h.1;simp at this
  | R::Rs,Y::N,h=>by
    obtain⟨h1,h2⟩:=h.cons
    rw[List.map_cons,List.sum_cons,h1.sumL,RpL.total h2,List.flatten_cons,List.length_append]
    omega
theorem exr_isrt {xs:List Int}{B:Nat} (h:∀ m∈xs,0<=m/\m<B):exr xs B=isrt xs:=isrt_of (exr_perm h) (exr_srt xs B)
def tlv (c:Bool) (p i:Nat):Int:=((SS c p i).flatten.length:Int)
theorem tlv_num (p i:Nat):tlv false p i=tot p i:=num_flat p i
theorem tlv_cas {p:Nat} (hp:1<=p) (i:Nat):tlv true p i=(casc p i).sum:=by
  show ((casN p i).flatten.length:Int)=_
  rw[flat_lens,lens_cas hp]
theorem tlv_mono {c:Bool}{p:Nat} (hp:2<=p) {m n:Nat} (h:m<=n):tlv c p m<=tlv c p n:=by
  cases c
  · rw[tlv_num,tlv_num];exact tot_mono hp h
  · rw[tlv_cas (by omega),tlv_cas (by omega)];exact casc_mono h
theorem tlv_60 {c:Bool}{p:Nat} (hp:2<=p) (h7:p<=7) {i:Nat} (h:tlv c p i<=4000):i<=60:=by
  have h61:4000<tlv c p 61:=by
    cases c
    · rw[tlv_num]
      rcases (show p=2∨p=3∨p=4∨p=5∨p=6∨p=7 by omega) with rfl | rfl | rfl | rfl | rfl | rfl <;> decide +kernel
    · rw[tlv_cas (by omega)]
      rcases (show p=2∨p=3∨p=4∨p=5∨p=6∨p=7 by omega) with rfl | rfl | rfl | rfl | rfl | rfl <;> decide +kernel
  by_cases z:i<=60
  · exact z
  · have:=tlv_mono (c:=c) hp (m:=61) (n:=i) (by omega)
    omega
theorem SS_succ (c:Bool) (p i:Nat):SS c p (i+1)=if c then nextKN (SS c p i) else nextN (SS c p i):=by cases c <;> rfl
theorem SS_len {c:Bool}{p:Nat} (hp:2<=p) (i:Nat):(SS c p i).length=p:=by
  cases c
  · exact num_len (by omega) i
  · exact casN_len (by omega) i
def ToldW (c:Bool) (p m:Nat):Prop:=(∀ i,i<m->tlv c p i<=4000)/\4000<tlv c p m
theorem ToldW.one {c:Bool}{p m n:Nat} (a:ToldW c p m) (b:ToldW c p n):m=n:=by
  rcases Nat.lt_trichotomy m n with h | h | h
  · have:=b.1 m h;have:=a.2;omega
  · exact h
  · have:=a.1 n h;have:=b.2;omega
def BestT (c:Bool) (p:Nat) (ls:List Int) (o:Option (Int × Nat)):Prop:=∃ m,ToldW c p m/\BestG (fitF ls (SS c p)) m o
theorem BestG.uniq {f:Nat->Option Int}{m:Nat}:∀ {o o':Option (Int × Nat)},BestG f m o->BestG f m o'->o=o'
  | none,none,_,_=>rfl
  | none,some (R,n),a,b=>by have:=a n b.1;rw[b.2.1] at this;cases this
  | some (R,n),none,b,a=>by have:=a n b.1;rw[b.2.1] at this;cases this
  | some (R,n),some (R',n'),a,b=>by obtain⟨rfl,rfl⟩:=a.one b;rfl
theorem BestT.uniq {c:Bool}{p:Nat}{ls:List Int}{o o':Option (Int × Nat)} (a:BestT c p ls o) (b:BestT c p ls o'):o=o':=by
  obtain⟨m,a1,a2⟩:=a
  obtain⟨n,b1,b2⟩:=b
  cases a1.one b1
  exact a2.uniq b2
end Lv
namespace Lv
open PySem L2
theorem BestVP.toV {ls:List Int}{L:List (List (List Int))}{H:Hp}{o:Option (Int × Nat)}{v:V} (h:BestVP ls L H o v):BestV H o v:=by
  match o,h with
  | none,h=>exact h
  | some (R,n),⟨t,pl,qs,N,ks,lf,lp,e,q,_⟩=>exact⟨t,pl,e,q⟩
theorem bestBy_of {K:PySem.W.Frag}{vs:List V}{H:Hp}{Q:VK}{E:XK} (h:spBestBy K vs H Q E):spBestByP K vs H Q E:=by
  obtain⟨lv,ll,b,as,L,ls,e,h1,h2,h3,h4,h5,k⟩:=h
  exact⟨lv,ll,b,as,L,ls,e,h1,h2,h3,h4,h5,fun o v H' ho hv s=>k o v H' ho hv.toV s⟩
end Lv
namespace Fj75
open PySem L2 Lv
def top (i:Nat):Stmt:=PySem.Challenge.pw_fewreels_k75_held_lengths_told.main.body.getD i (.Pass ⟨0,0,0,0⟩)
abbrev sWhole:Stmt:=top 4
abbrev sWays:Stmt:=top 8
abbrev sFirstN:Stmt:=top 11
abbrev sNextN:Stmt:=top 12
abbrev sPlacesIn:Stmt:=top 13
abbrev sTold:Stmt:=top 14
abbrev sLeastP:Stmt:=top 15
abbrev sReadBy:Stmt:=top 17
abbrev sLeastBy:Stmt:=top 18
abbrev sBestBy:Stmt:=top 19
abbrev sBPl:Stmt:=top 20
abbrev sNextKN:Stmt:=top 22
abbrev sLongC:Stmt:=top 23
abbrev sFstM:Stmt:=top 25
abbrev sLJoin:Stmt:=top 26
abbrev sBalP:Stmt:=top 28
abbrev sBalR:Stmt:=top 29
abbrev sHL:Stmt:=top 30
abbrev sBW:Stmt:=top 31
abbrev sPotT:Stmt:=top 33
abbrev sTakeT:Stmt:=top 34
abbrev sFur:Stmt:=top 35
abbrev sNms:Stmt:=top 36
abbrev sLogR75:Stmt:=top 37
abbrev sLPass:Stmt:=top 38
abbrev sLens75:Stmt:=top 39
abbrev sBest75:Stmt:=top 40
abbrev sLWhole:Stmt:=top 41
abbrev sKinds75:Stmt:=top 42
abbrev sLaw:Stmt:=top 43
end Fj75
namespace Fj75
open PySem L2 Lv
section
variable {P:Program}{w:World}{K:PySem.W.Frag}{mg:Str->Option Value}{base:Heap}
theorem scFstM:FnScope ["p","rows"] ["p","rows"] (defScope sFstM):=⟨rfl,rfl,rfl,by decide +kernel,rfl,by decide +kernel,by decide +kernel⟩
def spFstM:Sp:=fun vs H Q _=>∃ (p n:Int),vs=[.int p,.int n]/\2<=p/\Q (.int ((n - 2) % (p - 1)+2)) H
theorem ok_fstM {f:Addr}{fd:FuncData} (F:Fun K "first_many" "first_many" sFstM f fd) :FnOk P w K mg base CX0 1 f fd ["p","rows"] spFstM:=by
  refine F.ok scFstM (fun vs H Q E h=>?_) (fun cdv A outer s H vs Q E hr h=>?_)
  · obtain⟨p,n,rfl,_⟩:=h
    rfl
  · obtain⟨p,n,rfl,hp,k⟩:=h
    refine⟨_,(pss_one (ps_ret (pe_op op_add (pe_op op_mod (pe_op op_sub (pv 1) pe_int) (pe_op op_sub (pv 0) pe_int)) pe_int))),?_⟩
    exact⟨_,rfl,_,_,rfl,rfl,_,rfl,_,_,rfl,rfl,_,_,rfl,rfl,by show (0:Int)<p - 1;omega,_,_,rfl,rfl,k⟩
theorem scLJoin:FnScope ["p","lengths","there","many","reading","log","taken","made"] ["p","lengths"] (defScope sLJoin):=⟨rfl,rfl,rfl,by decide +kernel,rfl,by decide +kernel,by decide +kernel⟩
theorem prK_fst (ls:List Int):(prK ls).map (fun k=>k.getD 0 0)=ls:=prK_k0 ls
theorem tum_kf {H:Hp}{ps:List Addr}{ks:List (List Int)} (h:TuM H ps ks):∀ p∈ps,kf H p≠[]/\H p=some (.tup ((kf H p).map V.int)):=by
  intro p hp
  obtain⟨k',hk,e⟩:=h.1 p hp
  rw[kf_of e]
  exact⟨hk,e⟩
theorem SqB.sameJ {b:Bool}{H H':Hp}{a:Addr}{xs:List V} (e:Same H H') (h:SqB b K H a xs):SqB b K H' a xs:=by
  cases b
  · exact e.tup h
  · exact e.seq h
theorem SqB.orJ {b:Bool}{H:Hp}{a:Addr}{xs:List V} (h:SqB b K H a xs):SqL K H a xs∨SqT K H a xs:=by
  cases b
  · exact .inr h
  · exact .inl h
theorem tum_take {H:Hp}{qs:List Addr}{ks:List (List Int)} (h:TuM H qs ks) (m:Nat):TuM H (qs.take m) (ks.take m):=⟨fun p hp=>h.1 p (List.mem_of_mem_take hp),by rw[<- h.2,List.map_take]⟩
theorem tum_drop {H:Hp}{qs:List Addr}{ks:List (List Int)} (h:TuM H qs ks) (m:Nat):TuM H (qs.drop m) (ks.drop m):=⟨fun p hp=>h.1 p (List.mem_of_mem_drop hp),by rw[<- h.2,List.map_drop]⟩
theorem pair_at {H:Hp}{qs:List Addr}{ks:List (List Int)} (h:TuM H qs ks) (h2:∀ k∈ks,k.length=2) {j:Nat}{x y:V} (hx:(qs.map V.ref)[j]?=some x) (hy:((ks.map fun k=>k.getD 0 0).map V.int)[j]?=some y):∃ z a b,H z=some (.tup [.int a,.int b])/\x=.ref z/\y=.int a:=by
  obtain⟨z,hz,rfl⟩:=map_ref_get hx
  obtain⟨k,hk,e⟩:=h.at hz
  obtain⟨y',hy',rfl⟩:=map_get hy
  rw[List.getElem?_map,hk] at hy'
  cases hy'
  match k,h2 k (List.mem_of_getElem? hk),e with
  | [a,b],_,e=>exact⟨z,a,b,e,rfl,rfl⟩
theorem pair_at1 {H:Hp}{qs:List Addr}{ks:List (List Int)} (h:TuM H qs ks) (h2:∀ k∈ks,k.length=2) {j:Nat}{x y:V} (hx:(qs.map V.ref)[j]?=some x) (hy:((ks.map fun k=>k.getD 1 0).map V.int)[j]?=some y):∃ z a b,H z=some (.tup [.int a,.int b])/\x=.ref z/\y=.int b:=by
  obtain⟨z,hz,rfl⟩:=map_ref_get hx
  obtain⟨k,hk,e⟩:=h.at hz
  obtain⟨y',hy',rfl⟩:=map_get hy
  rw[List.getElem?_map,hk] at hy'
  cases hy'
  match k,h2 k (List.mem_of_getElem? hk),e with
  | [a,b],_,e=>exact⟨z,a,b,e,rfl,rfl⟩
def spLJoinL (K:PySem.W.Frag):Sp:=fun vs H Q _=>∃ (p:Nat) (ll:Addr) (b:Bool) (ls:List Int),vs=[.int p,.ref ll]/\2<=p/\p<=7/\SqB b K H ll (ls.map V.int)/\ls.length<=500/\∀ (t lg:Addr) (rs:List Addr) (r:Int) (L:List (List Int)) H',H t=none->H lg=none->H' t=some (.tup [.int r,.ref lg])->H' lg=some (.lst (rs.map V.ref))->TTs H' rs L->Joined p ls r L->Same H H'->Q (.ref t) H'
theorem ok_ljoinL {f f1 f2:Addr}{fd d1 d2:FuncData} (F:Fun K "least_join" "least_join" sLJoin f fd) (T:Txt mg) (Te:mg "enumerate"=none) (CW:Cal P w K mg base 2 "check_ways" ["p"] spWays f1 d1) (CM:Cal P w K mg base 1 "first_many" ["p","rows"] spFstM f2 d2):FnOk P w K mg base CX0 3 f fd ["p","lengths"] (spLJoinL K):=by
  refine okW F scLJoin (fun vs H Q E h=>?_) (fun cdv A outer s H vs Q E hr h=>?_)
  · obtain⟨p,ll,b,ls,rfl,_⟩:=h
    rfl
  · obtain⟨p,ll,b,ls,rfl,p2,p7,hL,hl5,k⟩:=h
    have hr1:Room 1 _:=hr.mono (by decide)
    have hr2:Room 2 _:=hr.mono (by decide)
    refine⟨_,(wss_cons (ws (ps_expr (pe_cal CW hr2 rfl (pa_cons (pv 0) pa_nil))))
      (wss_cons (ws (ps_set (i:=2) scLJoin.nd rfl (Or.inl rfl) (pe_callB call_sortPA rfl T.sorted b_sorted (pa_cons (pe_comp (own:=["number","length"]) (js:=[]) (CompOk.by (sc:=defScope sLJoin) (N:=["p","lengths","there","many","reading","log","taken","made"]) rfl rfl (by decide +kernel)) rfl (pi_enumB rfl Te (pa_cons (pv 1) pa_nil)) (gkeep_two (i:=0) (k:=1) (K:=K)) (fun _ _ _ _ _=>(pgK_tup K rfl (pgs_cons (pg_name (i:=0) (by show (["number","length"]:List Str).Nodup;decide +kernel) rfl (Or.inl rfl) (.inr rfl)) (pgs_cons (pg_name (i:=1) (by show (["number","length"]:List Str).Nodup;decide +kernel) rfl (Or.inl rfl) (.inr rfl)) pgs_nil)))) (fun _ _ _ _ _=>pts_nil) (fun _ _ _ _ _=>(pe_tup (pa_cons (pv 1) (pa_cons (pv 0) pa_nil))))) pa_nil))))
      (wss_cons (ws (ps_set (i:=3) scLJoin.nd rfl (Or.inl rfl) (pe_cal CM hr1 rfl (pa_cons (pv 0) (pa_cons (pe_callB call_len_seq rfl T.len PySem.boot_len (pa_cons (pv 1) pa_nil)) pa_nil)))))
      (wss_cons (ws (ps_set (i:=4) scLJoin.nd rfl (Or.inl rfl) pe_int))
      (wss_cons (ws (ps_set (i:=5) scLJoin.nd rfl (Or.inl rfl) (pe_lst pa_nil)))
      (wss_cons (ws (ps_while PassesOwn.never (pt_cmpR op_gt (pe_callB call_len_seq rfl T.len PySem.boot_len (pa_cons (pv 2) pa_nil)) pe_int (nomark _))
      (WSs.out (wss_cons (ws (ps_set (i:=6) scLJoin.nd rfl (Or.inl rfl) (pe_slice sl_list (pv 2) po_none (po_some (pv 3)))))
        (wss_cons (ws (ps_set (i:=7) scLJoin.nd rfl (Or.inl rfl) (pe_callB (call_sumI rfl) rfl T.sum b_sum (pa_cons (pe_comp (own:=["length","number"]) (js:=[]) (CompOk.by (sc:=defScope sLJoin) (N:=["p","lengths","there","many","reading","log","taken","made"]) rfl rfl (by decide +kernel)) rfl (pi_seqB (pv 6)) (gkeep_two (i:=0) (k:=1) (K:=K)) (fun _ _ _ _ _=>(pgK_tup K rfl (pgs_cons (pg_name (i:=0) (by show (["length","number"]:List Str).Nodup;decide +kernel) rfl (Or.inl rfl) (.inr rfl)) (pgs_cons (pg_name (i:=1) (by show (["length","number"]:List Str).Nodup;decide +kernel) rfl (Or.inl rfl) (.inr rfl)) pgs_nil)))) (fun _ _ _ _ _=>pts_nil) (fun _ _ _ _ _=>(pv 0))) pa_nil))))
        (wss_cons (ws (ps_set (i:=2) scLJoin.nd rfl (Or.inl rfl) (pe_callB call_sortPA rfl T.sorted b_sorted (pa_cons (pe_op op_cat (pe_slice sl_list (pv 2) (po_some (pv 3)) po_none) (pe_lst (pa_cons (pe_tup (pa_cons (pv 7) (pa_cons (pe_op op_add (pe_callB call_len_seq rfl T.len PySem.boot_len (pa_cons (pv 1) pa_nil)) (pe_callB call_len_seq rfl T.len PySem.boot_len (pa_cons (pv 5) pa_nil))) pa_nil))) pa_nil))) pa_nil))))
        (wss_cons (ws (ps_aug (i:=4) scLJoin.nd rfl (Or.inl rfl) (pv 7) ip_add))
        (wss_cons (ws (ps_expr (pe_bm PySem.F.plainAttrs_list PySem.F.slot_list_append PySem.F.type_list_append mt_append (pv 5) (pa_cons (pe_callTy call_tuple_of rfl T.tuple b_tuple (pa_cons (pe_callB call_sortA rfl T.sorted b_sorted (pa_cons (pe_comp (own:=["length","number"]) (js:=[]) (CompOk.by (sc:=defScope sLJoin) (N:=["p","lengths","there","many","reading","log","taken","made"]) rfl rfl (by decide +kernel)) rfl (pi_seqB (pv 6)) (gkeep_two (i:=0) (k:=1) (K:=K)) (fun _ _ _ _ _=>(pgK_tup K rfl (pgs_cons (pg_name (i:=0) (by show (["length","number"]:List Str).Nodup;decide +kernel) rfl (Or.inl rfl) (.inr rfl)) (pgs_cons (pg_name (i:=1) (by show (["length","number"]:List Str).Nodup;decide +kernel) rfl (Or.inl rfl) (.inr rfl)) pgs_nil)))) (fun _ _ _ _ _=>pts_nil) (fun _ _ _ _ _=>(pv 1))) pa_nil)) pa_nil)) pa_nil))))
        (wss_one (ws (ps_set (i:=3) scLJoin.nd rfl (Or.inl rfl) (pv 0))))))))))))
      (wss_one (ws (ps_ret (pe_tup (pa_cons (pv 4) (pa_cons (pv 5) pa_nil)))))))))))),?_⟩
    have hz:20000<sizeLine:=by decide
    refine⟨_,rfl,p,rfl,by omega,by omega,?_⟩
    refine⟨_,rfl,ll,b,rfl,⟨_,hL⟩,?_⟩
    refine comp_enumB (xs:=ls.map V.int) (fun acc i H2=>Same H H2/\∃ ps,H2 acc=some (.lst (ps.map V.ref))/\(∀ p∈ps,p≠acc)/\TuM H2 ps (prK (ls.take i))) (fun acc h0=>⟨Same.new h0,[],upd_same,(fun p hp=>nomatch hp),TuM.nil⟩) (fun acc i H2 h0 _ p=>SqB.sameJ p.1 hL) ?_ ?_
    · rintro acc i x q H2 h0 hx ⟨s2,ps,hacc,hne,hpr⟩ hq
      obtain⟨l,hl,rfl⟩:=map_get hx
      have hi:=(List.getElem?_eq_some_iff.mp hl).1
      have s3:Same H2 (upd H2 q (.tup [.int i,.int l])):=Same.new hq
      have hq3:upd H2 q (.tup [.int i,.int l]) q=some (.tup [.int i,.int l]):=upd_same
      generalize upd H2 q (.tup [.int i,.int l])=H3 at s3 hq3 ⊢
      have hpl:ps.length=i:=by rw[hpr.len,prK_len,List.length_take];omega
      refine⟨q,_,rfl,SqT.of hq3,rfl,_,_,rfl,_,_,rfl,rfl,?_⟩
      refine⟨_,rfl,_,rfl,(by show 2<=sizeLine;decide),fun t ht=>?_⟩
      have hacc3:=s3 _ _ hacc
      have hta:t≠acc:=Ne.symm (ne_of_none hacc3 ht)
      have s45:Same H3 (upd H3 t (.tup [.int l,.int i])):=Same.new ht
      have ht5:upd H3 t (.tup [.int l,.int i]) t=some (.tup (([l,(i:Int)]:List Int).map V.int)):=upd_same
      generalize upd H3 t (.tup [.int l,.int i])=H5 at s45 ht5 ⊢
      refine⟨_,s45 _ _ hacc3,by rw[List.length_map];omega,by rw[List.length_map];exact hi,(s2.trans (s3.trans s45)).put h0,ps++[t],by rw[upd_same,List.map_append];rfl,fun p hp=>?_,?_⟩
      · rcases List.mem_append.mp hp with hp | hp
        · exact hne p hp
        · rw[List.mem_singleton.mp hp];exact hta
      · have:=(hpr.same (s3.trans s45)).snoc ht5 (by simp)
        rw[<- prK_take hl] at this
        refine this.keep fun p hp=>upd_ne ?_
        rcases List.mem_append.mp hp with hp | hp
        · exact hne p hp
        · rw[List.mem_singleton.mp hp];exact hta
    rintro acc H2 h0 ⟨s2,ps,hacc,hne,hpr⟩
    rw[List.length_map,List.take_length] at hpr
    refine⟨acc,ps,kf H2,rfl,SqL.of hacc,tum_kf hpr,fun fl fs nfl pm up=>?_⟩
    have s23:Same H2 (upd H2 fl (.lst (fs.map V.ref))):=Same.new nfl
    have hfl:upd H2 fl (.lst (fs.map V.ref)) fl=some (.lst (fs.map V.ref)):=upd_same
    have hlf2:TuM H2 fs (fs.map (kf H2)):=⟨fun p hp=>hpr.1 p (pm.mem_iff.mp hp),rfl⟩
    have lfp:(fs.map (kf H2)).Perm (prK ls):=by rw[<- hpr.2];exact pm.map _
    have lfu:(fs.map (kf H2)).Pairwise (fun p q=>lxB q p=false):=List.pairwise_map.mpr up
    have hlf3:=hlf2.same s23
    generalize upd H2 fl (.lst (fs.map V.ref))=H3 at s23 hfl hlf3 ⊢
    generalize fs.map (kf H2)=ks at hlf3 lfp lfu
    have sH3:=s2.trans s23
    refine⟨_,rfl,_,rfl,ll,_,rfl,SqB.orJ (SqB.sameJ sH3 hL),p,_,rfl,by omega,?_⟩
    rw[List.length_map,fm_eq (p:=(p:Int)) (by omega)]
    refine⟨Nat.zero_le _,fun lg nlg=>?_⟩
    have x4:upd H3 lg (.lst []) lg=some (.lst (([]:List Addr).map V.ref)):=upd_same
    have u4:Same H3 (upd H3 lg (.lst [])):=Same.new nlg
    have flg:fl≠lg:=ne_of_none hfl nlg
    have nlgH:H lg=none:=sH3.free nlg
    generalize upd H3 lg (.lst [])=H4 at x4 u4 ⊢
    have hk2:∀ k∈ks,k.length=2:=fun k hk=>by
      obtain⟨j,hj⟩:=List.getElem?_of_mem (lfp.subset hk)
      unfold prK at hj
      rw[List.getElem?_mapIdx] at hj
      cases e:ls[j]? with
      | none=>rw[e] at hj;cases hj
      | some l=>rw[e] at hj;cases hj;rfl
    have hfs:(ks.map fun k=>k.getD 0 0).Perm ls:=by
      have:=lfp.map fun k:List Int=>k.getD 0 0
      rwa [prK_fst] at this
    have hksl:ks.length=ls.length:=by rw[lfp.length_eq,prK_len]
    have jgo:∀ r' L',JRun p (fmJ p ls.length) ((ls.length+([]:List Addr).length:Nat):Int) ks r' L'->Joined p ls (0+r') ([]++L'):=fun r' L' j=>⟨ks,lfp,lfu,by rw[Int.zero_add];exact j⟩
    refine⟨fun m σ Hx=>∃ (l:Addr) (qs:List Addr) (ks:List (List Int)) (rs:List Addr) (L:List (List Int)) (mm:Nat) (R:Int) (o6 o7:Option V),m=ks.length/\σ=[some (.int p),some (.ref ll),some (.ref l),some (.int mm),some (.int R),some (.ref lg),o6,o7]/\Hx l=some (.lst (qs.map V.ref))/\l≠lg/\TuM Hx qs ks/\(∀ k∈ks,k.length=2)/\ks.Pairwise (fun p q=>lxB q p=false)/\(∀ r' L',JRun p mm ((ls.length+rs.length:Nat):Int) ks r' L'->Joined p ls (R+r') (L++L'))/\(2<=ks.length->mm=fmJ p ks.length)/\Hx lg=some (.lst (rs.map V.ref))/\TTs Hx rs L/\rs.length+ks.length<=ls.length/\Same H Hx,
      ⟨ks.length,fl,fs,ks,[],[],_,0,_,_,rfl,rfl,u4 _ _ hfl,flg,hlf3.same u4,hk2,lfu,jgo,fun h=>by rw[hksl],x4,⟨rfl,fun j r xs a=>(nomatch a)⟩,by simp;omega,sH3.trans u4⟩,?_⟩
    rintro m σ Hx ⟨l,qs,ks,rs,L,mm,R,o6,o7,rfl,rfl,hl,llg,hTu,hk2,hup,hJ,hmm,hlg,hLT,hrs,sx⟩
    clear jgo x4 u4 flg hfs hksl lfp lfu hlf3 hlf2 hfl s23 pm up
    have hql:qs.length=ks.length:=hTu.len
    refine⟨_,rfl,l,_,rfl,.inl (SqL.of hl),_,_,rfl,rfl,_,rfl,?_⟩
    rw[List.length_map,hql]
    refine ite2 (fun hgt=>?_) (fun hle=>?_)
    · have hgt:((ks.length:Nat):Int) > 1:=of_decide_eq_true hgt
      have h2:2<=ks.length:=by omega
      have hmf:=hmm h2
      subst hmf
      obtain⟨f1,f2,f3,q,hq,f4⟩:=fm_spec (p:=(p:Int)) (by omega) h2
      have hnx:=fm_next (p:=(p:Int)) (by omega) h2
      generalize fmJ p ks.length=F at *
      refine⟨fun σ' H'=>∃ (m:Nat) (l:Addr) (qs:List Addr) (ks':List (List Int)) (rs:List Addr) (L:List (List Int)) (mm:Nat) (R:Int) (o6 o7:Option V),m=ks'.length/\m<ks.length/\σ'=[some (.int p),some (.ref ll),some (.ref l),some (.int mm),some (.int R),some (.ref lg),o6,o7]/\H' l=some (.lst (qs.map V.ref))/\l≠lg/\TuM H' qs ks'/\(∀ k∈ks',k.length=2)/\ks'.Pairwise (fun p q=>lxB q p=false)/\(∀ r' L',JRun p mm ((ls.length+rs.length:Nat):Int) ks' r' L'->Joined p ls (R+r') (L++L'))/\(2<=ks'.length->mm=fmJ p ks'.length)/\H' lg=some (.lst (rs.map V.ref))/\TTs H' rs L/\rs.length+ks'.length<=ls.length/\Same H H',fun σ' H' ⟨m,l,qs,ks',rs,L,mm,R,o6,o7,e1,e2,r⟩=>⟨m,e2,l,qs,ks',rs,L,mm,R,o6,o7,e1,r⟩,?_⟩
      refine⟨_,rfl,_,rfl,_,rfl,l,_,rfl,SqL.of hl,fun tk ntk=>?_⟩
      rw[cut_take]
      have s1:Same Hx (upd Hx tk (.lst ((qs.map V.ref).take F))):=Same.new ntk
      have e1:upd Hx tk (.lst ((qs.map V.ref).take F)) tk=some (.lst ((qs.take F).map V.ref)):=by rw[upd_same,List.map_take]
      generalize upd Hx tk (.lst ((qs.map V.ref).take F))=G1 at s1 e1 ⊢
      have hTk:TuM G1 (qs.take F) (ks.take F):=tum_take (hTu.same s1) F
      refine⟨_,rfl,tk,true,rfl,⟨_,SqL.of e1⟩,?_⟩
      refine comp_mapB ((((ks.take F).map fun k=>k.getD 0 0)).map V.int) (show SqB true K G1 tk ((qs.take F).map V.ref) from SqL.of e1) (by rw[List.length_map,List.length_map,List.length_map,List.length_take,List.length_take,hql]) (by rw[List.length_map,List.length_take];omega) (fun j x y hx hy Hc sc' Rr hRr=>?_) fun ac G2 nac s2 hac=>?_
      · obtain⟨z,a,b,hz,rfl,rfl⟩:=pair_at hTk (fun k hk=>hk2 k (List.mem_of_mem_take hk)) hx hy
        exact⟨z,_,rfl,SqT.of (sc' _ _ hz),rfl,_,_,rfl,_,_,rfl,rfl,_,rfl,hRr Hc (Same.refl _)⟩
      refine⟨ac,_,rfl,SqL.of hac,?_⟩
      have hl2:=s2 _ _ (s1 _ _ hl)
      have hTu2:=(hTu.same s1).same s2
      have hlg2:=s2 _ _ (s1 _ _ hlg)
      have hLT2:=TTs.sameJ (TTs.sameJ hLT s1) s2
      have sx2:=(sx.trans s1).trans s2
      have htk2:=s2 _ _ e1
      have hTk2:=hTk.same s2
      generalize hmd:((ks.take F).map fun k=>k.getD 0 0).sum=made
      refine⟨_,rfl,_,rfl,_,rfl,l,_,rfl,SqL.of hl2,fun u1 nu1=>?_⟩
      rw[cut_drop]
      have s3:Same G2 (upd G2 u1 (.lst ((qs.map V.ref).drop F))):=Same.new nu1
      have e3:upd G2 u1 (.lst ((qs.map V.ref).drop F)) u1=some (.lst ((qs.drop F).map V.ref)):=by rw[upd_same,List.map_drop]
      generalize upd G2 u1 (.lst ((qs.map V.ref).drop F))=G3 at s3 e3 ⊢
      refine⟨_,rfl,_,rfl,ll,_,rfl,SqB.orJ (SqB.sameJ (sx2.trans s3) hL),_,rfl,lg,_,rfl,.inl (SqL.of (s3 _ _ hlg2)),_,_,rfl,rfl,(by show 2<=sizeLine;decide),fun t nt=>?_⟩
      have s4:Same G3 (upd G3 t (.tup [.int made,.int (((ls.map V.int).length:Int)+((rs.map V.ref).length:Int))])):=Same.new nt
      have e4:upd G3 t (.tup [.int made,.int (((ls.map V.int).length:Int)+((rs.map V.ref).length:Int))]) t=some (.tup (([made,((ls.map V.int).length:Int)+((rs.map V.ref).length:Int)]:List Int).map V.int)):=upd_same
      generalize upd G3 t (.tup [.int made,.int (((ls.map V.int).length:Int)+((rs.map V.ref).length:Int))])=G4 at s4 e4 ⊢
      have hid9:((ls.map V.int).length:Int)+((rs.map V.ref).length:Int)=((ls.length+rs.length:Nat):Int):=by rw[List.length_map,List.length_map];omega
      generalize ((ls.map V.int).length:Int)+((rs.map V.ref).length:Int)=id9 at e4 hid9
      refine⟨(by show 1<=sizeLine;decide),fun u2 nu2=>?_⟩
      have s5:Same G4 (upd G4 u2 (.lst [.ref t])):=Same.new nu2
      have e5:upd G4 u2 (.lst [.ref t]) u2=some (.lst (([t]:List Addr).map V.ref)):=upd_same
      generalize upd G4 u2 (.lst [.ref t])=G5 at s5 e5 ⊢
      refine⟨u1,u2,_,_,rfl,rfl,s5 _ _ (s4 _ _ e3),e5,by rw[sizeLine_eq,List.length_map,List.length_map,List.length_drop];simp;omega,fun u3 nu3=>?_⟩
      rw[<- List.map_append]
      have s6:Same G5 (upd G5 u3 (.lst ((qs.drop F++[t]).map V.ref))):=Same.new nu3
      have e6:upd G5 u3 (.lst ((qs.drop F++[t]).map V.ref)) u3=some (.lst ((qs.drop F++[t]).map V.ref)):=upd_same
      generalize upd G5 u3 (.lst ((qs.drop F++[t]).map V.ref))=G6 at s6 e6 ⊢
      have s26:=(s3.trans s4).trans (s5.trans s6)
      have hT6:TuM G6 (qs.drop F++[t]) (ks.drop F++[[made,id9]]):=((tum_drop hTu2 F).same s26).snoc (s6 _ _ (s5 _ _ e4)) (by simp)
      refine⟨u3,_,kf G6,rfl,SqL.of e6,tum_kf hT6,fun fl2 fs2 nfl2 pm2 up2=>?_⟩
      have s7:Same G6 (upd G6 fl2 (.lst (fs2.map V.ref))):=Same.new nfl2
      have e7:upd G6 fl2 (.lst (fs2.map V.ref)) fl2=some (.lst (fs2.map V.ref)):=upd_same
      have hT7:TuM G6 fs2 (fs2.map (kf G6)):=⟨fun p hp=>hT6.1 p (pm2.mem_iff.mp hp),rfl⟩
      have pk:(fs2.map (kf G6)).Perm (ks.drop F++[[made,id9]]):=by rw[<- hT6.2];exact pm2.map _
      have uk:(fs2.map (kf G6)).Pairwise (fun p q=>lxB q p=false):=List.pairwise_map.mpr up2
      have hT7':=hT7.same s7
      have nfl2lg:fl2≠lg:=(ne_of_none (s26 _ _ hlg2) nfl2).symm
      generalize upd G6 fl2 (.lst (fs2.map V.ref))=G7 at s7 e7 hT7' ⊢
      generalize fs2.map (kf G6)=ks2 at hT7' pk uk
      have s27:=s26.trans s7
      have hlg7:=s27 _ _ hlg2
      have htk7:=s27 _ _ htk2
      have hTk7:=hTk2.same s27
      have sx7:=sx2.trans s27
      refine⟨_,rfl,_,rfl,R,made,rfl,rfl,?_⟩
      refine⟨_,rfl,.inl ⟨rfl,_,SqL.of hlg7⟩,_,rfl,tk,true,rfl,⟨_,SqL.of htk7⟩,?_⟩
      refine comp_mapB ((((ks.take F).map fun k=>k.getD 1 0)).map V.int) (show SqB true K G7 tk ((qs.take F).map V.ref) from SqL.of htk7) (by rw[List.length_map,List.length_map,List.length_map,List.length_take,List.length_take,hql]) (by rw[List.length_map,List.length_take];omega) (fun j x y hx hy Hc sc' Rr hRr=>?_) fun ac8 G8 nac8 s8 hac8=>?_
      · obtain⟨z,a,b,hz,rfl,rfl⟩:=pair_at1 hTk7 (fun k hk=>hk2 k (List.mem_of_mem_take hk)) hx hy
        exact⟨z,_,rfl,SqT.of (sc' _ _ hz),rfl,_,_,rfl,_,_,rfl,rfl,_,rfl,hRr Hc (Same.refl _)⟩
      refine⟨ac8,_,rfl,SqL.of hac8,fun l9 ms nl9 hpm hup9=>?_⟩
      have s9:Same G8 (upd G8 l9 (.lst (ms.map V.int))):=Same.new nl9
      have e9:upd G8 l9 (.lst (ms.map V.int)) l9=some (.lst (ms.map V.int)):=upd_same
      generalize upd G8 l9 (.lst (ms.map V.int))=G9 at s9 e9 ⊢
      refine⟨l9,_,rfl,.inl ⟨SqL.of e9,fun tt ntt=>?_⟩⟩
      have s10:Same G9 (upd G9 tt (.tup (ms.map V.int))):=Same.new ntt
      have e10:upd G9 tt (.tup (ms.map V.int)) tt=some (.tup (ms.map V.int)):=upd_same
      generalize upd G9 tt (.tup (ms.map V.int))=G10 at s10 e10 ⊢
      have s710:=(s8.trans s9).trans s10
      have hlg10:=s710 _ _ hlg7
      have hks2l:ks2.length=ks.length - F+1:=by rw[pk.length_eq,List.length_append,List.length_drop];rfl
      refine⟨lg,_,_,rfl,rfl,hlg10,by rw[List.length_map];omega,?_⟩
      have hk22:∀ k∈ks2,k.length=2:=fun k hk=>by
        rcases List.mem_append.mp (pk.subset hk) with z | z
        · exact hk2 k (List.mem_of_mem_drop z)
        · rw[List.mem_singleton.mp z];rfl
      have hJn:∀ r' L',JRun p p ((ls.length+(rs++[tt]).length:Nat):Int) ks2 r' L'->Joined p ls (R+made+r') ((L++[ms])++L'):=fun r' L' j=>by
        have:=hJ (made+r') (ms::L') (by
          rw[<- hmd]
          refine JRun.step _ _ ks ks2 r' ms L' h2 hpm hup9 ?_ uk ?_
          · have:=pk
            rw[hid9,<- hmd] at this
            exact this
          · rw[show ((ls.length+rs.length:Nat):Int)+1=((ls.length+(rs++[tt]).length:Nat):Int) by rw[List.length_append];simp;omega]
            exact j)
        rwa [List.append_cons,<- Int.add_assoc] at this
      refine⟨_,rfl,ks2.length,fl2,fs2,ks2,rs++[tt],L++[ms],p,R+made,_,_,rfl,by omega,rfl,?_,nfl2lg,?_,hk22,uk,hJn,fun h=>?_,by rw[upd_same,List.map_append];rfl,TTs.offJ (TTs.snocJ (TTs.sameJ hLT2 (s27.trans s710)) e10) hlg10,by rw[List.length_append,hks2l];simp;omega,(sx7.trans s710).put nlgH⟩
      · rw[upd_ne nfl2lg]
        exact s710 _ _ e7
      · refine (hT7'.same s710).keep fun z hz=>upd_ne fun e=>?_
        obtain⟨k',_,hk'⟩:=(hT7'.same s710).1 z hz
        rw[e,hlg10] at hk'
        cases hk'
      · rw[hks2l] at h ⊢
        have:=hnx h
        omega
    · have hle:¬ ((ks.length:Nat):Int) > 1:=fun z=>hle (decide_eq_true z)
      refine⟨_,rfl,_,rfl,(by show 2<=sizeLine;decide),fun t nt=>?_⟩
      have hj:=hJ 0 [] (.done _ _ _ (by omega))
      rw[Int.add_zero,List.append_nil] at hj
      have s9:=Same.new (o:=.tup [V.int R,.ref lg]) nt
      exact k t lg rs R L _ (sx.free nt) nlgH upd_same (s9 _ _ hlg) (TTs.sameJ hLT s9) hj (sx.trans s9)
end
end Fj75
namespace Fj75
open PySem L2 Lv
section
variable {P:Program}{w:World}{K:PySem.W.Frag}{mg:Str->Option Value}{base:Heap}
theorem scTold:FnScope ["p","following","told","numbers"] ["p","following"] (defScope sTold):=⟨rfl,rfl,rfl,by decide +kernel,rfl,by decide +kernel,by decide +kernel⟩
theorem ok_toldM {f fA fB fC:Addr}{fd dA dB dC:FuncData}{t4:Tok} (F:Fun K "numbers_told" "numbers_told" sTold f fd) (T:Txt mg) (hM:mg "MOST_PLACES"=some (.int 4000 t4)) (CB:Cal P w K mg base 1 "first_numbers" ["p"] spFirstN fB dB) (CP:Cal P w K mg base 1 "places_in" ["numbers"] spPlacesIn fC dC) (CA:Cal P w K mg base 1 "next_numbers" ["numbers"] spNextN fA dA):FnOk P w K mg base CX0 2 f fd ["p","following"] (spToldM fA):=by
  refine F.ok scTold (fun vs H Q E h=>?_) (fun cdv A outer s H vs Q E hr h=>?_)
  · obtain⟨p,rfl,_⟩:=h
    rfl
  · obtain⟨p,rfl,h2,h7,k⟩:=h
    refine⟨_,pss_cons (ps_set (i:=2) scTold.nd rfl (Or.inl rfl) (pe_lst pa_nil))
      (pss_cons (ps_set (i:=3) scTold.nd rfl (Or.inl rfl) (pe_cal CB hr rfl (pa_cons (pv 0) pa_nil)))
      (pss_cons (ps_while PassesOwn.never (pt_cmpR op_le (pe_cal CP hr rfl (pa_cons (pv 3) pa_nil)) (pe_gint rfl hM) (nomark _))
        (pss_cons (ps_expr (pe_bm PySem.F.plainAttrs_list PySem.F.slot_list_append PySem.F.type_list_append mt_append (pv 2) (pa_cons (pv 3) pa_nil)))
        (pss_one (ps_set (i:=3) scTold.nd rfl (Or.inl rfl) (pe_calV 1 CA hr (pa_cons (pv 3) pa_nil))))))
      (pss_one (ps_ret (pv 2))))),?_⟩
    have hz:5000<sizeLine:=by decide
    refine⟨Nat.zero_le _,fun l nl=>?_⟩
    have x1:upd H l (.lst []) l=some (.lst (([]:List Addr).map V.ref)):=upd_same
    have u1:Same H (upd H l (.lst [])):=Same.new nl
    generalize upd H l (.lst [])=H1 at x1 u1 ⊢
    refine⟨_,rfl,p,rfl,h2,h7,fun q qs H2 nq hq hTT s2=>?_⟩
    refine⟨fun m σ Hx=>∃ (i:Nat) (as:List Addr) (q:Addr) (qs:List Addr),m=4001 - i/\σ=[some (.int p),some (.ref fA),some (.ref l),some (.ref q)]/\Hx l=some (.lst (as.map V.ref))/\LvsT Hx as (toldM p i)/\(∀ j,j<i->(num p j).flatten.length<=4000)/\Hx q=some (.tup (qs.map V.ref))/\TTs Hx qs (num p i)/\Same H Hx,
      ⟨4001,0,[],q,qs,rfl,rfl,s2 _ _ x1,⟨rfl,fun j x N a=>(nomatch a)⟩,fun j hj=>absurd hj (Nat.not_lt_zero _),hq,hTT,u1.trans s2⟩,?_⟩
    rintro m σ Hx ⟨i,as,q,qs,rfl,rfl,hl,hLv,hall,hq,hTT,sx⟩
    have hlen:=num_len (p:=p) (by omega) i
    have hg:=tot_ge1 h2 i
    have hfl:=num_flat p i
    refine⟨_,rfl,q,qs,num p i,rfl,hq,hTT,by omega,fun H3 s3=>?_⟩
    refine⟨_,_,rfl,rfl,_,rfl,?_⟩
    have sx3:=sx.trans s3
    refine ite2 (fun hle=>?_) (fun hgt=>?_)
    · have hle:((num p i).flatten.length:Int)<=4000:=of_decide_eq_true hle
      have asl:as.length=i:=by rw[hLv.1,toldM_len]
      have hl3:=s3 _ _ hl
      refine⟨fun σ' H'=>∃ (i':Nat) (as:List Addr) (q:Addr) (qs:List Addr),i'=i+1/\σ'=[some (.int p),some (.ref fA),some (.ref l),some (.ref q)]/\H' l=some (.lst (as.map V.ref))/\LvsT H' as (toldM p i')/\(∀ j,j<i'->(num p j).flatten.length<=4000)/\H' q=some (.tup (qs.map V.ref))/\TTs H' qs (num p i')/\Same H H',fun σ' H' ⟨i',as,q,qs,e,r⟩=>⟨4001 - i',by omega,i',as,q,qs,rfl,r⟩,?_⟩
      refine⟨_,rfl,.inl ⟨rfl,_,SqL.of hl3⟩,_,rfl,l,_,_,rfl,rfl,hl3,by rw[List.length_map];omega,?_⟩
      have hq4:upd H3 l (.lst (as.map V.ref++[.ref q])) q=some (.tup (qs.map V.ref)):=by
        rw[upd_ne fun z=>by have:=s3 _ _ hq;rw[z,hl3] at this;cases this]
        exact s3 _ _ hq
      have hT4:TTs (upd H3 l (.lst (as.map V.ref++[.ref q]))) qs (num p i):=TTs.lst (hTT.same s3) hl3
      have hLv4:=((hLv.same s3).lst (ys:=as.map V.ref++[.ref q]) hl3).snoc hq4 hT4
      rw[<- toldM_succ] at hLv4
      have hl4:upd H3 l (.lst (as.map V.ref++[.ref q])) l=some (.lst ((as++[q]).map V.ref)):=by rw[upd_same,List.map_append];rfl
      have sx4:Same H (upd H3 l (.lst (as.map V.ref++[.ref q]))):=sx3.put nl
      generalize upd H3 l (.lst (as.map V.ref++[.ref q]))=H4 at hq4 hT4 hLv4 hl4 sx4 ⊢
      refine⟨rfl,_,rfl,q,qs,num p i,rfl,hq4,hT4,by omega,by omega,?_,fun xs hx=>?_,fun l3 qs3 H5 h30 h3 hq3 s5=>?_⟩
      · obtain⟨x,r,e,hx,_⟩:=num_cons h2 i
        rw[e]
        exact hx
      · have:=num_le hx
        omega
      · exact⟨i+1,as++[q],l3,qs3,rfl,rfl,s5 _ _ hl4,hLv4.same s5,fun j hj=>by
          by_cases e:j=i
          · subst e;omega
          · exact hall j (by omega),h3,hq3,sx4.trans s5⟩
    · have hgt:¬ ((num p i).flatten.length:Int)<=4000:=fun z=>hgt (decide_eq_true z)
      exact⟨_,rfl,k l as i H3 nl (s3 _ _ hl) (hLv.same s3) hall (by omega) sx3⟩
theorem scBestBy:FnScope ["levels","lengths","best","n","numbers","reading","placing"] ["levels","lengths"] (defScope sBestBy):=⟨rfl,rfl,rfl,by decide +kernel,rfl,by decide +kernel,by decide +kernel⟩
theorem SqB.sameB {b:Bool}{H H':Hp}{a:Addr}{xs:List V} (e:Same H H') (h:SqB b K H a xs):SqB b K H' a xs:=by
  cases b
  · exact e.tup h
  · exact e.seq h
theorem SqB.orB {b:Bool}{H:Hp}{a:Addr}{xs:List V} (h:SqB b K H a xs):SqL K H a xs∨SqT K H a xs:=by
  cases b
  · exact .inr h
  · exact .inl h
theorem ok_bestByP {f f1 f2:Addr}{fd d1 d2:FuncData} (F:Fun K "best_by" "best_by" sBestBy f fd) (T:Txt mg) (Te:mg "enumerate"=none) (CP:Cal P w K mg base 1 "places_in" ["numbers"] spPlacesIn f1 d1) (CL:Cal P w K mg base 2 "least_by" ["numbers","lengths"] (spLeastBy K) f2 d2):FnOk P w K mg base CX0 3 f fd ["levels","lengths"] (spBestByP K):=by
  refine F.ok scBestBy (fun vs H Q E h=>?_) (fun cdv A outer s H vs Q E hr h=>?_)
  · obtain⟨lv,ll,b,as,L,ls,rfl,_⟩:=h
    rfl
  · obtain⟨lv,ll,b,as,L,ls,rfl,hV,hLv,hL,hN,hb1,k⟩:=h
    have hr1:Room 1 _:=hr.mono (by decide)
    refine⟨_,pss_cons (ps_set (i:=2) scBestBy.nd rfl (Or.inl rfl) pe_non)
      (pss_cons (ps_for PassesOwn.never rfl (pi_enumB rfl Te (pa_cons (pv 0) pa_nil)) (pg_tup rfl (pgs_cons (pg_name (i:=3) scBestBy.nd rfl (Or.inl rfl)) (pgs_cons (pg_name (i:=4) scBestBy.nd rfl (Or.inl rfl)) pgs_nil)))
        (pss_one (ps_if (pt_cmpR op_ge (pe_cal CP hr1 rfl (pa_cons (pv 4) pa_nil)) (pe_callB call_len_seq rfl T.len PySem.boot_len (pa_cons (pv 1) pa_nil)) (nomark _))
          (pss_cons (ps_asg (pe_cal CL hr rfl (pa_cons (pv 4) (pa_cons (pv 1) pa_nil))) (pg_tup rfl (pgs_cons (pg_name (i:=5) scBestBy.nd rfl (Or.inl rfl)) (pgs_cons (pg_name (i:=6) scBestBy.nd rfl (Or.inl rfl)) pgs_nil))))
          (pss_one (ps_if (PW.pt (pw_or (pt_cmp (pc_isN (pv 2))) (pw_or1 (pt_cmpR op_lt (pv 5) (pe_ix ix_tup (pv 2) pe_int (fun _ _=>rfl)) (nomark _))))) (pss_one (ps_set (i:=2) scBestBy.nd rfl (Or.inl rfl) (pe_tup (pa_cons (pv 5) (pa_cons (pv 3) (pa_cons (pv 6) pa_nil)))))) pss_nil))) pss_nil)))
      (pss_one (ps_ret (pv 2)))),?_⟩
    refine⟨_,rfl,lv,true,rfl,⟨_,SqL.of hV⟩,?_⟩
    refine for_enumB (b:=true) (xs:=as.map V.ref) (fun i σ H2=>∃ (o:Option (Int × Nat)) (v:V) (o3 o4 o5 o6:Option V),σ=[some (.ref lv),some (.ref ll),some v,o3,o4,o5,o6]/\BestOf ls L i o/\BestVP ls L H2 o v/\Same H H2)
      ⟨none,.non,_,_,_,_,rfl,fun j N hj=>absurd hj (Nat.not_lt_zero _),rfl,Same.refl _⟩ (fun i σ H2 _ ⟨_,_,_,_,_,_,_,_,_,s2⟩=>SqL.of (s2 _ _ hV)) ?_ ?_
    · rintro i x u σ H2 hx ⟨o,v,o3,o4,o5,o6,rfl,hO,hBv,s2⟩ nu
      obtain⟨q,hq,rfl⟩:=get_ref hx
      have hi:=(List.getElem?_eq_some_iff.mp hq).1
      obtain⟨N,hNi⟩:∃ N,L[i]?=some N:=⟨_,List.getElem?_eq_getElem (by rw[<- hLv.1];exact hi)⟩
      obtain⟨n7,n9,nb⟩:=hN N (List.mem_of_getElem? hNi)
      obtain⟨rs,hqa,hTT⟩:=hLv.2 i q N hq hNi
      have su:Same H2 (upd H2 u (.tup [.int i,.ref q])):=Same.new nu
      have hu3:upd H2 u (.tup [.int i,.ref q]) u=some (.tup [.int i,.ref q]):=upd_same
      generalize upd H2 u (.tup [.int i,.ref q])=H3 at su hu3 ⊢
      have s3:=s2.trans su
      refine⟨u,_,rfl,SqT.of hu3,rfl,_,_,rfl,_,_,rfl,rfl,?_⟩
      refine⟨_,rfl,q,rs,N,rfl,s3 _ _ hqa,hTT.same s3,n7,fun H4 s4=>?_⟩
      have s04:=s3.trans s4
      have hBv4:=hBv.same (su.trans s4)
      refine⟨_,rfl,ll,_,rfl,SqB.orB (SqB.sameB s04 hL),_,_,rfl,rfl,_,rfl,?_⟩
      rw[List.length_map]
      refine ite2 (fun hf=>?_) (fun hf=>?_)
      · have hf:(ls.length:Int)<=(N.flatten.length:Int):=of_decide_eq_true hf
        have hfit:Fit ls N:=by unfold Fit;omega
        refine⟨_,rfl,_,rfl,q,ll,b,rs,N,ls,rfl,s04 _ _ hqa,hTT.same s04,n7,n9,SqB.sameB s04 hL,hfit,hb1,nb,fun t pl qs ks lf lp H5 nt ht npl hpl hM hin hst s5=>?_⟩
        have s05:=s04.trans s5
        have hBv5:=hBv4.same s5
        have hrd:ReadOf ls N (readV N ls ks).sum:=⟨ks,lf,lp,hst,hin,rfl⟩
        generalize hR:(readV N ls ks).sum=R at ht hrd
        refine⟨t,_,rfl,SqT.of ht,rfl,_,_,rfl,_,_,rfl,rfl,?_⟩
        match o,hO,hBv5 with
        | none,hO,hBv5=>
          have hv:v=.non:=hBv5
          subst hv
          refine⟨_,rfl,true,rfl,iteT ?_⟩
          refine iteT ⟨_,rfl,_,rfl,_,rfl,(by show 3<=sizeLine;decide),fun bt nbt=>?_⟩
          exact⟨some (R,i),.ref bt,_,_,_,_,rfl,hO.first hNi hfit hrd,⟨bt,pl,qs,N,ks,lf,lp,rfl,upd_same,(Same.new nbt) _ _ hpl,hM.same (Same.new nbt),hNi,hst,hin,hfit,hR.symm⟩,s05.trans (Same.new nbt)⟩
        | some (R',n),hO,⟨bt0,pl0,qs0,N0,ks0,lf0,lp0,hv,hbt0,hrest⟩=>
          subst hv
          refine⟨_,rfl,false,rfl,iteF ?_⟩
          refine⟨_,rfl,_,rfl,bt0,_,0,.int R',rfl,rfl,SqT.of hbt0,rfl,R,R',rfl,rfl,_,rfl,?_⟩
          refine ite2 (fun hlt=>?_) (fun hge=>?_)
          · have hlt:R<R':=of_decide_eq_true hlt
            refine⟨_,rfl,_,rfl,_,rfl,(by show 3<=sizeLine;decide),fun bt nbt=>?_⟩
            exact⟨some (R,i),.ref bt,_,_,_,_,rfl,hO.better hNi hfit hrd hlt,⟨bt,pl,qs,N,ks,lf,lp,rfl,upd_same,(Same.new nbt) _ _ hpl,hM.same (Same.new nbt),hNi,hst,hin,hfit,hR.symm⟩,s05.trans (Same.new nbt)⟩
          · have hge:¬ R<R':=fun z=>hge (decide_eq_true z)
            exact⟨some (R',n),.ref bt0,_,_,_,_,rfl,hO.worse hNi hfit hrd hge,⟨bt0,pl0,qs0,N0,ks0,lf0,lp0,rfl,hbt0,hrest⟩,s05⟩
      · have hf:¬ (ls.length:Int)<=(N.flatten.length:Int):=fun z=>hf (decide_eq_true z)
        exact⟨o,v,_,_,_,_,rfl,hO.skip hNi (fun z=>hf (by unfold Fit at z;omega)),hBv4,s04⟩
    · rintro σ H2 ⟨o,v,o3,o4,o5,o6,rfl,hO,hBv,s2⟩
      rw[List.length_map,hLv.1] at hO
      exact⟨_,rfl,k o v H2 hO hBv s2⟩
theorem scBPl:FnScope ["p","lengths"] ["p","lengths"] (defScope sBPl):=⟨rfl,rfl,rfl,by decide +kernel,rfl,by decide +kernel,by decide +kernel⟩
theorem ok_bpl {f f1 f2 f3 f4:Addr}{fd d1 d2 d3 d4:FuncData} (F:Fun K "best_placing" "best_placing" sBPl f fd) (T:Txt mg) (CW:Cal P w K mg base 2 "check_ways" ["p"] spWays f1 d1) (CN:Cal P w K mg base 1 "next_numbers" ["numbers"] spNextN f2 d2) (CT:Cal P w K mg base 2 "numbers_told" ["p","following"] (spToldM f2) f3 d3) (CB:Cal P w K mg base 3 "best_by" ["levels","lengths"] (spBestByP K) f4 d4):FnOk P w K mg base CX0 4 f fd ["p","lengths"] (spBPl K):=by
  refine F.ok scBPl (fun vs H Q E h=>?_) (fun cdv A outer s H vs Q E hr h=>?_)
  · obtain⟨p,ll,b,ls,rfl,_⟩:=h
    rfl
  · obtain⟨p,ll,b,ls,rfl,h2,h7,hL,hl5,hb,k⟩:=h
    have hr2:Room 2 _:=hr.mono (by decide)
    have hr3:Room 3 _:=hr.mono (by decide)
    refine⟨_,(pss_cons (ps_expr (pe_cal CW hr2 rfl (pa_cons (pv 0) pa_nil)))
      (pss_one (ps_ret (pe_cal CB hr3 rfl (pa_cons (pe_cal CT hr2 rfl (pa_cons (pv 0) (pa_cons (pe_gfn CN rfl) pa_nil))) (pa_cons (pv 1) pa_nil)))))),?_⟩
    refine⟨_,rfl,p,rfl,by omega,by omega,?_⟩
    refine⟨_,rfl,p,rfl,h2,h7,fun l as m H1 nl hl hLv hall hmore s1=>?_⟩
    obtain⟨hm1,hm5⟩:=told_fitsM h2 h7 hmore
    have hm9:∀ i,i<m->tot p i<=4000:=fun i hi=>by
      have:=hall i hi
      have:=num_flat p i
      omega
    have hN:∀ N∈toldM p m,N.length<=7/\N.flatten.length<=100000/\∀ xs∈N,∀ z∈xs,Builtin.Int.intBits z<=8000:=fun N hm=>by
      unfold toldM at hm
      obtain⟨i,hi,rfl⟩:=List.mem_map.mp hm
      have hi:=List.mem_range.mp hi
      have ht:=hall i hi
      have hg:=tot_ge1 h2 i
      have hfl:=num_flat p i
      refine⟨by rw[num_len (by omega)];exact h7,by omega,fun xs hx z hz=>?_⟩
      have h8:((p:Int))*i<=7*i:=Int.mul_le_mul_of_nonneg_right (by omega) (by omega)
      have:=bd_num p i xs hx z hz
      exact bits_small (by omega) (by omega)
    refine⟨_,rfl,l,ll,b,as,toldM p m,ls,rfl,hl,hLv,SqB.sameJ s1 hL,hN,hb,fun o v H2 hO hV s2=>?_⟩
    rw[toldM_len] at hO
    match o,hO,hV with
    | none,hO,hV=>
      exfalso
      exact hO (m - 1) _ (by omega) (toldM_get (by omega)) (by unfold Fit;omega)
    | some (R,n),hO,⟨t,pl,qs,N,ks,lf,lp,hv,ht,hpl,hM,hNn,hst,hin,hfit,hR⟩=>
      subst hv
      have hn:n<m:=hO.1
      rw[toldM_get hn] at hNn
      cases hNn
      subst hR
      have:=num_flat p m
      exact k t pl qs ks lf lp n m H2 (.inr trivial) ht hpl hM hst hin hfit (hm9 n hn) hn hO hm9 (by omega) (s1.trans s2)
end
end Fj75
namespace Fj75
open PySem L2 Lv
section
variable {P:Program}{w:World}{K:PySem.W.Frag}{mg:Str->Option Value}{base:Heap}
theorem ok_told {f fA fB fC:Addr}{fd dA dB dC:FuncData}{t4:Tok} (F:Fun K "numbers_told" "numbers_told" sTold f fd) (T:Txt mg) (hM:mg "MOST_PLACES"=some (.int 4000 t4)) (CB:Cal P w K mg base 1 "first_numbers" ["p"] spFirstN fB dB) (CP:Cal P w K mg base 1 "places_in" ["numbers"] spPlacesIn fC dC) (CA:Cal P w K mg base 1 "next_cascade_numbers" ["numbers"] spNextKN fA dA):FnOk P w K mg base CX0 2 f fd ["p","following"] (spToldN fA):=by
  refine F.ok scTold (fun vs H Q E h=>?_) (fun cdv A outer s H vs Q E hr h=>?_)
  · obtain⟨p,rfl,_⟩:=h
    rfl
  · obtain⟨p,rfl,h2,h7,k⟩:=h
    refine⟨_,pss_cons (ps_set (i:=2) scTold.nd rfl (Or.inl rfl) (pe_lst pa_nil))
      (pss_cons (ps_set (i:=3) scTold.nd rfl (Or.inl rfl) (pe_cal CB hr rfl (pa_cons (pv 0) pa_nil)))
      (pss_cons (ps_while PassesOwn.never (pt_cmpR op_le (pe_cal CP hr rfl (pa_cons (pv 3) pa_nil)) (pe_gint rfl hM) (nomark _))
        (pss_cons (ps_expr (pe_bm PySem.F.plainAttrs_list PySem.F.slot_list_append PySem.F.type_list_append mt_append (pv 2) (pa_cons (pv 3) pa_nil)))
        (pss_one (ps_set (i:=3) scTold.nd rfl (Or.inl rfl) (pe_calV 1 CA hr (pa_cons (pv 3) pa_nil))))))
      (pss_one (ps_ret (pv 2))))),?_⟩
    have hz:5000<sizeLine:=by decide
    refine⟨Nat.zero_le _,fun l nl=>?_⟩
    have x1:upd H l (.lst []) l=some (.lst (([]:List Addr).map V.ref)):=upd_same
    have u1:Same H (upd H l (.lst [])):=Same.new nl
    generalize upd H l (.lst [])=H1 at x1 u1 ⊢
    refine⟨_,rfl,p,rfl,h2,h7,fun q qs H2 nq hq hTT s2=>?_⟩
    refine⟨fun m σ Hx=>∃ (i:Nat) (as:List Addr) (q:Addr) (qs:List Addr),m=4001 - i/\σ=[some (.int p),some (.ref fA),some (.ref l),some (.ref q)]/\Hx l=some (.lst (as.map V.ref))/\LvsT Hx as (toldN p i)/\(∀ j,j<i->(casN p j).flatten.length<=4000)/\Hx q=some (.tup (qs.map V.ref))/\TTs Hx qs (casN p i)/\Same H Hx,
      ⟨4001,0,[],q,qs,rfl,rfl,s2 _ _ x1,⟨rfl,fun j x N a=>(nomatch a)⟩,fun j hj=>absurd hj (Nat.not_lt_zero _),hq,hTT,u1.trans s2⟩,?_⟩
    rintro m σ Hx ⟨i,as,q,qs,rfl,rfl,hl,hLv,hall,hq,hTT,sx⟩
    have hlen:=casN_len (p:=p) (by omega) i
    have hg:=(casc_grows h2 i).2
    have hfl:=flat_lens (casN p i)
    rw[lens_cas (by omega)] at hfl
    refine⟨_,rfl,q,qs,casN p i,rfl,hq,hTT,by omega,fun H3 s3=>?_⟩
    refine⟨_,_,rfl,rfl,_,rfl,?_⟩
    have sx3:=sx.trans s3
    refine ite2 (fun hle=>?_) (fun hgt=>?_)
    · have hle:((casN p i).flatten.length:Int)<=4000:=of_decide_eq_true hle
      have asl:as.length=i:=by rw[hLv.1,toldN_len]
      have hl3:=s3 _ _ hl
      refine⟨fun σ' H'=>∃ (i':Nat) (as:List Addr) (q:Addr) (qs:List Addr),i'=i+1/\σ'=[some (.int p),some (.ref fA),some (.ref l),some (.ref q)]/\H' l=some (.lst (as.map V.ref))/\LvsT H' as (toldN p i')/\(∀ j,j<i'->(casN p j).flatten.length<=4000)/\H' q=some (.tup (qs.map V.ref))/\TTs H' qs (casN p i')/\Same H H',fun σ' H' ⟨i',as,q,qs,e,r⟩=>⟨4001 - i',by omega,i',as,q,qs,rfl,r⟩,?_⟩
      refine⟨_,rfl,.inl ⟨rfl,_,SqL.of hl3⟩,_,rfl,l,_,_,rfl,rfl,hl3,by rw[List.length_map];omega,?_⟩
      have hq4:upd H3 l (.lst (as.map V.ref++[.ref q])) q=some (.tup (qs.map V.ref)):=by
        rw[upd_ne fun z=>by have:=s3 _ _ hq;rw[z,hl3] at this;cases this]
        exact s3 _ _ hq
      have hT4:TTs (upd H3 l (.lst (as.map V.ref++[.ref q]))) qs (casN p i):=TTs.lst (hTT.same s3) hl3
      have hLv4:=((hLv.same s3).lst (ys:=as.map V.ref++[.ref q]) hl3).snoc hq4 hT4
      rw[<- toldN_succ] at hLv4
      have hl4:upd H3 l (.lst (as.map V.ref++[.ref q])) l=some (.lst ((as++[q]).map V.ref)):=by rw[upd_same,List.map_append];rfl
      have sx4:Same H (upd H3 l (.lst (as.map V.ref++[.ref q]))):=sx3.put nl
      generalize upd H3 l (.lst (as.map V.ref++[.ref q]))=H4 at hq4 hT4 hLv4 hl4 sx4 ⊢
      refine⟨rfl,_,rfl,q,qs,casN p i,rfl,hq4,hT4,by omega,by omega,?_,fun l3 qs3 H5 h30 h3 hq3 s5=>?_⟩
      · rw[lens_cas (by omega)];omega
      · exact⟨i+1,as++[q],l3,qs3,rfl,rfl,s5 _ _ hl4,hLv4.same s5,fun j hj=>by
          by_cases e:j=i
          · subst e;omega
          · exact hall j (by omega),h3,hq3,sx4.trans s5⟩
    · have hgt:¬ ((casN p i).flatten.length:Int)<=4000:=fun z=>hgt (decide_eq_true z)
      exact⟨_,rfl,k l as i H3 nl (s3 _ _ hl) (hLv.same s3) hall (by omega) sx3⟩
theorem scLongC:FnScope ["p","lengths"] ["p","lengths"] (defScope sLongC):=⟨rfl,rfl,rfl,by decide +kernel,rfl,by decide +kernel,by decide +kernel⟩
theorem SqB.sameC {b:Bool}{H H':Hp}{a:Addr}{xs:List V} (e:Same H H') (h:SqB b K H a xs):SqB b K H' a xs:=by
  cases b
  · exact e.tup h
  · exact e.seq h
theorem ok_longC {f f1 f2 f3 f4:Addr}{fd d1 d2 d3 d4:FuncData} (F:Fun K "long_cascade" "long_cascade" sLongC f fd) (T:Txt mg) (CW:Cal P w K mg base 2 "check_ways" ["p"] spWays f1 d1) (CN:Cal P w K mg base 1 "next_cascade_numbers" ["numbers"] spNextKN f2 d2) (CT:Cal P w K mg base 2 "numbers_told" ["p","following"] (spToldN f2) f3 d3) (CB:Cal P w K mg base 3 "best_by" ["levels","lengths"] (spBestBy K) f4 d4):FnOk P w K mg base CX0 4 f fd ["p","lengths"] (spLongC K):=by
  refine F.ok scLongC (fun vs H Q E h=>?_) (fun cdv A outer s H vs Q E hr h=>?_)
  · obtain⟨p,ll,b,ls,rfl,_⟩:=h
    rfl
  · obtain⟨p,ll,b,ls,rfl,h2,h7,hL,hl5,hb,k⟩:=h
    have hr2:Room 2 _:=hr.mono (by decide)
    refine⟨_,pss_cons (ps_expr (pe_cal CW hr2 rfl (pa_cons (pv 0) pa_nil)))
      (pss_one (ps_ret (pe_slice sl_tup (pe_cal CB hr rfl (pa_cons (pe_cal CT hr2 rfl (pa_cons (pv 0) (pa_cons (pe_gfn CN rfl) pa_nil))) (pa_cons (pv 1) pa_nil))) po_none (po_some pe_int)))),?_⟩
    refine⟨_,rfl,p,rfl,by omega,by omega,?_⟩
    refine⟨_,rfl,p,rfl,h2,h7,fun l as m H1 nl hl hLv hall hmore s1=>?_⟩
    obtain⟨hm1,hm5⟩:=told_fits h2 h7 hmore
    have hN:∀ N∈toldN p m,N.length<=7/\N.flatten.length<=100000/\∀ xs∈N,∀ z∈xs,Builtin.Int.intBits z<=8000:=fun N hm=>by
      unfold toldN at hm
      obtain⟨i,hi,rfl⟩:=List.mem_map.mp hm
      have hi:=List.mem_range.mp hi
      have ht:=hall i hi
      have hg:=(casc_grows h2 i).2
      have hfl:=flat_lens (casN p i)
      rw[lens_cas (by omega)] at hfl
      refine⟨by rw[casN_len (by omega)];exact h7,by omega,fun xs hx z hz=>?_⟩
      have:=casN_bound i xs z hx hz
      exact bits_small (by omega) (by omega)
    refine⟨_,rfl,l,ll,b,as,toldN p m,ls,rfl,hl,hLv,SqB.sameC s1 hL,hN,hb,fun o v H2 hO hV s2=>?_⟩
    rw[toldN_len] at hO
    match o,hO,hV with
    | none,hO,hV=>
      exfalso
      have e:(toldN p m)[m - 1]?=some (casN p (m - 1)):=by unfold toldN;rw[List.getElem?_map,List.getElem?_range (by omega)];rfl
      exact hO (m - 1) _ (by omega) e (by unfold Fit;omega)
    | some (R,n),hO,⟨t,pl,hv,ht⟩=>
      subst hv
      refine⟨2,rfl,t,_,rfl,SqT.of ht,(by show ¬ (HT.sIx 3 0 none=0/\HT.sIx 3 3 (some 2)=3);decide),fun t2 nt2=>?_⟩
      exact k t2 R n m _ ((s1.trans s2).free nt2) upd_same hO hall hmore ((s1.trans s2).trans (Same.new nt2))
end
end Fj75
namespace Fj75
open PySem L2 Lv
section
variable {P:Program}{w:World}{K:PySem.W.Frag}{mg:Str->Option Value}{base:Heap}
theorem ip_mul {X:Cx}:PIp X .Mult (rI CMul fun i j=>.int (i*j)):=iop_mul
theorem pow_t {p:Int} (hp:2<=p) {t:Nat}:(t:Int)+1<=p ^ t:=by
  have h1:=bern (p:=p) (by omega) t
  have:1*(t:Int)<=(p - 1)*t:=Int.mul_le_mul_of_nonneg_right (by omega) (by omega)
  omega
def spBalP:Sp:=fun vs H Q _=>∃ (p:Nat) (r:Int),vs=[.int p,.int r]/\3<=p/\p<=7/\1<=r/\r<=1000000000001/\∀ k:Nat,Ps ((p:Int) / 2+(p:Int) % 2) r k->Q (.int k) H
theorem half_eq (p:Nat):((p:Int)+1) / 2=(p:Int) / 2+(p:Int) % 2:=by omega
theorem Ps.step {h r:Int}{k:Nat} (hk:∀ j,j<k->h ^ j<r) (hc:h ^ k<r):∀ j,j<k+1->h ^ j<r:=fun j hj=>by
  by_cases e:j=k
  · rw[e];exact hc
  · exact hk j (by omega)
theorem scBalP:FnScope ["p","rows","half","reach","passes"] ["p","rows"] (defScope sBalP):=⟨rfl,rfl,rfl,by decide +kernel,rfl,by decide +kernel,by decide +kernel⟩
theorem ok_balp {f:Addr}{fd:FuncData} (F:Fun K "balanced_passes" "balanced_passes" sBalP f fd):FnOk P w K mg base CX0 1 f fd ["p","rows"] spBalP:=by
  refine F.ok scBalP (fun vs H Q E h=>?_) (fun cdv A outer s H vs Q E hr h=>?_)
  · obtain⟨p,r,rfl,_⟩:=h
    rfl
  · obtain⟨p,r,rfl,h1,h2,r1,r2,k⟩:=h
    refine⟨_,(pss_cons (ps_set (i:=2) scBalP.nd rfl (Or.inl rfl) (pe_op op_fdiv (pe_op op_add (pv 0) pe_int) pe_int))
      (pss_cons (ps_set (i:=3) scBalP.nd rfl (Or.inl rfl) pe_int)
      (pss_cons (ps_set (i:=4) scBalP.nd rfl (Or.inl rfl) pe_int)
      (pss_cons (ps_while PassesOwn.never (pt_cmpR op_lt (pv 3) (pv 1) (nomark _))
      (pss_cons (ps_aug (i:=3) scBalP.nd rfl (Or.inl rfl) (pv 2) ip_mul)
        (pss_one (ps_aug (i:=4) scBalP.nd rfl (Or.inl rfl) pe_int ip_add))))
      (pss_one (ps_ret (pv 4))))))),?_⟩
    refine⟨_,rfl,_,_,rfl,rfl,_,_,rfl,rfl,⟨by decide,by decide⟩,?_⟩
    dsimp only
    rw[half_eq]
    obtain⟨h,hh,h2',h7⟩:∃ h:Int,(p:Int) / 2+(p:Int) % 2=h/\2<=h/\h<=7:=⟨_,rfl,by omega,by omega⟩
    rw[hh] at k ⊢
    refine⟨fun m σ H2=>∃ t:Nat,σ=[some (.int p),some (.int r),some (.int h),some (.int (h ^ t)),some (.int t)]/\H2=H/\(∀ j,j<t->h ^ j<r)/\m=(r - h ^ t).toNat,⟨_,0,by rw[Int.pow_zero];rfl,rfl,fun j hj=>absurd hj (Nat.not_lt_zero _),rfl⟩,?_⟩
    rintro m σ H2 ⟨t,rfl,rfl,ht,rfl⟩
    have w1:=pow_t h2' (t:=t)
    have e1:h ^ (t+1)=h ^ t*h:=Int.pow_succ ..
    have h3:h ^ t*2<=h ^ t*h:=Int.mul_le_mul_of_nonneg_left (by omega) (by omega)
    refine⟨_,rfl,_,rfl,_,_,rfl,rfl,_,rfl,?_⟩
    refine ite2 (fun hc=>?_) (fun hc=>?_)
    · have hc':h ^ t<r:=of_decide_eq_true hc
      refine⟨fun σ H'=>σ=[some (.int p),some (.int r),some (.int h),some (.int (h ^ (t+1))),some (.int ((t+1:Nat):Int))]/\H'=H2,?_,?_⟩
      · rintro σ' H' ⟨rfl,rfl⟩
        exact⟨_,by omega,t+1,rfl,rfl,Ps.step ht hc',rfl⟩
      · refine⟨_,rfl,_,rfl,_,_,rfl,rfl,.inr ⟨by omega,by omega⟩,_,rfl,_,_,rfl,rfl,?_,rfl⟩
        rw[e1]
        rfl
    · have hc':¬ h ^ t<r:=fun z=>hc (decide_eq_true z)
      exact⟨_,rfl,k t ⟨by omega,ht⟩⟩
def BalG (p:Nat) (r w:Int) (v:V):Prop:=(p=2/\v=.non)∨(3<=p/\∃ k:Nat,Ps ((p:Int) / 2+(p:Int) % 2) r k/\v=.int (w*k))
theorem BalG.uniq {p:Nat}{r w:Int}{u v:V} (a:BalG p r w u) (b:BalG p r w v):u=v:=by
  rcases a with ⟨a1,rfl⟩ | ⟨a1,k,hk,rfl⟩ <;> rcases b with ⟨b1,rfl⟩ | ⟨b1,j,hj,rfl⟩
  · rfl
  · omega
  · omega
  · rw[hk.uniq hj]
def spBalG:Sp:=fun vs H Q _=>∃ (p:Nat) (r wh:Int),vs=[.int p,.int r,.int wh]/\2<=p/\p<=7/\1<=r/\r<=1000000000001/\∀ v,BalG p r wh v->Q v H
theorem scBalR:FnScope ["p","rows","things"] ["p","rows","things"] (defScope sBalR):=⟨rfl,rfl,rfl,by decide +kernel,rfl,by decide +kernel,by decide +kernel⟩
theorem ok_balg {f f1:Addr}{fd d1:FuncData} (F:Fun K "balanced_reading" "balanced_reading" sBalR f fd) (CP:Cal P w K mg base 1 "balanced_passes" ["p","rows"] spBalP f1 d1):FnOk P w K mg base CX0 2 f fd ["p","rows","things"] spBalG:=by
  refine F.ok scBalR (fun vs H Q E h=>?_) (fun cdv A outer s H vs Q E hr h=>?_)
  · obtain⟨p,r,wh,rfl,_⟩:=h
    rfl
  · obtain⟨p,r,wh,rfl,h1,h2,r1,r2,k⟩:=h
    refine⟨_,(pss_one (ps_ret (pe_ifExp (pt_cmpR op_eq (pv 0) pe_int (nomark _)) pe_non (pe_op op_mul (pv 2) (pe_cal CP hr rfl (pa_cons (pv 0) (pa_cons (pv 1) pa_nil))))))),?_⟩
    refine⟨_,rfl,rfl,_,rfl,ite2 (fun hc=>?_) (fun hc=>?_)⟩
    · have e:(p:Int)=2:=V.int.inj (of_decide_eq_true hc)
      exact k _ (.inl ⟨by omega,rfl⟩)
    · have e:p≠2:=fun e=>hc (decide_eq_true (by rw[e];rfl))
      refine⟨_,rfl,_,rfl,_,rfl,p,r,rfl,by omega,h2,r1,r2,fun t ht=>?_⟩
      have w1:=pow_t (p:=(p:Int) / 2+(p:Int) % 2) (by omega) (t:=t - 1)
      have ht1:(t:Int)<=1000000000001:=by
        by_cases z:t=0
        · rw[z];decide
        · have:=ht.2 (t - 1) (by omega)
          omega
      refine⟨_,_,rfl,rfl,.inr ⟨by omega,by omega⟩,k _ (.inr ⟨by omega,t,ht,rfl⟩)⟩
def spLPassG:Sp:=fun vs H Q _=>∃ (p:Nat) (r wh:Int),vs=[.int p,.int r,.int wh]/\2<=p/\p<=7/\1<=r/\r<=1000000000001/\∀ v,BalG p r wh v->Q v H
theorem scLPass:FnScope ["p","rows","whole","made","read"] ["p","rows","whole"] (defScope sLPass):=⟨rfl,rfl,rfl,by decide +kernel,rfl,by decide +kernel,by decide +kernel⟩
theorem ok_lpassG {f:Addr}{fd:FuncData} (F:Fun K "_law_passes" "_law_passes" sLPass f fd):FnOk P w K mg base CX0 1 f fd ["p","rows","whole"] spLPassG:=by
  refine F.ok scLPass (fun vs H Q E h=>?_) (fun cdv A outer s H vs Q E hr h=>?_)
  · obtain⟨p,r,wh,rfl,_⟩:=h
    rfl
  · obtain⟨p,r,wh,rfl,h1,h2,r1,r2,k⟩:=h
    refine⟨_,(pss_cons (ps_if (pt_cmpR op_eq (pv 0) pe_int (nomark _))
      (pss_one (ps_ret pe_non))
      pss_nil)
      (pss_cons (ps_set (i:=3) scLPass.nd rfl (Or.inl rfl) pe_int)
      (pss_cons (ps_set (i:=4) scLPass.nd rfl (Or.inl rfl) pe_int)
      (pss_cons (ps_while PassesOwn.never (pt_cmpR op_lt (pv 3) (pv 1) (nomark _))
      (pss_cons (ps_set (i:=3) scLPass.nd rfl (Or.inl rfl) (pe_op op_mul (pv 3) (pe_op op_fdiv (pe_op op_add (pv 0) pe_int) pe_int)))
        (pss_one (ps_set (i:=4) scLPass.nd rfl (Or.inl rfl) (pe_op op_add (pv 4) (pv 2))))))
      (pss_one (ps_ret (pv 4))))))),?_⟩
    refine⟨_,rfl,rfl,_,rfl,ite2 (fun hc=>?_) (fun hc=>?_)⟩
    · have e:(p:Int)=2:=V.int.inj (of_decide_eq_true hc)
      exact k _ (.inl ⟨by omega,rfl⟩)
    have e:p≠2:=fun e=>hc (decide_eq_true (by rw[e];rfl))
    obtain⟨h,hh,h2',h7⟩:∃ h:Int,(p:Int) / 2+(p:Int) % 2=h/\2<=h/\h<=7:=⟨_,rfl,by omega,by omega⟩
    have k':∀ t:Nat,Ps h r t->Q (.int (wh*t)) H:=fun t ht=>k _ (.inr ⟨by omega,t,by rw[hh];exact ht,rfl⟩)
    refine⟨fun m σ H2=>∃ t:Nat,σ=[some (.int p),some (.int r),some (.int wh),some (.int (h ^ t)),some (.int (wh*t))]/\H2=H/\(∀ j,j<t->h ^ j<r)/\m=(r - h ^ t).toNat,⟨_,0,by rw[Int.pow_zero,show wh*((0:Nat):Int)=0 from Int.mul_zero wh];rfl,rfl,fun j hj=>absurd hj (Nat.not_lt_zero _),rfl⟩,?_⟩
    rintro m σ H2 ⟨t,rfl,rfl,ht,rfl⟩
    have w1:=pow_t h2' (t:=t)
    have e1:h ^ (t+1)=h ^ t*h:=Int.pow_succ ..
    have e2:wh*((t+1:Nat):Int)=wh*t+wh:=by rw[Int.natCast_add,Int.mul_add];simp
    have h3:h ^ t*2<=h ^ t*h:=Int.mul_le_mul_of_nonneg_left (by omega) (by omega)
    refine⟨_,rfl,_,rfl,_,_,rfl,rfl,_,rfl,?_⟩
    refine ite2 (fun hc=>?_) (fun hc=>?_)
    · have hc':h ^ t<r:=of_decide_eq_true hc
      refine⟨fun σ H'=>σ=[some (.int p),some (.int r),some (.int wh),some (.int (h ^ (t+1))),some (.int (wh*((t+1:Nat):Int)))]/\H'=H2,?_,?_⟩
      · rintro σ' H' ⟨rfl,rfl⟩
        exact⟨_,by omega,t+1,rfl,rfl,Ps.step ht hc',rfl⟩
      · refine⟨_,rfl,_,rfl,_,_,rfl,rfl,_,_,rfl,rfl,⟨by decide,by decide⟩,?_⟩
        dsimp only
        rw[half_eq,hh]
        refine⟨_,_,rfl,rfl,.inr ⟨by omega,by omega⟩,_,rfl,_,rfl,_,_,rfl,rfl,?_,rfl⟩
        rw[e1,e2]
        rfl
    · have hc':¬ h ^ t<r:=fun z=>hc (decide_eq_true z)
      exact⟨_,rfl,k' t ⟨by omega,ht⟩⟩
theorem scLWhole:FnScope ["thing"] ["thing"] (defScope sLWhole):=⟨rfl,rfl,rfl,by decide +kernel,rfl,by decide +kernel,by decide +kernel⟩
theorem ok_lwhole {f:Addr}{fd:FuncData} (F:Fun K "_law_whole" "_law_whole" sLWhole f fd) (T:Txt mg):FnOk P w K mg base CX0 1 f fd ["thing"] spWhole:=by
  refine F.ok scLWhole (fun vs H Q E h=>?_) (fun cdv A outer s H vs Q E hr h=>?_)
  · obtain⟨i,rfl,_⟩:=h
    rfl
  · obtain⟨i,rfl,k⟩:=h
    refine⟨_,pss_one (ps_ret (pe_and (pe_callB call_isinst rfl T.isinstance b_isinstance (pa_cons (pv 0) (pa_cons (pe_ty rfl T.int b_int) pa_nil)))
      (pe_one (pe_not (pe_callB call_isinst rfl T.isinstance b_isinstance (pa_cons (pv 0) (pa_cons (pe_ty rfl T.bool b_bool) pa_nil))))))),?_⟩
    refine⟨_,rfl,.int i,"int",_,true,rfl,.int i,kit_int_int,true,rfl,iteT ?_⟩
    exact⟨_,rfl,.int i,"bool",_,false,rfl,.int i,kit_int_bool,false,rfl,k⟩
end
end Fj75
namespace Fj75
open PySem L2 Lv
section
variable {P:Program}{w:World}{K:PySem.W.Frag}{mg:Str->Option Value}{base:Heap}
theorem scHL:FnScope ["p","lengths","balanced"] ["p","lengths"] (defScope sHL):=⟨rfl,rfl,rfl,by decide +kernel,rfl,by decide +kernel,by decide +kernel⟩
def BestM (p:Nat) (ls:List Int) (R:Int) (n:Nat):Prop:=∃ m,BestOf ls (toldM p m) m (some (R,n))/\(∀ i,i<m->tot p i<=4000)/\4000<tot p m
def BestC (p:Nat) (ls:List Int) (R:Int) (n:Nat):Prop:=∃ m,BestOf ls (toldN p m) m (some (R,n))/\(∀ i,i<m->(casN p i).flatten.length<=4000)/\4000<(casN p m).flatten.length
def spHL (K:PySem.W.Frag):Sp:=fun vs H Q _=>∃ (p:Nat) (ll:Addr) (b:Bool) (ls:List Int),vs=[.int p,.ref ll]/\2<=p/\p<=7/\SqB b K H ll (ls.map V.int)/\1<=ls.length/\ls.length<=500/\(∀ l∈ls,Builtin.Int.intBits l<=8000) /\
  ∀ (t t1 t2:Addr) (R1:Int) (n1:Nat) (R2:Int) (n2:Nat) (v:V) H',H' t=some (.tup [.int (hf p ls),.ref t1,.ref t2,v])->H' t1=some (.tup [.int R1,.int n1])->H' t2=some (.tup [.int R2,.int n2])->BestM p ls R1 n1->BestC p ls R2 n2->BalG p ls.length ls.sum v->Same H H'->Q (.ref t) H'
theorem ok_hl {f f1 f2 f3 f4 f5:Addr}{fd d1 d2 d3 d4 d5:FuncData} (F:Fun K "held_lengths" "held_lengths" sHL f fd) (T:Txt mg) (CW:Cal P w K mg base 2 "check_ways" ["p"] spWays f1 d1) (CB:Cal P w K mg base 2 "balanced_reading" ["p","rows","things"] spBalG f2 d2) (CL:Cal P w K mg base 3 "least_join" ["p","lengths"] (spLJoinL K) f3 d3) (CP:Cal P w K mg base 4 "best_placing" ["p","lengths"] (spBPl K) f4 d4) (CC:Cal P w K mg base 4 "long_cascade" ["p","lengths"] (spLongC K) f5 d5):FnOk P w K mg base CX0 5 f fd ["p","lengths"] (spHL K):=by
  refine okW F scHL (fun vs H Q E h=>?_) (fun cdv A outer s H vs Q E hr h=>?_)
  · obtain⟨p,ll,b,ls,rfl,_⟩:=h
    rfl
  · obtain⟨p,ll,b,ls,rfl,p2,p7,hL,h1,h5,hb,k⟩:=h
    have hr4:Room 4 _:=hr
    have hr2:Room 2 _:=hr.mono (by decide)
    have hr3:Room 3 _:=hr.mono (by decide)
    refine⟨_,(wss_cons (ws (ps_expr (pe_cal CW hr2 rfl (pa_cons (pv 0) pa_nil))))
      (wss_cons (ws (ps_set (i:=2) scHL.nd rfl (Or.inl rfl) (pe_cal CB hr2 rfl (pa_cons (pv 0) (pa_cons (pe_callB call_len_seq rfl T.len PySem.boot_len (pa_cons (pv 1) pa_nil)) (pa_cons (pe_callB (call_sumB rfl) rfl T.sum b_sum (pa_cons (pv 1) pa_nil)) pa_nil))))))
      (wss_one (ws_ret (we_tup (wa_cons rfl (pe_ix ix_tup (pe_cal CL hr3 rfl (pa_cons (pv 0) (pa_cons (pv 1) pa_nil))) pe_int (fun _ _=>rfl)) (wa_cons rfl (pe_slice sl_tup (pe_cal CP hr4 rfl (pa_cons (pv 0) (pa_cons (pv 1) pa_nil))) po_none (po_some pe_int)) (wa_cons rfl (pe_cal CC hr4 rfl (pa_cons (pv 0) (pa_cons (pv 1) pa_nil))) (wa_cons rfl (pv 2) wa_nil))))))))),?_⟩
    refine⟨_,rfl,p,rfl,by omega,by omega,?_⟩
    refine⟨_,rfl,_,rfl,ll,_,rfl,SqB.orJ hL,_,rfl,ll,b,ls,rfl,hL,p,(ls.length:Int),ls.sum,by rw[List.length_map];rfl,p2,p7,by omega,by omega,fun v hv=>?_⟩
    refine⟨_,rfl,_,rfl,p,ll,b,ls,rfl,p2,p7,hL,h5,fun t lg rs r L H1 nt nlg ht hlg hTT hJ s1=>⟨t,_,0,.int r,rfl,rfl,SqT.of ht,rfl,?_⟩⟩
    have hL1:=SqB.sameJ s1 hL
    have hr':r=hf p ls:=(hJ.spec p2 h1).1
    refine⟨_,rfl,_,rfl,p,ll,b,ls,rfl,p2,p7,hL1,h5,hb,fun tb plb qsb ksb lfb lpb nb mb H2 _ htb hplb hTub hst hinb hfit htotb hnm hbest hm9 hm4 s2=>?_⟩
    refine⟨2,rfl,tb,_,rfl,SqT.of htb,(fun z=>by have:=z.2;simp[HT.sIx] at this),fun t2 nt2=>?_⟩
    have s3:=Same.new (o:=.tup (cutV [V.int (readV (num p nb) ls ksb).sum,.int (nb:Int),.ref plb] none (some 2))) nt2
    have e3:upd H2 t2 (.tup (cutV [V.int (readV (num p nb) ls ksb).sum,.int (nb:Int),.ref plb] none (some 2))) t2=some (.tup [V.int (readV (num p nb) ls ksb).sum,.int (nb:Int)]):=upd_same
    generalize upd H2 t2 (.tup (cutV [V.int (readV (num p nb) ls ksb).sum,.int (nb:Int),.ref plb] none (some 2)))=H3 at s3 e3 ⊢
    have s23:=s2.trans s3
    refine⟨_,rfl,_,rfl,p,ll,b,ls,rfl,p2,p7,SqB.sameJ s23 hL1,h5,hb,fun t4 R4 n4 m4 H4 nt4 ht4 hbest4 hm49 hm44 s4=>?_⟩
    refine⟨_,rfl,(by show 4<=sizeLine;decide),fun t5 nt5=>?_⟩
    have s5:=Same.new (o:=.tup [V.int r,.ref t2,.ref t4,v]) nt5
    subst hr'
    exact k t5 t2 t4 _ nb R4 n4 v _ upd_same (s5 _ _ (s4 _ _ e3)) (s5 _ _ ht4) ⟨mb,hbest,hm9,hm4⟩ ⟨m4,hbest4,hm49,hm44⟩ hv (((s1.trans s23).trans s4).trans s5)
theorem scBW:FnScope ["p","lengths","phases","cascade"] ["p","lengths"] (defScope sBW):=⟨rfl,rfl,rfl,by decide +kernel,rfl,by decide +kernel,by decide +kernel⟩
def wayS (R1 R2:Int):Str:=if R1=R2 then "alike" else if R1<R2 then "phases" else "cascade"
def spBW (K:PySem.W.Frag):Sp:=fun vs H Q _=>∃ (p:Nat) (ll:Addr) (b:Bool) (ls:List Int),vs=[.int p,.ref ll]/\2<=p/\p<=7/\SqB b K H ll (ls.map V.int)/\1<=ls.length/\ls.length<=500/\(∀ l∈ls,Builtin.Int.intBits l<=8000) /\
  ∀ (R1:Int) (n1:Nat) (R2:Int) (n2:Nat) H',BestM p ls R1 n1->BestC p ls R2 n2->Same H H'->Q (.str (wayS R1 R2)) H'
theorem ok_bw {f f1 f2 f3:Addr}{fd d1 d2 d3:FuncData} (F:Fun K "better_way" "better_way" sBW f fd) (T:Txt mg) (CW:Cal P w K mg base 2 "check_ways" ["p"] spWays f1 d1) (CP:Cal P w K mg base 4 "best_placing" ["p","lengths"] (spBPl K) f2 d2) (CC:Cal P w K mg base 4 "long_cascade" ["p","lengths"] (spLongC K) f3 d3):FnOk P w K mg base CX0 5 f fd ["p","lengths"] (spBW K):=by
  refine okW F scBW (fun vs H Q E h=>?_) (fun cdv A outer s H vs Q E hr h=>?_)
  · obtain⟨p,ll,b,ls,rfl,_⟩:=h
    rfl
  · obtain⟨p,ll,b,ls,rfl,p2,p7,hL,h1,h5,hb,k⟩:=h
    have hr4:Room 4 _:=hr
    have hr2:Room 2 _:=hr.mono (by decide)
    refine⟨_,(wss_cons (ws (ps_expr (pe_cal CW hr2 rfl (pa_cons (pv 0) pa_nil))))
      (wss_cons (ws (ps_set (i:=2) scBW.nd rfl (Or.inl rfl) (pe_ix ix_tup (pe_cal CP hr4 rfl (pa_cons (pv 0) (pa_cons (pv 1) pa_nil))) pe_int (fun _ _=>rfl))))
      (wss_cons (ws (ps_set (i:=3) scBW.nd rfl (Or.inl rfl) (pe_ix ix_tup (pe_cal CC hr4 rfl (pa_cons (pv 0) (pa_cons (pv 1) pa_nil))) pe_int (fun _ _=>rfl))))
      (wss_cons (ws_if (pt_cmpR op_eq (pv 2) (pv 3) (nomark _))
      (wss_one (ws (ps_ret pe_str)))
      wss_nil)
      (wss_one (ws (ps_ret (pe_ifExp (pt_cmpR op_lt (pv 2) (pv 3) (nomark _)) pe_str pe_str)))))))),?_⟩
    refine⟨_,rfl,p,rfl,by omega,by omega,?_⟩
    refine⟨_,rfl,_,rfl,p,ll,b,ls,rfl,p2,p7,hL,h5,hb,fun tb plb qsb ksb lfb lpb nb mb H2 _ htb hplb hTub hst hinb hfit htotb hnm hbest hm9 hm4 s2=>⟨tb,_,0,_,rfl,rfl,SqT.of htb,rfl,?_⟩⟩
    refine⟨_,rfl,_,rfl,p,ll,b,ls,rfl,p2,p7,SqB.sameJ s2 hL,h5,hb,fun t4 R4 n4 m4 H4 nt4 ht4 hbest4 hm49 hm44 s4=>⟨t4,_,0,_,rfl,rfl,SqT.of ht4,rfl,?_⟩⟩
    have k':=k _ nb R4 n4 H4 ⟨mb,hbest,hm9,hm4⟩ ⟨m4,hbest4,hm49,hm44⟩ (s2.trans s4)
    unfold wayS at k'
    refine⟨_,rfl,_,rfl,rfl,_,rfl,?_⟩
    by_cases e:(readV (num p nb) ls ksb).sum=R4
    · rw[if_pos e] at k'
      rw[e,decide_eq_true rfl]
      exact iteT k'
    · rw[if_neg e] at k'
      rw[decide_eq_false (fun z=>e (V.int.inj z))]
      refine iteF ⟨_,rfl,_,rfl,_,_,rfl,rfl,_,rfl,?_⟩
      by_cases e2:(readV (num p nb) ls ksb).sum<R4
      · rw[if_pos e2] at k'
        rw[decide_eq_true e2]
        exact iteT k'
      · rw[if_neg e2] at k'
        rw[decide_eq_false e2]
        exact iteF k'
end
end Fj75
namespace Fj75
open PySem L2 Lv
section
variable {P:Program}{w:World}{K:PySem.W.Frag}{mg:Str->Option Value}{base:Heap}
theorem scLogR75:FnScope ["p","lengths","left","read","take","joined"] ["p","lengths"] (defScope sLogR75):=⟨rfl,rfl,rfl,by decide +kernel,rfl,by decide +kernel,by decide +kernel⟩
def spLogR75 (K:PySem.W.Frag):Sp:=fun vs H Q _=>∃ (p:Nat) (ll:Addr) (ls:List Int),vs=[.int p,.ref ll]/\2<=p/\p<=7/\H ll=some (.lst (ls.map V.int))/\1<=ls.length/\ls.length<=500/\∀ H',Same H H'->Q (.int (hf p ls)) H'
theorem ok_logR75 {f:Addr}{fd:FuncData} (F:Fun K "_law_log_reading" "_law_log_reading" sLogR75 f fd) (T:Txt mg):FnOk P w K mg base CX0 1 f fd ["p","lengths"] (spLogR75 K):=by
  refine okW F scLogR75 (fun vs H Q E h=>?_) (fun cdv A outer s H vs Q E hr h=>?_)
  · obtain⟨p,ll,ls,rfl,_⟩:=h
    rfl
  · obtain⟨p,ll,ls,rfl,p2,p7,hL,h1,h5,k⟩:=h
    refine⟨_,(wss_cons (ws (ps_set (i:=2) scLogR75.nd rfl (Or.inl rfl) (pe_callB call_sortA rfl T.sorted b_sorted (pa_cons (pv 1) pa_nil))))
      (wss_cons (ws (ps_set (i:=3) scLogR75.nd rfl (Or.inl rfl) pe_int))
      (wss_cons (ws (ps_set (i:=4) scLogR75.nd rfl (Or.inl rfl) (pe_op op_add pe_int (pe_op op_mod (pe_op op_sub (pe_callB call_len_seq rfl T.len PySem.boot_len (pa_cons (pv 2) pa_nil)) pe_int) (pe_op op_sub (pv 0) pe_int)))))
      (wss_cons (ws (ps_while PassesOwn.never (pt_cmpR op_gt (pe_callB call_len_seq rfl T.len PySem.boot_len (pa_cons (pv 2) pa_nil)) pe_int (nomark _))
      (WSs.out (wss_cons (ws (ps_set (i:=5) scLogR75.nd rfl (Or.inl rfl) (pe_callB (call_sumI rfl) rfl T.sum b_sum (pa_cons (pe_slice sl_list (pv 2) po_none (po_some (pv 4))) pa_nil))))
        (wss_cons (ws (ps_set (i:=3) scLogR75.nd rfl (Or.inl rfl) (pe_op op_add (pv 3) (pv 5))))
        (wss_cons (ws (ps_set (i:=2) scLogR75.nd rfl (Or.inl rfl) (pe_callB call_sortA rfl T.sorted b_sorted (pa_cons (pe_op op_cat (pe_slice sl_list (pv 2) (po_some (pv 4)) po_none) (pe_lst (pa_cons (pv 5) pa_nil))) pa_nil))))
        (wss_one (ws (ps_set (i:=4) scLogR75.nd rfl (Or.inl rfl) (pv 0))))))))))
      (wss_one (ws (ps_ret (pv 3)))))))),?_⟩
    have hz:20000<sizeLine:=by decide
    refine⟨_,rfl,ll,_,rfl,SqL.of hL,fun l0 ms n0 pm up=>?_⟩
    have s0:=Same.new (o:=.lst (ms.map V.int)) n0
    have e0:upd H l0 (.lst (ms.map V.int)) l0=some (.lst (ms.map V.int)):=upd_same
    generalize upd H l0 (.lst (ms.map V.int))=H0 at s0 e0 ⊢
    refine⟨_,rfl,l0,_,rfl,.inl (SqL.of e0),_,_,rfl,rfl,_,rfl,_,_,rfl,rfl,_,_,rfl,rfl,(by show (0:Int)<(p:Int) - 1;omega),2,_,rfl,rfl,?_⟩
    have etk:(2:Int)+(((ms.map V.int).length:Int) - 2) % ((p:Int) - 1)=(fmJ p ms.length:Nat):=by
      have:=fm_eq (p:=(p:Int)) (by omega) ms.length
      rw[List.length_map]
      omega
    dsimp only
    rw[etk]
    refine⟨fun m σ H2=>∃ (la:Addr) (lv:List Int) (rd:Int) (tk:Nat) (o5:Option V),m=lv.length/\σ=[some (.int p),some (.ref ll),some (.ref la),some (.int rd),some (.int tk),o5]/\H2 la=some (.lst (lv.map V.int))/\lv.Pairwise (·<=·)/\hf p ls=rd+hf p lv/\(2<=lv.length->tk=fmJ p lv.length)/\lv.length<=500/\Same H H2,⟨_,l0,ms,0,_,none,rfl,rfl,e0,up,by rw[Int.zero_add];exact (hf_perm pm).symm,fun _=>rfl,by rw[pm.length_eq];exact h5,s0⟩,?_⟩
    rintro m σ H2 ⟨la,lv,rd,tk,o5,rfl,rfl,hla,hup,hhf,htk,hl5,s2⟩
    refine⟨_,rfl,la,_,rfl,.inl (SqL.of hla),_,_,rfl,rfl,_,rfl,?_⟩
    rw[List.length_map]
    refine ite2 (fun hc=>?_) fun hc=>?_
    · have hl1:2<=lv.length:=by
        have:((lv.length:Nat):Int) > 1:=of_decide_eq_true hc
        omega
      have:=htk hl1
      subst this
      obtain⟨f1,f2,f3,_⟩:=fm_spec (p:=(p:Int)) (by omega) hl1
      have hnx:=fm_next (p:=(p:Int)) (by omega) hl1
      have hst:=hf_step (p:=(p:Int)) (by omega) hup hl1
      generalize fmJ p lv.length=F at *
      refine⟨fun σ' H'=>∃ (m':Nat) (la:Addr) (lv':List Int) (rd:Int) (tk:Nat) (o5:Option V),m'=lv'.length/\m'<lv.length/\σ'=[some (.int p),some (.ref ll),some (.ref la),some (.int rd),some (.int tk),o5]/\H' la=some (.lst (lv'.map V.int))/\lv'.Pairwise (·<=·)/\hf p ls=rd+hf p lv'/\(2<=lv'.length->tk=fmJ p lv'.length)/\lv'.length<=500/\Same H H',fun σ' H' ⟨m,la,lv,rd,tk,o5,e1,e2,r⟩=>⟨m,e2,la,lv,rd,tk,o5,e1,r⟩,?_⟩
      refine⟨_,rfl,_,rfl,_,rfl,la,_,rfl,SqL.of hla,fun q nq=>?_⟩
      rw[cut_take,<- List.map_take]
      have s3:=Same.new (o:=.lst ((lv.take F).map V.int)) nq
      have e3:upd H2 q (.lst ((lv.take F).map V.int)) q=some (.lst ((lv.take F).map V.int)):=upd_same
      generalize upd H2 q (.lst ((lv.take F).map V.int))=H3 at s3 e3 ⊢
      refine⟨q,_,rfl,SqL.of e3,?_⟩
      refine⟨_,rfl,_,rfl,_,_,rfl,rfl,?_⟩
      have hla3:=s3 _ _ hla
      refine⟨_,rfl,_,rfl,_,rfl,la,_,rfl,SqL.of hla3,fun u nu=>?_⟩
      rw[cut_drop,<- List.map_drop]
      have s4:=Same.new (o:=.lst ((lv.drop F).map V.int)) nu
      have e4:upd H3 u (.lst ((lv.drop F).map V.int)) u=some (.lst ((lv.drop F).map V.int)):=upd_same
      generalize upd H3 u (.lst ((lv.drop F).map V.int))=H4 at s4 e4 ⊢
      refine⟨_,rfl,(by show 1<=sizeLine;decide),fun u2 nu2=>?_⟩
      have s5:=Same.new (o:=.lst [V.int (lv.take F).sum]) nu2
      refine⟨u,u2,_,_,rfl,rfl,s5 _ _ e4,upd_same,by rw[sizeLine_eq,List.length_map,List.length_drop];simp;omega,fun u3 nu3=>?_⟩
      rw[show (lv.drop F).map V.int++[V.int (lv.take F).sum]=(lv.drop F++[(lv.take F).sum]).map V.int by rw[List.map_append];rfl]
      generalize upd H4 u2 (.lst [V.int (lv.take F).sum])=H5 at s5 nu3 ⊢
      have s6:=Same.new (o:=.lst ((lv.drop F++[(lv.take F).sum]).map V.int)) nu3
      have e6:upd H5 u3 (.lst ((lv.drop F++[(lv.take F).sum]).map V.int)) u3=some (.lst ((lv.drop F++[(lv.take F).sum]).map V.int)):=upd_same
      generalize upd H5 u3 (.lst ((lv.drop F++[(lv.take F).sum]).map V.int))=H6 at s6 e6 ⊢
      refine⟨u3,_,rfl,SqL.of e6,fun l2 ms2 n2 pm2 up2=>?_⟩
      have s7:=Same.new (o:=.lst (ms2.map V.int)) n2
      have hml:ms2.length=lv.length - F+1:=by rw[pm2.length_eq,List.length_append,List.length_drop];rfl
      refine⟨_,rfl,ms2.length,l2,ms2,rd+(lv.take F).sum,p,_,rfl,by omega,rfl,upd_same,up2,?_,fun h=>?_,by omega,((((s2.trans s3).trans s4).trans s5).trans s6).trans s7⟩
      · rw[hhf,hst,hf_perm (p:=(p:Int)) pm2,hf_perm (p:=(p:Int)) (List.perm_append_comm (l₁:=lv.drop F) (l₂:=[(lv.take F).sum]))]
        show _=_+hf p ((lv.take F).sum::lv.drop F)
        omega
      · rw[hml] at h ⊢
        have:=hnx h
        omega
    · have hle:¬ ((lv.length:Nat):Int) > 1:=fun z=>hc (decide_eq_true z)
      rw[hf_small (ws:=lv) (by omega),Int.add_zero] at hhf
      subst hhf
      exact⟨_,rfl,k H2 s2⟩
theorem scKinds75:FnScope ["found","pair"] ["found"] (defScope sKinds75):=⟨rfl,rfl,rfl,by decide +kernel,rfl,by decide +kernel,by decide +kernel⟩
def spKinds75 (K:PySem.W.Frag):Sp:=fun vs H Q _=>∃ (t t1 t2:Addr) (a R1 n1 R2 n2:Int) (v:V),vs=[.ref t]/\H t=some (.tup [.int a,.ref t1,.ref t2,v])/\H t1=some (.tup [.int R1,.int n1])/\H t2=some (.tup [.int R2,.int n2])/\(v=.non∨∃ i,v=.int i)/\∀ H',Same H H'->Q (.bl true) H'
theorem ok_kinds75 {f f1:Addr}{fd d1:FuncData} (F:Fun K "_law_kinds" "_law_kinds" sKinds75 f fd) (T:Txt mg) (CH:Cal P w K mg base 1 "_law_whole" ["thing"] spWhole f1 d1):FnOk P w K mg base CX0 2 f fd ["found"] (spKinds75 K):=by
  refine okW F scKinds75 (fun vs H Q E h=>?_) (fun cdv A outer s H vs Q E hr h=>?_)
  · obtain⟨t,t1,t2,a,R1,n1,R2,n2,v,rfl,_⟩:=h
    rfl
  · obtain⟨t,t1,t2,a,R1,n1,R2,n2,v,rfl,ht,h1,h2,hv,k⟩:=h
    have hr1:Room 1 _:=hr
    refine⟨_,(wss_cons (ws_if (PW.pt (pw_or (pt_not (pt_val (pe_callB call_isinst rfl T.isinstance b_isinstance (pa_cons (pv 0) (pa_cons (pe_ty rfl T.tuple b_tuple) pa_nil))))) (pw_or (pt_cmpR op_ne (pe_callB call_len_seq rfl T.len PySem.boot_len (pa_cons (pv 0) pa_nil)) pe_int (nomark _)) (pw_or1 (pt_not (pt_val (pe_cal CH hr1 rfl (pa_cons (pe_ix ix_tup (pv 0) pe_int (fun _ _=>rfl)) pa_nil))))))))
      (wss_one (ws (ps_ret pe_bl)))
      wss_nil)
      (wss_cons (ws (ps_for PassesOwn.never rfl (pi_seqB (pe_slice sl_tup (pv 0) (po_some pe_int) (po_some pe_int))) (pg_name (i:=1) scKinds75.nd rfl (Or.inl rfl))
      (WSs.out (wss_one (ws_if (PW.pt (pw_or (pt_not (pt_val (pe_callB call_isinst rfl T.isinstance b_isinstance (pa_cons (pv 1) (pa_cons (pe_ty rfl T.tuple b_tuple) pa_nil))))) (pw_or (pt_cmpR op_ne (pe_callB call_len_seq rfl T.len PySem.boot_len (pa_cons (pv 1) pa_nil)) pe_int (nomark _)) (pw_or1 (pt_not (pt_val (pe_callB (call_all rfl) rfl T.all b_all (pa_cons (pe_comp (own:=["number"]) (js:=[]) (CompOk.by (sc:=defScope sKinds75) (N:=["found","pair"]) rfl rfl (by decide +kernel)) rfl (pi_seqB (pv 1)) gkeep_name (fun _ _ _ _ _=>(pg_name (i:=0) (by show (["number"]:List Str).Nodup;decide +kernel) rfl (Or.inl rfl) (.inr rfl))) (fun _ _ _ _ _=>pts_nil) (fun _ _ _ _ _=>(pe_cal CH hr1 rfl (pa_cons (pv 0) pa_nil)))) pa_nil))))))))
        (wss_one (ws (ps_ret pe_bl)))
        wss_nil)))))
      (wss_one (ws (ps_ret (pe_or (pe_cmp (pc_isN (pe_ix ix_tup (pv 0) pe_int (fun _ _=>rfl)))) (pe_one (pe_cal CH hr1 rfl (pa_cons (pe_ix ix_tup (pv 0) pe_int (fun _ _=>rfl)) pa_nil))))))))),?_⟩
    refine⟨_,rfl,.ref t,"tuple",_,true,rfl,(.tup ht),kit_tuple_tuple,true,rfl,iteF ?_⟩
    refine⟨_,rfl,t,_,rfl,.inr (SqT.of ht),rfl,_,rfl,iteF ?_⟩
    refine⟨_,rfl,t,_,0,.int a,rfl,rfl,SqT.of ht,rfl,a,rfl,true,rfl,iteF ?_⟩
    refine⟨_,rfl,1,rfl,3,rfl,t,_,rfl,SqT.of ht,(fun z=>by have:=z.1;simp[HT.sIx] at this),fun q nq=>?_⟩
    have s1:=Same.new (o:=.tup (cutV [V.int a,.ref t1,.ref t2,v] (some 1) (some 3))) nq
    have e1:upd H q (.tup (cutV [V.int a,.ref t1,.ref t2,v] (some 1) (some 3))) q=some (.tup [.ref t1,.ref t2]):=upd_same
    generalize upd H q (.tup (cutV [V.int a,.ref t1,.ref t2,v] (some 1) (some 3)))=H1 at s1 e1 ⊢
    refine⟨q,false,rfl,⟨_,SqT.of e1⟩,?_⟩
    refine for_seqB (b:=false) (K:=K) (a:=q) (xs:=[.ref t1,.ref t2]) (fun i σ Hx=>∃ o1:Option V,σ=[some (.ref t),o1]/\Same H1 Hx) ⟨none,rfl,Same.refl _⟩ (fun i σ Hx _ ⟨_,_,sx⟩=>SqT.of (sx _ _ e1)) ?_ ?_
    · rintro i x σ Hx hx ⟨o1,rfl,sx⟩
      obtain⟨tt,R,n,rfl,htt⟩:∃ (tt:Addr) (R n:Int),x=.ref tt/\H tt=some (.tup [.int R,.int n]):=by
        match i,hx with
        | 0,hx=>cases hx;exact⟨t1,R1,n1,rfl,h1⟩
        | 1,hx=>cases hx;exact⟨t2,R2,n2,rfl,h2⟩
        | i+2,hx=>simp at hx
      have htx:=sx _ _ (s1 _ _ htt)
      refine⟨_,rfl,.ref tt,"tuple",_,true,rfl,(.tup htx),kit_tuple_tuple,true,rfl,iteF ?_⟩
      refine⟨_,rfl,tt,_,rfl,.inr (SqT.of htx),rfl,_,rfl,iteF ?_⟩
      refine⟨_,rfl,tt,false,rfl,⟨_,SqT.of htx⟩,?_⟩
      refine comp_mapB [.bl true,.bl true] (show SqB false K Hx tt [.int R,.int n] from SqT.of htx) rfl (by show 2<=20000;decide) (fun j x y hx hy Hc sc Rr hRr=>?_) fun acc G n1 s2 hacc=>?_
      · have hy':y=.bl true:=by
          match j,hy with
          | 0,hy=>cases hy;rfl
          | 1,hy=>cases hy;rfl
          | j+2,hy=>simp at hy
        obtain⟨z,rfl⟩:∃ z,x=.int z:=by
          match j,hx with
          | 0,hx=>cases hx;exact⟨_,rfl⟩
          | 1,hx=>cases hx;exact⟨_,rfl⟩
          | j+2,hx=>simp at hx
        subst hy'
        exact⟨_,rfl,z,rfl,hRr Hc (Same.refl _)⟩
      refine⟨acc,[true,true],rfl,SqL.of hacc,_,rfl,iteF ?_⟩
      exact⟨_,rfl,sx.trans s2⟩
    · rintro σ Hx ⟨o1,rfl,sx⟩
      have hs:=s1.trans sx
      refine⟨_,rfl,t,_,3,v,rfl,rfl,SqT.of (hs _ _ ht),rfl,?_⟩
      rcases hv with rfl | ⟨i,rfl⟩
      · exact⟨_,rfl,iteT (k Hx hs)⟩
      · exact⟨_,rfl,iteF ⟨_,rfl,t,_,3,_,rfl,rfl,SqT.of (hs _ _ ht),rfl,i,rfl,k Hx hs⟩⟩
end
end Fj75
namespace Fj75
open PySem L2 Lv
section
variable {P:Program}{w:World}{K:PySem.W.Frag}{mg:Str->Option Value}{base:Heap}
theorem scLens75:FnScope ["pot","count","way","found","power","k","one"] ["pot"] (defScope sLens75):=⟨rfl,rfl,rfl,by decide +kernel,rfl,by decide +kernel,by decide +kernel⟩
theorem PotT.off75 {H:Hp}{p q:Addr}{o:HO} (h:PotT H p) (hq:q≠p):PotT (upd H q o) p:=by
  obtain⟨a,b,e,r⟩:=h
  exact⟨a,b,by rw[upd_ne (Ne.symm hq)];exact e,r⟩
theorem Sm.put75 {p q:Addr}{H H2:Hp}{o:HO} (s:Sm p H H2) (h:H q=none):Sm p H (upd H2 q o):=fun b u e n=>by
  rw[upd_ne (ne_of_none e h)]
  exact s b u e n
theorem ix16 (b:Bool):∃ v:Nat,atI [V.int 16,.int 60] (if b then 1 else 0)=some (.int v)/\1<=v/\v<=60:=by
  cases b
  · exact⟨16,rfl,by decide,by decide⟩
  · exact⟨60,rfl,by decide,by decide⟩
theorem at5 {P:Int->Prop}{w a b c d e:Int} (h0:0<=w) (h5:w<5) (ha:P a) (hb:P b) (hc:P c) (hd:P d) (he:P e):∃ x:Int,atI [V.int a,.int b,.int c,.int d,.int e] w=some (.int x)/\P x:=by
  rcases (show w=0∨w=1∨w=2∨w=3∨w=4 by omega) with rfl | rfl | rfl | rfl | rfl
  · exact⟨a,rfl,ha⟩
  · exact⟨b,rfl,hb⟩
  · exact⟨c,rfl,hc⟩
  · exact⟨d,rfl,hd⟩
  · exact⟨e,rfl,he⟩
def spLens75 (K:PySem.W.Frag):Sp:=fun vs H Q _=>∃ (pl:Addr),vs=[.ref pl]/\PotT H pl/\∀ l (ls:List Int) H',H l=none->H' l=some (.lst (ls.map V.int))->1<=ls.length->ls.length<=60->(∀ x∈ls,0<=x/\x<=1000000000000)->PotT H' pl->Sm pl H H'->Q (.ref l) H'
theorem ok_lens75 {f f1:Addr}{fd d1:FuncData} (F:Fun K "_law_lengths" "_law_lengths" sLens75 f fd) (T:Txt mg) (CT:Cal P w K mg base 1 "_law_take" ["pot","many"] spTakeT f1 d1):FnOk P w K mg base CX0 2 f fd ["pot"] (spLens75 K):=by
  refine okW F scLens75 (fun vs H Q E h=>?_) (fun cdv A outer s H vs Q E hr h=>?_)
  · obtain⟨pl,rfl,_⟩:=h
    rfl
  · obtain⟨pl,rfl,hp,k⟩:=h
    have hr1:Room 1 _:=hr
    refine⟨_,(wss_cons (ws (ps_set (i:=1) scLens75.nd rfl (Or.inl rfl) (pe_op op_add pe_int (pe_cal CT hr1 rfl (pa_cons (pv 0) (pa_cons (pe_ix ix_list (pe_lst (pa_cons pe_int (pa_cons pe_int pa_nil))) (pe_callTy call_int1 rfl T.int b_int (pa_cons (pe_cmpR op_eq (pe_cal CT hr1 rfl (pa_cons (pv 0) (pa_cons pe_int pa_nil))) pe_int (nomark _)) pa_nil)) (fun _ _=>rfl)) pa_nil))))))
      (wss_cons (ws (ps_set (i:=2) scLens75.nd rfl (Or.inl rfl) (pe_cal CT hr1 rfl (pa_cons (pv 0) (pa_cons pe_int pa_nil)))))
      (wss_cons (ws (ps_set (i:=3) scLens75.nd rfl (Or.inl rfl) (pe_lst pa_nil)))
      (wss_cons (ws (ps_set (i:=4) scLens75.nd rfl (Or.inl rfl) pe_int))
      (wss_cons (ws (ps_for PassesOwn.never rfl (pi_range1 rfl T.range (pa_cons (pv 1) pa_nil)) (pg_name (i:=5) scLens75.nd rfl (Or.inl rfl))
      (WSs.out (wss_cons (ws_set (i:=6) scLens75.nd rfl (Or.inl rfl) (we_ix ix_list (we_lst (wa_cons rfl (pe_cal CT hr1 rfl (pa_cons (pv 0) (pa_cons pe_int pa_nil))) (wa_cons rfl pe_int (wa_cons rfl (pe_cal CT hr1 rfl (pa_cons (pv 0) (pa_cons pe_int pa_nil))) (wa_cons rfl (pv 4) (wa_cons rfl (pe_cal CT hr1 rfl (pa_cons (pv 0) (pa_cons (pe_op op_add (pe_op op_pow pe_int pe_int) pe_int) pa_nil))) wa_nil)))))) (we (pv 2)) (fun _ _=>rfl)))
        (wss_cons (ws (ps_set (i:=4) scLens75.nd rfl (Or.inl rfl) (pe_callB (call_min2 rfl) rfl T.min b_min (pa_cons (pe_op op_pow pe_int pe_int) (pa_cons (pe_op op_mul (pv 4) pe_int) pa_nil)))))
        (wss_one (ws (ps_expr (pe_bm PySem.F.plainAttrs_list PySem.F.slot_list_insert PySem.F.type_list_insert mt_insert (pv 3) (pa_cons (pe_cal CT hr1 rfl (pa_cons (pv 0) (pa_cons (pe_op op_add (pe_callB call_len_seq rfl T.len PySem.boot_len (pa_cons (pv 3) pa_nil)) pe_int) pa_nil))) (pa_cons (pv 6) pa_nil)))))))))))
      (wss_one (ws (ps_ret (pv 3))))))))),?_⟩
    have hz:20000<sizeLine:=by decide
    have e12:(10:Int) ^ Int.toNat 12=1000000000000:=by decide
    refine⟨_,rfl,(by show 2<=sizeLine;decide),fun q1 nq1=>?_⟩
    have sq1:=Same.new (o:=.lst [V.int 16,.int 60]) nq1
    have e1:upd H q1 (.lst [V.int 16,.int 60]) q1=some (.lst [V.int 16,.int 60]):=upd_same
    have hp1:=hp.same sq1
    have np1:q1≠pl:=hp.ne nq1
    generalize upd H q1 (.lst [V.int 16,.int 60])=H1 at sq1 e1 hp1 ⊢
    refine⟨_,rfl,pl,8,rfl,hp1,by decide,bits_small (by decide) (by decide),fun d H2 d0 d1 hp2 sm2=>⟨rfl,.inr ⟨_,rfl,?_⟩⟩⟩
    obtain⟨v,ev,v1,v2⟩:=ix16 (decide (V.int d=V.int 3))
    have e2:=sm2 _ _ e1 np1
    refine⟨q1,_,_,.int v,rfl,rfl,SqL.of e2,ev,pl,v,rfl,hp2,by omega,bits_small (by omega) (by omega),fun dc H3 c0 c1 hp3 sm3=>⟨1,dc,rfl,rfl,?_⟩⟩
    have sm03:=(Sm.of (p:=pl) sq1).trans (sm2.trans sm3)
    obtain⟨n,en⟩:∃ n:Nat,1+dc=(n:Int):=⟨(1+dc).toNat,by omega⟩
    dsimp only
    rw[en]
    refine⟨_,rfl,pl,5,rfl,hp3,by decide,bits_small (by decide) (by decide),fun way H4 w0 w5 hp4 sm4=>?_⟩
    have sm04:=sm03.trans sm4
    refine⟨Nat.zero_le _,fun l nl=>?_⟩
    have nlp:l≠pl:=hp4.ne nl
    have nlH:H l=none:=Sm.free sm04 nlp nl
    have sl:=Same.new (o:=.lst []) nl
    have el:upd H4 l (.lst []) l=some (.lst (([]:List Int).map V.int)):=upd_same
    have hp5:=hp4.same sl
    have sm05:=sm04.trans (Sm.of (p:=pl) sl)
    generalize upd H4 l (.lst [])=H5 at el hp5 sm05 ⊢
    refine⟨_,rfl,n,rfl,by omega,by omega,?_⟩
    rw[Int.toNat_natCast]
    refine for_range (fun i σ Hx=>∃ (ls:List Int) (pw:Int) (o5 o6:Option V),σ=[some (.ref pl),some (.int n),some (.int way),some (.ref l),some (.int pw),o5,o6]/\Hx l=some (.lst (ls.map V.int))/\ls.length=i/\(∀ x∈ls,0<=x/\x<=1000000000000)/\0<=pw/\pw<=1000000000000/\PotT Hx pl/\Sm pl H Hx) ⟨[],1,none,none,rfl,el,rfl,by simp,by decide,by decide,hp5,sm05⟩ ?_ ?_
    · rintro i σ Hx hi ⟨ls,pw,o5,o6,rfl,hl,hli,hb,pw0,pw1,hpx,smx⟩
      refine⟨_,rfl,pl,9,rfl,hpx,by decide,bits_small (by decide) (by decide),fun x1 G1 a1 b1 hq1 t1=>?_⟩
      refine⟨_,rfl,pl,3,rfl,hq1,by decide,bits_small (by decide) (by decide),fun x2 G2 a2 b2 hq2 t2=>?_⟩
      refine⟨_,rfl,_,rfl,10,12,rfl,rfl,⟨by decide,by decide,by decide⟩,_,1,rfl,rfl,pl,_,rfl,hq2,(by show (0:Int)<10 ^ Int.toNat 12+1;rw[e12];decide),bits_small (by rw[e12];decide) (by rw[e12];decide),fun x3 G3 a3 b3 hq3 t3=>?_⟩
      rw[e12] at b3
      have smx3:=((smx.trans t1).trans t2).trans t3
      refine⟨(by show 5<=sizeLine;decide),fun q nq=>?_⟩
      have sq:=Same.new (o:=.lst [V.int x1,.int 5,.int x2,.int pw,.int x3]) nq
      have eq1:upd G3 q (.lst [V.int x1,.int 5,.int x2,.int pw,.int x3]) q=some (.lst [V.int x1,.int 5,.int x2,.int pw,.int x3]):=upd_same
      have hl3:G3 l=some (.lst (ls.map V.int)):=t3 _ _ (t2 _ _ (t1 _ _ hl nlp) nlp) nlp
      have hl4:=sq _ _ hl3
      have hq4:=hq3.same sq
      have smx4:=smx3.trans (Sm.of (p:=pl) sq)
      generalize upd G3 q (.lst [V.int x1,.int 5,.int x2,.int pw,.int x3])=G4 at eq1 hl4 hq4 smx4 ⊢
      obtain⟨y,hy,hy0,hy1⟩:=at5 (P:=fun z=>0<=z/\z<=1000000000000) w0 w5 (show 0<=x1/\x1<=1000000000000 by omega) (show (0:Int)<=5/\(5:Int)<=1000000000000 by decide) (show 0<=x2/\x2<=1000000000000 by omega) ⟨pw0,pw1⟩ (show 0<=x3/\x3<=1000000000000 by omega)
      refine⟨_,rfl,q,_,_,.int y,rfl,rfl,SqL.of eq1,hy,?_⟩
      refine⟨10,12,rfl,rfl,⟨by decide,by decide,by decide⟩,_,rfl,pw,2,rfl,rfl,.inr ⟨by decide,by decide⟩,_,_,rfl,?_⟩
      obtain⟨pw2,epw,pw20,pw21⟩:∃ pw2:Int,(if pw*2<(10:Int) ^ Int.toNat 12 then pw*2 else (10:Int) ^ Int.toNat 12)=pw2/\0<=pw2/\pw2<=1000000000000:=⟨_,rfl,by rw[e12];split <;> omega,by rw[e12];split <;> omega⟩
      dsimp only
      rw[epw]
      refine⟨_,rfl,.inl ⟨rfl,_,SqL.of hl4⟩,_,rfl,_,rfl,l,_,rfl,.inl (SqL.of hl4),_,1,rfl,rfl,pl,_,rfl,hq4,by rw[List.length_map];omega,bits_small (by rw[List.length_map];omega) (by rw[List.length_map];omega),fun dj G5 j0 j1 hq5 t5=>?_⟩
      have hl5:=t5 _ _ hl4 nlp
      rw[List.length_map] at j1
      refine⟨_,rfl,l,_,dj,_,rfl,rfl,hl5,by omega,by omega,by rw[List.length_map];omega,?_⟩
      rw[if_neg (by omega),List.length_map,<- List.map_take,<- List.map_drop]
      refine⟨ls.take (min dj.toNat ls.length)++y::ls.drop (min dj.toNat ls.length),pw2,_,_,rfl,by rw[upd_same,List.map_append,List.map_cons],by simp;omega,fun z hz=>?_,pw20,pw21,PotT.off75 hq5 nlp,Sm.put75 (smx4.trans t5) nlH⟩
      rcases List.mem_append.mp hz with hz | hz
      · exact hb z (List.mem_of_mem_take hz)
      · rcases List.mem_cons.mp hz with rfl | hz
        · exact⟨hy0,hy1⟩
        · exact hb z (List.mem_of_mem_drop hz)
    · rintro σ Hx ⟨ls,pw,o5,o6,rfl,hl,hli,hb,pw0,pw1,hpx,smx⟩
      exact⟨_,rfl,k l ls Hx nlH hl (by omega) (by omega) hb hpx smx⟩
end
end Fj75
namespace Fj75
open PySem L2 Lv
section
variable {P:Program}{w:World}{K:PySem.W.Frag}{mg:Str->Option Value}{base:Heap}
theorem take_ext {A:List Int}{n most:Nat}{a:Int}:(A++List.replicate n a).take most=A.take most++List.replicate (min n (most - (A.take most).length)) a:=by
  rw[List.take_append,List.take_replicate]
  congr 2
  rw[List.length_take]
  omega
theorem rep_flat (n:Nat) (a:Int):(List.replicate n [V.int a]).flatten=(List.replicate n a).map V.int:=by
  induction n with
  | zero=>rfl
  | succ n ih=>rw[List.replicate_succ,List.flatten_cons,ih,List.replicate_succ];rfl
theorem filt_sum (i:Nat):∀ Rs:List (List Int),((Rs.filter fun U=>decide (i<U.length)).map fun U=>U.getD i 0).sum=(Rs.map fun U=>U.getD i 0).sum
  | []=>rfl
  | U::Rs=>by
    rw[List.filter_cons]
    by_cases h:i<U.length
    · rw[if_pos (decide_eq_true h),List.map_cons,List.sum_cons,List.map_cons,List.sum_cons,filt_sum i Rs]
    · rw[if_neg (by simpa using h),List.map_cons,List.sum_cons,filt_sum i Rs,List.getD_eq_getElem?_getD,List.getElem?_eq_none (by omega)]
      simp
def spNms:Sp:=fun vs H Q _=>∃ (a:Addr) (rs:List Addr) (Rs N:List (List Int)) (most:Nat),vs=[.ref a,.int most]/\H a=some (.lst (rs.map V.ref))/\LLs H rs Rs/\RpL Rs N/\(1<=N.length/\N.length<=7)/\(∀ R∈Rs,R.length<=200)/\1<=most/\most<=201 /\
  ∀ l (B:Nat) H',H l=none->(∀ m∈N.flatten,0<=m/\m<B)->H' l=some (.lst (((exr N.flatten B).take most).map V.int))->Same H H'->Q (.ref l) H'
theorem scNms:FnScope ["reels","most","found","number","many"] ["reels","most"] (defScope sNms):=⟨rfl,rfl,rfl,by decide +kernel,rfl,by decide +kernel,by decide +kernel⟩
theorem ok_nms {f:Addr}{fd:FuncData} (F:Fun K "_law_numbers" "_law_numbers" sNms f fd) (T:Txt mg):FnOk P w K mg base CX0 1 f fd ["reels","most"] spNms:=by
  refine F.ok scNms (fun vs H Q E h=>?_) (fun cdv A outer s H vs Q E hr h=>?_)
  · obtain⟨a,rs,Rs,N,most,rfl,_⟩:=h
    rfl
  · obtain⟨a,rs,Rs,N,most,rfl,ha,hR,hP,hN,hlen,m1,m2,k⟩:=h
    refine⟨_,(pss_cons (ps_set (i:=2) scNms.nd rfl (Or.inl rfl) (pe_lst pa_nil))
      (pss_cons (ps_for PassesOwn.never rfl (pi_range1 rfl T.range (pa_cons (pe_callB (call_maxB rfl) rfl T.max b_max (pa_cons (pe_comp (own:=["reel"]) (js:=[]) (CompOk.by (sc:=defScope sNms) (N:=["reels","most","found","number","many"]) rfl rfl (by decide +kernel)) rfl (pi_seqB (pv 0)) gkeep_name (fun _ _ _ _ _=>(pg_name (i:=0) (by show (["reel"]:List Str).Nodup;decide +kernel) rfl (Or.inl rfl) (.inr rfl))) (fun _ _ _ _ _=>pts_nil) (fun _ _ _ _ _=>(pe_callB (callK_len K) rfl T.len PySem.boot_len (pa_cons (pv 0) pa_nil)))) pa_nil)) pa_nil)) (pg_name (i:=3) scNms.nd rfl (Or.inr rfl))
      (pss_cons (ps_set (i:=4) scNms.nd rfl (Or.inl rfl) (pe_callB (call_sumI rfl) rfl T.sum b_sum (pa_cons (pe_comp (own:=["reel"]) (js:=[3]) (CompOk.by (sc:=defScope sNms) (N:=["reels","most","found","number","many"]) rfl rfl (by decide +kernel)) rfl (pi_seqB (pv 0)) gkeep_name (fun _ _ _ _ _=>(pg_name (i:=0) (by show (["reel","number"]:List Str).Nodup;decide +kernel) rfl (Or.inl rfl) (.inr rfl))) (fun _ _ _ _ _=>(pts_one (pt_cmpR op_lt (pv 1) (pe_callB (callK_len K) rfl T.len PySem.boot_len (pa_cons (pv 0) pa_nil)) (nomark _)))) (fun _ _ _ _ _=>(pe_ix (ixK_list K) (pv 0) (pv 1) (fun _ _=>rfl)))) pa_nil)))
        (pss_one (ps_expr (pe_bm PySem.F.plainAttrs_list PySem.F.slot_list_extend PySem.F.type_list_extend mt_extend (pv 2) (pa_cons (pe_op op_rep (pe_lst (pa_cons (pv 3) pa_nil)) (pe_callB (call_min2 rfl) rfl T.min b_min (pa_cons (pv 4) (pa_cons (pe_op op_sub (pv 1) (pe_callB call_len_seq rfl T.len PySem.boot_len (pa_cons (pv 2) pa_nil))) pa_nil)))) pa_nil))))))
      (pss_one (ps_ret (pv 2))))),?_⟩
    have hrl:rs.length=N.length:=by rw[hR.1,hP.1]
    refine⟨(by show 0<=sizeLine;decide),fun fl hfl=>?_⟩
    have s1:Same H (upd H fl (.lst [])):=Same.new hfl
    have x1:upd H fl (.lst []) fl=some (.lst []):=upd_same
    generalize upd H fl (.lst [])=H1 at s1 x1 ⊢
    refine⟨_,rfl,a,true,rfl,⟨_,SqL.of (s1 _ _ ha)⟩,?_⟩
    refine comp_mapB ((Rs.map fun R=>(R.length:Int)).map V.int) (show SqB true K H1 a (rs.map V.ref) from SqL.of (s1 _ _ ha)) (by simp[hR.1]) (by rw[List.length_map,hrl];omega) (fun i x y hx hy H2 s2 R0 hR0=>?_) fun acc H2 h0 s2 hacc=>?_
    · obtain⟨q,hq,rfl⟩:=map_ref_get hx
      rw[List.map_map,List.getElem?_map] at hy
      obtain⟨U,hU,rfl⟩:=Option.map_eq_some_iff.mp hy
      have:=s2 _ _ (s1 _ _ (hR.2 i q U hq hU))
      refine⟨_,rfl,q,_,rfl,.inl (SqL.of this),?_⟩
      rw[List.length_map]
      exact hR0 H2 (Same.refl _)
    refine⟨true,acc,Rs.map fun R=>(R.length:Int),rfl,SqL.of hacc,fun e=>?_,fun B hB1 hB2=>?_⟩
    · have:Rs=[]:=by simpa using e
      have h5:rs.length=0:=by rw[hR.1,this];rfl
      omega
    obtain⟨B,rfl⟩:∃ B':Nat,B=B':=by
      obtain⟨U,_,rfl⟩:=List.mem_map.mp hB1
      exact⟨_,rfl⟩
    have hBb:B<=200:=by
      obtain⟨U,hU,e⟩:=List.mem_map.mp hB1
      have:=hlen U hU
      omega
    have hUB:∀ U∈Rs,U.length<=B:=fun U hU=>by
      have:=hB2 _ (List.mem_map_of_mem hU)
      omega
    have hall:∀ m∈N.flatten,0<=m/\m<B:=fun m hm=>by
      have:=(hP.all hUB).2 m hm
      rw[vec_len] at this
      exact this
    have s02:=s1.trans s2
    have x2:=s2 _ _ x1
    refine⟨B,rfl,by omega,by omega,?_⟩
    rw[Int.toNat_natCast]
    refine for_range (fun i σ H3=>∃ o3 o4:Option V,σ=[some (.ref a),some (.int most),some (.ref fl),o3,o4]/\H3 fl=some (.lst (((exr N.flatten i).take most).map V.int))/\Same H H3) ⟨none,none,rfl,by rw[x2];simp[exr],s02⟩ ?_ ?_
    · rintro i σ H3 hi ⟨o3,o4,rfl,hf3,s3⟩
      refine⟨_,rfl,a,true,rfl,⟨_,SqL.of (s3 _ _ ha)⟩,?_⟩
      refine comp_seqB (b:=true) (K:=K) (a:=a) (xs:=rs.map V.ref) (fun acc j H4=>Same H3 H4/\H4 acc=some (.lst ((((Rs.take j).filter fun U=>decide (i<U.length)).map fun U=>U.getD i 0).map V.int))) (fun acc h0=>⟨Same.new h0,upd_same⟩) (fun acc j H4 h0 _ z=>SqL.of (z.1 _ _ (s3 _ _ ha))) ?_ ?_
      · rintro acc j x H4 h0 hx ⟨s4,hacc⟩
        obtain⟨q,hq,rfl⟩:=map_ref_get hx
        have hj:j<Rs.length:=by rw[<- hR.1];exact (List.getElem?_eq_some_iff.mp hq).1
        have hU:=List.getElem?_eq_getElem hj
        have hq4:=s4 _ _ (s3 _ _ (hR.2 j q _ hq hU))
        have hjr:j+1<=(rs.map V.ref).length:=by rw[List.length_map,hR.1];exact hj
        generalize Rs[j]=U at hU hq4
        refine⟨_,rfl,_,rfl,q,_,rfl,.inl (SqL.of hq4),_,_,rfl,rfl,_,rfl,ite2 (fun hc=>?_) fun hc=>?_⟩
        · have hlt:i<U.length:=by
            have:=of_decide_eq_true hc
            rw[List.length_map] at this
            omega
          refine⟨_,rfl,_,rfl,q,_,i,.int (U.getD i 0),rfl,?_,SqL.of hq4,?_,?_⟩
          · rw[Int.zero_add]
          · refine atI_nat ?_
            rw[List.getElem?_map,List.getElem?_eq_getElem hlt,List.getD_eq_getElem?_getD,List.getElem?_eq_getElem hlt]
            rfl
          refine⟨_,hacc,small1000 ?_,hjr,s4.put h0,?_⟩
          · rw[List.length_map,List.length_map]
            have h1:=List.length_filter_le (fun U:List Int=>decide (i<U.length)) (Rs.take j)
            have h2:(Rs.take j).length<=Rs.length:=by simp;omega
            have h3:=hP.1
            omega
          · rw[upd_same,List.take_add_one,hU]
            simp[List.filter_append,hlt]
        · have hge:¬ i<U.length:=fun z=>hc (decide_eq_true (by rw[List.length_map];omega))
          refine⟨hjr,s4,?_⟩
          rw[hacc,List.take_add_one,hU]
          simp[List.filter_append,hge]
      · rintro acc H4 h0 ⟨s4,hacc⟩
        rw[List.length_map,hR.1,List.take_length] at hacc
        refine⟨acc,_,rfl,SqL.of hacc,?_⟩
        have es:((Rs.filter fun U=>decide (i<U.length)).map fun U=>U.getD i 0).sum=cn N.flatten i:=by
          rw[cn_flat,<- hP.sum i]
          exact filt_sum i Rs
        rw[es]
        have hf4:=s4 _ _ hf3
        have c0:=cn_pos N.flatten i
        have tl:((exr N.flatten i).take most).length<=most:=by simp;omega
        refine⟨_,rfl,.inl ⟨rfl,_,SqL.of hf4⟩,_,rfl,(by show 1<=sizeLine;decide),fun q1 hq1=>?_⟩
        have s5:Same H4 (upd H4 q1 (.lst [.int (0+(i:Int))])):=Same.new hq1
        have x5:upd H4 q1 (.lst [.int (0+(i:Int))]) q1=some (.lst [.int (0+(i:Int))]):=upd_same
        generalize upd H4 q1 (.lst [.int (0+(i:Int))])=H5 at s5 x5 ⊢
        have hf5:=s5 _ _ hf4
        refine⟨_,rfl,_,rfl,_,rfl,fl,_,rfl,.inl (SqL.of hf5),_,_,rfl,rfl,_,_,rfl,?_⟩
        rw[List.length_map]
        obtain⟨kk,ek,hk⟩:∃ kk:Nat,(if (most:Int) - (((exr N.flatten i).take most).length:Int)<cn N.flatten i then (most:Int) - (((exr N.flatten i).take most).length:Int) else cn N.flatten i)=kk/\kk=min (cn N.flatten i).toNat (most - ((exr N.flatten i).take most).length):=by
          refine⟨min (cn N.flatten i).toNat (most - ((exr N.flatten i).take most).length),?_,rfl⟩
          split <;> omega
        rw[ek]
        have hkm:kk<=201:=by omega
        refine⟨q1,kk,_,rfl,rfl,x5,by omega,by omega,?_,fun q2 hq2=>?_⟩
        · rw[Int.toNat_natCast]
          exact Nat.le_of_lt (small1000 (by simp;omega))
        refine⟨fl,q2,_,_,rfl,rfl,(Same.new hq2) _ _ hf5,upd_same,?_,?_⟩
        · rw[List.length_map,len_rep,Int.toNat_natCast]
          exact Nat.le_of_lt (small1000 (by simp;omega))
        refine⟨_,_,rfl,?_,(((s3.trans s4).trans s5).trans (Same.new hq2)).put hfl⟩
        rw[upd_same,Int.toNat_natCast,exr_succ,hk,take_ext]
        rw[List.map_append,Int.zero_add]
        rw[rep_flat]
    · rintro σ H3 ⟨o3,o4,rfl,hf3,s3⟩
      exact⟨_,rfl,k fl B H3 hfl hall hf3 s3⟩
end
end Fj75
namespace Fj75
open PySem L2 Lv
section
variable {P:Program}{w:World}{K:PySem.W.Frag}{mg:Str->Option Value}{base:Heap}
def nx (c:Bool) (N:List (List Int)):List (List Int):=if c then nextKN N else nextN N
def spFur:Sp:=fun vs H Q _=>∃ (a:Addr) (c:Bool) (rs:List Addr) (Rs N:List (List Int)) (M:Nat),vs=[.ref a,.bl c]/\H a=some (.lst (rs.map V.ref))/\LLs H rs Rs/\RpL Rs N/\2<=N.length/\N.length<=7/\(∀ R∈Rs,R.length<=M)/\M<=190 /\
  ∀ l qs Rs' H',H l=none->(∀ q∈qs,H q=none)->H' l=some (.lst (qs.map V.ref))->LLs H' qs Rs'->RpL Rs' (nx c N)->(∀ R∈Rs',R.length<=M+1)->Same H H'->Q (.ref l) H'
theorem scFur:FnScope ["reels","cascade","more","found","k","some","longest","sums","reel","number","many"] ["reels","cascade"] (defScope sFur):=⟨rfl,rfl,rfl,by decide +kernel,rfl,by decide +kernel,by decide +kernel⟩
theorem ok_fur {f:Addr}{fd:FuncData} (F:Fun K "_law_further" "_law_further" sFur f fd) (T:Txt mg) (Te:mg "enumerate"=none):FnOk P w K mg base CX0 1 f fd ["reels","cascade"] spFur:=by
  refine okW F scFur (fun vs H Q E h=>?_) (fun cdv A outer s H vs Q E hr h=>?_)
  · obtain⟨a,c,rs,Rs,N,M,rfl,_⟩:=h
    rfl
  · obtain⟨a,c,rs,Rs,N,M,rfl,ha,hR,hP,n2,n7,hlen,hM,k⟩:=h
    refine⟨_,(wss_cons (ws (ps_comp (i:=2) scFur.nd rfl rfl (own:=["reel"]) (js:=[]) (CompOk.by (sc:=defScope sFur) (N:=["reels","cascade","more","found","k","some","longest","sums","reel","number","many"]) rfl rfl (by decide +kernel)) rfl (pi_seqB (pv 0)) gkeep_name (fun _ _ _ _ _=>(pg_name (i:=0) (by show (["reel"]:List Str).Nodup;decide +kernel) rfl (Or.inl rfl) (.inr rfl))) (fun _ _ _ _ _=>pts_nil) (fun _ _ _ _ _=>(pe_op op_cat (pe_lst (pa_cons pe_int pa_nil)) (pv 0)))))
      (wss_cons (ws (ps_set (i:=3) scFur.nd rfl (Or.inl rfl) (pe_lst pa_nil)))
      (wss_cons (ws (ps_for PassesOwn.never rfl (pi_range1 rfl T.range (pa_cons (pe_callB call_len_seq rfl T.len PySem.boot_len (pa_cons (pv 0) pa_nil)) pa_nil)) (pg_name (i:=4) scFur.nd rfl (Or.inl rfl))
      (WSs.out (wss_cons (ws_if (pt_val (pv 1))
        (wss_cons (ws (ps_set (i:=5) scFur.nd rfl (Or.inl rfl) (pe_slice sl_list (pv 2) po_none (po_some (pe_op op_sub (pe_callB call_len_seq rfl T.len PySem.boot_len (pa_cons (pv 0) pa_nil)) (pv 4))))))
          (wss_one (ws_if (pt_cmpR op_eq (pv 4) pe_int (nomark _))
          (wss_one (ws (ps_set (i:=5) scFur.nd rfl (Or.inl rfl) (pe_op op_cat (pe_slice sl_list (pv 2) po_none (po_some (pe_un un_neg pe_int))) (pe_lst (pa_cons (pe_ix ix_list (pv 0) (pe_un un_neg pe_int) (fun _ _=>rfl)) pa_nil))))))
          wss_nil)))
        (wss_one (ws_if (pt_cmpR op_eq (pv 4) (pe_op op_sub (pe_callB call_len_seq rfl T.len PySem.boot_len (pa_cons (pv 0) pa_nil)) pe_int) (nomark _))
          (wss_one (ws (ps_set (i:=5) scFur.nd rfl (Or.inl rfl) (pe_lst (pa_cons (pe_ix ix_list (pv 2) pe_int (fun _ _=>rfl)) pa_nil)))))
          (wss_one (ws (ps_set (i:=5) scFur.nd rfl (Or.inl rfl) (pe_lst (pa_cons (pe_ix ix_list (pv 2) pe_int (fun _ _=>rfl)) (pa_cons (pe_ix ix_list (pv 0) (pe_op op_add (pv 4) pe_int) (fun _ _=>rfl)) pa_nil)))))))))
        (wss_cons (ws (ps_set (i:=6) scFur.nd rfl (Or.inl rfl) (pe_callB (call_maxB rfl) rfl T.max b_max (pa_cons (pe_comp (own:=["reel"]) (js:=[]) (CompOk.by (sc:=defScope sFur) (N:=["reels","cascade","more","found","k","some","longest","sums","reel","number","many"]) rfl rfl (by decide +kernel)) rfl (pi_seqB (pv 5)) gkeep_name (fun _ _ _ _ _=>(pg_name (i:=0) (by show (["reel"]:List Str).Nodup;decide +kernel) rfl (Or.inl rfl) (.inr rfl))) (fun _ _ _ _ _=>pts_nil) (fun _ _ _ _ _=>(pe_callB (callK_len K) rfl T.len PySem.boot_len (pa_cons (pv 0) pa_nil)))) pa_nil))))
        (wss_cons (ws (ps_set (i:=7) scFur.nd rfl (Or.inl rfl) (pe_op op_rep (pe_lst (pa_cons pe_int pa_nil)) (pv 6))))
        (wss_cons (ws (ps_for PassesOwn.never rfl (pi_seqB (pv 5)) (pg_name (i:=8) scFur.nd rfl (Or.inl rfl))
        (WSs.out (wss_one (ws (ps_for PassesOwn.never rfl (pi_enumB rfl Te (pa_cons (pv 8) pa_nil)) (pg_tup rfl (pgs_cons (pg_name (i:=9) scFur.nd rfl (Or.inl rfl)) (pgs_cons (pg_name (i:=10) scFur.nd rfl (Or.inl rfl)) pgs_nil)))
          (WSs.out (wss_one (ws (ps_asg (pe_op op_add (pe_ix ix_list (pv 7) (pv 9) (fun _ _=>rfl)) (pv 10)) (pg_sub (pv 7) (pv 9) set_list)))))))))))
        (wss_one (ws (ps_expr (pe_bm PySem.F.plainAttrs_list PySem.F.slot_list_append PySem.F.type_list_append mt_append (pv 3) (pa_cons (pv 7) pa_nil))))))))))))
      (wss_one (ws (ps_ret (pv 3))))))),?_⟩
    have hrl:rs.length=N.length:=by rw[hR.1,hP.1]
    have hRl:Rs.length=N.length:=hP.1
    refine⟨_,rfl,a,true,rfl,⟨_,SqL.of ha⟩,?_⟩
    refine comp_seqB (b:=true) (K:=K) (a:=a) (xs:=rs.map V.ref) (fun acc i H2=>∃ qs:List Addr,H2 acc=some (.lst (qs.map V.ref))/\LLs H2 qs ((Rs.take i).map (0::·))/\(∀ q∈qs,q≠acc)/\Same H H2) (fun acc h0=>⟨[],upd_same,⟨rfl,fun j r xs z=>by simp at z⟩,(fun q hq=>nomatch hq),Same.new h0⟩) (fun acc i H2 h0 _ z=>by obtain⟨_,_,_,_,s⟩:=z;exact SqL.of (s _ _ ha)) ?_ ?_
    · rintro acc i x H2 h0 hx ⟨qs,hacc,hL,hne,s2⟩
      obtain⟨r,hr',rfl⟩:=map_ref_get hx
      have hi:i<Rs.length:=by rw[<- hR.1];exact (List.getElem?_eq_some_iff.mp hr').1
      have hUi:=List.getElem?_eq_getElem hi
      have hU2:=s2 _ _ (hR.2 i r _ hr' hUi)
      have hUl:=hlen _ (List.getElem_mem hi)
      generalize Rs[i]=U at hUi hU2 hUl
      have hql:qs.length=i:=by have:=hL.1;simp at this;omega
      refine⟨(by show 1<=sizeLine;decide),fun q1 hq1=>⟨_,rfl,q1,r,_,_,rfl,rfl,upd_same,(Same.new hq1) _ _ hU2,Nat.le_of_lt (small1000 (by simp;omega)),fun q2 hq2=>?_⟩⟩
      have s3:Same H2 (upd (upd H2 q1 (.lst [.int 0])) q2 (.lst ([V.int 0]++U.map V.int))):=(Same.new hq1).trans (Same.new hq2)
      have x3:upd (upd H2 q1 (.lst [.int 0])) q2 (.lst ([V.int 0]++U.map V.int)) q2=some (.lst ((0::U).map V.int)):=by rw[upd_same];rfl
      have hq2a:q2≠acc:=Ne.symm (ne_of_none ((Same.new hq1) _ _ hacc) hq2)
      generalize upd (upd H2 q1 (.lst [.int 0])) q2 (.lst ([V.int 0]++U.map V.int))=H3 at s3 x3 ⊢
      refine⟨_,s3 _ _ hacc,small1000 (by rw[List.length_map];omega),by rw[List.length_map,hR.1];exact hi,qs++[q2],?_,⟨by simp[hql];omega,fun j r' xs h1 h2=>?_⟩,fun y hy=>?_,(s2.trans s3).put h0⟩
      · rw[upd_same,List.map_append]
        rfl
      · rw[List.take_add_one,hUi,List.map_append] at h2
        rcases Nat.lt_or_ge j qs.length with z | z
        · rw[List.getElem?_append_left z] at h1
          rw[List.getElem?_append_left (by simp;omega)] at h2
          rw[upd_ne (hne r' (List.mem_of_getElem? h1))]
          exact s3 _ _ (hL.2 j r' xs h1 h2)
        · rw[List.getElem?_append_right z] at h1
          rw[List.getElem?_append_right (by simp;omega)] at h2
          have e1:r'=q2:=by simpa using List.mem_of_getElem? h1
          have e2:xs=0::U:=by simpa using List.mem_of_getElem? h2
          subst e1 e2
          rw[upd_ne hq2a]
          exact x3
      · rcases List.mem_append.mp hy with z | z
        · exact hne y z
        · rw[List.mem_singleton] at z
          subst z
          exact hq2a
    rintro lm Hm h0m ⟨qs1,hlm,hL1,hnm,sm⟩
    rw[List.length_map,hR.1,List.take_length] at hL1
    have hq1l:qs1.length=N.length:=by have:=hL1.1;simp at this;omega
    refine⟨(by show 0<=sizeLine;decide),fun lf nf=>?_⟩
    have sf:Same Hm (upd Hm lf (.lst [])):=Same.new nf
    have xf:upd Hm lf (.lst []) lf=some (.lst []):=upd_same
    generalize upd Hm lf (.lst [])=Hf at sf xf ⊢
    refine⟨_,rfl,a,_,rfl,.inl (SqL.of (sf _ _ (sm _ _ ha))),_,rfl,by omega,by rw[List.length_map];omega,?_⟩
    rw[List.length_map,Int.toNat_natCast,hrl]
    have hlf0:H lf=none:=sm.free nf
    refine for_range (fun i σ H2=>∃ (qf:List Addr) (RF:List (List Int)) (o4 o5 o6 o7 o8 o9 o10:Option V),σ=[some (.ref a),some (.bl c),some (.ref lm),some (.ref lf),o4,o5,o6,o7,o8,o9,o10]/\H2 lf=some (.lst (qf.map V.ref))/\LLs H2 qf RF/\RpL RF ((nx c N).take i)/\(∀ R∈RF,R.length<=M+1)/\(∀ q∈qf,q≠lf/\H q=none)/\Same Hm H2)
      ⟨[],[],_,_,_,_,_,_,_,rfl,xf,⟨rfl,fun j r xs z=>by simp at z⟩,⟨by simp,fun j U Y z=>by simp at z⟩,by simp,by simp,sf⟩ ?_ ?_
    · rintro i σ H2 hi ⟨qf,RF,o4,o5,o6,o7,o8,o9,o10,rfl,hlf,hLF,hPF,hlF,hqf,s2⟩
      have ha2:=s2 _ _ (sm _ _ ha)
      have hlm2:=s2 _ _ hlm
      have hR2:LLs H2 rs Rs:=(hR.same sm).same s2
      have hL2:LLs H2 qs1 (Rs.map (0::·)):=hL1.same s2
      show tSeq _ _ _ _ _
      refine cut1 (fun σ' H'=>∃ (sl:Addr) (us:List Addr) (Us Ys:List (List Int)) (o6 o7 o8 o9 o10:Option V),σ'=[some (.ref a),some (.bl c),some (.ref lm),some (.ref lf),some (.int (0+(i:Int))),some (.ref sl),o6,o7,o8,o9,o10]/\H' sl=some (.lst (us.map V.ref))/\LLs H' us Us/\RpL Us Ys/\1<=Us.length/\Us.length<=7/\(∀ U∈Us,U.length<=M+1)/\(∀ m,cn ((nx c N).getD i []) m=cn Ys.flatten m)/\(∀ u∈us,∃ o,Hm u=some o)/\sl≠lf/\Same H2 H') (fun R' hR'=>?_) ?_
      · have hlt:∀ q∈SL c N.length i,q.1<N.length:=SL_lt n2 hi
        have hltR:∀ q∈SL c N.length i,q.1<Rs.length:=fun q hq=>by rw[hRl];exact hlt q hq
        have hle:=SL_len (c:=c) n2 hi
        have hcx:∀ m,cn ((nx c N).getD i []) m=cn ((SL c N.length i).map (pk (N.map up1) N [])).flatten m:=fun m=>by
          cases c
          · exact SL_cnN n2 hi m
          · exact SL_cnK n2 hi m
        have hfin:=fun (sl:Addr) (H':Hp) (h:H' sl=some (.lst (((SL c N.length i).map (pk qs1 rs lf)).map V.ref))) (hn:sl≠lf) (s3:Same H2 H')=>
          hR' [some (.ref a),some (.bl c),some (.ref lm),some (.ref lf),some (.int (0+(i:Int))),some (.ref sl),o6,o7,o8,o9,o10] H' ⟨sl,(SL c N.length i).map (pk qs1 rs lf),(SL c N.length i).map (pk (Rs.map (0::·)) Rs []),(SL c N.length i).map (pk (N.map up1) N []),o6,o7,o8,o9,o10,rfl,h,(pk_lls hL2 hR2 hltR).same s3,pk_rpl hP hlt,by rw[List.length_map];exact hle.1,by rw[List.length_map];exact Nat.le_trans hle.2 n7,fun U hU=>by
            obtain⟨q,hq,rfl⟩:=List.mem_map.mp hU
            exact pk_len hlen (hltR q hq),hcx,lls_had (pk_lls hL1 (hR.same sm) hltR),hn,s3⟩
        clear hR' hlt hltR hle hcx
        refine⟨_,rfl,c,rfl,ite2 (fun hc=>?_) fun hc=>?_⟩
        · subst hc
          refine⟨_,rfl,_,rfl,a,_,rfl,.inl (SqL.of ha2),_,rfl,_,_,rfl,rfl,_,rfl,lm,_,rfl,SqL.of hlm2,fun p1 np1=>?_⟩
          have e1:((((rs.map V.ref).length:Nat):Int) - (0+(i:Int)))=((N.length - i:Nat):Int):=by rw[List.length_map,hrl];omega
          rw[e1,cut_nat (by omega)]
          have s3:Same H2 (upd H2 p1 (.lst ((qs1.take (N.length - i)).map V.ref))):=Same.new np1
          have x3:upd H2 p1 (.lst ((qs1.take (N.length - i)).map V.ref)) p1=some (.lst ((qs1.take (N.length - i)).map V.ref)):=upd_same
          have n3:p1≠lf:=Ne.symm (ne_of_none hlf np1)
          generalize upd H2 p1 (.lst ((qs1.take (N.length - i)).map V.ref))=H3 at s3 x3 ⊢
          refine⟨_,rfl,rfl,_,rfl,ite2 (fun hz=>?_) fun hz=>?_⟩
          · have hi0:i=0:=by
              have:=V.int.inj (of_decide_eq_true hz)
              omega
            subst hi0
            obtain⟨n,hn⟩:∃ n,N.length=n+1:=⟨N.length - 1,by omega⟩
            refine⟨_,rfl,_,rfl,_,rfl,lm,_,rfl,SqL.of (s3 _ _ hlm2),fun p2 np2=>?_⟩
            rw[cut_lastH (by rw[hq1l];exact hn)]
            have s4:Same H3 (upd H3 p2 (.lst ((qs1.take n).map V.ref))):=Same.new np2
            have x4:upd H3 p2 (.lst ((qs1.take n).map V.ref)) p2=some (.lst ((qs1.take n).map V.ref)):=upd_same
            generalize upd H3 p2 (.lst ((qs1.take n).map V.ref))=H4 at s4 x4 ⊢
            refine⟨_,rfl,_,rfl,a,_,_,_,rfl,rfl,SqL.of (s4 _ _ (s3 _ _ ha2)),at_last lf (by rw[hrl];exact hn),(by show 1<=sizeLine;decide),fun p3 np3=>?_⟩
            refine⟨p2,p3,_,_,rfl,rfl,(Same.new np3) _ _ x4,upd_same,Nat.le_of_lt (small1000 (by rw[List.length_map,List.length_take];simp;omega)),fun p4 np4=>?_⟩
            have s5:=(s3.trans s4).trans ((Same.new (o:=.lst [V.ref (rs.getD n lf)]) np3).trans (Same.new (o:=.lst ((qs1.take n).map V.ref++[V.ref (rs.getD n lf)])) np4))
            refine hfin p4 _ ?_ (Ne.symm (ne_of_none ((Same.new np3) _ _ (s4 _ _ (s3 _ _ hlf))) np4)) s5
            rw[upd_same,SL_z,hn,Nat.add_sub_cancel,List.map_append,List.map_append,<- take_pk (by omega)]
            rfl
          · have hi0:i≠0:=fun z=>hz (by subst z;rfl)
            refine hfin p1 H3 ?_ n3 s3
            rw[x3,SL_s hi0,<- take_pk (by omega)]
        · have hc':c=false:=by simpa using hc
          subst hc'
          refine⟨_,rfl,_,rfl,a,_,rfl,.inl (SqL.of ha2),_,_,rfl,rfl,rfl,_,rfl,ite2 (fun hz=>?_) fun hz=>?_⟩
          · have hl:i+1=N.length:=by
              have:=V.int.inj (of_decide_eq_true hz)
              rw[List.length_map] at this
              omega
            refine⟨_,rfl,lm,_,_,_,rfl,rfl,SqL.of hlm2,at_ref (n:=0) lf (by omega),(by show 1<=sizeLine;decide),fun p1 np1=>?_⟩
            refine hfin p1 _ ?_ (Ne.symm (ne_of_none hlf np1)) (Same.new np1)
            rw[upd_same,SL_l hl]
            rfl
          · have hl:i+1≠N.length:=fun z=>hz (decide_eq_true (congrArg V.int (by rw[List.length_map];omega)))
            refine⟨_,rfl,lm,_,_,_,rfl,rfl,SqL.of hlm2,at_ref (n:=0) lf (by omega),_,rfl,_,rfl,_,_,rfl,rfl,a,_,_,.ref (rs.getD (i+1) lf),rfl,rfl,SqL.of ha2,?_,(by show 2<=sizeLine;decide),fun p1 np1=>?_⟩
            · rw[show (0+(i:Int))+1=((i+1:Nat):Int) by omega]
              exact at_ref lf (by omega)
            refine hfin p1 _ ?_ (Ne.symm (ne_of_none hlf np1)) (Same.new np1)
            rw[upd_same,SL_m hl]
            rfl
      · rintro σ H3 ⟨sl,us,Us,Ys,o6,o7,o8,o9,o10,rfl,hsl,hLU,hPU,u1,u7,hUl,hcn,hum,hslf,s3⟩
        have ne':∀ {u:Addr}{o:HO}{p:Addr},H3 u=some o->H3 p=none->u≠p:=fun h1 h2=>ne_of_none h1 h2
        have hlf3:=s3 _ _ hlf
        refine⟨_,rfl,sl,true,rfl,⟨_,SqL.of hsl⟩,?_⟩
        refine comp_mapB ((Us.map fun R=>(R.length:Int)).map V.int) (show SqB true K H3 sl (us.map V.ref) from SqL.of hsl) (by simp[hLU.1]) (by rw[List.length_map,hLU.1];omega) (fun j x y hx hy H4 s4 R0 hR0=>?_) fun acc H4 h0 s4 hacc=>?_
        · obtain⟨q,hq,rfl⟩:=map_ref_get hx
          rw[List.map_map,List.getElem?_map] at hy
          obtain⟨U,hU,rfl⟩:=Option.map_eq_some_iff.mp hy
          have:=s4 _ _ (hLU.2 j q U hq hU)
          refine⟨_,rfl,q,_,rfl,.inl (SqL.of this),?_⟩
          rw[List.length_map]
          exact hR0 H4 (Same.refl _)
        refine⟨true,acc,Us.map fun R=>(R.length:Int),rfl,SqL.of hacc,fun e=>?_,fun B hB1 hB2=>?_⟩
        · have:Us=[]:=by simpa using e
          rw[this] at u1
          simp at u1
        obtain⟨B,rfl⟩:∃ B':Nat,B=B':=by
          obtain⟨U,_,rfl⟩:=List.mem_map.mp hB1
          exact⟨_,rfl⟩
        have hBb:B<=M+1:=by
          obtain⟨U,hU,e⟩:=List.mem_map.mp hB1
          have:=hUl U hU
          omega
        have hUB:∀ U∈Us,U.length<=B:=fun U hU=>by
          have:=hB2 _ (List.mem_map_of_mem hU)
          omega
        refine⟨(by show 1<=sizeLine;decide),fun z0 nz0=>⟨_,rfl,z0,_,_,rfl,rfl,upd_same,by omega,by omega,?_,fun sa nsa=>?_⟩⟩
        · exact Nat.le_of_lt (small1000 (by simp;omega))
        rw[rep_vec,Int.toNat_natCast]
        have s5:Same H4 (upd (upd H4 z0 (.lst [.int 0])) sa (.lst ((vec B fun _=>0).map V.int))):=(Same.new nz0).trans (Same.new nsa)
        have x5:upd (upd H4 z0 (.lst [.int 0])) sa (.lst ((vec B fun _=>0).map V.int)) sa=some (.lst ((vec B fun _=>0).map V.int)):=upd_same
        have nsa4:H4 sa=none:=(Same.new nz0).free nsa
        generalize upd (upd H4 z0 (.lst [.int 0])) sa (.lst ((vec B fun _=>0).map V.int))=H5 at s5 x5 ⊢
        have nsa3:H3 sa=none:=s4.free nsa4
        have nsam:Hm sa=none:=(s2.trans s3).free nsa3
        have s35:=s4.trans s5
        have nsl:sl≠sa:=ne_of_none hsl nsa3
        have nlf:lf≠sa:=ne_of_none hlf3 nsa3
        refine⟨_,rfl,sl,true,rfl,⟨_,SqL.of (s35 _ _ hsl)⟩,?_⟩
        refine for_seqB (b:=true) (K:=K) (a:=sl) (xs:=us.map V.ref) (fun j σ H6=>∃ (o8 o9 o10:Option V),σ=[some (.ref a),some (.bl c),some (.ref lm),some (.ref lf),some (.int (0+(i:Int))),some (.ref sl),some (.int (B:Int)),some (.ref sa),o8,o9,o10]/\H6 sa=some (.lst ((vec B fun m=>((Us.take j).map fun U=>U.getD m 0).sum).map V.int))/\Sm sa H5 H6)
          ⟨_,_,_,rfl,x5,Sm.refl _ _⟩ (fun j σ H6 _ z=>by
            obtain⟨_,_,_,_,_,sz⟩:=z
            exact SqL.of (sz _ _ (s35 _ _ hsl) nsl)) ?_ ?_
        · rintro j x σ H6 hx ⟨o8,o9,o10,rfl,hsa6,sm6⟩
          obtain⟨u,hu,rfl⟩:=map_ref_get hx
          have hj:j<Us.length:=by rw[<- hLU.1];exact (List.getElem?_eq_some_iff.mp hu).1
          have hUj:=List.getElem?_eq_getElem hj
          have hu3:=hLU.2 j u _ hu hUj
          have hUlB:=hUB _ (List.getElem_mem hj)
          generalize Us[j]=U at hUj hu3 hUlB
          have nu:u≠sa:=ne_of_none hu3 nsa3
          have hu6:=sm6 _ _ (s35 _ _ hu3) nu
          refine⟨_,rfl,u,true,rfl,⟨_,SqL.of hu6⟩,?_⟩
          refine for_enumB (b:=true) (K:=K) (a:=u) (xs:=U.map V.int) (fun t σ H7=>∃ (o9 o10:Option V),σ=[some (.ref a),some (.bl c),some (.ref lm),some (.ref lf),some (.int (0+(i:Int))),some (.ref sl),some (.int (B:Int)),some (.ref sa),some (.ref u),o9,o10]/\H7 sa=some (.lst ((vec B fun m=>((Us.take j).map fun U=>U.getD m 0).sum+(if m<t then U.getD m 0 else 0)).map V.int))/\Sm sa H5 H7)
            ⟨_,_,rfl,?_,sm6⟩ (fun t σ H7 _ z=>by
              obtain⟨_,_,_,_,sz⟩:=z
              exact SqL.of (sz _ _ (s35 _ _ hu3) nu)) ?_ ?_
          · rw[hsa6]
            refine congrArg (fun z=>some (HO.lst (z.map V.int))) (vec_congr fun m hm=>?_)
            rw[if_neg (by omega),Int.add_zero]
          · rintro t x p σ H7 hx ⟨o9,o10,rfl,hsa7,sm7⟩ hp
            obtain⟨y,hy,rfl⟩:=map_get hx
            have ht:t<U.length:=(List.getElem?_eq_some_iff.mp hy).1
            have ey:U.getD t 0=y:=by rw[List.getD_eq_getElem?_getD,hy];rfl
            have npa:sa≠p:=ne_of_none hsa7 hp
            have hsa8:upd H7 p (.tup [.int (t:Int),.int y]) sa=H7 sa:=upd_ne npa
            rw[hsa7] at hsa8
            have x8:upd H7 p (.tup [.int (t:Int),.int y]) p=some (.tup [.int (t:Int),.int y]):=upd_same
            have s8:Same H7 (upd H7 p (.tup [.int (t:Int),.int y])):=Same.new hp
            generalize upd H7 p (.tup [.int (t:Int),.int y])=H8 at hsa8 x8 s8 ⊢
            refine⟨p,_,rfl,SqT.of x8,rfl,_,_,rfl,_,_,rfl,rfl,?_⟩
            refine⟨_,rfl,_,rfl,sa,_,_,.int ((Us.take j).map fun U=>U.getD t 0).sum,rfl,rfl,SqL.of hsa8,?_,?_⟩
            · refine atI_nat ?_
              rw[List.getElem?_map,vec_at (by omega),if_neg (by omega),Int.add_zero]
              rfl
            refine⟨_,rfl,_,_,rfl,rfl,_,rfl,_,rfl,sa,_,_,t,rfl,rfl,hsa8,?_,?_⟩
            · have:=ixN_of (n:=((vec B fun m=>((Us.take j).map fun U=>U.getD m 0).sum+(if m<t then U.getD m 0 else 0)).map V.int).length) (x:=((t:Nat):Int)) (by omega) (by rw[List.length_map,vec_len];omega)
              rw[this,Int.toNat_natCast]
            · refine⟨_,_,rfl,?_,fun b o hb nb=>?_⟩
              · rw[upd_same]
                have es:∀ (ns:List Int) (q:Nat) (z:Int),(ns.map V.int).set q (V.int z)=(ns.set q z).map V.int:=fun ns q z=>by rw[List.map_set]
                rw[es,vec_set]
                refine congrArg (fun z=>some (HO.lst (z.map V.int))) (vec_congr fun m hm=>?_)
                by_cases z:m=t
                · subst z
                  rw[if_pos rfl,if_pos (by omega),ey]
                · rw[if_neg z]
                  congr 1
                  by_cases y:m<t
                  · rw[if_pos y,if_pos (by omega)]
                  · rw[if_neg y,if_neg (by omega)]
              · rw[upd_ne nb]
                exact s8 _ _ (sm7 b o hb nb)
          · rintro σ H7 ⟨o9,o10,rfl,hsa7,sm7⟩
            refine⟨_,_,_,rfl,?_,sm7⟩
            rw[hsa7,List.length_map]
            refine congrArg (fun z=>some (HO.lst (z.map V.int))) (vec_congr fun m hm=>?_)
            rw[List.take_add_one,hUj,List.map_append,List.sum_append]
            show _=_+(U.getD m 0+0)
            by_cases z:m<U.length
            · rw[if_pos z,Int.add_zero]
            · rw[if_neg z,List.getD_eq_getElem?_getD,List.getElem?_eq_none (by omega)]
              rfl
        · rintro σ H6 ⟨o8,o9,o10,rfl,hsa6,sm6⟩
          rw[List.length_map,hLU.1,List.take_length] at hsa6
          have hlf6:=sm6 _ _ (s35 _ _ hlf3) nlf
          have hql:qf.length<=i:=by
            have h1:=hLF.1
            have h2:=hPF.1
            rw[List.length_take] at h2
            omega
          refine⟨_,rfl,.inl ⟨rfl,_,SqL.of hlf6⟩,_,rfl,lf,_,_,rfl,rfl,hlf6,small1000 (by rw[List.length_map];omega),?_⟩
          have hnl:i<(nx c N).length:=by
            cases c
            · show i<(nextN N).length
              unfold nextN
              simp
              omega
            · show i<(nextKN N).length
              rw[nextKN_len]
              exact hi
          have hmf:Hm lf=none:=nf
          have s26:Sm sa H2 H6:=fun b o hb nb=>sm6 _ _ (s35 _ _ (s3 _ _ hb)) nb
          have nqf:∀ q∈qf,q≠sa:=fun q hq z=>by
            obtain⟨o,ho⟩:=lls_had hLF q hq
            exact ne_of_none (s3 _ _ ho) nsa3 z
          refine⟨qf++[sa],RF++[vec B fun m=>(Us.map fun U=>U.getD m 0).sum],_,_,_,_,_,_,_,rfl,by rw[upd_same,List.map_append];rfl,L2.LLs.snoc ⟨hLF.1,fun j r xs h1 h2=>?_⟩ ?_,?_,fun R hR0=>?_,fun q hq=>?_,fun b o hb=>?_⟩
          · have hr:=List.mem_of_getElem? h1
            rw[upd_ne (hqf r hr).1]
            exact s26 _ _ (hLF.2 j r xs h1 h2) (nqf r hr)
          · rw[upd_ne (Ne.symm nlf)]
            exact hsa6
          · rw[List.take_add_one,List.getElem?_eq_getElem hnl]
            refine RpL.snoc hPF ((hPU.all hUB).congr fun m=>?_)
            rw[<- hcn m,List.getD_eq_getElem?_getD,List.getElem?_eq_getElem hnl]
            rfl
          · rcases List.mem_append.mp hR0 with z | z
            · exact hlF R z
            · rw[List.mem_singleton] at z
              subst z
              rw[vec_len]
              exact hBb
          · rcases List.mem_append.mp hq with z | z
            · exact hqf q z
            · rw[List.mem_singleton] at z
              subst z
              exact⟨Ne.symm nlf,sm.free nsam⟩
          · have n1:b≠lf:=ne_of_none hb hmf
            have n2:b≠sa:=ne_of_none hb nsam
            rw[upd_ne n1]
            exact s26 _ _ (s2 _ _ hb) n2
    · rintro σ H2 ⟨qf,RF,o4,o5,o6,o7,o8,o9,o10,rfl,hlf,hLF,hPF,hlF,hqf,s2⟩
      have hnl:(nx c N).length=N.length:=by
        cases c
        · show (nextN N).length=_
          unfold nextN
          simp
          omega
        · exact nextKN_len N
      rw[List.take_of_length_le (by omega)] at hPF
      exact⟨_,rfl,k lf qf RF H2 hlf0 (fun q hq=>(hqf q hq).2) hlf hLF hPF hlF (sm.trans s2)⟩
end
end Fj75
namespace Fj75
open PySem L2 Lv
section
variable {P:Program}{w:World}{K:PySem.W.Frag}{mg:Str->Option Value}{base:Heap}
theorem scBest75:FnScope ["p","lengths","cascade","reels","level","found","falling","numbers","read"] ["p","lengths","cascade"] (defScope sBest75):=⟨rfl,rfl,rfl,by decide +kernel,rfl,by decide +kernel,by decide +kernel⟩
def OptT (H:Hp):Option (Int × Nat)->V->Prop
  | none,v=>v=.non
  | some (R,n),v=>∃ t,v=.ref t/\H t=some (.tup [.int R,.int (n:Int)])
theorem OptT.same {H H':Hp}{o:Option (Int × Nat)}{v:V} (h:OptT H o v) (s:Same H H'):OptT H' o v:=by
  match o,h with
  | none,h=>exact h
  | some (R,n),⟨t,e,q⟩=>exact⟨t,e,s _ _ q⟩
def spBest75 (K:PySem.W.Frag):Sp:=fun vs H Q _=>∃ (p:Nat) (ll:Addr) (ls:List Int) (c:Bool),vs=[.int p,.ref ll,.bl c]/\2<=p/\p<=7/\H ll=some (.lst (ls.map V.int))/\1<=ls.length/\ls.length<=60/\(∀ l∈ls,0<=l/\l<=1000000000000)/\∀ (o:Option (Int × Nat)) v H',BestT c p ls o->OptT H' o v->Same H H'->Q v H'
theorem ok_best75 {f f1 f2:Addr}{fd d1 d2:FuncData} (F:Fun K "_law_best" "_law_best" sBest75 f fd) (T:Txt mg) (CN:Cal P w K mg base 1 "_law_numbers" ["reels","most"] spNms f1 d1) (CF:Cal P w K mg base 1 "_law_further" ["reels","cascade"] spFur f2 d2):FnOk P w K mg base CX0 2 f fd ["p","lengths","cascade"] (spBest75 K):=by
  refine okW F scBest75 (fun vs H Q E h=>?_) (fun cdv A outer s H vs Q E hr h=>?_)
  · obtain⟨p,ll,ls,c,rfl,_⟩:=h
    rfl
  · obtain⟨p,ll,ls,c,rfl,p2,p7,hL,h1,h60,hlb,k⟩:=h
    have hr1:Room 1 _:=hr
    refine⟨_,(wss_cons (ws (ps_set (i:=3) scBest75.nd rfl (Or.inl rfl) (pe_op op_cat (pe_lst (pa_cons (pe_lst (pa_cons pe_int pa_nil)) pa_nil)) (pe_comp (own:=["turn"]) (js:=[]) (CompOk.by (sc:=defScope sBest75) (N:=["p","lengths","cascade","reels","level","found","falling","numbers","read"]) rfl rfl (by decide +kernel)) rfl (pi_range1 rfl T.range (pa_cons (pe_op op_sub (pv 0) pe_int) pa_nil)) gkeep_name (fun _ _ _ _ _=>(pg_name (i:=0) (by show (["turn"]:List Str).Nodup;decide +kernel) rfl (Or.inl rfl) (.inr rfl))) (fun _ _ _ _ _=>pts_nil) (fun _ _ _ _ _=>(pe_lst pa_nil))))))
      (wss_cons (ws (ps_set (i:=4) scBest75.nd rfl (Or.inl rfl) pe_int))
      (wss_cons (ws (ps_set (i:=5) scBest75.nd rfl (Or.inl rfl) pe_non))
      (wss_cons (ws (ps_set (i:=6) scBest75.nd rfl (Or.inl rfl) (pe_rev (pe_callB call_sortA rfl T.sorted b_sorted (pa_cons (pv 1) pa_nil)) (po_some (pe_un un_neg pe_int)))))
      (wss_cons (ws (ps_while PassesOwn.never (pt_cmpR op_le (pe_callB (call_sumI rfl) rfl T.sum b_sum (pa_cons (pe_comp (own:=["reel"]) (js:=[]) (CompOk.by (sc:=defScope sBest75) (N:=["p","lengths","cascade","reels","level","found","falling","numbers","read"]) rfl rfl (by decide +kernel)) rfl (pi_seqB (pv 3)) gkeep_name (fun _ _ _ _ _=>(pg_name (i:=0) (by show (["reel"]:List Str).Nodup;decide +kernel) rfl (Or.inl rfl) (.inr rfl))) (fun _ _ _ _ _=>pts_nil) (fun _ _ _ _ _=>(pe_callB (callK_sumJ K rfl) rfl T.sum b_sum (pa_cons (pv 0) pa_nil)))) pa_nil)) pe_int (nomark _))
      (WSs.out (wss_cons (ws (ps_set (i:=7) scBest75.nd rfl (Or.inl rfl) (pe_cal CN hr1 rfl (pa_cons (pv 3) (pa_cons (pe_callB call_len_seq rfl T.len PySem.boot_len (pa_cons (pv 1) pa_nil)) pa_nil)))))
        (wss_cons (ws_if (pt_cmpR op_eq (pe_callB call_len_seq rfl T.len PySem.boot_len (pa_cons (pv 7) pa_nil)) (pe_callB call_len_seq rfl T.len PySem.boot_len (pa_cons (pv 1) pa_nil)) (nomark _))
        (wss_cons (ws (ps_set (i:=8) scBest75.nd rfl (Or.inl rfl) (pe_callB (call_sumI rfl) rfl T.sum b_sum (pa_cons (pe_comp (own:=["one","number"]) (js:=[]) (CompOk.by (sc:=defScope sBest75) (N:=["p","lengths","cascade","reels","level","found","falling","numbers","read"]) rfl rfl (by decide +kernel)) rfl (pi_zipB rfl T.zip (pa_cons (pv 6) (pa_cons (pv 7) pa_nil))) (gkeep_two (i:=0) (k:=1) (K:=K)) (fun _ _ _ _ _=>(pgK_tup K rfl (pgs_cons (pg_name (i:=0) (by show (["one","number"]:List Str).Nodup;decide +kernel) rfl (Or.inl rfl) (.inr rfl)) (pgs_cons (pg_name (i:=1) (by show (["one","number"]:List Str).Nodup;decide +kernel) rfl (Or.inl rfl) (.inr rfl)) pgs_nil)))) (fun _ _ _ _ _=>pts_nil) (fun _ _ _ _ _=>(pe_op op_mul (pv 0) (pv 1)))) pa_nil))))
          (wss_one (ws_if (PW.pt (pw_or (pt_cmp (pc_isN (pv 5))) (pw_or1 (pt_cmpR op_lt (pv 8) (pe_ix ix_tup (pv 5) pe_int (fun _ _=>rfl)) (nomark _)))))
          (wss_one (ws (ps_set (i:=5) scBest75.nd rfl (Or.inl rfl) (pe_tup (pa_cons (pv 8) (pa_cons (pv 4) pa_nil))))))
          wss_nil)))
        wss_nil)
        (wss_cons (ws (ps_set (i:=3) scBest75.nd rfl (Or.inl rfl) (pe_cal CF hr1 rfl (pa_cons (pv 3) (pa_cons (pv 2) pa_nil)))))
        (wss_one (ws (ps_set (i:=4) scBest75.nd rfl (Or.inl rfl) (pe_op op_add (pv 4) pe_int))))))))))
      (wss_one (ws (ps_ret (pv 5))))))))),?_⟩
    have hz:20000<sizeLine:=by decide
    refine⟨(by show 1<=sizeLine;decide),fun q1 n1=>⟨(by show 1<=sizeLine;decide),fun q2 n2=>?_⟩⟩
    have s2:=(Same.new (o:=.lst [V.int 1]) n1).trans (Same.new (o:=.lst [V.ref q1]) n2)
    have e1:upd (upd H q1 (.lst [V.int 1])) q2 (.lst [V.ref q1]) q1=some (.lst [V.int 1]):=(Same.new n2) _ _ upd_same
    have e2:upd (upd H q1 (.lst [V.int 1])) q2 (.lst [V.ref q1]) q2=some (.lst [V.ref q1]):=upd_same
    generalize upd (upd H q1 (.lst [V.int 1])) q2 (.lst [V.ref q1])=H2 at s2 e1 e2 ⊢
    refine⟨_,rfl,_,_,rfl,rfl,_,rfl,by show -(2 ^ 62)<=(p:Int) - 1;omega,by show (p:Int) - 1<2 ^ 62;omega,?_⟩
    rw[show ((p:Int) - 1).toNat=p - 1 by omega]
    refine comp_rngL (lo:=0) (n:=p - 1) (List.replicate (p - 1) []) (by simp) (by omega) (fun i xs hi hx Hc sc Rr hRr=>?_) fun a3 qs H3 na3 s3 ha3 hL3 _=>?_
    · rw[List.getElem?_replicate,if_pos hi] at hx
      cases hx
      exact⟨Nat.zero_le _,fun q nq=>hRr q _ nq (Same.new nq) upd_same⟩
    refine⟨q2,a3,_,_,rfl,rfl,s3 _ _ e2,ha3,?_,fun rl0 nrl0=>?_⟩
    · have:=hL3.1
      rw[List.length_replicate] at this
      exact Nat.le_of_lt (small1000 (by rw[List.length_map,this];simp;omega))
    have s4:=Same.new (o:=.lst ([V.ref q1]++qs.map V.ref)) nrl0
    have e4:upd H3 rl0 (.lst ([V.ref q1]++qs.map V.ref)) rl0=some (.lst ((q1::qs).map V.ref)):=upd_same
    have hN4:LLs H3 (q1::qs) ([1]::List.replicate (p - 1) []):=by
      refine⟨by have:=hL3.1;simp at this ⊢;exact this,fun j r xs a b=>?_⟩
      cases j with
      | zero=>
        have a:q1=r:=by simpa using a
        have b:[1]=xs:=by simpa using b
        rw[<- a,<- b]
        exact s3 _ _ e1
      | succ j=>exact hL3.2 j r xs (by simpa using a) (by simpa using b)
    have hN4:=hN4.same s4
    generalize upd H3 rl0 (.lst ([V.ref q1]++qs.map V.ref))=H4 at s4 e4 hN4 ⊢
    have s04:=(s2.trans s3).trans s4
    refine⟨_,rfl,ll,_,rfl,SqL.of (s04 _ _ hL),fun l5 ms n5 pm up=>⟨1,rfl,-1,rfl,rfl,l5,_,rfl,SqL.of upd_same,fun fl nfl=>?_⟩⟩
    rw[<- List.map_reverse]
    have s5:=Same.new (o:=.lst (ms.map V.int)) n5
    generalize upd H4 l5 (.lst (ms.map V.int))=H5 at s5 nfl ⊢
    have s6:=Same.new (o:=.lst (ms.reverse.map V.int)) nfl
    have e6:upd H5 fl (.lst (ms.reverse.map V.int)) fl=some (.lst (ms.reverse.map V.int)):=upd_same
    generalize upd H5 fl (.lst (ms.reverse.map V.int))=H6 at s6 e6 ⊢
    have hfall:ms.reverse=isrtR ls:=isrtR_of ((List.reverse_perm ms).trans pm) (by
      rw[List.pairwise_reverse]
      exact up.imp fun h=>h)
    generalize ms.reverse=fs at e6 hfall
    have hfsl:fs.length=ls.length:=by rw[hfall];unfold isrtR;exact (List.mergeSort_perm _ _).length_eq
    have s46:=s5.trans s6
    have s06:=s04.trans s46
    have hR0:RpL ([1]::List.replicate (p - 1) []) (SS c p 0):=by
      have:SS c p 0=num0 p:=by cases c <;> rfl
      rw[this]
      refine⟨by unfold num0;simp,fun i U Y hU hY=>?_⟩
      unfold num0 at hY
      cases i with
      | zero=>
        have hU:[1]=U:=by simpa using hU
        have hY:[0]=Y:=by simpa using hY
        subst hU hY
        exact⟨rfl,fun m hm=>by rw[List.mem_singleton.mp hm];decide⟩
      | succ i=>
        rw[List.getElem?_cons_succ,List.getElem?_replicate] at hU hY
        split at hU
        · cases hU
          rename_i hi
          rw[if_pos hi] at hY
          cases hY
          exact⟨rfl,fun m hm=>nomatch hm⟩
        · cases hU
    refine⟨fun m σ Hx=>∃ (i:Nat) (rl:Addr) (rs:List Addr) (Rs:List (List Int)) (o:Option (Int × Nat)) (v:V) (o7 o8:Option V),m=100 - i/\σ=[some (.int p),some (.ref ll),some (.bl c),some (.ref rl),some (.int i),some v,some (.ref fl),o7,o8]/\Hx rl=some (.lst (rs.map V.ref))/\LLs Hx rs Rs/\RpL Rs (SS c p i)/\(∀ R∈Rs,R.length<=i+1)/\(∀ j,j<i->tlv c p j<=4000)/\BestG (fitF ls (SS c p)) i o/\OptT Hx o v/\Hx fl=some (.lst (fs.map V.int))/\Same H Hx,
      ⟨_,0,rl0,q1::qs,_,none,.non,none,none,rfl,rfl,s46 _ _ e4,hN4.same s46,hR0,fun R hR=>?_,fun j hj=>absurd hj (Nat.not_lt_zero _),fun j hj=>absurd hj (Nat.not_lt_zero _),rfl,e6,s06⟩,?_⟩
    · rcases List.mem_cons.mp hR with rfl | hR
      · exact Nat.le_refl _
      · rw[(List.mem_replicate.mp hR).2];exact Nat.zero_le _
    rintro m σ Hx ⟨i,rl,rs,Rs,o,v,o7,o8,rfl,rfl,hrl,hLL,hRp,hRl,htl,hB,hO,hfl,sx⟩
    have hRsl:Rs.length=p:=by rw[hRp.1,SS_len p2]
    have hrsl:rs.length=p:=by rw[hLL.1,hRsl]
    refine⟨_,rfl,rl,true,rfl,⟨_,SqL.of hrl⟩,?_⟩
    refine comp_mapB ((Rs.map List.sum).map V.int) (show SqB true K Hx rl (rs.map V.ref) from SqL.of hrl) (by simp;omega) (by rw[List.length_map];omega) (fun j x y hx hy Hc sc Rr hRr=>?_) fun a7 H7 n7 s7 ha7=>?_
    · obtain⟨r,hr',rfl⟩:=map_ref_get hx
      obtain⟨y',hy',rfl⟩:=map_get hy
      rw[List.getElem?_map] at hy'
      have hj:j<Rs.length:=by rw[<- hLL.1];exact (List.getElem?_eq_some_iff.mp hr').1
      rw[List.getElem?_eq_getElem hj] at hy'
      cases hy'
      exact⟨_,rfl,r,_,rfl,SqL.of (sc _ _ (hLL.2 j r _ hr' (List.getElem?_eq_getElem hj))),hRr Hc (Same.refl _)⟩
    refine⟨a7,_,rfl,SqL.of ha7,?_⟩
    refine⟨_,_,rfl,rfl,_,rfl,?_⟩
    rw[hRp.total]
    refine ite2 (fun hgo=>?_) (fun hst=>?_)
    · have hgo:tlv c p i<=4000:=of_decide_eq_true hgo
      have hi60:=tlv_60 p2 p7 hgo
      refine⟨fun σ' H'=>∃ (m:Nat) (i':Nat) (rl:Addr) (rs:List Addr) (Rs:List (List Int)) (o:Option (Int × Nat)) (v:V) (o7 o8:Option V),m=100 - i'/\m<100 - i/\σ'=[some (.int p),some (.ref ll),some (.bl c),some (.ref rl),some (.int i'),some v,some (.ref fl),o7,o8]/\H' rl=some (.lst (rs.map V.ref))/\LLs H' rs Rs/\RpL Rs (SS c p i')/\(∀ R∈Rs,R.length<=i'+1)/\(∀ j,j<i'->tlv c p j<=4000)/\BestG (fitF ls (SS c p)) i' o/\OptT H' o v/\H' fl=some (.lst (fs.map V.int))/\Same H H',fun σ' H' ⟨m,i',rl,rs,Rs,o,v,o7,o8,e1,e2,r⟩=>⟨m,e2,i',rl,rs,Rs,o,v,o7,o8,e1,r⟩,?_⟩
      have sx7:=sx.trans s7
      have hll7:=sx7 _ _ hL
      have hfl7:=s7 _ _ hfl
      refine⟨_,rfl,_,rfl,ll,_,rfl,.inl (SqL.of hll7),rl,rs,Rs,SS c p i,ls.length,by rw[List.length_map];rfl,s7 _ _ hrl,hLL.same s7,hRp,⟨by rw[SS_len p2];omega,by rw[SS_len p2];exact p7⟩,fun R hR=>by have:=hRl R hR;omega,h1,by omega,fun nl B H8 nnl hBd hnl s8=>?_⟩
      rw[exr_isrt hBd] at hnl
      have hill:(isrt (SS c p i).flatten).length=(SS c p i).flatten.length:=by unfold isrt;exact (List.mergeSort_perm _ _).length_eq
      have s78:=s7.trans s8
      have sx8:=sx.trans s78
      have hll8:=sx8 _ _ hL
      have hfl8:=s78 _ _ hfl
      have hO8:=hO.same s78
      dsimp only
      refine cutG (a:=tIfS _ _ _) (fun σ' H'=>∃ (o':Option (Int × Nat)) (v':V) (o8':Option V),σ'=[some (.int p),some (.ref ll),some (.bl c),some (.ref rl),some (.int i),some v',some (.ref fl),some (.ref nl),o8']/\BestG (fitF ls (SS c p)) (i+1) o'/\OptT H' o' v'/\Same H8 H') (fun R' hR=>?_) ?_
      · refine⟨_,rfl,nl,_,rfl,.inl (SqL.of hnl),_,rfl,ll,_,rfl,.inl (SqL.of hll8),rfl,_,rfl,?_⟩
        rw[List.length_map,List.length_map,List.length_take,hill]
        by_cases hfit:ls.length<=(SS c p i).flatten.length
        · rw[decide_eq_true (show V.int ((min ls.length (SS c p i).flatten.length:Nat):Int)=V.int (ls.length:Int) by congr 1;omega)]
          have hfi:fitF ls (SS c p) i=some (rdF ls (SS c p i)):=by unfold fitF;rw[if_pos hfit]
          have hrd:(List.zipWith (fun x y=>x*y) fs ((isrt (SS c p i).flatten).take ls.length)).sum=rdF ls (SS c p i):=by
            unfold rdF
            rw[<- hfall,<- hfsl]
            congr 1
            rw[List.zipWith_comm]
            apply List.ext_getElem?
            intro j
            rw[List.getElem?_zipWith,List.getElem?_zipWith]
            by_cases hj:j<fs.length
            · rw[List.getElem?_take_of_lt hj]
              cases (isrt (SS c p i).flatten)[j]? with
              | none=>rfl
              | some z=>rw[List.getElem?_eq_getElem hj];show some (fs[j]*z)=some (z*fs[j]);rw[Int.mul_comm]
            · rw[List.getElem?_eq_none (show fs.length<=j by omega)]
              cases (List.take fs.length (isrt (SS c p i).flatten))[j]? <;> cases (isrt (SS c p i).flatten)[j]? <;> rfl
          refine iteT ⟨_,rfl,_,rfl,true,true,fl,nl,rfl,⟨_,SqL.of hfl8⟩,⟨_,SqL.of hnl⟩,?_⟩
          refine comp_zipM ((List.zipWith (fun x y=>x*y) fs ((isrt (SS c p i).flatten).take ls.length)).map V.int) (show SqB true K H8 fl (fs.map V.int) from SqL.of hfl8) (show SqB true K H8 nl (((isrt (SS c p i).flatten).take ls.length).map V.int) from SqL.of hnl) (by rw[List.length_map,List.length_map,List.length_take];omega) (by rw[List.length_map,List.length_map,List.length_zipWith,List.length_take];omega) (by rw[List.length_map,List.length_take];omega) (fun j x y z hx hy hz pp Hc sc hp Rr hRr=>?_) fun acc H9 n9 s9 hacc=>?_
          · obtain⟨x',hx',rfl⟩:=map_get hx
            obtain⟨y',hy',rfl⟩:=map_get hy
            rw[List.getElem?_map,List.getElem?_zipWith,hx',hy'] at hz
            cases hz
            have hb:=hlb x' (by
              have hm:=List.mem_of_getElem? hx'
              rw[hfall] at hm
              exact (List.mergeSort_perm _ _).mem_iff.mp hm)
            exact⟨pp,_,rfl,SqT.of hp,rfl,_,_,rfl,_,_,rfl,rfl,_,rfl,_,rfl,_,_,rfl,rfl,.inl ⟨by omega,by omega⟩,hRr Hc (Same.refl _)⟩
          refine⟨acc,_,rfl,SqL.of hacc,?_⟩
          rw[hrd]
          have hO9:=hO8.same s9
          match o,hB,hO9 with
          | none,hB,hO9=>
            have hv:v=.non:=hO9
            subst hv
            refine⟨_,rfl,_,rfl,?_⟩
            rw[decide_eq_true rfl]
            refine iteT ⟨_,rfl,_,rfl,(by show 2<=sizeLine;decide),fun t nt=>?_⟩
            exact hR _ _ ⟨some (rdF ls (SS c p i),i),_,_,rfl,BestG.first hB hfi,⟨t,rfl,upd_same⟩,s9.trans (Same.new nt)⟩
          | some (R,n),hB,⟨t0,hv,ht0⟩=>
            subst hv
            refine⟨_,rfl,_,rfl,?_⟩
            rw[decide_eq_false (show ¬ V.ref t0=V.non from fun z=>nomatch z)]
            refine iteF ⟨_,rfl,_,rfl,t0,_,0,.int R,rfl,rfl,SqT.of ht0,rfl,_,_,rfl,rfl,_,rfl,ite2 (fun hlt=>?_) fun hge=>?_⟩
            · refine⟨_,rfl,_,rfl,(by show 2<=sizeLine;decide),fun t nt=>?_⟩
              exact hR _ _ ⟨some (rdF ls (SS c p i),i),_,_,rfl,BestG.better hB hfi (of_decide_eq_true hlt),⟨t,rfl,upd_same⟩,s9.trans (Same.new nt)⟩
            · exact hR _ _ ⟨some (R,n),_,_,rfl,BestG.worse hB hfi (fun z=>hge (decide_eq_true z)),⟨t0,rfl,ht0⟩,s9⟩
        · rw[decide_eq_false (show ¬ V.int ((min ls.length (SS c p i).flatten.length:Nat):Int)=V.int (ls.length:Int) from fun z=>by have:=V.int.inj z;omega)]
          have hfi:fitF ls (SS c p) i=none:=by unfold fitF;rw[if_neg hfit]
          exact iteF (hR _ _ ⟨o,v,_,rfl,BestG.skip hB hfi,hO8,Same.refl _⟩)
      rintro σ H9 ⟨o',v',o8',rfl,hB',hO',s89⟩
      have s79:=s78.trans s89
      refine⟨_,rfl,_,rfl,rl,c,rs,Rs,SS c p i,i+1,rfl,s79 _ _ hrl,hLL.same s79,hRp,by rw[SS_len p2];exact p2,by rw[SS_len p2];exact p7,hRl,by omega,fun l qs9 Rs' H10 nl9 _ hl9 hLL9 hRp9 hRl9 s10=>?_⟩
      refine⟨_,rfl,_,_,rfl,rfl,?_⟩
      have s710:=s79.trans s10
      refine⟨_,i+1,l,qs9,Rs',o',v',_,_,rfl,by omega,rfl,hl9,hLL9,?_,hRl9,fun j hj=>?_,hB',hO'.same s10,s710 _ _ hfl,sx.trans s710⟩
      · rw[SS_succ]
        exact hRp9
      · by_cases e:j<i
        · exact htl j e
        · rw[show j=i by omega];exact hgo
    · have hst:4000<tlv c p i:=by
        have:¬ tlv c p i<=4000:=fun z=>hst (decide_eq_true z)
        omega
      exact⟨_,rfl,k o v H7 ⟨i,⟨htl,hst⟩,hB⟩ (hO.same s7) (sx.trans s7)⟩
end
end Fj75
namespace Fj75
open PySem L2 Lv
section
variable {P:Program}{w:World}{K:PySem.W.Frag}{mg:Str->Option Value}{base:Heap}
theorem scLaw75:FnScope ["script","k","pot","p","lengths","phases","cascade","passes","kept","found","due","word"] ["script"] (defScope sLaw):=⟨rfl,rfl,rfl,by decide +kernel,rfl,by decide +kernel,by decide +kernel⟩
theorem BestM.told {p:Nat}{ls:List Int}{R:Int}{n:Nat} (h:BestM p ls R n):BestT false p ls (some (R,n)):=by
  obtain⟨m,h1,h2,h3⟩:=h
  exact⟨m,⟨fun i hi=>by rw[tlv_num];exact h2 i hi,by rw[tlv_num];exact h3⟩,BestG.of h1⟩
theorem BestC.told {p:Nat} (hp:2<=p) {ls:List Int}{R:Int}{n:Nat} (h:BestC p ls R n):BestT true p ls (some (R,n)):=by
  obtain⟨m,h1,h2,h3⟩:=h
  exact⟨m,⟨fun i hi=>by have:=h2 i hi;show ((casN p i).flatten.length:Int)<=4000;omega,by show (4000:Int)<((casN p m).flatten.length:Int);omega⟩,BestG.of h1⟩
theorem BalG.int {p:Nat}{r w:Int}{v:V} (h:BalG p r w v):v=.non∨∃ i,v=.int i:=by
  rcases h with ⟨_,h⟩ | ⟨_,k,_,h⟩
  · exact .inl h
  · exact .inr ⟨_,h⟩
theorem rd_bal {v:V} (h:v=.non∨∃ i,v=.int i):∃ d:PyData,(∀ H,RdN H v d)/\d.depth<=1:=by
  rcases h with rfl | ⟨i,rfl⟩
  · exact⟨_,fun H=>.non,by decide⟩
  · exact⟨_,fun H=>.int i,by show PyData.depth (.int i)<=1;simp[PyData.depth]⟩
theorem rd_held {H:Hp}{t t1 t2:Addr}{a R1 n1 R2 n2:Int}{v:V}{d:PyData} (h:H t=some (.tup [.int a,.ref t1,.ref t2,v])) (h1:H t1=some (.tup [.int R1,.int n1])) (h2:H t2=some (.tup [.int R2,.int n2])) (hv:RdN H v d):RdN H (.ref t) (.tuple [.int a,.tuple [.int R1,.int n1],.tuple [.int R2,.int n2],d]) :=
  .tup h (.cons (.int a) (.cons (.tup h1 (.cons (.int R1) (.cons (.int n1) .nil))) (.cons (.tup h2 (.cons (.int R2) (.cons (.int n2) .nil))) (.cons hv .nil))))
theorem dep_held {a R1 n1 R2 n2:Int}{d:PyData} (h:d.depth<=1):(PyData.tuple [.int a,.tuple [.int R1,.int n1],.tuple [.int R2,.int n2],d]).depth<=10:=by
  simp only[PyData.depth,PyData.depthAll]
  omega
theorem ok_law75 {f f1 f2 f3 f4 f5 f6 f7 f8 f9:Addr}{fd d1 d2 d3 d4 d5 d6 d7 d8 d9:FuncData} (F:Fun K "law" "law" sLaw f fd) (T:Txt mg) (CQ:Cal P w K mg base 1 "_law_pot" ["script","k"] (spPotT K) f1 d1) (CT:Cal P w K mg base 1 "_law_take" ["pot","many"] spTakeT f2 d2) (CE:Cal P w K mg base 2 "_law_lengths" ["pot"] (spLens75 K) f3 d3) (CB:Cal P w K mg base 2 "_law_best" ["p","lengths","cascade"] (spBest75 K) f4 d4) (CP:Cal P w K mg base 1 "_law_passes" ["p","rows","whole"] spLPassG f5 d5) (CH:Cal P w K mg base 5 "held_lengths" ["p","lengths"] (spHL K) f6 d6) (CG:Cal P w K mg base 1 "_law_log_reading" ["p","lengths"] (spLogR75 K) f7 d7) (CK:Cal P w K mg base 2 "_law_kinds" ["found"] (spKinds75 K) f8 d8) (CW:Cal P w K mg base 5 "better_way" ["p","lengths"] (spBW K) f9 d9):FnOk P w K mg base CX0 6 f fd ["script"] (spLaw K):=by
  refine okW F scLaw75 (fun vs H Q E h=>?_) (fun cdv A outer s H vs Q E hr h=>?_)
  · obtain⟨a,cs,rfl,_⟩:=h
    rfl
  · obtain⟨a,cs,rfl,hS,hlen,k⟩:=h
    have hr5:Room 5 _:=hr
    have hr1:Room 1 _:=hr.mono (by decide)
    have hr2:Room 2 _:=hr.mono (by decide)
    have hu0:(A.deeper (PyProof.Rows.envOfC "law" (defScope sLaw) s.heap.objs.size f cdv)).units<cLine:=by have:=hr.un;omega
    have hu12:(A.deeper (PyProof.Rows.envOfC "law" (defScope sLaw) s.heap.objs.size f cdv)).units+12<cLine:=by have:=hr.un;omega
    refine⟨_,(wss_cons (ws (ps_for PassesOwn.never rfl (pi_range1 rfl T.range (pa_cons (pe_callB (call_max2 rfl) rfl T.max b_max (pa_cons pe_int (pa_cons (pe_callB (call_min2 rfl) rfl T.min b_min (pa_cons pe_int (pa_cons (pe_callB call_len_seq rfl T.len PySem.boot_len (pa_cons (pv 0) pa_nil)) pa_nil))) pa_nil))) pa_nil)) (pg_name (i:=1) scLaw75.nd rfl (Or.inl rfl))
      (WSs.out (wss_cons (ws (ps_set (i:=2) scLaw75.nd rfl (Or.inl rfl) (pe_cal CQ hr1 rfl (pa_cons (pv 0) (pa_cons (pv 1) pa_nil)))))
        (wss_cons (ws (ps_set (i:=3) scLaw75.nd rfl (Or.inl rfl) (pe_op op_add pe_int (pe_cal CT hr1 rfl (pa_cons (pv 2) (pa_cons pe_int pa_nil))))))
        (wss_cons (ws (ps_set (i:=4) scLaw75.nd rfl (Or.inl rfl) (pe_cal CE hr2 rfl (pa_cons (pv 2) pa_nil))))
        (wss_cons (ws (ps_set (i:=5) scLaw75.nd rfl (Or.inl rfl) (pe_cal CB hr2 rfl (pa_cons (pv 3) (pa_cons (pv 4) (pa_cons pe_bl pa_nil))))))
        (wss_cons (ws (ps_set (i:=6) scLaw75.nd rfl (Or.inl rfl) (pe_cal CB hr2 rfl (pa_cons (pv 3) (pa_cons (pv 4) (pa_cons pe_bl pa_nil))))))
        (wss_cons (ws (ps_set (i:=7) scLaw75.nd rfl (Or.inl rfl) (pe_cal CP hr1 rfl (pa_cons (pv 3) (pa_cons (pe_callB call_len_seq rfl T.len PySem.boot_len (pa_cons (pv 4) pa_nil)) (pa_cons (pe_callB (call_sumI rfl) rfl T.sum b_sum (pa_cons (pv 4) pa_nil)) pa_nil))))))
        (wss_cons (ws (ps_set (i:=8) scLaw75.nd rfl (Or.inl rfl) (pe_callTy call_list_of rfl T.list b_list (pa_cons (pv 4) pa_nil))))
        (wss_cons (ws (ps_set (i:=9) scLaw75.nd rfl (Or.inl rfl) (pe_cal CH hr5 rfl (pa_cons (pv 3) (pa_cons (pv 4) pa_nil)))))
        (wss_cons (ws_set (i:=10) scLaw75.nd rfl (Or.inl rfl) (we_tup (wa_cons rfl (pe_cal CG hr1 rfl (pa_cons (pv 3) (pa_cons (pv 4) pa_nil))) (wa_cons rfl (pv 5) (wa_cons rfl (pv 6) (wa_cons rfl (pv 7) wa_nil))))))
        (wss_cons (ws_if (PW.pt (pw_or (pt_not (pt_val (pe_cal CK hr2 rfl (pa_cons (pv 9) pa_nil)))) (pw_or1 (pt_cmpR (op_neR hu12) (pv 9) (pv 10) (nomark _)))))
        (wss pss_never)
        wss_nil)
        (wss_cons (ws (ps_set (i:=11) scLaw75.nd rfl (Or.inl rfl) pe_str))
        (wss_cons (ws_if (pt_cmpR op_ne (pe_ix ix_tup (pv 5) pe_int (fun _ _=>rfl)) (pe_ix ix_tup (pv 6) pe_int (fun _ _=>rfl)) (nomark _))
        (wss_one (ws (ps_set (i:=11) scLaw75.nd rfl (Or.inl rfl) (pe_ix ix_list (pe_lst (pa_cons pe_str (pa_cons pe_str pa_nil))) (pe_callTy call_int1 rfl T.int b_int (pa_cons (pe_cmpR op_lt (pe_ix ix_tup (pv 5) pe_int (fun _ _=>rfl)) (pe_ix ix_tup (pv 6) pe_int (fun _ _=>rfl)) (nomark _)) pa_nil)) (fun _ _=>rfl)))))
        wss_nil)
        (wss_cons (ws_if (PW.pt (pw_or (pt_cmpR op_ne (pe_cal CW hr5 rfl (pa_cons (pv 3) (pa_cons (pe_callTy call_tuple_of rfl T.tuple b_tuple (pa_cons (pv 4) pa_nil)) pa_nil))) (pv 11) (nomark _)) (pw_or1 (pt_cmpR (op_neL hu0) (pv 4) (pv 8) (nomark _)))))
        (wss pss_never)
        wss_nil)
        (wss_one (ws_if (pt_cmpR (op_neR hu12) (pe_cal CH hr5 rfl (pa_cons (pv 3) (pa_cons (pe_callTy call_tuple_of rfl T.tuple b_tuple (pa_cons (pv 4) pa_nil)) pa_nil))) (pv 9) (nomark _))
        (wss pss_never)
        wss_nil))))))))))))))))))
      (wss_one (ws (ps_ret pe_bl)))),?_⟩
    have hz:20000<sizeLine:=by decide
    refine⟨_,rfl,a,_,rfl,.inl hS,_,_,rfl,_,_,rfl,_,rfl,?_,?_,?_⟩
    · rw[List.length_map];split <;> split <;> omega
    · rw[List.length_map];split <;> split <;> omega
    generalize hN:(if (if ((cs.map V.int).length:Int)<5 then ((cs.map V.int).length:Int) else 5) > 3 then (if ((cs.map V.int).length:Int)<5 then ((cs.map V.int).length:Int) else 5) else 3).toNat=N
    have hN5:N<=5:=by rw[<- hN,List.length_map];split <;> split <;> omega
    refine for_range (fun i σ Hx=>∃ o1 o2 o3 o4 o5 o6 o7 o8 o9 o10 o11:Option V,σ=[some (.ref a),o1,o2,o3,o4,o5,o6,o7,o8,o9,o10,o11]/\Same H Hx) ⟨none,none,none,none,none,none,none,none,none,none,none,rfl,Same.refl _⟩ ?_ ?_
    · rintro i σ Hx hi ⟨o1,o2,o3,o4,o5,o6,o7,o8,o9,o10,o11,rfl,sx⟩
      refine⟨_,rfl,_,rfl,a,cs,_,rfl,sx.seq hS,by omega,by omega,fun pl H3 npl hp3 s3=>?_⟩
      have hpl0:H pl=none:=sx.free npl
      have sx3:=sx.trans s3
      refine⟨_,rfl,pl,6,rfl,hp3,by decide,bits_small (by decide) (by decide),fun dp H4 p0 p1 hp4 sm4=>⟨2,dp,rfl,rfl,?_⟩⟩
      obtain⟨p,ep⟩:∃ p:Nat,2+dp=(p:Int):=⟨(2+dp).toNat,by omega⟩
      have p2:2<=p:=by omega
      have p7:p<=7:=by omega
      dsimp only
      rw[ep]
      have sx4:=Sm.after sx3 sm4 hpl0
      refine⟨_,rfl,pl,rfl,hp4,fun ll ls H5 nll hll h1 h60 hlb hp5 sm5=>?_⟩
      have sx5:=Sm.after sx4 sm5 hpl0
      have hbits:∀ l∈ls,Builtin.Int.intBits l<=8000:=fun l hl=>bits_small (by have:=hlb l hl;omega) (by have:=hlb l hl;omega)
      refine⟨_,rfl,_,rfl,p,ll,ls,false,rfl,p2,p7,hll,h1,h60,hlb,fun ob vb H6 hb hOb s6=>?_⟩
      have hll6:=s6 _ _ hll
      refine⟨_,rfl,_,rfl,p,ll,ls,true,rfl,p2,p7,hll6,h1,h60,hlb,fun oc vc H7 hc hOc s7=>?_⟩
      have hll7:=s7 _ _ hll6
      have hOb7:=hOb.same s7
      refine⟨_,rfl,_,rfl,ll,_,rfl,.inl (SqL.of hll7),_,rfl,ll,_,rfl,SqL.of hll7,p,(ls.length:Int),ls.sum,by rw[List.length_map];rfl,p2,p7,by omega,by omega,fun v hv=>?_⟩
      refine⟨_,rfl,ll,_,rfl,.inl (SqL.of hll7),fun kl nkl=>?_⟩
      have s8:=Same.new (o:=.lst (ls.map V.int)) nkl
      have e8:upd H7 kl (.lst (ls.map V.int)) kl=some (.lst (ls.map V.int)):=upd_same
      have hll8:=s8 _ _ hll7
      have hOb8:=hOb7.same s8
      have hOc8:=hOc.same s8
      have sx8:=((sx5.trans s6).trans s7).trans s8
      generalize upd H7 kl (.lst (ls.map V.int))=H8 at e8 hll8 hOb8 hOc8 sx8 ⊢
      refine⟨_,rfl,_,rfl,p,ll,true,ls,rfl,p2,p7,SqL.of hll8,h1,by omega,hbits,fun t t1 t2 R1 n1 R2 n2 v' H9 ht ht1 ht2 hb1 hb2 hv' s9=>?_⟩
      have:=hv'.uniq hv
      subst this
      have eb:=hb.uniq (BestM.told hb1)
      have ec:=hc.uniq (BestC.told p2 hb2)
      subst eb ec
      obtain⟨tb,rfl,htb⟩:=hOb8
      obtain⟨tc,rfl,htc⟩:=hOc8
      have hll9:=s9 _ _ hll8
      refine⟨_,rfl,_,rfl,p,ll,ls,rfl,p2,p7,hll9,h1,by omega,fun H10 s10=>⟨_,rfl,_,rfl,_,rfl,(by show 4<=sizeLine;decide),fun du ndu=>?_⟩⟩
      have s11:=Same.new (o:=.tup [V.int (hf p ls),.ref tb,.ref tc,v']) ndu
      have e11:upd H10 du (.tup [V.int (hf p ls),.ref tb,.ref tc,v']) du=some (.tup [V.int (hf p ls),.ref tb,.ref tc,v']):=upd_same
      generalize upd H10 du (.tup [V.int (hf p ls),.ref tb,.ref tc,v'])=H11 at s11 e11 ⊢
      have s911:=s10.trans s11
      have hvi:=hv.int
      have ht11:=s911 _ _ ht
      have ht111:=s911 _ _ ht1
      have ht211:=s911 _ _ ht2
      have s811:=s9.trans s911
      refine⟨_,rfl,t,t1,t2,_,_,_,_,_,v',rfl,ht11,ht111,ht211,hvi,fun H12 s12=>⟨true,rfl,iteF ?_⟩⟩
      have s812:=s811.trans s12
      obtain⟨dv,hdv,hdd⟩:=rd_bal hvi
      refine⟨_,rfl,_,rfl,t,du,_,rfl,rfl,rd_held (s12 _ _ ht11) (s12 _ _ ht111) (s12 _ _ ht211) (hdv _),rd_held (s12 _ _ e11) (s812 _ _ htb) (s812 _ _ htc) (hdv _),dep_held hdd,_,rfl,iteF ?_⟩
      have htb12:=s812 _ _ htb
      have htc12:=s812 _ _ htc
      have hll12:=s812 _ _ hll8
      have sx12:=sx8.trans s812
      unfold tNext
      dsimp only
      refine cut2 (a:=tAsg _ _) (b:=tIfS _ _ _) (fun σ' H'=>∃ wd:Str,σ'=[some (.ref a),some (.int (0+(i:Int))),some (.ref pl),some (.int p),some (.ref ll),some (.ref tb),some (.ref tc),some v',some (.ref kl),some (.ref t),some (.ref du),some (.str wd)]/\wd=wayS R1 R2/\Same H12 H') (fun R' hR=>?_) ?_
      · refine⟨_,rfl,tb,_,0,.int R1,rfl,rfl,SqT.of htb12,rfl,_,rfl,tc,_,0,.int R2,rfl,rfl,SqT.of htc12,rfl,rfl,_,rfl,?_⟩
        by_cases e:R1=R2
        · subst e
          rw[decide_eq_true rfl]
          exact iteF (hR _ _ ⟨_,rfl,by unfold wayS;rw[if_pos rfl],Same.refl _⟩)
        · rw[decide_eq_false (fun z=>e (V.int.inj z))]
          refine iteT ⟨(by show 2<=sizeLine;decide),fun q nq=>⟨_,rfl,tb,_,0,.int R1,rfl,rfl,SqT.of ((Same.new nq) _ _ htb12),rfl,_,rfl,tc,_,0,.int R2,rfl,rfl,SqT.of ((Same.new nq) _ _ htc12),rfl,_,_,rfl,rfl,.inr ⟨_,rfl,?_⟩⟩⟩
          by_cases e2:R1<R2
          · rw[decide_eq_true e2]
            exact⟨q,_,_,.str "phases",rfl,rfl,SqL.of upd_same,rfl,hR _ _ ⟨_,rfl,by unfold wayS;rw[if_neg e,if_pos e2],Same.new nq⟩⟩
          · rw[decide_eq_false e2]
            exact⟨q,_,_,.str "cascade",rfl,rfl,SqL.of upd_same,rfl,hR _ _ ⟨_,rfl,by unfold wayS;rw[if_neg e,if_neg e2],Same.new nq⟩⟩
      rintro σ H13 ⟨wd,rfl,hwd,s13⟩
      have hll13:=s13 _ _ hll12
      have e13:=s13 _ _ (s812 _ _ e8)
      have sx13:=sx12.trans s13
      have ht13:=s13 _ _ (s12 _ _ ht11)
      refine⟨_,rfl,_,rfl,ll,_,rfl,.inl ⟨SqL.of hll13,fun tl ntl=>?_⟩⟩
      have s14:=Same.new (o:=.tup (ls.map V.int)) ntl
      have e14:upd H13 tl (.tup (ls.map V.int)) tl=some (.tup (ls.map V.int)):=upd_same
      generalize upd H13 tl (.tup (ls.map V.int))=H14 at s14 e14 ⊢
      refine⟨p,tl,false,ls,rfl,p2,p7,SqT.of e14,h1,by omega,hbits,fun R1' n1' R2' n2' H15 hb1' hb2' s15=>?_⟩
      have eb':=(BestM.told hb1').uniq (BestM.told hb1)
      have ec':=(BestC.told p2 hb2').uniq (BestC.told p2 hb2)
      cases eb'
      cases ec'
      refine⟨_,rfl,rfl,_,rfl,?_⟩
      rw[decide_eq_true (show V.str (wayS R1 R2)=V.str wd by rw[hwd])]
      refine iteF ?_
      have s1315:=s14.trans s15
      refine⟨_,rfl,_,rfl,ll,kl,_,_,rfl,rfl,SqL.of (s1315 _ _ hll13),SqL.of (s1315 _ _ e13),_,rfl,?_⟩
      rw[decide_eq_true rfl]
      refine iteF ?_
      have hll15:=s1315 _ _ hll13
      refine⟨_,rfl,_,rfl,ll,_,rfl,.inl ⟨SqL.of hll15,fun tl2 ntl2=>?_⟩⟩
      have s16:=Same.new (o:=.tup (ls.map V.int)) ntl2
      have e16:upd H15 tl2 (.tup (ls.map V.int)) tl2=some (.tup (ls.map V.int)):=upd_same
      generalize upd H15 tl2 (.tup (ls.map V.int))=H16 at s16 e16 ⊢
      refine⟨p,tl2,false,ls,rfl,p2,p7,SqT.of e16,h1,by omega,hbits,fun t5 t51 t52 R1'' n1'' R2'' n2'' v'' H17 ht5 ht51 ht52 hb1'' hb2'' hv'' s17=>⟨_,rfl,?_⟩⟩
      have:=hv''.uniq hv
      subst this
      have eb'':=(BestM.told hb1'').uniq (BestM.told hb1)
      have ec'':=(BestC.told p2 hb2'').uniq (BestC.told p2 hb2)
      cases eb''
      cases ec''
      have s1317:=(s1315.trans s16).trans s17
      refine⟨t5,t,_,rfl,rfl,rd_held ht5 ht51 ht52 (hdv _),rd_held (s1317 _ _ ht13) (s1317 _ _ (s13 _ _ (s12 _ _ ht111))) (s1317 _ _ (s13 _ _ (s12 _ _ ht211))) (hdv _),dep_held hdd,_,rfl,iteF ?_⟩
      exact⟨_,_,_,_,_,_,_,_,_,_,_,rfl,sx13.trans s1317⟩
    · rintro σ Hx ⟨o1,o2,o3,o4,o5,o6,o7,o8,o9,o10,o11,rfl,sx⟩
      exact k Hx
end
end Fj75
namespace Fj75
open PySem L2 Lv
section
variable {P:Program}{w:World}{K:PySem.W.Frag}{mg:Str->Option Value}{base:Heap}
theorem scWhole:FnScope ["thing"] ["thing"] (defScope sWhole):=⟨rfl,rfl,rfl,by decide +kernel,rfl,by decide +kernel,by decide +kernel⟩
theorem ok_whole {f:Addr}{fd:FuncData} (F:Fun K "is_whole" "is_whole" sWhole f fd) (T:Txt mg):FnOk P w K mg base CX0 1 f fd ["thing"] spWhole:=by
  refine F.ok scWhole (fun vs H Q E h=>?_) (fun cdv A outer s H vs Q E hr h=>?_)
  · obtain⟨i,rfl,_⟩:=h
    rfl
  · obtain⟨i,rfl,k⟩:=h
    refine⟨_,pss_one (ps_ret (pe_and (pe_callB call_isinst rfl T.isinstance b_isinstance (pa_cons (pv 0) (pa_cons (pe_ty rfl T.int b_int) pa_nil)))
      (pe_one (pe_not (pe_callB call_isinst rfl T.isinstance b_isinstance (pa_cons (pv 0) (pa_cons (pe_ty rfl T.bool b_bool) pa_nil))))))),?_⟩
    refine⟨_,rfl,.int i,"int",_,true,rfl,.int i,kit_int_int,true,rfl,iteT ?_⟩
    exact⟨_,rfl,.int i,"bool",_,false,rfl,.int i,kit_int_bool,false,rfl,k⟩
theorem scWays:FnScope ["p"] ["p"] (defScope sWays):=⟨rfl,rfl,rfl,by decide +kernel,rfl,by decide +kernel,by decide +kernel⟩
theorem ok_ways {f fW:Addr}{fd dW:FuncData}{t2 t7:Tok} (F:Fun K "check_ways" "check_ways" sWays f fd) (T:Txt mg) (hL:mg "LEAST_WAYS"=some (.int 2 t2)) (hM:mg "MOST_WAYS"=some (.int 7 t7)) (CW:Cal P w K mg base 1 "is_whole" ["thing"] spWhole fW dW) :
    FnOk P w K mg base CX0 2 f fd ["p"] spWays:=by
  refine F.ok scWays (fun vs H Q E h=>?_) (fun cdv A outer s H vs Q E hr h=>?_)
  · obtain⟨i,rfl,_⟩:=h
    rfl
  · obtain⟨i,rfl,h1,h2,k⟩:=h
    refine⟨_,pss_one (ps_if (PW.pt (pw_or (pt_not (pt_val (pe_cal CW hr rfl (pa_cons (pv 0) pa_nil))))
      (pw_or1 (pt_not (pt_chain op_le op_le (pe_gint rfl hL) (pv 0) (pe_gint rfl hM)))))) pss_never pss_nil),?_⟩
    refine⟨_,rfl,i,rfl,true,rfl,iteF ?_⟩
    refine⟨_,rfl,2,i,rfl,rfl,_,rfl,?_⟩
    rw[decide_eq_true h1]
    refine iteT ⟨i,7,rfl,rfl,_,rfl,?_⟩
    rw[decide_eq_true h2]
    exact iteF k
theorem scFirstN:FnScope ["p"] ["p"] (defScope sFirstN):=⟨rfl,rfl,rfl,by decide +kernel,rfl,by decide +kernel,by decide +kernel⟩
theorem ok_firstN {f:Addr}{fd:FuncData} (F:Fun K "first_numbers" "first_numbers" sFirstN f fd) (T:Txt mg):FnOk P w K mg base CX0 1 f fd ["p"] spFirstN:=by
  refine F.ok scFirstN (fun vs H Q E h=>?_) (fun cdv A outer s H vs Q E hr h=>?_)
  · obtain⟨p,rfl,_⟩:=h
    rfl
  · obtain⟨p,rfl,h1,h2,k⟩:=h
    refine⟨_,pss_one (ps_ret (pe_callTy call_tuple_of rfl T.tuple b_tuple (pa_cons (pe_op op_cat (pe_lst (pa_cons (pe_tup (pa_cons pe_int pa_nil)) pa_nil)) (pe_op op_rep (pe_lst (pa_cons (pe_tup pa_nil) pa_nil)) (pe_op op_sub (pv 0) pe_int))) pa_nil))),?_⟩
    refine⟨(by show 1<=sizeLine;decide),fun q0 e0=>⟨(by show 1<=sizeLine;decide),fun p1 e1=>⟨Nat.zero_le _,fun q1 f1=>⟨(by show 1<=sizeLine;decide),fun p2 e2=>⟨_,rfl,_,_,rfl,rfl,?_⟩⟩⟩⟩⟩
    have t0:Same H (upd H q0 (.tup [.int 0])):=Same.new e0
    have t1:=t0.trans (Same.new (o:=.lst [.ref q0]) e1)
    have t2:=t1.trans (Same.new (o:=.tup []) f1)
    have t3:=t2.trans (Same.new (o:=.lst [.ref q1]) e2)
    have a0:(upd (upd (upd (upd H q0 (.tup [.int 0])) p1 (.lst [.ref q0])) q1 (.tup [])) p2 (.lst [.ref q1])) q0=some (.tup [.int 0]):=((Same.new e1).trans ((Same.new f1).trans (Same.new e2))) q0 _ upd_same
    have a1:(upd (upd (upd (upd H q0 (.tup [.int 0])) p1 (.lst [.ref q0])) q1 (.tup [])) p2 (.lst [.ref q1])) p1=some (.lst [.ref q0]):=((Same.new f1).trans (Same.new e2)) p1 _ upd_same
    have a2:(upd (upd (upd (upd H q0 (.tup [.int 0])) p1 (.lst [.ref q0])) q1 (.tup [])) p2 (.lst [.ref q1])) q1=some (.tup []):=(Same.new e2) q1 _ upd_same
    have a3:(upd (upd (upd (upd H q0 (.tup [.int 0])) p1 (.lst [.ref q0])) q1 (.tup [])) p2 (.lst [.ref q1])) p2=some (.lst [.ref q1]):=upd_same
    generalize (upd (upd (upd (upd H q0 (.tup [.int 0])) p1 (.lst [.ref q0])) q1 (.tup [])) p2 (.lst [.ref q1]))=H1 at t3 a0 a1 a2 a3 ⊢
    refine⟨p2,(p:Int) - 1,_,rfl,rfl,a3,by omega,by omega,?_,fun p3 e3=>?_⟩
    · exact Nat.le_of_lt (small1000 (by show 1*((p:Int) - 1).toNat<=1000;omega))
    have ez:(List.replicate ((p:Int) - 1).toNat [V.ref q1]).flatten=List.replicate (p - 1) (V.ref q1):=by
      rw[show ((p:Int) - 1).toNat=p - 1 by omega]
      exact List.flatten_replicate_singleton
    rw[ez]
    have s3:=Same.new (o:=.lst (List.replicate (p - 1) (V.ref q1))) e3
    refine⟨p1,p3,_,_,rfl,rfl,s3 p1 _ a1,upd_same,?_,fun p4 e4=>⟨p4,_,rfl,.inl ⟨SqL.of upd_same,fun l hl=>?_⟩⟩⟩
    · exact Nat.le_of_lt (small1000 (by rw[List.length_replicate];show 1+(p - 1)<=1000;omega))
    have s4:=s3.trans (Same.new (o:=.lst ([.ref q0]++List.replicate (p - 1) (V.ref q1))) e4)
    have s5:=s4.trans (Same.new (o:=.tup ([.ref q0]++List.replicate (p - 1) (V.ref q1))) hl)
    have hl0:H l=none:=(t3.trans s4).free hl
    refine k l (q0::List.replicate (p - 1) q1) _ hl0 (by rw[upd_same];simp) ⟨by simp[num0],fun j r xs ha hb=>?_⟩ (t3.trans s5)
    cases j with
    | zero=>
      have:r=q0:=by simpa using ha.symm
      have:xs=[0]:=by simpa[num0] using hb.symm
      subst r xs
      exact s5 q0 _ a0
    | succ j=>
      have:r=q1:=rep_get (j:=j) (by simpa using ha)
      have:xs=[]:=rep_get (j:=j) (by simpa[num0] using hb)
      subst r xs
      exact s5 q1 _ a2
theorem scNextN:FnScope ["numbers","first"] ["numbers"] (defScope sNextN):=⟨rfl,rfl,rfl,by decide +kernel,rfl,by decide +kernel,by decide +kernel⟩
theorem ok_nextN {f:Addr}{fd:FuncData} (F:Fun K "next_numbers" "next_numbers" sNextN f fd) (T:Txt mg):FnOk P w K mg base CX0 1 f fd ["numbers"] spNextN:=by
  refine F.ok scNextN (fun vs H Q E h=>?_) (fun cdv A outer s H vs Q E hr h=>?_)
  · obtain⟨a,rs,N,rfl,_⟩:=h
    rfl
  · obtain⟨a,rs,N,rfl,hA,hT,h1,h2,hne,hz,k⟩:=h
    refine⟨_,pss_cons (ps_set (i:=1) scNextN.nd rfl (Or.inr rfl) (pe_callTy call_tuple_of rfl T.tuple b_tuple (pa_cons (pe_comp (own:=["number"]) (js:=[]) (CompOk.by (sc:=defScope sNextN) (N:=["numbers","first"]) rfl rfl (by decide +kernel)) rfl (pi_tup (pe_ix ix_tup (pv 0) pe_int (fun _ _=>rfl))) gkeep_name
          (fun _ _ _ _ _=>pg_name (i:=0) (by show (["number"]:List Str).Nodup;decide +kernel) rfl (Or.inl rfl) (.inr rfl)) (fun _ _ _ _ _=>pts_nil) (fun _ _ _ _ _=>pe_op op_add (pv 0) pe_int)) pa_nil)))
      (pss_one (ps_ret (pe_callTy call_tuple_of rfl T.tuple b_tuple (pa_cons (pe_op op_cat
        (pe_comp (own:=["reel"]) (js:=[1]) (CompOk.by (sc:=defScope sNextN) (N:=["numbers","first"]) rfl rfl (by decide +kernel)) rfl (pi_tup (pe_slice sl_tup (pv 0) (po_some pe_int) po_none)) gkeep_name
          (fun _ _ _ _ _=>pg_name (i:=0) (by show (["reel","first"]:List Str).Nodup;decide +kernel) rfl (Or.inl rfl) (.inr rfl)) (fun _ _ _ _ _=>pts_nil) (fun _ _ _ _ _=>pe_op (opK_catT K) (pv 1) (pv 0)))
        (pe_lst (pa_cons (pv 1) pa_nil))) pa_nil)))),?_⟩
    obtain⟨x0,xr,rfl⟩:∃ x0 xr,N=x0::xr:=by
      cases N with
      | nil=>simp at h1
      | cons x y=>exact⟨x,y,rfl⟩
    obtain⟨r0,rr,rfl⟩:∃ r0 rr,rs=r0::rr:=by
      cases rs with
      | nil=>have:=hT.1;simp at this
      | cons x y=>exact⟨x,y,rfl⟩
    have hr0:H r0=some (.tup (x0.map V.int)):=hT.2 0 r0 x0 rfl rfl
    have hrl:rr.length=xr.length:=by have:=hT.1;simpa using this
    have hxr:xr.length<=6:=by simpa using h2
    have hx0:x0.length<=4000:=hz x0 (by simp)
    have ef:fstN (x0::xr)=x0.map (·+1):=rfl
    refine⟨_,rfl,a,_,0,.ref r0,rfl,rfl,SqT.of hA,atI_nat (j:=0) rfl,r0,rfl,⟨_,SqT.of hr0⟩,?_⟩
    refine comp_tup (xs:=x0.map V.int) (fun acc i H2=>Same H H2/\H2 acc=some (.lst (((x0.take i).map (·+1)).map V.int))) (fun acc h0=>⟨Same.new h0,upd_same⟩) (fun acc i H2 h0 _ p=>p.1.tup (SqT.of hr0)) ?_ ?_
    · rintro acc i x H2 h0 hx ⟨s2,hacc⟩
      obtain⟨z,hz',rfl⟩:=map_get hx
      have hi:=(List.getElem?_eq_some_iff.mp hz').1
      refine⟨_,rfl,z,1,rfl,rfl,_,hacc,?_,by rw[List.length_map];exact hi,s2.put h0,?_⟩
      · exact small8000 (by simp;omega)
      · rw[upd_same,List.take_add_one,hz',Option.toList_some,List.map_append,List.map_append]
        rfl
    rintro acc H2 h0 ⟨s2,hacc⟩
    rw[List.length_map,List.take_length] at hacc
    refine⟨acc,_,rfl,.inl ⟨SqL.of hacc,fun fl hfl=>?_⟩⟩
    have s3:=s2.trans (Same.new (o:=.tup ((x0.map (·+1)).map V.int)) hfl)
    have hfl3:(upd H2 fl (.tup ((x0.map (·+1)).map V.int))) fl=some (.tup ((x0.map (·+1)).map V.int)):=upd_same
    generalize (upd H2 fl (.tup ((x0.map (·+1)).map V.int)))=H3 at s3 hfl3 ⊢
    have hfl0:H fl=none:=s2.free hfl
    refine⟨_,rfl,1,rfl,a,_,rfl,SqT.of (s3 a _ hA),?_,fun p1 e1=>⟨p1,rfl,⟨_,SqT.of upd_same⟩,?_⟩⟩
    · rintro⟨z,_⟩
      have:HT.sIx ((r0::rr).map V.ref).length 0 (some ((1:Nat):Int))=0:=z
      rw[HT.sIx_nat] at this
      simp at this
    have ecut:cutV ((r0::rr).map V.ref) (some 1) none=rr.map V.ref:=by
      unfold cutV
      show (((r0::rr).map V.ref).drop (HT.sIx ((r0::rr).map V.ref).length 0 (some ((1:Nat):Int)))).take (HT.sIx ((r0::rr).map V.ref).length ((r0::rr).map V.ref).length none - HT.sIx ((r0::rr).map V.ref).length 0 (some ((1:Nat):Int)))=_
      rw[HT.sIx_nat]
      rw[show min 1 ((r0::rr).map V.ref).length=1 by simp]
      show (rr.map V.ref).take (((r0::rr).map V.ref).length - 1)=_
      rw[List.take_of_length_le (by simp)]
    rw[ecut]
    have s4:=s3.trans (Same.new (o:=.tup (rr.map V.ref)) e1)
    have hfl4:=(Same.new (o:=.tup (rr.map V.ref)) e1) fl _ hfl3
    have hp14:(upd H3 p1 (.tup (rr.map V.ref))) p1=some (.tup (rr.map V.ref)):=upd_same
    generalize (upd H3 p1 (.tup (rr.map V.ref)))=H4 at s4 hfl4 hp14 ⊢
    have hr:∀ (j:Nat) r xs,rr[j]?=some r->xr[j]?=some xs->H r=some (.tup (xs.map V.int)):=fun j r xs a b=>hT.2 (j+1) r xs a b
    have hxz:∀ xs∈xr,xs.length<=4000:=fun xs hx=>hz xs (by simp[hx])
    have hx0ne:x0≠[]:=hne
    refine comp_tup (xs:=rr.map V.ref) (fun acc i H5=>Same H4 H5/\∃ qs:List Addr,H5 acc=some (.lst (qs.map V.ref))/\TTs H5 qs ((xr.take i).map (x0.map (·+1)++·))) (fun acc h0=>⟨Same.new h0,[],upd_same,rfl,fun j r xs a b=>by simp at a⟩) (fun acc i H5 h0 _ p=>p.1.tup (SqT.of hp14)) ?_ ?_
    · rintro acc i x H5 h0 hx ⟨s5,qs,hacc,hq⟩
      obtain⟨r,hr',rfl⟩:=map_ref_get hx
      have hi:=(List.getElem?_eq_some_iff.mp hr').1
      have hix:i<xr.length:=by omega
      have hrx:H5 r=some (.tup (xr[i].map V.int)):=(s4.trans s5) r _ (hr i r _ hr' (List.getElem?_eq_getElem hix))
      have hfl5:=s5 fl _ hfl4
      have hxi:xr[i].length<=4000:=hxz _ (List.getElem_mem hix)
      have hqs:qs.length<=6:=by have:=hq.1;simp at this;omega
      have e2:(xr.take (i+1)).map (x0.map (·+1)++·)=(xr.take i).map (x0.map (·+1)++·)++[x0.map (·+1)++xr[i]]:=by
        rw[List.take_succ_eq_append_getElem hix,List.map_append]
        rfl
      rw[e2]
      refine⟨_,rfl,_,rfl,fl,r,_,_,rfl,rfl,SqT.of hfl5,SqT.of hrx,by simpa using hx0ne,?_,fun hemp=>?_,fun hemp pn en=>?_⟩
      · exact Nat.le_of_lt (small8000 (by simp;omega))
      · have hemp':xr[i]=[]:=by simpa using hemp
        refine⟨_,hacc,small8000 (by simp;omega),by rw[List.length_map];exact hi,s5.put h0,qs++[fl],by rw[upd_same];simp,?_⟩
        refine (hq.lst hacc).snoc ?_
        rw[hemp',List.append_nil,upd_ne (by intro z;subst z;rw[hacc] at hfl5;cases hfl5)]
        exact hfl5
      · have hacc6:=(Same.new (o:=.tup ((x0.map (·+1)).map V.int++xr[i].map V.int)) en) acc _ hacc
        refine⟨_,hacc6,small8000 (by simp;omega),by rw[List.length_map];exact hi,(s5.trans (Same.new en)).put h0,qs++[pn],by rw[upd_same];simp,?_⟩
        refine ((hq.same (Same.new en)).lst hacc6).snoc ?_
        rw[upd_ne (by intro z;subst z;rw[hacc] at en;cases en),upd_same]
        simp
    · rintro acc H5 h0 ⟨s5,qs,hacc,hq⟩
      rw[List.length_map,hrl,List.take_length] at hq
      have hfl5:=s5 fl _ hfl4
      have hqs:qs.length<=6:=by have:=hq.1;simp at this;omega
      refine⟨_,rfl,(by show 1<=sizeLine;decide),fun p2 e2=>?_⟩
      refine⟨acc,p2,_,_,rfl,rfl,(Same.new e2) acc _ hacc,upd_same,?_,fun p3 e3=>⟨p3,_,rfl,.inl ⟨SqL.of upd_same,fun l hl=>?_⟩⟩⟩
      · exact Nat.le_of_lt (small8000 (by simp;omega))
      have sz:=((Same.new (o:=.lst [V.ref fl]) e2).trans (Same.new (o:=.lst (qs.map V.ref++[V.ref fl])) e3)).trans (Same.new (o:=.tup (qs.map V.ref++[V.ref fl])) hl)
      have s6:=(s4.trans s5).trans sz
      refine k l (qs++[fl]) _ ?_ (by rw[upd_same];simp) ?_ s6
      · exact ((s4.trans s5).trans ((Same.new (o:=.lst [V.ref fl]) e2).trans (Same.new (o:=.lst (qs.map V.ref++[V.ref fl])) e3))).free hl
      · exact (hq.same sz).snoc (sz fl _ hfl5)
theorem scNextKN:FnScope ["numbers","read","reels","on_reel"] ["numbers"] (defScope sNextKN):=⟨rfl,rfl,rfl,by decide +kernel,rfl,by decide +kernel,by decide +kernel⟩
theorem ok_nextKN {f:Addr}{fd:FuncData} (F:Fun K "next_cascade_numbers" "next_cascade_numbers" sNextKN f fd) (T:Txt mg):FnOk P w K mg base CX0 1 f fd ["numbers"] spNextKN:=by
  refine F.ok scNextKN (fun vs H Q E h=>?_) (fun cdv A outer s H vs Q E hr h=>?_)
  · obtain⟨a,rs,N,rfl,_⟩:=h
    rfl
  · obtain⟨a,rs,N,rfl,hA,hT,n2,n7,hs,k⟩:=h
    refine⟨_,pss_cons (ps_set (i:=1) scNextKN.nd rfl (Or.inl rfl) (pe_tup pa_nil))
      (pss_cons (ps_set (i:=2) scNextKN.nd rfl (Or.inl rfl) (pe_lst pa_nil))
      (pss_cons (ps_for PassesOwn.never rfl (pi_tup (pe_slice sl_tup (pv 0) po_none (po_some (pe_un un_neg pe_int)))) (pg_name (i:=3) scNextKN.nd rfl (Or.inl rfl))
        (pss_cons (ps_set (i:=1) scNextKN.nd rfl (Or.inl rfl) (pe_op op_catE (pv 1) (pe_callTy call_tuple_of rfl T.tuple b_tuple (pa_cons (pe_comp (own:=["number"]) (js:=[]) (CompOk.bare (by decide +kernel)) rfl (pi_tup (pv 3)) gkeep_name
          (fun _ _ _ _ _=>pg_name (i:=0) (by show (["number"]:List Str).Nodup;decide +kernel) rfl (Or.inl rfl) (.inr rfl)) (fun _ _ _ _ _=>pts_nil) (fun _ _ _ _ _=>pe_op op_add (pv 0) pe_int)) pa_nil))))
        (pss_one (ps_expr (pe_bm PySem.F.plainAttrs_list PySem.F.slot_list_append PySem.F.type_list_append mt_append (pv 2) (pa_cons (pv 1) pa_nil))))))
      (pss_one (ps_ret (pe_callTy call_tuple_of rfl T.tuple b_tuple (pa_cons (pe_op op_cat (pe_lst (pa_cons (pe_op op_catE (pv 1) (pe_ix ix_tup (pv 0) (pe_un un_neg pe_int) (fun _ _=>rfl))) pa_nil)) (pe_rev (pv 2) (po_some (pe_un un_neg pe_int)))) pa_nil)))))),?_⟩
    obtain⟨rs',z,I,Z,rfl,rfl,hT',hz⟩:=Lv.TTs.cut hT (by omega)
    have hIl:I.length<=6:=by simp at n7;omega
    have hrl:rs'.length=I.length:=hT'.1
    refine⟨Nat.zero_le _,fun t0 e0=>⟨Nat.zero_le _,fun rl e1=>?_⟩⟩
    have s1:=(Same.new (o:=.tup []) e0).trans (Same.new (o:=.lst []) e1)
    have hrlH:H rl=none:=(Same.new (o:=.tup []) e0).free e1
    have ht0:(upd (upd H t0 (.tup [])) rl (.lst [])) t0=some (.tup []):=(Same.new e1) t0 _ upd_same
    have hrl1:(upd (upd H t0 (.tup [])) rl (.lst [])) rl=some (.lst []):=upd_same
    generalize (upd (upd H t0 (.tup [])) rl (.lst []))=H1 at s1 ht0 hrl1 ⊢
    refine⟨_,rfl,1,rfl,-1,rfl,a,_,rfl,SqT.of (s1 a _ hA),?_,fun p1 e2=>⟨p1,rfl,⟨_,SqT.of upd_same⟩,?_⟩⟩
    · rintro⟨_,zz⟩
      rw[show ((rs'++[z]).map V.ref).length=rs'.length+1 by simp,sIx_last] at zz
      omega
    have ec:cutV ((rs'++[z]).map V.ref) none (some (-1))=rs'.map V.ref:=by
      rw[List.map_append]
      exact cut_lastK _ _
    rw[ec]
    have s2:=s1.trans (Same.new (o:=.tup (rs'.map V.ref)) e2)
    have hp1:(upd H1 p1 (.tup (rs'.map V.ref))) p1=some (.tup (rs'.map V.ref)):=upd_same
    have ht2:=(Same.new (o:=.tup (rs'.map V.ref)) e2) t0 _ ht0
    have hrl2:=(Same.new (o:=.tup (rs'.map V.ref)) e2) rl _ hrl1
    generalize (upd H1 p1 (.tup (rs'.map V.ref)))=H2 at s2 hp1 ht2 hrl2 ⊢
    have hlow:∀ i,(finN (I.take i)).length<=4000:=fun i=>by
      have:=fin_take hs i
      by_cases hi:i<=I.length
      · rwa [List.take_append_of_le_length hi] at this
      · have h2:=fin_take hs I.length
        rw[List.take_append_of_le_length (Nat.le_refl _),List.take_length] at h2
        rw[List.take_of_length_le (by omega)]
        exact h2
    refine for_tup (xs:=rs'.map V.ref) (fun i σ H3=>∃ (rd:Addr) (qs:List Addr) (o:Option V),σ=[some (.ref a),some (.ref rd),some (.ref rl),o]/\H3 rd=some (.tup ((finN (I.take i)).map V.int))/\H3 rl=some (.lst (qs.map V.ref))/\TTs H3 qs (goN [] (I.take i))/\H3 p1=some (.tup (rs'.map V.ref))/\Same H H3)
      ⟨t0,[],none,rfl,ht2,hrl2,⟨rfl,fun j r xs ha=>by simp at ha⟩,hp1,s2⟩ (fun i σ H3 _ ⟨_,_,_,_,_,_,_,h,_⟩=>SqT.of h) ?_ ?_
    · rintro i x σ H3 hx ⟨rd,qs,o,rfl,hrd,hrl3,hq3,hp3,s3⟩
      rw[List.getElem?_map] at hx
      obtain⟨q,hq,rfl⟩:=Option.map_eq_some_iff.mp hx
      have hi:i<I.length:=by have:=(List.getElem?_eq_some_iff.mp hq).1;omega
      have hqI:=s3 q _ (hT'.2 i q _ hq (List.getElem?_eq_getElem hi))
      refine⟨_,rfl,_,rfl,q,rfl,⟨_,SqT.of hqI⟩,?_⟩
      have hAl:I[i].length<=4000:=by
        have h1:=hlow (i+1)
        rw[List.take_succ_eq_append_getElem hi,finN_snoc,List.length_append] at h1
        simp[up1] at h1
        omega
      refine comp_tup (xs:=I[i].map V.int) (fun acc j H4=>Same H3 H4/\H4 acc=some (.lst ((up1 (I[i].take j)).map V.int))) (fun acc h0=>⟨Same.new h0,upd_same⟩) (fun acc j H4 h0 _ p=>p.1.tup (SqT.of hqI)) ?_ ?_
      · rintro acc j y H4 h0 hy ⟨s4,hacc⟩
        obtain⟨v,hv,rfl⟩:=map_get hy
        have hj:=(List.getElem?_eq_some_iff.mp hv).1
        refine⟨_,rfl,_,_,rfl,rfl,_,hacc,?_,by rw[List.length_map];exact hj,s4.put h0,?_⟩
        · rw[sizeLine_eq]
          simp[up1]
          omega
        · rw[upd_same,List.take_add_one,hv]
          simp[up1]
      · rintro acc H4 h0 ⟨s4,hacc⟩
        rw[List.length_map,List.take_length] at hacc
        refine⟨acc,_,rfl,.inl ⟨SqL.of hacc,fun tu htu=>?_⟩⟩
        have s5:=s4.trans (Same.new (o:=.tup ((up1 I[i]).map V.int)) htu)
        refine catE_all (s5 rd _ hrd) upd_same ?_ fun r H6 hr6 s6=>?_
        · have:=hlow i
          rw[sizeLine_eq]
          simp[up1]
          omega
        have s36:=s5.trans s6
        have hrl6:=s36 rl _ hrl3
        refine⟨_,rfl,.inl ⟨rfl,_,SqL.of hrl6⟩,_,rfl,rl,_,_,rfl,rfl,hrl6,?_,?_⟩
        · have:=hq3.1
          rw[goN_len,List.length_take] at this
          exact small1000 (by rw[List.length_map];omega)
        have hrne:r≠rl:=by intro zz;subst zz;rw[hrl6] at hr6;cases hr6
        have hr7:(upd H6 rl (.lst (qs.map V.ref++[.ref r]))) r=some (.tup ((finN (I.take (i+1))).map V.int)):=by
          rw[upd_ne hrne,hr6,List.take_succ_eq_append_getElem hi,finN_snoc]
        refine⟨r,qs++[r],_,rfl,hr7,by rw[upd_same];simp,?_,?_,(s3.trans s36).put hrlH⟩
        · have ht:=(hq3.same s36).lst (ys:=qs.map V.ref++[.ref r]) hrl6
          rw[List.take_succ_eq_append_getElem hi,goN_snoc,List.nil_append]
          refine ht.snoc ?_
          rw[hr7,List.take_succ_eq_append_getElem hi,finN_snoc]
        · rw[upd_ne (by intro zz;subst zz;rw[hrl3] at hp3;cases hp3)]
          exact s36 p1 _ hp3
    · rintro σ H3 ⟨rd,qs,o,rfl,hrd,hrl3,hq3,hp3,s3⟩
      rw[List.length_map,hrl,List.take_length] at hrd hq3
      have hz3:=s3 z _ hz
      have htot:=fin_take hs (I.length+1)
      have hZ:(finN I).length+Z.length<=4000:=by
        rw[List.take_of_length_le (by simp),finN_snoc,List.length_append] at htot
        simpa[up1] using htot
      refine⟨_,rfl,_,rfl,1,rfl,a,_,-1,.ref z,rfl,rfl,SqT.of (s3 a _ hA),?_,?_⟩
      · rw[List.map_append]
        exact atI_last _ _
      refine catE_all hrd hz3 (by rw[sizeLine_eq];omega) fun r H4 hr4 s4=>?_
      refine⟨(by show 1<=sizeLine;decide),fun p2 e3=>?_⟩
      have s5:=s4.trans (Same.new (o:=.lst [.ref r]) e3)
      refine⟨_,rfl,1,rfl,-1,rfl,rfl,rl,_,rfl,SqL.of (s5 rl _ hrl3),fun p3 e4=>?_⟩
      have s6:=s5.trans (Same.new (o:=.lst (qs.map V.ref).reverse) e4)
      refine⟨p2,p3,_,_,rfl,rfl,(Same.new e4) p2 _ upd_same,upd_same,?_,fun p4 e5=>⟨p4,_,rfl,.inl ⟨SqL.of upd_same,fun l hl=>?_⟩⟩⟩
      · have:=hq3.1
        rw[goN_len] at this
        exact Nat.le_of_lt (small1000 (by simp;omega))
      have s7:=(s6.trans (Same.new (o:=.lst ([.ref r]++(qs.map V.ref).reverse)) e5)).trans (Same.new (o:=.tup ([.ref r]++(qs.map V.ref).reverse)) hl)
      refine k l (r::qs.reverse) _ ((s3.trans (s6.trans (Same.new (o:=.lst ([.ref r]++(qs.map V.ref).reverse)) e5))).free hl) (by rw[upd_same];simp) ?_ (s3.trans s7)
      rw[nextKN_eq]
      have sr:Same H4 (upd (upd (upd (upd H4 p2 (.lst [.ref r])) p3 (.lst (qs.map V.ref).reverse)) p4 (.lst ([.ref r]++(qs.map V.ref).reverse))) l (.tup ([.ref r]++(qs.map V.ref).reverse))):=(((Same.new e3).trans (Same.new e4)).trans (Same.new e5)).trans (Same.new hl)
      exact Lv.TTs.cons (sr r _ hr4) ((Lv.TTs.rev hq3).same s7)
end
end Fj75
namespace Fj75
open PySem L2 Lv
section
variable {P:Program}{w:World}{K:PySem.W.Frag}{mg:Str->Option Value}{base:Heap}
theorem scPlacesIn:FnScope ["numbers"] ["numbers"] (defScope sPlacesIn):=⟨rfl,rfl,rfl,by decide +kernel,rfl,by decide +kernel,by decide +kernel⟩
theorem ok_placesIn {f:Addr}{fd:FuncData} (F:Fun K "places_in" "places_in" sPlacesIn f fd) (T:Txt mg):FnOk P w K mg base CX0 1 f fd ["numbers"] spPlacesIn:=by
  refine F.ok scPlacesIn (fun vs H Q E h=>?_) (fun cdv A outer s H vs Q E hr h=>?_)
  · obtain⟨a,rs,N,rfl,_⟩:=h
    rfl
  · obtain⟨a,rs,N,rfl,hA,hT,hN,k⟩:=h
    refine⟨_,pss_one (ps_ret (pe_callB (call_sumI rfl) rfl T.sum b_sum (pa_cons (pe_comp (own:=["on_reel"]) (js:=[]) (CompOk.bare (by decide +kernel)) rfl (pi_tup (pv 0)) gkeep_name
        (fun _ _ _ _ _=>pg_name (i:=0) (by show (["on_reel"]:List Str).Nodup;decide +kernel) rfl (Or.inl rfl) (.inr rfl)) (fun _ _ _ _ _=>pts_nil) (fun _ _ _ _ _=>pe_callB (callK_len K) rfl T.len PySem.boot_len (pa_cons (pv 0) pa_nil))) pa_nil))),?_⟩
    refine⟨_,rfl,a,rfl,⟨_,SqT.of hA⟩,?_⟩
    refine comp_tup (xs:=rs.map V.ref) (fun acc j H2=>Same H H2/\H2 acc=some (.lst ((lensK (N.take j)).map V.int))) (fun acc h0=>⟨Same.new h0,upd_same⟩) (fun acc j H2 h0 _ p=>SqT.of (p.1 _ _ hA)) ?_ ?_
    · rintro acc j x H2 h0 hx ⟨s2,hacc⟩
      obtain⟨q,hq,rfl⟩:=get_ref hx
      have hj:=(List.getElem?_eq_some_iff.mp hq).1
      obtain⟨xs,hxs⟩:∃ xs,N[j]?=some xs:=⟨_,List.getElem?_eq_getElem (by rw[<- hT.1];exact hj)⟩
      refine⟨_,rfl,q,_,rfl,.inr (SqT.of (s2 _ _ (hT.2 j q xs hq hxs))),_,hacc,?_,by rw[List.length_map];exact hj,s2.put h0,?_⟩
      · unfold lensK
        rw[List.length_map,List.length_map,List.length_take]
        exact small1000 (by omega)
      · rw[upd_same,List.take_add_one,hxs,Option.toList_some]
        unfold lensK
        rw[List.map_append,List.map_append,List.map_cons,List.map_nil,List.length_map]
        rfl
    rintro acc H2 h0 ⟨s2,hacc⟩
    have e:(rs.map V.ref).length=N.length:=by rw[List.length_map,hT.1]
    rw[e,List.take_length] at hacc
    refine⟨acc,_,rfl,SqL.of hacc,?_⟩
    have e2:(lensK N).sum=(N.flatten.length:Int):=by
      unfold lensK
      clear hacc hT hN k e
      induction N with
      | nil=>rfl
      | cons xs N ih=>rw[List.map_cons,List.sum_cons,ih,List.flatten_cons,List.length_append];omega
    rw[e2]
    exact k H2 s2
theorem scLeastP:FnScope ["numbers","many","places"] ["numbers","many"] (defScope sLeastP):=⟨rfl,rfl,rfl,by decide +kernel,rfl,by decide +kernel,by decide +kernel⟩
theorem cut_takeP (xs:List V) (c:Nat):cutV xs none (some (c:Int))=xs.take c:=by
  unfold cutV
  show (xs.drop 0).take (HT.sIx xs.length xs.length (some (c:Int)) - 0)=_
  rw[HT.sIx_nat,Nat.sub_zero,List.drop_zero]
  by_cases h:c<=xs.length
  · rw[Nat.min_eq_left h]
  · rw[Nat.min_eq_right (by omega),List.take_length,List.take_of_length_le (by omega)]
theorem flat_leP {N:List (List Int)}{i j:Nat}{xs:List Int} (h:N[i]?=some xs) (hj:j<=xs.length):(N.take i).flatten.length+j<=N.flatten.length:=by
  have a:=List.getElem?_eq_some_iff.mp h
  have e1:N=N.take i++xs::N.drop (i+1):=by
    have:N.drop i=xs::N.drop (i+1):=by rw[List.drop_eq_getElem_cons a.1,a.2]
    rw[<- this,List.take_append_drop]
  conv=>rhs;rw[e1]
  rw[List.flatten_append,List.length_append,List.flatten_cons,List.length_append]
  omega
theorem ok_leastP {f:Addr}{fd:FuncData} (F:Fun K "least_places" "least_places" sLeastP f fd) (T:Txt mg) (Te:mg "enumerate"=none):FnOk P w K mg base CX0 1 f fd ["numbers","many"] spLeastP:=by
  refine F.ok scLeastP (fun vs H Q E h=>?_) (fun cdv A outer s H vs Q E hr h=>?_)
  · obtain⟨a,rs,N,m,rfl,_⟩:=h
    rfl
  · obtain⟨a,rs,N,m,rfl,hA,hT,hN,hF,k⟩:=h
    refine⟨_,pss_cons (ps_comp2 (i:=2) scLeastP.nd rfl rfl (own:=["reel","on_reel","place","number"]) (js:=[]) (fr:=[2,3]) (CompOk.bare (by decide +kernel)) rfl (pi_enumB rfl Te (pa_cons (pv 0) pa_nil)) (gkeepF_two (i:=0) (k:=1) (K:=K)) (gkeepT_two (i:=2) (k:=3) (K:=K))
        (fun _ _ _ _ _=>pgK_tup K rfl (pgs_cons (pg_name (i:=0) (by show (["reel","on_reel","place","number"]:List Str).Nodup;decide +kernel) rfl (Or.inl rfl) (.inr rfl)) (pgs_cons (pg_name (i:=1) (by show (["reel","on_reel","place","number"]:List Str).Nodup;decide +kernel) rfl (Or.inl rfl) (.inr rfl)) pgs_nil))) (fun _ _ _ _ _=>pts_nil) (fun _ _ _ _ _=>piK_enumB K rfl Te (pa_cons (pv 1) pa_nil))
        (fun _ _ _ _ _=>pgK_tup K rfl (pgs_cons (pg_name (i:=2) (by show (["reel","on_reel","place","number"]:List Str).Nodup;decide +kernel) rfl (Or.inl rfl) (.inr rfl)) (pgs_cons (pg_name (i:=3) (by show (["reel","on_reel","place","number"]:List Str).Nodup;decide +kernel) rfl (Or.inl rfl) (.inr rfl)) pgs_nil))) (fun _ _ _ _ _=>pts_nil) (fun _ _ _ _ _=>pe_tup (pa_cons (pv 3) (pa_cons (pv 0) (pa_cons (pv 2) pa_nil)))))
      (pss_one (ps_ret (pe_slice sl_list (pe_callB call_sortPA rfl T.sorted b_sorted (pa_cons (pv 2) pa_nil)) po_none (po_some (pv 1))))),?_⟩
    have hz:100000<sizeLine:=by decide
    refine⟨_,rfl,a,false,rfl,⟨_,SqT.of hA⟩,?_⟩
    refine comp2_enumB (b:=false) (xs:=rs.map V.ref) (fun acc i H2=>Same H H2/\∃ ps,H2 acc=some (.lst (ps.map V.ref))/\(∀ p∈ps,p≠acc)/\TuM H2 ps (trip 0 (N.take i))) (fun acc h0=>⟨Same.new h0,[],upd_same,(fun p hp=>nomatch hp),TuM.nil⟩) (fun acc i H2 h0 _ p=>SqT.of (p.1 _ _ hA)) ?_ ?_
    · rintro acc i x q H2 h0 hx ⟨s2,ps,hacc,hne,hpr⟩ hq
      obtain⟨r,hr',rfl⟩:=get_ref hx
      have hi:=(List.getElem?_eq_some_iff.mp hr').1
      obtain⟨xs,e2⟩:∃ xs,N[i]?=some xs:=⟨_,List.getElem?_eq_getElem (by rw[<- hT.1];exact hi)⟩
      have hrow:=hT.2 i r xs hr' e2
      have s3:Same H2 (upd H2 q (.tup [.int i,.ref r])):=Same.new hq
      have hq3:upd H2 q (.tup [.int i,.ref r]) q=some (.tup [.int i,.ref r]):=upd_same
      generalize upd H2 q (.tup [.int i,.ref r])=H3 at s3 hq3 ⊢
      have s03:=s2.trans s3
      refine⟨q,_,rfl,SqT.of hq3,rfl,_,_,rfl,_,_,rfl,rfl,?_⟩
      refine⟨_,rfl,r,false,rfl,⟨_,SqT.of (s03 _ _ hrow)⟩,?_⟩
      refine in_enumB (b:=false) (xs:=xs.map V.int) (fun j H4=>Same H H4/\∃ ps,H4 acc=some (.lst (ps.map V.ref))/\(∀ p∈ps,p≠acc)/\TuM H4 ps (trip 0 (N.take i)++tripR i (xs.take j))) ⟨s03,ps,s3 _ _ hacc,hne,by simpa[tripR] using hpr.same s3⟩ (fun j H4 _ p=>SqT.of (p.1 _ _ hrow)) ?_ ?_
      · rintro j y u H4 hy ⟨s4,ps,hac4,hne4,hpr4⟩ nu
        obtain⟨z,hz',rfl⟩:=map_get hy
        have hj:=(List.getElem?_eq_some_iff.mp hz').1
        have hle:=flat_leP e2 (Nat.le_of_lt hj)
        have hpl:ps.length=(N.take i).flatten.length+j:=by
          rw[hpr4.len,List.length_append,trip_len,tripR_len,List.length_take]
          omega
        have su:Same H4 (upd H4 u (.tup [.int j,.int z])):=Same.new nu
        have hu3:upd H4 u (.tup [.int j,.int z]) u=some (.tup [.int j,.int z]):=upd_same
        generalize upd H4 u (.tup [.int j,.int z])=H4' at su hu3 ⊢
        replace hac4:=su _ _ hac4
        replace hpr4:=hpr4.same su
        replace s4:=s4.trans su
        refine⟨u,_,rfl,SqT.of hu3,rfl,_,_,rfl,_,_,rfl,rfl,?_⟩
        refine⟨_,rfl,_,rfl,_,rfl,(by show 3<=sizeLine;decide),fun t ht=>?_⟩
        have hta:t≠acc:=Ne.symm (ne_of_none hac4 ht)
        have s45:Same H4' (upd H4' t (.tup [.int z,.int i,.int j])):=Same.new ht
        have ht5:upd H4' t (.tup [.int z,.int i,.int j]) t=some (.tup (([z,(i:Int),(j:Int)]:List Int).map V.int)):=upd_same
        generalize upd H4' t (.tup [.int z,.int i,.int j])=H5 at s45 ht5 ⊢
        refine⟨_,s45 _ _ hac4,by rw[List.length_map];omega,by rw[List.length_map];exact hj,(s4.trans s45).put h0,ps++[t],by rw[upd_same,List.map_append];rfl,fun p hp=>?_,?_⟩
        · rcases List.mem_append.mp hp with hp | hp
          · exact hne4 p hp
          · rw[List.mem_singleton.mp hp];exact hta
        · have:=(hpr4.same s45).snoc ht5 (by simp)
          rw[List.append_assoc,<- tripR_take hz'] at this
          refine this.keep fun p hp=>upd_ne ?_
          rcases List.mem_append.mp hp with hp | hp
          · exact hne4 p hp
          · rw[List.mem_singleton.mp hp];exact hta
      · rintro H4 ⟨s4,ps,hac4,hne4,hpr4⟩
        rw[List.length_map,List.take_length,<- trip_take e2] at hpr4
        exact⟨by rw[List.length_map];exact hi,s4,ps,hac4,hne4,hpr4⟩
    rintro acc H2 h0 ⟨s2,ps,hacc,hne,hpr⟩
    have e:(rs.map V.ref).length=N.length:=by rw[List.length_map,hT.1]
    rw[e,List.take_length] at hpr
    have hks:∀ p∈ps,kf H2 p≠[]/\H2 p=some (.tup ((kf H2 p).map V.int)):=by
      intro p hp
      obtain⟨k',hk,e⟩:=hpr.1 p hp
      rw[kf_of e]
      exact⟨hk,e⟩
    refine⟨_,rfl,acc,ps,kf H2,rfl,SqL.of hacc,hks,fun l qs nl pm up=>?_⟩
    have s23:Same H2 (upd H2 l (.lst (qs.map V.ref))):=Same.new nl
    have hl3:upd H2 l (.lst (qs.map V.ref)) l=some (.lst (qs.map V.ref)):=upd_same
    generalize upd H2 l (.lst (qs.map V.ref))=H3 at s23 hl3 ⊢
    have s03:=s2.trans s23
    refine⟨_,rfl,(m:Int),rfl,l,_,rfl,SqL.of hl3,fun l2 nl2=>?_⟩
    rw[cut_takeP,<- List.map_take]
    have s34:Same H3 (upd H3 l2 (.lst ((qs.take m).map V.ref))):=Same.new nl2
    have hq2:TuM H2 qs (qs.map (kf H2)):=⟨fun p hp=>hpr.1 p (pm.mem_iff.mp hp),rfl⟩
    refine k l2 qs (qs.map (kf H2)) _ (s03.free nl2) upd_same (hq2.same (s23.trans s34)) ?_ (List.pairwise_map.mpr up) (s03.trans s34)
    rw[<- hpr.2]
    exact pm.map _
end
end Fj75
namespace Fj75
open PySem L2 Lv
section
variable {P:Program}{w:World}{K:PySem.W.Frag}{mg:Str->Option Value}{base:Heap}
theorem scReadBy:FnScope ["numbers","lengths","placing"] ["numbers","lengths","placing"] (defScope sReadBy):=⟨rfl,rfl,rfl,by decide +kernel,rfl,by decide +kernel,by decide +kernel⟩
theorem SqB.sameP {b:Bool}{H H':Hp}{a:Addr}{xs:List V} (e:Same H H') (h:SqB b K H a xs):SqB b K H' a xs:=by
  cases b
  · exact e.tup h
  · exact e.seq h
theorem ok_readBy {f:Addr}{fd:FuncData} (F:Fun K "reading_by" "reading_by" sReadBy f fd) (T:Txt mg):FnOk P w K mg base CX0 1 f fd ["numbers","lengths","placing"] (spReadBy K):=by
  refine F.ok scReadBy (fun vs H Q E h=>?_) (fun cdv A outer s H vs Q E hr h=>?_)
  · obtain⟨a,ll,pl,b,rs,qs,N,ls,ks,rfl,_⟩:=h
    rfl
  · obtain⟨a,ll,pl,b,rs,qs,N,ls,ks,rfl,hA,hT,hL,hP,hM,hin,hlen,hl9,hb1,hb2,k⟩:=h
    refine⟨_,pss_one (ps_ret (pe_callB (call_sumI rfl) rfl T.sum b_sum (pa_cons (pe_comp (own:=["length","reel","place"]) (js:=[0]) (CompOk.by (sc:=defScope sReadBy) (N:=["numbers","lengths","placing"]) rfl rfl (by decide +kernel)) rfl (pi_zipB rfl T.zip (pa_cons (pv 1) (pa_cons (pv 2) pa_nil))) (gkeep_nest (i:=0) (k:=1) (m:=2) (K:=K))
        (fun _ _ _ _ _=>pgK_tup K rfl (pgs_cons (pg_name (i:=0) (by show (["length","reel","place","numbers"]:List Str).Nodup;decide +kernel) rfl (Or.inl rfl) (.inr rfl)) (pgs_cons (pgK_tup K rfl (pgs_cons (pg_name (i:=1) (by show (["length","reel","place","numbers"]:List Str).Nodup;decide +kernel) rfl (Or.inl rfl) (.inr rfl)) (pgs_cons (pg_name (i:=2) (by show (["length","reel","place","numbers"]:List Str).Nodup;decide +kernel) rfl (Or.inl rfl) (.inr rfl)) pgs_nil))) pgs_nil))) (fun _ _ _ _ _=>pts_nil)
        (fun _ _ _ _ _=>pe_op op_mulB (pv 0) (pe_ix (ixK_tupP K) (pe_ix (ixK_tupP K) (pv 3) (pv 1) (fun _ _=>rfl)) (pv 2) (fun _ _=>rfl)))) pa_nil))),?_⟩
    have hz:100000<sizeLine:=by decide
    refine⟨_,rfl,_,rfl,b,true,ll,pl,rfl,⟨_,hL⟩,⟨_,SqL.of hP⟩,?_⟩
    refine comp_zip (b1:=b) (b2:=true) (xs:=ls.map V.int) (ys:=qs.map V.ref) (by rw[List.length_map,List.length_map,hM.len];omega) (fun acc i H2=>Same H H2/\H2 acc=some (.lst ((readV N (ls.take i) (ks.take i)).map V.int))) (fun acc h0=>⟨Same.new h0,upd_same⟩) (fun acc i H2 h0 _ p=>⟨SqB.sameP p.1 hL,SqL.of (p.1 _ _ hP)⟩) ?_ ?_
    · rintro acc i x y u H2 h0 hx hy ⟨s2,hacc⟩ nu
      obtain⟨l,hl,rfl⟩:=map_get hx
      obtain⟨q,hq,rfl⟩:=get_ref hy
      have hil:=(List.getElem?_eq_some_iff.mp hl).1
      obtain⟨kk,hk,hqk⟩:=hM.at hq
      obtain⟨r,p,xs,rfl,hr',hp⟩:=hin kk (List.mem_of_getElem? hk)
      have su:Same H2 (upd H2 u (.tup [.int l,.ref q])):=Same.new nu
      have hu3:upd H2 u (.tup [.int l,.ref q]) u=some (.tup [.int l,.ref q]):=upd_same
      generalize upd H2 u (.tup [.int l,.ref q])=H3 at su hu3 ⊢
      have s3:=s2.trans su
      have hq3:H3 q=some (.tup [.int (r:Int),.int (p:Int)]):=s3 _ _ hqk
      have hrl:=(List.getElem?_eq_some_iff.mp hr').1
      obtain⟨ra,hra⟩:∃ ra,rs[r]?=some ra:=⟨_,List.getElem?_eq_getElem (by rw[hT.1];exact hrl)⟩
      have hrow:=s3 _ _ (hT.2 r ra xs hra hr')
      have hnum:numV N [(r:Int),(p:Int)]=xs[p]:=by
        unfold numV
        simp[List.getD_eq_getElem?_getD,hr',hp]
      refine⟨u,_,rfl,SqT.of hu3,rfl,_,_,rfl,_,_,rfl,q,_,rfl,SqT.of hq3,rfl,_,_,rfl,_,_,rfl,rfl,rfl,?_⟩
      refine⟨_,rfl,_,rfl,_,rfl,a,_,(r:Int),.ref ra,rfl,rfl,SqT.of (s3 _ _ hA),atI_nat (by rw[List.getElem?_map,hra];rfl),_,rfl,ra,_,(p:Int),.int xs[p],rfl,rfl,SqT.of hrow,atI_nat (by rw[List.getElem?_map,List.getElem?_eq_getElem hp];rfl),?_⟩
      refine⟨l,xs[p],rfl,rfl,⟨8000,8000,hb1 l (List.mem_of_getElem? hl),hb2 xs (List.mem_of_getElem? hr') _ (List.getElem_mem hp),by decide⟩,?_⟩
      refine⟨_,su _ _ hacc,?_,by rw[List.length_map];exact hil,s3.put h0,?_⟩
      · rw[List.length_map]
        unfold readV
        rw[List.length_zipWith,List.length_take,List.length_take]
        omega
      · rw[upd_same,readV_take hl hk,List.map_append,hnum]
        rfl
    rintro acc H2 h0 ⟨s2,hacc⟩
    rw[List.length_map,List.take_length,hlen,List.take_length] at hacc
    exact⟨acc,_,rfl,SqL.of hacc,k H2 s2⟩
end
end Fj75
namespace Fj75
open PySem L2 Lv
section
variable {P:Program}{w:World}{K:PySem.W.Frag}{mg:Str->Option Value}{base:Heap}
theorem scLeastBy:FnScope ["numbers","lengths","longest_first","placing","length","row","number","reel","place"] ["numbers","lengths"] (defScope sLeastBy):=⟨rfl,rfl,rfl,by decide +kernel,rfl,by decide +kernel,by decide +kernel⟩
theorem SqB.sameL {b:Bool}{H H':Hp}{a:Addr}{xs:List V} (e:Same H H') (h:SqB b K H a xs):SqB b K H' a xs:=by
  cases b
  · exact e.tup h
  · exact e.seq h
theorem SqB.orL {b:Bool}{H:Hp}{a:Addr}{xs:List V} (h:SqB b K H a xs):SqL K H a xs∨SqT K H a xs:=by
  cases b
  · exact .inr h
  · exact .inl h
theorem rep_non (n:Nat):(List.replicate n [V.non]).flatten=List.replicate n V.non:=by
  induction n with
  | zero=>rfl
  | succ n ih=>rw[List.replicate_succ,List.flatten_cons,ih,List.replicate_succ];rfl
theorem ok_leastBy {f f1 f2:Addr}{fd d1 d2:FuncData} (F:Fun K "least_by" "least_by" sLeastBy f fd) (T:Txt mg) (Te:mg "enumerate"=none) (CL:Cal P w K mg base 1 "least_places" ["numbers","many"] spLeastP f1 d1) (CR:Cal P w K mg base 1 "reading_by" ["numbers","lengths","placing"] (spReadBy K) f2 d2):FnOk P w K mg base CX0 2 f fd ["numbers","lengths"] (spLeastBy K):=by
  refine F.ok scLeastBy (fun vs H Q E h=>?_) (fun cdv A outer s H vs Q E hr h=>?_)
  · obtain⟨a,ll,b,rs,N,ls,rfl,_⟩:=h
    rfl
  · obtain⟨a,ll,b,rs,N,ls,rfl,hA,hT,hN,hF,hL,hle,hb1,hb2,k⟩:=h
    refine⟨_,pss_cons (ps_set (i:=2) scLeastBy.nd rfl (Or.inl rfl) (pe_callB call_sortPA rfl T.sorted b_sorted (pa_cons (pe_comp (own:=["row","length"]) (js:=[]) (CompOk.bare (by decide +kernel)) rfl (pi_enumB rfl Te (pa_cons (pv 1) pa_nil)) (gkeep_two (i:=0) (k:=1) (K:=K))
        (fun _ _ _ _ _=>pgK_tup K rfl (pgs_cons (pg_name (i:=0) (by show (["row","length"]:List Str).Nodup;decide +kernel) rfl (Or.inl rfl) (.inr rfl)) (pgs_cons (pg_name (i:=1) (by show (["row","length"]:List Str).Nodup;decide +kernel) rfl (Or.inl rfl) (.inr rfl)) pgs_nil))) (fun _ _ _ _ _=>pts_nil) (fun _ _ _ _ _=>pe_tup (pa_cons (pe_un un_neg (pv 1)) (pa_cons (pv 0) pa_nil)))) pa_nil)))
      (pss_cons (ps_set (i:=3) scLeastBy.nd rfl (Or.inl rfl) (pe_op op_rep (pe_lst (pa_cons pe_non pa_nil)) (pe_callB call_len_seq rfl T.len PySem.boot_len (pa_cons (pv 1) pa_nil))))
      (pss_cons (ps_for PassesOwn.never rfl (pi_zipB rfl T.zip (pa_cons (pv 2) (pa_cons (pe_cal CL hr rfl (pa_cons (pv 0) (pa_cons (pe_callB call_len_seq rfl T.len PySem.boot_len (pa_cons (pv 1) pa_nil)) pa_nil))) pa_nil)))
          (pg_tup rfl (pgs_cons (pg_tup rfl (pgs_cons (pg_name (i:=4) scLeastBy.nd rfl (Or.inl rfl)) (pgs_cons (pg_name (i:=5) scLeastBy.nd rfl (Or.inl rfl)) pgs_nil))) (pgs_cons (pg_tup rfl (pgs_cons (pg_name (i:=6) scLeastBy.nd rfl (Or.inl rfl)) (pgs_cons (pg_name (i:=7) scLeastBy.nd rfl (Or.inl rfl)) (pgs_cons (pg_name (i:=8) scLeastBy.nd rfl (Or.inl rfl)) pgs_nil)))) pgs_nil)))
        (pss_one (ps_asg (pe_tup (pa_cons (pv 7) (pa_cons (pv 8) pa_nil))) (pg_sub (pv 3) (pv 5) set_list))))
      (pss_one (ps_ret (pe_tup (pa_cons (pe_cal CR hr rfl (pa_cons (pv 0) (pa_cons (pv 1) (pa_cons (pv 3) pa_nil)))) (pa_cons (pv 3) pa_nil))))))),?_⟩
    have hz:100000<sizeLine:=by decide
    have hls:ls.length<=100000:=by omega
    refine⟨_,rfl,ll,b,rfl,⟨_,hL⟩,?_⟩
    refine comp_enumB (xs:=ls.map V.int) (fun acc i H2=>Same H H2/\∃ ps,H2 acc=some (.lst (ps.map V.ref))/\(∀ p∈ps,p≠acc)/\TuM H2 ps (prL (ls.take i))) (fun acc h0=>⟨Same.new h0,[],upd_same,(fun p hp=>nomatch hp),TuM.nil⟩) (fun acc i H2 h0 _ p=>SqB.sameL p.1 hL) ?_ ?_
    · rintro acc i x q H2 h0 hx ⟨s2,ps,hacc,hne,hpr⟩ hq
      obtain⟨l,hl,rfl⟩:=map_get hx
      have hi:=(List.getElem?_eq_some_iff.mp hl).1
      have s3:Same H2 (upd H2 q (.tup [.int i,.int l])):=Same.new hq
      have hq3:upd H2 q (.tup [.int i,.int l]) q=some (.tup [.int i,.int l]):=upd_same
      generalize upd H2 q (.tup [.int i,.int l])=H3 at s3 hq3 ⊢
      have hpl:ps.length=i:=by rw[hpr.len,prL_len,List.length_take];omega
      refine⟨q,_,rfl,SqT.of hq3,rfl,_,_,rfl,_,_,rfl,rfl,?_⟩
      refine⟨_,rfl,l,rfl,_,rfl,(by show 2<=sizeLine;decide),fun t ht=>?_⟩
      have hacc3:=s3 _ _ hacc
      have hta:t≠acc:=Ne.symm (ne_of_none hacc3 ht)
      have s45:Same H3 (upd H3 t (.tup [.int (-l),.int i])):=Same.new ht
      have ht5:upd H3 t (.tup [.int (-l),.int i]) t=some (.tup (([-l,(i:Int)]:List Int).map V.int)):=upd_same
      generalize upd H3 t (.tup [.int (-l),.int i])=H5 at s45 ht5 ⊢
      refine⟨_,s45 _ _ hacc3,by rw[List.length_map];omega,by rw[List.length_map];exact hi,(s2.trans (s3.trans s45)).put h0,ps++[t],by rw[upd_same,List.map_append];rfl,fun p hp=>?_,?_⟩
      · rcases List.mem_append.mp hp with hp | hp
        · exact hne p hp
        · rw[List.mem_singleton.mp hp];exact hta
      · have:=(hpr.same (s3.trans s45)).snoc ht5 (by simp)
        rw[<- prL_take hl] at this
        refine this.keep fun p hp=>upd_ne ?_
        rcases List.mem_append.mp hp with hp | hp
        · exact hne p hp
        · rw[List.mem_singleton.mp hp];exact hta
    rintro acc H2 h0 ⟨s2,ps,hacc,hne,hpr⟩
    rw[List.length_map,List.take_length] at hpr
    have hks:∀ p∈ps,kf H2 p≠[]/\H2 p=some (.tup ((kf H2 p).map V.int)):=by
      intro p hp
      obtain⟨k',hk,e⟩:=hpr.1 p hp
      rw[kf_of e]
      exact⟨hk,e⟩
    refine⟨acc,ps,kf H2,rfl,SqL.of hacc,hks,fun fl fs nfl pm up=>?_⟩
    have s23:Same H2 (upd H2 fl (.lst (fs.map V.ref))):=Same.new nfl
    have hfl:upd H2 fl (.lst (fs.map V.ref)) fl=some (.lst (fs.map V.ref)):=upd_same
    have hlf2:TuM H2 fs (fs.map (kf H2)):=⟨fun p hp=>hpr.1 p (pm.mem_iff.mp hp),rfl⟩
    have lfp:(fs.map (kf H2)).Perm (prL ls):=by rw[<- hpr.2];exact pm.map _
    have lfs:(fs.map (kf H2)).Pairwise (fun p q=>lxB q p=false):=List.pairwise_map.mpr up
    have hlf:=hlf2.same s23
    generalize fs.map (kf H2)=lf at hlf lfp lfs
    generalize upd H2 fl (.lst (fs.map V.ref))=H3 at s23 hfl hlf ⊢
    have s03:=s2.trans s23
    refine⟨(by show 1<=sizeLine;decide),fun n1 nn1=>?_⟩
    have x1:upd H3 n1 (.lst [.non]) n1=some (.lst [.non]):=upd_same
    have u1:Same H3 (upd H3 n1 (.lst [.non])):=Same.new nn1
    generalize upd H3 n1 (.lst [.non])=H4 at x1 u1 ⊢
    have s04:=s03.trans u1
    refine⟨_,rfl,ll,_,rfl,SqB.orL (SqB.sameL s04 hL),n1,_,_,rfl,rfl,x1,by omega,by rw[List.length_map];omega,by rw[List.length_map];show 1*_<=_;omega,fun pl npl=>?_⟩
    rw[rep_non,List.length_map,Int.toNat_natCast]
    have x2:upd H4 pl (.lst (List.replicate ls.length V.non)) pl=some (.lst (List.replicate ls.length V.non)):=upd_same
    have u2:Same H4 (upd H4 pl (.lst (List.replicate ls.length V.non))):=Same.new npl
    generalize upd H4 pl (.lst (List.replicate ls.length V.non))=H5 at x2 u2 ⊢
    have plH:H pl=none:=s04.free npl
    have s05:=s04.trans u2
    have s35:=u1.trans u2
    refine⟨_,rfl,_,rfl,_,rfl,ll,_,rfl,SqB.orL (SqB.sameL s05 hL),?_⟩
    rw[List.length_map]
    refine⟨a,rs,N,ls.length,rfl,s05 _ _ hA,hT.same s05,hN,hF,fun gl gs lp H6 ngl hgl hlp lpp lps s6=>?_⟩
    have s06:=s05.trans s6
    have s36:=s35.trans s6
    have hpl6:=s6 _ _ x2
    have gll:gs.length=N.flatten.length:=by rw[hlp.len,lpp.length_eq,trip_len]
    have fsl:fs.length=ls.length:=by rw[hlf.len,lfp.length_eq,prL_len]
    have hnd:=rows_nodup lfp
    have hflpl:fl≠pl:=ne_of_none (u1 _ _ hfl) npl
    have hglpl:gl≠pl:=Ne.symm (ne_of_none x2 ngl)
    refine⟨true,true,fl,gl,rfl,⟨_,SqL.of (s36 _ _ hfl)⟩,⟨_,SqL.of hgl⟩,?_⟩
    refine for_zip (b1:=true) (b2:=true) (xs:=fs.map V.ref) (ys:=(gs.take ls.length).map V.ref) (by rw[List.length_map,List.length_map,List.length_take];omega)
      (fun t σ H7=>∃ (o4 o5 o6 o7 o8:Option V) (vs:List V),σ=[some (.ref a),some (.ref ll),some (.ref fl),some (.ref pl),o4,o5,o6,o7,o8]/\H7 pl=some (.lst vs)/\vs.length=ls.length/\(∀ b o,H6 b=some o->b≠pl->H7 b=some o) /\
        (∀ (s:Nat) f p,s<t->lf[s]?=some f->lp[s]?=some p->∃ q,vs[(f.getD 1 0).toNat]?=some (.ref q)/\H7 q=some (.tup [.int (p.getD 1 0),.int (p.getD 2 0)])/\q≠pl))
      ⟨_,_,_,_,_,_,rfl,hpl6,by rw[List.length_replicate],fun _ _ e _=>e,fun s f p h=>absurd h (Nat.not_lt_zero _)⟩ ?_ ?_ ?_
    · rintro i σ H7 _ ⟨_,_,_,_,_,_,_,_,_,fr,_⟩
      exact⟨SqL.of (fr _ _ (s36 _ _ hfl) hflpl),SqL.of (fr _ _ hgl hglpl)⟩
    · rintro t x y u σ H7 hx hy ⟨o4,o5,o6,o7,o8,vs,rfl,hv,hvl,fr,hdone⟩ nu
      obtain⟨xa,hxa,rfl⟩:=get_ref hx
      obtain⟨ya,hya,rfl⟩:=get_ref hy
      have htl:=(List.getElem?_eq_some_iff.mp hxa).1
      rw[List.getElem?_take,if_pos (by omega)] at hya
      obtain⟨f,hf,hxf⟩:=hlf.at hxa
      obtain⟨p,hp,hyp⟩:=hlp.at hya
      have hxpl:xa≠pl:=ne_of_none (u1 _ _ hxf) npl
      have hypl:ya≠pl:=fun z=>by rw[z,hpl6] at hyp;cases hyp
      obtain⟨j,l,ef,hj⟩:=prL_mem (lfp.mem_iff.mp (List.mem_of_getElem? hf))
      obtain⟨r,jj,z,xs,ep,hr',hz'⟩:=trip_mem (lpp.mem_iff.mp (List.mem_of_getElem? hp))
      have hjl:=(List.getElem?_eq_some_iff.mp hj).1
      have hx7:=fr _ _ (s36 _ _ hxf) hxpl
      have hy7:=fr _ _ hyp hypl
      have su:Same H7 (upd H7 u (.tup [.ref xa,.ref ya])):=Same.new nu
      have hu3:upd H7 u (.tup [.ref xa,.ref ya]) u=some (.tup [.ref xa,.ref ya]):=upd_same
      generalize upd H7 u (.tup [.ref xa,.ref ya])=H8 at su hu3 ⊢
      have hx8:H8 xa=some (.tup [.int (-l),.int (j:Int)]):=by have:=su _ _ hx7;rw[ef] at this;exact this
      have hy8:H8 ya=some (.tup [.int z,.int ((0+r:Nat):Int),.int (jj:Int)]):=by have:=su _ _ hy7;rw[ep] at this;exact this
      refine⟨u,_,rfl,SqT.of hu3,rfl,_,_,rfl,xa,_,rfl,SqT.of hx8,rfl,_,_,rfl,_,_,rfl,rfl,_,_,rfl,ya,_,rfl,SqT.of hy8,rfl,_,_,rfl,_,_,rfl,_,_,rfl,rfl,rfl,?_⟩
      refine⟨_,rfl,_,rfl,(by show 2<=sizeLine;decide),fun q nq=>?_⟩
      have hv8:=su _ _ hv
      have hqpl:q≠pl:=Ne.symm (ne_of_none hv8 nq)
      have sq:Same H8 (upd H8 q (.tup [.int ((0+r:Nat):Int),.int (jj:Int)])):=Same.new nq
      have hq9:upd H8 q (.tup [.int ((0+r:Nat):Int),.int (jj:Int)]) q=some (.tup [.int ((0+r:Nat):Int),.int (jj:Int)]):=upd_same
      generalize upd H8 q (.tup [.int ((0+r:Nat):Int),.int (jj:Int)])=H9 at sq hq9 ⊢
      refine⟨_,rfl,_,rfl,pl,vs,(j:Int),j,rfl,rfl,sq _ _ hv8,?_,?_⟩
      · have:=ixN_of (n:=vs.length) (x:=(j:Int)) (by omega) (by omega)
        rwa [Int.toNat_natCast] at this
      refine⟨_,_,_,_,_,vs.set j (.ref q),rfl,upd_same,by rw[List.length_set];exact hvl,fun b o e hb=>?_,fun s f' p' hs hf' hp'=>?_⟩
      · rw[upd_ne hb]
        exact sq _ _ (su _ _ (fr b o e hb))
      · by_cases est:s=t
        · subst est
          rw[hf] at hf'
          rw[hp] at hp'
          cases hf'
          cases hp'
          refine⟨q,?_,?_,hqpl⟩
          · rw[ef]
            show (vs.set j (.ref q))[(j:Int).toNat]?=_
            rw[Int.toNat_natCast]
            exact List.getElem?_set_self (by omega)
          · rw[upd_ne hqpl,ep]
            exact hq9
        · obtain⟨q',g1,g2,g3⟩:=hdone s f' p' (by omega) hf' hp'
          obtain⟨j',l',ef',hj'⟩:=prL_mem (lfp.mem_iff.mp (List.mem_of_getElem? hf'))
          have hjj:j≠j':=fun zz=>by
            have a1:(lf.map fun f=>f.getD 1 0)[s]?=some (j':Int):=by rw[List.getElem?_map,hf',ef'];rfl
            have a2:(lf.map fun f=>f.getD 1 0)[t]?=some (j:Int):=by rw[List.getElem?_map,hf,ef];rfl
            rw[<- zz] at a1
            have b1:=List.getElem?_eq_some_iff.mp a1
            have b2:=List.getElem?_eq_some_iff.mp a2
            exact est ((List.getElem_inj hnd).mp (b1.2.trans b2.2.symm))
          refine⟨q',?_,?_,g3⟩
          · rw[ef'] at g1 ⊢
            have g1:vs[(j':Int).toNat]?=some (.ref q'):=g1
            show (vs.set j (.ref q))[(j':Int).toNat]?=_
            rw[Int.toNat_natCast] at g1 ⊢
            rw[List.getElem?_set_ne hjj]
            exact g1
          · rw[upd_ne g3]
            exact sq _ _ (su _ _ g2)
    · rintro σ H7 ⟨o4,o5,o6,o7,o8,vs,rfl,hv,hvl,fr,hdone⟩
      rw[List.length_map] at hdone
      have s07:Same H H7:=fun b o e=>fr b o (s06 _ _ e) (ne_of_none e plH)
      have lfl:lf.length=ls.length:=by rw[lfp.length_eq,prL_len]
      have lpl:lp.length=N.flatten.length:=by rw[lpp.length_eq,trip_len]
      obtain⟨qs,ks,hvq,hM,hin⟩:=all_tup (H:=H7) (N:=N) (vs:=vs) fun j hj=>by
        obtain⟨l,hl⟩:∃ l,ls[j]?=some l:=⟨_,List.getElem?_eq_getElem (by omega)⟩
        obtain⟨s,hs⟩:=List.mem_iff_getElem?.mp (lfp.mem_iff.mpr (List.mem_of_getElem? (prL_at hl)))
        have hsl:=(List.getElem?_eq_some_iff.mp hs).1
        obtain⟨p,hp⟩:∃ p,lp[s]?=some p:=⟨_,List.getElem?_eq_getElem (by omega)⟩
        obtain⟨q,g1,g2,g3⟩:=hdone s _ p (by omega) hs hp
        obtain⟨r,jj,z,xs,ep,hr',hz'⟩:=trip_mem (lpp.mem_iff.mp (List.mem_of_getElem? hp))
        refine⟨q,[p.getD 1 0,p.getD 2 0],?_,g2,r,jj,xs,by rw[ep,Nat.zero_add];rfl,hr',(List.getElem?_eq_some_iff.mp hz').1⟩
        have g1:vs[(j:Int).toNat]?=some (.ref q):=g1
        rwa [Int.toNat_natCast] at g1
      have ksl:ks.length=ls.length:=by rw[<- hM.len,<- hvl,hvq,List.length_map]
      rw[hvq] at hv
      refine⟨_,rfl,_,rfl,_,rfl,a,ll,pl,b,rs,qs,N,ls,ks,rfl,s07 _ _ hA,hT.same s07,SqB.sameL s07 hL,hv,hM,hin,ksl.symm,hls,hb1,hb2,fun H8 s8=>?_⟩
      refine⟨_,rfl,(by show 2<=sizeLine;decide),fun tt ntt=>?_⟩
      have s9:Same H8 (upd H8 tt (.tup [.int (readV N ls ks).sum,.ref pl])):=Same.new ntt
      have s79:=s8.trans s9
      refine k tt pl qs ks lf lp _ ((s07.trans s8).free ntt) upd_same plH (s79 _ _ hv) (hM.same s79) hin ⟨ksl,lfp,lfs,lpp,lps,fun t f p hf hp=>?_⟩ (s07.trans s79)
      have htl:=(List.getElem?_eq_some_iff.mp hf).1
      obtain⟨q,g1,g2,g3⟩:=hdone t f p (by omega) hf hp
      rw[hvq,List.getElem?_map] at g1
      cases eq:qs[(f.getD 1 0).toNat]? with
      | none=>rw[eq] at g1;cases g1
      | some q2=>
        rw[eq] at g1
        cases g1
        obtain⟨kk,h1,h2⟩:=hM.at eq
        have e1:=kf_of h2
        have e2:=kf_of (k:=[p.getD 1 0,p.getD 2 0]) g2
        rw[h1,<- e1,e2]
end
end Fj75
namespace Fj75
open PySem L2 Lv
section
variable {P:Program}{w:World}{K:PySem.W.Frag}{mg:Str->Option Value}{base:Heap}
theorem scPotT:FnScope ["script","k","cell","prime"] ["script","k"] (defScope sPotT):=⟨rfl,rfl,rfl,by decide +kernel,rfl,by decide +kernel,by decide +kernel⟩
theorem ix5 {d:Int} (h0:0<=d) (h1:d<5):∃ v:Int,atI [V.int 2147483629,.int 2147483587,.int 2147483579,.int 2147483563,.int 2147483549] d=some (.int v)/\0<v/\v<=2147483647:=by
  have:d=0∨d=1∨d=2∨d=3∨d=4:=by omega
  rcases this with rfl | rfl | rfl | rfl | rfl
  all_goals exact⟨_,rfl,by decide,by decide⟩
theorem ok_potT {f:Addr}{fd:FuncData} (F:Fun K "_law_pot" "_law_pot" sPotT f fd) (T:Txt mg):FnOk P w K mg base CX0 1 f fd ["script","k"] (spPotT K):=by
  refine F.ok scPotT (fun vs H Q E h=>?_) (fun cdv A outer s H vs Q E hr h=>?_)
  · obtain⟨a,ns,i,rfl,_⟩:=h
    rfl
  · obtain⟨a,ns,i,rfl,hS,i0,i1,k⟩:=h
    refine⟨_,pss_cons (ps_set (i:=2) scPotT.nd rfl (Or.inl rfl) pe_int)
      (pss_cons (ps_if (pt_cmpR op_lt (pv 1) (pe_callB call_len_seq rfl T.len PySem.boot_len (pa_cons (pv 0) pa_nil)) (nomark _)) (pss_one (ps_set (i:=2) scPotT.nd rfl (Or.inl rfl) (pe_op op_mod (pe_ix ix_list (pv 0) (pv 1) (fun _ _=>rfl)) (pe_op op_mulB (pe_op op_mulB (pe_op op_pow pe_int pe_int) (pe_op op_pow pe_int pe_int)) (pe_op op_pow pe_int pe_int))))) pss_nil)
      (pss_cons (ps_set (i:=3) scPotT.nd rfl (Or.inl rfl) (pe_ix ix_list (pe_lst (pa_cons pe_int (pa_cons pe_int (pa_cons pe_int (pa_cons pe_int (pa_cons pe_int pa_nil)))))) (pe_op op_mod (pv 1) pe_int) (fun _ _=>rfl)))
      (pss_one (ps_ret (pe_lst (pa_cons (pe_callB (call_max2 rfl) rfl T.max b_max (pa_cons pe_int (pa_cons (pe_op op_sub (pv 2) (pe_op op_pow pe_int pe_int)) pa_nil)))
        (pa_cons (pe_op op_mod (pe_op op_pow (pe_op op_add (pe_op op_add (pe_op op_mod (pv 2) (pv 3)) (pe_op op_mul pe_int (pv 1))) pe_int) pe_int) pe_int) pa_nil))))))),?_⟩
    refine cut2 (fun σ' H'=>∃ c:Int,σ'=[some (.ref a),some (.int i),some (.int c),none]/\H'=H) (fun R2 hR2=>?_) ?_
    · refine⟨_,rfl,_,rfl,a,_,rfl,.inl hS,_,_,rfl,rfl,_,rfl,?_⟩
      refine ite2 (fun hc=>?_) (fun hc=>hR2 _ _ ⟨_,rfl,rfl⟩)
      have hc':i<(ns.length:Int):=by have:=of_decide_eq_true hc;rwa [List.length_map] at this
      obtain⟨w1,w2,w3⟩:=pow60
      refine⟨_,rfl,_,rfl,a,_,i,_,rfl,rfl,hS,atI_int i0 hc',?_⟩
      refine⟨10,60,rfl,rfl,⟨by decide,by decide,by decide⟩,10,60,rfl,rfl,⟨by decide,by decide,by decide⟩,_,_,rfl,rfl,⟨1000,1000,w2,w2,by decide⟩,10,60,rfl,rfl,⟨by decide,by decide,by decide⟩,_,_,rfl,rfl,⟨1000,1000,w3,w2,by decide⟩,_,_,rfl,rfl,w1,?_⟩
      exact hR2 _ _ ⟨_,rfl,rfl⟩
    · rintro σ' H' ⟨c,rfl,rfl⟩
      refine⟨(by show 5<=sizeLine;decide),fun q hq=>?_⟩
      refine⟨_,rfl,i,5,rfl,rfl,(by show (0:Int)<5;decide),?_⟩
      obtain⟨v,ev,v0,v1⟩:=ix5 (Int.emod_nonneg i (show (5:Int)≠0 by decide)) (Int.emod_lt_of_pos i (show (0:Int)<5 by decide))
      refine⟨q,_,_,_,rfl,rfl,SqL.of upd_same,ev,?_⟩
      refine⟨_,rfl,10,18,rfl,rfl,⟨by decide,by decide,by decide⟩,_,_,rfl,rfl,_,_,rfl,?_⟩
      refine⟨_,rfl,_,rfl,c,v,rfl,rfl,v0,_,rfl,7919,i,rfl,rfl,.inl ⟨by decide,by decide⟩,_,_,rfl,rfl,_,11,rfl,rfl,_,3,rfl,rfl,⟨by decide,by decide,?_⟩,_,2147483647,rfl,rfl,(by show (0:Int)<2147483647;decide),(by show 2<=sizeLine;decide),fun l hl=>?_⟩
      · have m0:=Int.emod_nonneg c (show v≠0 by omega)
        have m1:=Int.emod_lt_of_pos c v0
        generalize c % v=y at m0 m1
        omega
      · refine k l _ ((Same.new hq).free hl) ⟨_,_,upd_same,Int.emod_nonneg _ (by decide),?_⟩ ((Same.new hq).trans (Same.new hl))
        exact Int.lt_trans (Int.emod_lt_of_pos _ (by decide)) (by decide)
theorem scTakeT:FnScope ["pot","many","found"] ["pot","many"] (defScope sTakeT):=⟨rfl,rfl,rfl,by decide +kernel,rfl,by decide +kernel,by decide +kernel⟩
theorem ok_takeT {f:Addr}{fd:FuncData} (F:Fun K "_law_take" "_law_take" sTakeT f fd) (T:Txt mg):FnOk P w K mg base CX0 1 f fd ["pot","many"] spTakeT:=by
  refine F.ok scTakeT (fun vs H Q E h=>?_) (fun cdv A outer s H vs Q E hr h=>?_)
  · obtain⟨p,m,rfl,_⟩:=h
    rfl
  · obtain⟨p,m,rfl,⟨a,b,hp,b0,b1⟩,h0,h1,k⟩:=h
    refine⟨_,pss_cons (ps_if (pt_cmpR op_gt (pe_ix ix_list (pv 0) pe_int (fun _ _=>rfl)) pe_int (nomark _))
        (pss_cons (ps_set (i:=2) scTakeT.nd rfl (Or.inl rfl) (pe_op op_mod (pe_ix ix_list (pv 0) pe_int (fun _ _=>rfl)) (pv 1)))
        (pss_cons (ps_asg (pe_op op_fdivB (pe_ix ix_list (pv 0) pe_int (fun _ _=>rfl)) (pv 1)) (pg_sub (pv 0) pe_int set_list))
        (pss_one (ps_ret (pv 2))))) pss_nil)
      (pss_cons (ps_asg (pe_op op_mod (pe_op op_add (pe_op op_mul (pe_ix ix_list (pv 0) pe_int (fun _ _=>rfl)) pe_int) pe_int) pe_int) (pg_sub (pv 0) pe_int set_list))
      (pss_one (ps_ret (pe_op op_mod (pe_op op_fdiv (pe_op op_mod (pe_op op_pow (pe_ix ix_list (pv 0) pe_int (fun _ _=>rfl)) pe_int) pe_int) pe_int) (pv 1))))),?_⟩
    refine⟨_,rfl,p,_,0,.int a,rfl,rfl,SqL.of hp,rfl,_,_,rfl,rfl,_,rfl,?_⟩
    refine ite2 (fun _=>?_) (fun _=>?_)
    · refine⟨_,rfl,p,_,0,.int a,rfl,rfl,SqL.of hp,rfl,_,rfl,a,m,rfl,rfl,h0,?_⟩
      refine⟨_,rfl,p,_,0,.int a,rfl,rfl,SqL.of hp,rfl,_,rfl,a,m,rfl,rfl,⟨h0,h1⟩,_,rfl,p,_,0,0,rfl,rfl,hp,rfl,_,rfl,?_⟩
      exact k _ _ (Int.emod_nonneg _ (by omega)) (Int.emod_lt_of_pos _ h0) ⟨_,_,upd_same,b0,b1⟩ Sm.put
    · have n0:=Int.emod_nonneg (b*48271+12820163) (show (2147483647:Int)≠0 by decide)
      have n1:=Int.emod_lt_of_pos (b*48271+12820163) (show (0:Int)<2147483647 by decide)
      refine⟨_,rfl,p,_,1,.int b,rfl,rfl,SqL.of hp,rfl,b,48271,rfl,rfl,.inr ⟨by decide,by decide⟩,_,12820163,rfl,rfl,_,2147483647,rfl,rfl,(by show (0:Int)<2147483647;decide),_,rfl,p,_,1,1,rfl,rfl,hp,rfl,?_⟩
      have hp1:(upd H p (.lst ([V.int a,.int b].set 1 (.int ((b*48271+12820163) % 2147483647))))) p=some (.lst [.int a,.int ((b*48271+12820163) % 2147483647)]):=by rw[upd_same];rfl
      refine⟨_,rfl,p,_,1,.int ((b*48271+12820163) % 2147483647),rfl,rfl,SqL.of hp1,rfl,_,3,rfl,rfl,⟨by decide,by decide,?_⟩,_,2147483629,rfl,rfl,(by show (0:Int)<2147483629;decide),_,8,rfl,rfl,⟨by decide,by decide⟩,_,rfl,_,m,rfl,rfl,h0,?_⟩
      · generalize (b*48271+12820163) % 2147483647=y at n0 n1
        omega
      · exact k _ _ (Int.emod_nonneg _ (by omega)) (Int.emod_lt_of_pos _ h0) ⟨_,_,hp1,n0,Int.lt_trans n1 (by decide)⟩ Sm.put
end
end Fj75
namespace Fj75
open PySem L2 Lv
theorem len1 {P:List Value->Prop} (us:List Value) (hl:us.length=1) (h:∀ a0:Value,P [a0]):P us:=by
  match us,hl with
  | [a0],_=>exact h a0
theorem len2 {P:List Value->Prop} (us:List Value) (hl:us.length=2) (h:∀ a0 a1:Value,P [a0,a1]):P us:=by
  match us,hl with
  | [a0,a1],_=>exact h a0 a1
theorem len3 {P:List Value->Prop} (us:List Value) (hl:us.length=3) (h:∀ a0 a1 a2:Value,P [a0,a1,a2]):P us:=by
  match us,hl with
  | [a0,a1,a2],_=>exact h a0 a1 a2
theorem all_mk {l:PySem.W.OpenLaw}{w:World}{K:PySem.W.Frag}{h:Heap}{mg:Str->Option Value}{fa f0 f1 f2 f3 f4 f5 f6 f7 f8 f9 f10 f11 f12 f13 f14 f15 f16 f17 f18 f19 f20 f21 f22 f23 f24 f25 f26 f27 f28 f29:Addr}{tk0 tk1 tk2:Tok} (X:K.In h) (G:h.Ns mainGlobals mg) (hfa:mg "law"=some (.ref fa))
    {od0 an0 od1 an1 od2 an2 od3 an3 od4 an4 od5 an5 od6 an6 od7 an7 od8 an8 od9 an9 od10 an10 od11 an11 od12 an12 od13 an13 od14 an14 od15 an15 od16 an16 od17 an17 od18 an18 od19 an19 od20 an20 od21 an21 od22 an22 od23 an23 od24 an24 od25 an25 od26 an26 od27 an27 od28 an28 od29 an29:Option Addr}{sl0 sl1 sl2 sl3 sl4 sl5 sl6 sl7 sl8 sl9 sl10 sl11 sl12 sl13 sl14 sl15 sl16 sl17 sl18 sl19 sl20 sl21 sl22 sl23 sl24 sl25 sl26 sl27 sl28 sl29:Array (Option Value)}{oc0 kV0 dc0 pm0 cd0 ct0 oc1 kV1 dc1 pm1 cd1 ct1 oc2 kV2 dc2 pm2 cd2 ct2 oc3 kV3 dc3 pm3 cd3 ct3 oc4 kV4 dc4 pm4 cd4 ct4 oc5 kV5 dc5 pm5 cd5 ct5 oc6 kV6 dc6 pm6 cd6 ct6 oc7 kV7 dc7 pm7 cd7 ct7 oc8 kV8 dc8 pm8 cd8 ct8 oc9 kV9 dc9 pm9 cd9 ct9 oc10 kV10 dc10 pm10 cd10 ct10 oc11 kV11 dc11 pm11 cd11 ct11 oc12 kV12 dc12 pm12 cd12 ct12 oc13 kV13 dc13 pm13 cd13 ct13 oc14 kV14 dc14 pm14 cd14 ct14 oc15 kV15 dc15 pm15 cd15 ct15 oc16 kV16 dc16 pm16 cd16 ct16 oc17 kV17 dc17 pm17 cd17 ct17 oc18 kV18 dc18 pm18 cd18 ct18 oc19 kV19 dc19 pm19 cd19 ct19 oc20 kV20 dc20 pm20 cd20 ct20 oc21 kV21 dc21 pm21 cd21 ct21 oc22 kV22 dc22 pm22 cd22 ct22 oc23 kV23 dc23 pm23 cd23 ct23 oc24 kV24 dc24 pm24 cd24 ct24 oc25 kV25 dc25 pm25 cd25 ct25 oc26 kV26 dc26 pm26 cd26 ct26 oc27 kV27 dc27 pm27 cd27 ct27 oc28 kV28 dc28 pm28 cd28 ct28 oc29 kV29 dc29 pm29 cd29 ct29:Value}
    (a0:PySem.W.nsIn K mainGlobals "is_whole"=some (some (.ref f0))) (l0:K.lookup f0=some ⟨oc0,od0,.func (PySem.W.fnOf "is_whole" "is_whole" (defArgs sWhole) (defBody sWhole) (defScope sWhole) .none kV0 dc0 pm0 an0 cd0 ct0),sl0⟩) (c0:PySem.W.codeIn K cd0 "is_whole"=true) (k0:PySem.W.keepIn K (.ref f0)=true)
    (a1:PySem.W.nsIn K mainGlobals "check_ways"=some (some (.ref f1))) (l1:K.lookup f1=some ⟨oc1,od1,.func (PySem.W.fnOf "check_ways" "check_ways" (defArgs sWays) (defBody sWays) (defScope sWays) .none kV1 dc1 pm1 an1 cd1 ct1),sl1⟩) (c1:PySem.W.codeIn K cd1 "check_ways"=true) (k1:PySem.W.keepIn K (.ref f1)=true)
    (a2:PySem.W.nsIn K mainGlobals "first_numbers"=some (some (.ref f2))) (l2:K.lookup f2=some ⟨oc2,od2,.func (PySem.W.fnOf "first_numbers" "first_numbers" (defArgs sFirstN) (defBody sFirstN) (defScope sFirstN) .none kV2 dc2 pm2 an2 cd2 ct2),sl2⟩) (c2:PySem.W.codeIn K cd2 "first_numbers"=true) (k2:PySem.W.keepIn K (.ref f2)=true)
    (a3:PySem.W.nsIn K mainGlobals "next_numbers"=some (some (.ref f3))) (l3:K.lookup f3=some ⟨oc3,od3,.func (PySem.W.fnOf "next_numbers" "next_numbers" (defArgs sNextN) (defBody sNextN) (defScope sNextN) .none kV3 dc3 pm3 an3 cd3 ct3),sl3⟩) (c3:PySem.W.codeIn K cd3 "next_numbers"=true) (k3:PySem.W.keepIn K (.ref f3)=true)
    (a4:PySem.W.nsIn K mainGlobals "places_in"=some (some (.ref f4))) (l4:K.lookup f4=some ⟨oc4,od4,.func (PySem.W.fnOf "places_in" "places_in" (defArgs sPlacesIn) (defBody sPlacesIn) (defScope sPlacesIn) .none kV4 dc4 pm4 an4 cd4 ct4),sl4⟩) (c4:PySem.W.codeIn K cd4 "places_in"=true) (k4:PySem.W.keepIn K (.ref f4)=true)
    (a5:PySem.W.nsIn K mainGlobals "numbers_told"=some (some (.ref f5))) (l5:K.lookup f5=some ⟨oc5,od5,.func (PySem.W.fnOf "numbers_told" "numbers_told" (defArgs sTold) (defBody sTold) (defScope sTold) .none kV5 dc5 pm5 an5 cd5 ct5),sl5⟩) (c5:PySem.W.codeIn K cd5 "numbers_told"=true) (k5:PySem.W.keepIn K (.ref f5)=true)
    (a6:PySem.W.nsIn K mainGlobals "least_places"=some (some (.ref f6))) (l6:K.lookup f6=some ⟨oc6,od6,.func (PySem.W.fnOf "least_places" "least_places" (defArgs sLeastP) (defBody sLeastP) (defScope sLeastP) .none kV6 dc6 pm6 an6 cd6 ct6),sl6⟩) (c6:PySem.W.codeIn K cd6 "least_places"=true) (k6:PySem.W.keepIn K (.ref f6)=true)
    (a7:PySem.W.nsIn K mainGlobals "reading_by"=some (some (.ref f7))) (l7:K.lookup f7=some ⟨oc7,od7,.func (PySem.W.fnOf "reading_by" "reading_by" (defArgs sReadBy) (defBody sReadBy) (defScope sReadBy) .none kV7 dc7 pm7 an7 cd7 ct7),sl7⟩) (c7:PySem.W.codeIn K cd7 "reading_by"=true) (k7:PySem.W.keepIn K (.ref f7)=true)
    (a8:PySem.W.nsIn K mainGlobals "least_by"=some (some (.ref f8))) (l8:K.lookup f8=some ⟨oc8,od8,.func (PySem.W.fnOf "least_by" "least_by" (defArgs sLeastBy) (defBody sLeastBy) (defScope sLeastBy) .none kV8 dc8 pm8 an8 cd8 ct8),sl8⟩) (c8:PySem.W.codeIn K cd8 "least_by"=true) (k8:PySem.W.keepIn K (.ref f8)=true)
    (a9:PySem.W.nsIn K mainGlobals "best_by"=some (some (.ref f9))) (l9:K.lookup f9=some ⟨oc9,od9,.func (PySem.W.fnOf "best_by" "best_by" (defArgs sBestBy) (defBody sBestBy) (defScope sBestBy) .none kV9 dc9 pm9 an9 cd9 ct9),sl9⟩) (c9:PySem.W.codeIn K cd9 "best_by"=true) (k9:PySem.W.keepIn K (.ref f9)=true)
    (a10:PySem.W.nsIn K mainGlobals "best_placing"=some (some (.ref f10))) (l10:K.lookup f10=some ⟨oc10,od10,.func (PySem.W.fnOf "best_placing" "best_placing" (defArgs sBPl) (defBody sBPl) (defScope sBPl) .none kV10 dc10 pm10 an10 cd10 ct10),sl10⟩) (c10:PySem.W.codeIn K cd10 "best_placing"=true) (k10:PySem.W.keepIn K (.ref f10)=true)
    (a11:PySem.W.nsIn K mainGlobals "next_cascade_numbers"=some (some (.ref f11))) (l11:K.lookup f11=some ⟨oc11,od11,.func (PySem.W.fnOf "next_cascade_numbers" "next_cascade_numbers" (defArgs sNextKN) (defBody sNextKN) (defScope sNextKN) .none kV11 dc11 pm11 an11 cd11 ct11),sl11⟩) (c11:PySem.W.codeIn K cd11 "next_cascade_numbers"=true) (k11:PySem.W.keepIn K (.ref f11)=true)
    (a12:PySem.W.nsIn K mainGlobals "long_cascade"=some (some (.ref f12))) (l12:K.lookup f12=some ⟨oc12,od12,.func (PySem.W.fnOf "long_cascade" "long_cascade" (defArgs sLongC) (defBody sLongC) (defScope sLongC) .none kV12 dc12 pm12 an12 cd12 ct12),sl12⟩) (c12:PySem.W.codeIn K cd12 "long_cascade"=true) (k12:PySem.W.keepIn K (.ref f12)=true)
    (a13:PySem.W.nsIn K mainGlobals "first_many"=some (some (.ref f13))) (l13:K.lookup f13=some ⟨oc13,od13,.func (PySem.W.fnOf "first_many" "first_many" (defArgs sFstM) (defBody sFstM) (defScope sFstM) .none kV13 dc13 pm13 an13 cd13 ct13),sl13⟩) (c13:PySem.W.codeIn K cd13 "first_many"=true) (k13:PySem.W.keepIn K (.ref f13)=true)
    (a14:PySem.W.nsIn K mainGlobals "least_join"=some (some (.ref f14))) (l14:K.lookup f14=some ⟨oc14,od14,.func (PySem.W.fnOf "least_join" "least_join" (defArgs sLJoin) (defBody sLJoin) (defScope sLJoin) .none kV14 dc14 pm14 an14 cd14 ct14),sl14⟩) (c14:PySem.W.codeIn K cd14 "least_join"=true) (k14:PySem.W.keepIn K (.ref f14)=true)
    (a15:PySem.W.nsIn K mainGlobals "balanced_passes"=some (some (.ref f15))) (l15:K.lookup f15=some ⟨oc15,od15,.func (PySem.W.fnOf "balanced_passes" "balanced_passes" (defArgs sBalP) (defBody sBalP) (defScope sBalP) .none kV15 dc15 pm15 an15 cd15 ct15),sl15⟩) (c15:PySem.W.codeIn K cd15 "balanced_passes"=true) (k15:PySem.W.keepIn K (.ref f15)=true)
    (a16:PySem.W.nsIn K mainGlobals "balanced_reading"=some (some (.ref f16))) (l16:K.lookup f16=some ⟨oc16,od16,.func (PySem.W.fnOf "balanced_reading" "balanced_reading" (defArgs sBalR) (defBody sBalR) (defScope sBalR) .none kV16 dc16 pm16 an16 cd16 ct16),sl16⟩) (c16:PySem.W.codeIn K cd16 "balanced_reading"=true) (k16:PySem.W.keepIn K (.ref f16)=true)
    (a17:PySem.W.nsIn K mainGlobals "held_lengths"=some (some (.ref f17))) (l17:K.lookup f17=some ⟨oc17,od17,.func (PySem.W.fnOf "held_lengths" "held_lengths" (defArgs sHL) (defBody sHL) (defScope sHL) .none kV17 dc17 pm17 an17 cd17 ct17),sl17⟩) (c17:PySem.W.codeIn K cd17 "held_lengths"=true) (k17:PySem.W.keepIn K (.ref f17)=true)
    (a18:PySem.W.nsIn K mainGlobals "better_way"=some (some (.ref f18))) (l18:K.lookup f18=some ⟨oc18,od18,.func (PySem.W.fnOf "better_way" "better_way" (defArgs sBW) (defBody sBW) (defScope sBW) .none kV18 dc18 pm18 an18 cd18 ct18),sl18⟩) (c18:PySem.W.codeIn K cd18 "better_way"=true) (k18:PySem.W.keepIn K (.ref f18)=true)
    (a19:PySem.W.nsIn K mainGlobals "_law_pot"=some (some (.ref f19))) (l19:K.lookup f19=some ⟨oc19,od19,.func (PySem.W.fnOf "_law_pot" "_law_pot" (defArgs sPotT) (defBody sPotT) (defScope sPotT) .none kV19 dc19 pm19 an19 cd19 ct19),sl19⟩) (c19:PySem.W.codeIn K cd19 "_law_pot"=true) (k19:PySem.W.keepIn K (.ref f19)=true)
    (a20:PySem.W.nsIn K mainGlobals "_law_take"=some (some (.ref f20))) (l20:K.lookup f20=some ⟨oc20,od20,.func (PySem.W.fnOf "_law_take" "_law_take" (defArgs sTakeT) (defBody sTakeT) (defScope sTakeT) .none kV20 dc20 pm20 an20 cd20 ct20),sl20⟩) (c20:PySem.W.codeIn K cd20 "_law_take"=true) (k20:PySem.W.keepIn K (.ref f20)=true)
    (a21:PySem.W.nsIn K mainGlobals "_law_further"=some (some (.ref f21))) (l21:K.lookup f21=some ⟨oc21,od21,.func (PySem.W.fnOf "_law_further" "_law_further" (defArgs sFur) (defBody sFur) (defScope sFur) .none kV21 dc21 pm21 an21 cd21 ct21),sl21⟩) (c21:PySem.W.codeIn K cd21 "_law_further"=true) (k21:PySem.W.keepIn K (.ref f21)=true)
    (a22:PySem.W.nsIn K mainGlobals "_law_numbers"=some (some (.ref f22))) (l22:K.lookup f22=some ⟨oc22,od22,.func (PySem.W.fnOf "_law_numbers" "_law_numbers" (defArgs sNms) (defBody sNms) (defScope sNms) .none kV22 dc22 pm22 an22 cd22 ct22),sl22⟩) (c22:PySem.W.codeIn K cd22 "_law_numbers"=true) (k22:PySem.W.keepIn K (.ref f22)=true)
    (a23:PySem.W.nsIn K mainGlobals "_law_log_reading"=some (some (.ref f23))) (l23:K.lookup f23=some ⟨oc23,od23,.func (PySem.W.fnOf "_law_log_reading" "_law_log_reading" (defArgs sLogR75) (defBody sLogR75) (defScope sLogR75) .none kV23 dc23 pm23 an23 cd23 ct23),sl23⟩) (c23:PySem.W.codeIn K cd23 "_law_log_reading"=true) (k23:PySem.W.keepIn K (.ref f23)=true)
    (a24:PySem.W.nsIn K mainGlobals "_law_passes"=some (some (.ref f24))) (l24:K.lookup f24=some ⟨oc24,od24,.func (PySem.W.fnOf "_law_passes" "_law_passes" (defArgs sLPass) (defBody sLPass) (defScope sLPass) .none kV24 dc24 pm24 an24 cd24 ct24),sl24⟩) (c24:PySem.W.codeIn K cd24 "_law_passes"=true) (k24:PySem.W.keepIn K (.ref f24)=true)
    (a25:PySem.W.nsIn K mainGlobals "_law_lengths"=some (some (.ref f25))) (l25:K.lookup f25=some ⟨oc25,od25,.func (PySem.W.fnOf "_law_lengths" "_law_lengths" (defArgs sLens75) (defBody sLens75) (defScope sLens75) .none kV25 dc25 pm25 an25 cd25 ct25),sl25⟩) (c25:PySem.W.codeIn K cd25 "_law_lengths"=true) (k25:PySem.W.keepIn K (.ref f25)=true)
    (a26:PySem.W.nsIn K mainGlobals "_law_best"=some (some (.ref f26))) (l26:K.lookup f26=some ⟨oc26,od26,.func (PySem.W.fnOf "_law_best" "_law_best" (defArgs sBest75) (defBody sBest75) (defScope sBest75) .none kV26 dc26 pm26 an26 cd26 ct26),sl26⟩) (c26:PySem.W.codeIn K cd26 "_law_best"=true) (k26:PySem.W.keepIn K (.ref f26)=true)
    (a27:PySem.W.nsIn K mainGlobals "_law_whole"=some (some (.ref f27))) (l27:K.lookup f27=some ⟨oc27,od27,.func (PySem.W.fnOf "_law_whole" "_law_whole" (defArgs sLWhole) (defBody sLWhole) (defScope sLWhole) .none kV27 dc27 pm27 an27 cd27 ct27),sl27⟩) (c27:PySem.W.codeIn K cd27 "_law_whole"=true) (k27:PySem.W.keepIn K (.ref f27)=true)
    (a28:PySem.W.nsIn K mainGlobals "_law_kinds"=some (some (.ref f28))) (l28:K.lookup f28=some ⟨oc28,od28,.func (PySem.W.fnOf "_law_kinds" "_law_kinds" (defArgs sKinds75) (defBody sKinds75) (defScope sKinds75) .none kV28 dc28 pm28 an28 cd28 ct28),sl28⟩) (c28:PySem.W.codeIn K cd28 "_law_kinds"=true) (k28:PySem.W.keepIn K (.ref f28)=true)
    (a29:PySem.W.nsIn K mainGlobals "law"=some (some (.ref f29))) (l29:K.lookup f29=some ⟨oc29,od29,.func (PySem.W.fnOf "law" "law" (defArgs sLaw) (defBody sLaw) (defScope sLaw) .none kV29 dc29 pm29 an29 cd29 ct29),sl29⟩) (c29:PySem.W.codeIn K cd29 "law"=true) (k29:PySem.W.keepIn K (.ref f29)=true)
    (y0:PySem.W.nsIn K mainGlobals "LEAST_WAYS"=some (some (.int 2 tk0)))
    (y1:PySem.W.nsIn K mainGlobals "MOST_WAYS"=some (some (.int 7 tk1)))
    (y2:PySem.W.nsIn K mainGlobals "MOST_PLACES"=some (some (.int 4000 tk2)))
    (z0:PySem.W.nsIn K mainGlobals "isinstance"=some none) (z1:PySem.W.nsIn K mainGlobals "int"=some none) (z2:PySem.W.nsIn K mainGlobals "bool"=some none) (z3:PySem.W.nsIn K mainGlobals "list"=some none) (z4:PySem.W.nsIn K mainGlobals "tuple"=some none) (z5:PySem.W.nsIn K mainGlobals "min"=some none) (z6:PySem.W.nsIn K mainGlobals "max"=some none) (z7:PySem.W.nsIn K mainGlobals "len"=some none) (z8:PySem.W.nsIn K mainGlobals "range"=some none) (z9:PySem.W.nsIn K mainGlobals "all"=some none) (z10:PySem.W.nsIn K mainGlobals "sum"=some none) (z11:PySem.W.nsIn K mainGlobals "sorted"=some none) (z12:PySem.W.nsIn K mainGlobals "zip"=some none) (zenumerate:PySem.W.nsIn K mainGlobals "enumerate"=some none) :
    ∃ fd:FuncData,(∀ (s:Shared) (v:Value),BindsTo s fd ⟨[v],[]⟩ [("script",v)])/\∀ base:Heap,K.In base->base.Ns mainGlobals mg->FnOk l.prog w K mg base CX0 6 fa fd ["script"] (spLaw K):=by
  have e:=hfa.symm.trans (PySem.W.mg_of X G a29)
  cases e
  have T:Txt mg:=⟨PySem.W.mg_none_of X G z0,PySem.W.mg_none_of X G z1,PySem.W.mg_none_of X G z2,PySem.W.mg_none_of X G z3,PySem.W.mg_none_of X G z4,PySem.W.mg_none_of X G z5,PySem.W.mg_none_of X G z6,PySem.W.mg_none_of X G z7,PySem.W.mg_none_of X G z8,PySem.W.mg_none_of X G z9,PySem.W.mg_none_of X G z10,PySem.W.mg_none_of X G z11,PySem.W.mg_none_of X G z12⟩
  have F0:=fun_mk (st:=sWhole) l0 c0 k0
  have b0:=F0.binds (ps:=["thing"]) fun _ _ _ _ _ _ us hl=>@len1 (fun us=>bindArgs _ ⟨us,[]⟩=pure (List.zip _ us)) us hl fun _=>rfl
  have F1:=fun_mk (st:=sWays) l1 c1 k1
  have b1:=F1.binds (ps:=["p"]) fun _ _ _ _ _ _ us hl=>@len1 (fun us=>bindArgs _ ⟨us,[]⟩=pure (List.zip _ us)) us hl fun _=>rfl
  have F2:=fun_mk (st:=sFirstN) l2 c2 k2
  have b2:=F2.binds (ps:=["p"]) fun _ _ _ _ _ _ us hl=>@len1 (fun us=>bindArgs _ ⟨us,[]⟩=pure (List.zip _ us)) us hl fun _=>rfl
  have F3:=fun_mk (st:=sNextN) l3 c3 k3
  have b3:=F3.binds (ps:=["numbers"]) fun _ _ _ _ _ _ us hl=>@len1 (fun us=>bindArgs _ ⟨us,[]⟩=pure (List.zip _ us)) us hl fun _=>rfl
  have F4:=fun_mk (st:=sPlacesIn) l4 c4 k4
  have b4:=F4.binds (ps:=["numbers"]) fun _ _ _ _ _ _ us hl=>@len1 (fun us=>bindArgs _ ⟨us,[]⟩=pure (List.zip _ us)) us hl fun _=>rfl
  have F5:=fun_mk (st:=sTold) l5 c5 k5
  have b5:=F5.binds (ps:=["p","following"]) fun _ _ _ _ _ _ us hl=>@len2 (fun us=>bindArgs _ ⟨us,[]⟩=pure (List.zip _ us)) us hl fun _ _=>rfl
  have F6:=fun_mk (st:=sLeastP) l6 c6 k6
  have b6:=F6.binds (ps:=["numbers","many"]) fun _ _ _ _ _ _ us hl=>@len2 (fun us=>bindArgs _ ⟨us,[]⟩=pure (List.zip _ us)) us hl fun _ _=>rfl
  have F7:=fun_mk (st:=sReadBy) l7 c7 k7
  have b7:=F7.binds (ps:=["numbers","lengths","placing"]) fun _ _ _ _ _ _ us hl=>@len3 (fun us=>bindArgs _ ⟨us,[]⟩=pure (List.zip _ us)) us hl fun _ _ _=>rfl
  have F8:=fun_mk (st:=sLeastBy) l8 c8 k8
  have b8:=F8.binds (ps:=["numbers","lengths"]) fun _ _ _ _ _ _ us hl=>@len2 (fun us=>bindArgs _ ⟨us,[]⟩=pure (List.zip _ us)) us hl fun _ _=>rfl
  have F9:=fun_mk (st:=sBestBy) l9 c9 k9
  have b9:=F9.binds (ps:=["levels","lengths"]) fun _ _ _ _ _ _ us hl=>@len2 (fun us=>bindArgs _ ⟨us,[]⟩=pure (List.zip _ us)) us hl fun _ _=>rfl
  have F10:=fun_mk (st:=sBPl) l10 c10 k10
  have b10:=F10.binds (ps:=["p","lengths"]) fun _ _ _ _ _ _ us hl=>@len2 (fun us=>bindArgs _ ⟨us,[]⟩=pure (List.zip _ us)) us hl fun _ _=>rfl
  have F11:=fun_mk (st:=sNextKN) l11 c11 k11
  have b11:=F11.binds (ps:=["numbers"]) fun _ _ _ _ _ _ us hl=>@len1 (fun us=>bindArgs _ ⟨us,[]⟩=pure (List.zip _ us)) us hl fun _=>rfl
  have F12:=fun_mk (st:=sLongC) l12 c12 k12
  have b12:=F12.binds (ps:=["p","lengths"]) fun _ _ _ _ _ _ us hl=>@len2 (fun us=>bindArgs _ ⟨us,[]⟩=pure (List.zip _ us)) us hl fun _ _=>rfl
  have F13:=fun_mk (st:=sFstM) l13 c13 k13
  have b13:=F13.binds (ps:=["p","rows"]) fun _ _ _ _ _ _ us hl=>@len2 (fun us=>bindArgs _ ⟨us,[]⟩=pure (List.zip _ us)) us hl fun _ _=>rfl
  have F14:=fun_mk (st:=sLJoin) l14 c14 k14
  have b14:=F14.binds (ps:=["p","lengths"]) fun _ _ _ _ _ _ us hl=>@len2 (fun us=>bindArgs _ ⟨us,[]⟩=pure (List.zip _ us)) us hl fun _ _=>rfl
  have F15:=fun_mk (st:=sBalP) l15 c15 k15
  have b15:=F15.binds (ps:=["p","rows"]) fun _ _ _ _ _ _ us hl=>@len2 (fun us=>bindArgs _ ⟨us,[]⟩=pure (List.zip _ us)) us hl fun _ _=>rfl
  have F16:=fun_mk (st:=sBalR) l16 c16 k16
  have b16:=F16.binds (ps:=["p","rows","things"]) fun _ _ _ _ _ _ us hl=>@len3 (fun us=>bindArgs _ ⟨us,[]⟩=pure (List.zip _ us)) us hl fun _ _ _=>rfl
  have F17:=fun_mk (st:=sHL) l17 c17 k17
  have b17:=F17.binds (ps:=["p","lengths"]) fun _ _ _ _ _ _ us hl=>@len2 (fun us=>bindArgs _ ⟨us,[]⟩=pure (List.zip _ us)) us hl fun _ _=>rfl
  have F18:=fun_mk (st:=sBW) l18 c18 k18
  have b18:=F18.binds (ps:=["p","lengths"]) fun _ _ _ _ _ _ us hl=>@len2 (fun us=>bindArgs _ ⟨us,[]⟩=pure (List.zip _ us)) us hl fun _ _=>rfl
  have F19:=fun_mk (st:=sPotT) l19 c19 k19
  have b19:=F19.binds (ps:=["script","k"]) fun _ _ _ _ _ _ us hl=>@len2 (fun us=>bindArgs _ ⟨us,[]⟩=pure (List.zip _ us)) us hl fun _ _=>rfl
  have F20:=fun_mk (st:=sTakeT) l20 c20 k20
  have b20:=F20.binds (ps:=["pot","many"]) fun _ _ _ _ _ _ us hl=>@len2 (fun us=>bindArgs _ ⟨us,[]⟩=pure (List.zip _ us)) us hl fun _ _=>rfl
  have F21:=fun_mk (st:=sFur) l21 c21 k21
  have b21:=F21.binds (ps:=["reels","cascade"]) fun _ _ _ _ _ _ us hl=>@len2 (fun us=>bindArgs _ ⟨us,[]⟩=pure (List.zip _ us)) us hl fun _ _=>rfl
  have F22:=fun_mk (st:=sNms) l22 c22 k22
  have b22:=F22.binds (ps:=["reels","most"]) fun _ _ _ _ _ _ us hl=>@len2 (fun us=>bindArgs _ ⟨us,[]⟩=pure (List.zip _ us)) us hl fun _ _=>rfl
  have F23:=fun_mk (st:=sLogR75) l23 c23 k23
  have b23:=F23.binds (ps:=["p","lengths"]) fun _ _ _ _ _ _ us hl=>@len2 (fun us=>bindArgs _ ⟨us,[]⟩=pure (List.zip _ us)) us hl fun _ _=>rfl
  have F24:=fun_mk (st:=sLPass) l24 c24 k24
  have b24:=F24.binds (ps:=["p","rows","whole"]) fun _ _ _ _ _ _ us hl=>@len3 (fun us=>bindArgs _ ⟨us,[]⟩=pure (List.zip _ us)) us hl fun _ _ _=>rfl
  have F25:=fun_mk (st:=sLens75) l25 c25 k25
  have b25:=F25.binds (ps:=["pot"]) fun _ _ _ _ _ _ us hl=>@len1 (fun us=>bindArgs _ ⟨us,[]⟩=pure (List.zip _ us)) us hl fun _=>rfl
  have F26:=fun_mk (st:=sBest75) l26 c26 k26
  have b26:=F26.binds (ps:=["p","lengths","cascade"]) fun _ _ _ _ _ _ us hl=>@len3 (fun us=>bindArgs _ ⟨us,[]⟩=pure (List.zip _ us)) us hl fun _ _ _=>rfl
  have F27:=fun_mk (st:=sLWhole) l27 c27 k27
  have b27:=F27.binds (ps:=["thing"]) fun _ _ _ _ _ _ us hl=>@len1 (fun us=>bindArgs _ ⟨us,[]⟩=pure (List.zip _ us)) us hl fun _=>rfl
  have F28:=fun_mk (st:=sKinds75) l28 c28 k28
  have b28:=F28.binds (ps:=["found"]) fun _ _ _ _ _ _ us hl=>@len1 (fun us=>bindArgs _ ⟨us,[]⟩=pure (List.zip _ us)) us hl fun _=>rfl
  have F29:=fun_mk (st:=sLaw) l29 c29 k29
  refine⟨PySem.W.fnOf "law" "law" (defArgs sLaw) (defBody sLaw) (defScope sLaw) .none kV29 dc29 pm29 an29 cd29 ct29,fun s v=>.of_eq rfl,fun base _ _=>?_⟩
  have m:=fun {x:Str}{v:Value} (a:PySem.W.nsIn K mainGlobals x=some (some v))=>PySem.W.mg_of X G a
  have mLEAST_WAYS:=m y0
  have mMOST_WAYS:=m y1
  have mMOST_PLACES:=m y2
  have Cis_whole:Cal l.prog w K mg base 1 "is_whole" ["thing"] spWhole _ _:=⟨ok_whole F0 T,m a0,k0,b0⟩
  have Ccheck_ways:Cal l.prog w K mg base 2 "check_ways" ["p"] spWays _ _:=⟨ok_ways F1 T mLEAST_WAYS mMOST_WAYS Cis_whole,m a1,k1,b1⟩
  have Cfirst_numbers:Cal l.prog w K mg base 1 "first_numbers" ["p"] spFirstN _ _:=⟨ok_firstN F2 T,m a2,k2,b2⟩
  have Cnext_numbers:Cal l.prog w K mg base 1 "next_numbers" ["numbers"] spNextN _ _:=⟨ok_nextN F3 T,m a3,k3,b3⟩
  have Cplaces_in:Cal l.prog w K mg base 1 "places_in" ["numbers"] spPlacesIn _ _:=⟨ok_placesIn F4 T,m a4,k4,b4⟩
  have Cnumbers_told:Cal l.prog w K mg base 2 "numbers_told" ["p","following"] (spToldM _) _ _:=⟨ok_toldM F5 T mMOST_PLACES Cfirst_numbers Cplaces_in Cnext_numbers,m a5,k5,b5⟩
  have Cleast_places:Cal l.prog w K mg base 1 "least_places" ["numbers","many"] spLeastP _ _:=⟨ok_leastP F6 T (PySem.W.mg_none_of X G zenumerate),m a6,k6,b6⟩
  have Creading_by:Cal l.prog w K mg base 1 "reading_by" ["numbers","lengths","placing"] (spReadBy K) _ _:=⟨ok_readBy F7 T,m a7,k7,b7⟩
  have Cleast_by:Cal l.prog w K mg base 2 "least_by" ["numbers","lengths"] (spLeastBy K) _ _:=⟨ok_leastBy F8 T (PySem.W.mg_none_of X G zenumerate) Cleast_places Creading_by,m a8,k8,b8⟩
  have Cbest_by:Cal l.prog w K mg base 3 "best_by" ["levels","lengths"] (spBestByP K) _ _:=⟨ok_bestByP F9 T (PySem.W.mg_none_of X G zenumerate) Cplaces_in Cleast_by,m a9,k9,b9⟩
  have Cbest_placing:Cal l.prog w K mg base 4 "best_placing" ["p","lengths"] (spBPl K) _ _:=⟨ok_bpl F10 T Ccheck_ways Cnext_numbers Cnumbers_told Cbest_by,m a10,k10,b10⟩
  have Cnext_cascade_numbers:Cal l.prog w K mg base 1 "next_cascade_numbers" ["numbers"] spNextKN _ _:=⟨ok_nextKN F11 T,m a11,k11,b11⟩
  have Ctold:Cal l.prog w K mg base 2 "numbers_told" ["p","following"] (spToldN _) _ _:=⟨ok_told F5 T mMOST_PLACES Cfirst_numbers Cplaces_in Cnext_cascade_numbers,m a5,k5,b5⟩
  have Cbestby:Cal l.prog w K mg base 3 "best_by" ["levels","lengths"] (spBestBy K) _ _:=⟨(ok_bestByP F9 T (PySem.W.mg_none_of X G zenumerate) Cplaces_in Cleast_by).imp (fun vs H Q E h=>bestBy_of h),m a9,k9,b9⟩
  have Clong_cascade:Cal l.prog w K mg base 4 "long_cascade" ["p","lengths"] (spLongC K) _ _:=⟨ok_longC F12 T Ccheck_ways Cnext_cascade_numbers Ctold Cbestby,m a12,k12,b12⟩
  have Cfirst_many:Cal l.prog w K mg base 1 "first_many" ["p","rows"] spFstM _ _:=⟨ok_fstM F13,m a13,k13,b13⟩
  have Cleast_join:Cal l.prog w K mg base 3 "least_join" ["p","lengths"] (spLJoinL K) _ _:=⟨ok_ljoinL F14 T (PySem.W.mg_none_of X G zenumerate) Ccheck_ways Cfirst_many,m a14,k14,b14⟩
  have Cbalanced_passes:Cal l.prog w K mg base 1 "balanced_passes" ["p","rows"] spBalP _ _:=⟨ok_balp F15,m a15,k15,b15⟩
  have Cbalanced_reading:Cal l.prog w K mg base 2 "balanced_reading" ["p","rows","things"] spBalG _ _:=⟨ok_balg F16 Cbalanced_passes,m a16,k16,b16⟩
  have Cheld_lengths:Cal l.prog w K mg base 5 "held_lengths" ["p","lengths"] (spHL K) _ _:=⟨ok_hl F17 T Ccheck_ways Cbalanced_reading Cleast_join Cbest_placing Clong_cascade,m a17,k17,b17⟩
  have Cbetter_way:Cal l.prog w K mg base 5 "better_way" ["p","lengths"] (spBW K) _ _:=⟨ok_bw F18 T Ccheck_ways Cbest_placing Clong_cascade,m a18,k18,b18⟩
  have C_law_pot:Cal l.prog w K mg base 1 "_law_pot" ["script","k"] (spPotT K) _ _:=⟨ok_potT F19 T,m a19,k19,b19⟩
  have C_law_take:Cal l.prog w K mg base 1 "_law_take" ["pot","many"] spTakeT _ _:=⟨ok_takeT F20 T,m a20,k20,b20⟩
  have C_law_further:Cal l.prog w K mg base 1 "_law_further" ["reels","cascade"] spFur _ _:=⟨ok_fur F21 T (PySem.W.mg_none_of X G zenumerate),m a21,k21,b21⟩
  have C_law_numbers:Cal l.prog w K mg base 1 "_law_numbers" ["reels","most"] spNms _ _:=⟨ok_nms F22 T,m a22,k22,b22⟩
  have C_law_log_reading:Cal l.prog w K mg base 1 "_law_log_reading" ["p","lengths"] (spLogR75 K) _ _:=⟨ok_logR75 F23 T,m a23,k23,b23⟩
  have C_law_passes:Cal l.prog w K mg base 1 "_law_passes" ["p","rows","whole"] spLPassG _ _:=⟨ok_lpassG F24,m a24,k24,b24⟩
  have C_law_lengths:Cal l.prog w K mg base 2 "_law_lengths" ["pot"] (spLens75 K) _ _:=⟨ok_lens75 F25 T C_law_take,m a25,k25,b25⟩
  have C_law_best:Cal l.prog w K mg base 2 "_law_best" ["p","lengths","cascade"] (spBest75 K) _ _:=⟨ok_best75 F26 T C_law_numbers C_law_further,m a26,k26,b26⟩
  have C_law_whole:Cal l.prog w K mg base 1 "_law_whole" ["thing"] spWhole _ _:=⟨ok_lwhole F27 T,m a27,k27,b27⟩
  have C_law_kinds:Cal l.prog w K mg base 2 "_law_kinds" ["found"] (spKinds75 K) _ _:=⟨ok_kinds75 F28 T C_law_whole,m a28,k28,b28⟩
  exact ok_law75 F29 T C_law_pot C_law_take C_law_lengths C_law_best C_law_passes Cheld_lengths C_law_log_reading C_law_kinds Cbetter_way
theorem walk {l:PySem.W.OpenLaw}{q:Program}{loose:List Str}{XP:(Str->Option Value)->Heap->Prop}{YP:World->Heap->Prop}{d:DefRec}{K:Params->PySem.W.Frag} (hn:l.most=some 63) (hdf:d.params.defaults=[])
    (hY:∀ (w:World) (h:Heap),YP w h->(K w.params).In h)
    (F:∀ (w:World) (mg:Str->Option Value) (fa:Addr) (h:Heap),(K w.params).In h->h.Ns mainGlobals mg->mg d.name=some (.ref fa) ->
      ∃ fd:FuncData,(∀ (s:Shared) (u:Value),BindsTo s fd ⟨[u],[]⟩ [("script",u)])/\∀ base:Heap,(K w.params).In base->base.Ns mainGlobals mg->FnOk l.prog w (K w.params) mg base CX0 6 fa fd ["script"] (spLaw (K w.params))) :
    PySem.W.WalkO q loose XP YP l.row.toRowW d [] (fun f vs=>PySem.call f vs) :=
  L2.walk_of (n:=63) (k:=6) (x:="script") (CX:=fun _=>CX0) (sp:=fun w=>spLaw (K w.params)) hn (by decide) hdf ⟨rfl,by decide,by decide,rfl⟩ hY F (fun _ _ a ns hl _ hS=>⟨a,ns,rfl,hS,hl,fun _=>rfl⟩) fun _ _ _ _ _ z=>z
end Fj75
def PySem.W.Fast.tw14032480976833595731 : Unit := ()
def PySem.W.Fast.tw630333960418507208 : Unit := ()
def PySem.W.Fast.tw11894045450028366892 : Unit := ()
def PySem.W.Fast.tw18275461775345175726 : Unit := ()
def PySem.W.Fast.tw7750543405174606503 : Unit := ()
def PySem.W.Fast.tw17630667420334568646 : Unit := ()
def PySem.W.Fast.tw15547795921565784303 : Unit := ()
def PySem.W.Fast.tw12295850131739646450 : Unit := ()
def PySem.W.Fast.tw3147262331088458896 : Unit := ()
def PySem.W.Fast.tw15946958193660962911 : Unit := ()
def PySem.W.Fast.tw7500607680292545513 : Unit := ()
def PySem.W.Fast.tw3724762612132413873 : Unit := ()
def PySem.W.Fast.tw16153668482059076127 : Unit := ()
def PySem.W.Fast.tw1167184769208494858 : Unit := ()
def PySem.W.Fast.tw9870398666918083095 : Unit := ()
def PySem.W.Fast.tw371846349485864128 : Unit := ()
def PySem.W.Fast.tw17045340034907641689 : Unit := ()
def PySem.W.Fast.tw8202995562584912652 : Unit := ()
def PySem.W.Fast.tw12377791435659266435 : Unit := ()
def PySem.W.Fast.tw12797319967013282892 : Unit := ()
def PySem.W.Fast.tw15927365599662411758 : Unit := ()
def PySem.W.Fast.tw14002912640681497360 : Unit := ()
def PySem.W.Fast.tw302044445533232673 : Unit := ()
def PySem.W.Fast.tw9824352604322604413 : Unit := ()
def PySem.W.Fast.tw13462632637043450780 : Unit := ()
def PySem.W.Fast.tw14290610606808934023 : Unit := ()
def PySem.W.Fast.tw16579658119052588873 : Unit := ()
def PySem.W.Fast.tw15601205452262225273 : Unit := ()
def PySem.W.Fast.tw10467598609168390175 : Unit := ()
def PySem.W.Fast.tw8293323341199331902 : Unit := ()
def PySem.W.Fast.tw8190924439351113289 : Unit := ()
def PySem.W.Fast.tw18194821052588901958 : Unit := ()
def PySem.W.Fast.tw10354684102265885647 : Unit := ()
def PySem.W.Fast.tw13424622441698842177 : Unit := ()
def PySem.W.Fast.tw15290006377329006544 : Unit := ()
def PySem.W.Fast.tw17849519203231492339 : Unit := ()
def PySem.W.Fast.tw12436740686558297248 : Unit := ()
def PySem.W.Fast.tw11044934354776790411 : Unit := ()
def PySem.W.Fast.tw2293989976121755441 : Unit := ()
def PySem.W.Fast.tw5363484930333804483 : Unit := ()
def PySem.W.Fast.tw4328581255213808734 : Unit := ()
def PySem.W.Fast.tw14860422947435336469 : Unit := ()
def PySem.W.Fast.tw11888680553983349534 : Unit := ()
def PySem.W.Fast.tw9259532433303674824 : Unit := ()
def PySem.W.Fast.tw3926267214175473232 : Unit := ()
def PySem.W.Fast.tw1052331000335628726 : Unit := ()
open PySem PySem.W PyProof.Rows
set_option maxRecDepth 100000 in
set_option maxHeartbeats 0 in
theorem PySem.Challenge.cw_fewreels_k75_held_lengths_told_holds : PySem.Challenge.rw_fewreels_k75_held_lengths_told.Holds := by
  w_on; o_law; k_head; (case hw => w_witness2)
  k_fill
  refine Fj75.walk (l := PySem.Challenge.rw_fewreels_k75_held_lengths_told) rfl rfl (fun w h Y => PySem.W.kIn_of Y) ?F
  case F =>
    intro w mg fa h KX G hmg
    refine' Fj75.all_mk KX G hmg ?a0 ?l0 ?c0 ?k0 ?a1 ?l1 ?c1 ?k1 ?a2 ?l2 ?c2 ?k2 ?a3 ?l3 ?c3 ?k3 ?a4 ?l4 ?c4 ?k4 ?a5 ?l5 ?c5 ?k5 ?a6 ?l6 ?c6 ?k6 ?a7 ?l7 ?c7 ?k7 ?a8 ?l8 ?c8 ?k8 ?a9 ?l9 ?c9 ?k9 ?a10 ?l10 ?c10 ?k10 ?a11 ?l11 ?c11 ?k11 ?a12 ?l12 ?c12 ?k12 ?a13 ?l13 ?c13 ?k13 ?a14 ?l14 ?c14 ?k14 ?a15 ?l15 ?c15 ?k15 ?a16 ?l16 ?c16 ?k16 ?a17 ?l17 ?c17 ?k17 ?a18 ?l18 ?c18 ?k18 ?a19 ?l19 ?c19 ?k19 ?a20 ?l20 ?c20 ?k20 ?a21 ?l21 ?c21 ?k21 ?a22 ?l22 ?c22 ?k22 ?a23 ?l23 ?c23 ?k23 ?a24 ?l24 ?c24 ?k24 ?a25 ?l25 ?c25 ?k25 ?a26 ?l26 ?c26 ?k26 ?a27 ?l27 ?c27 ?k27 ?a28 ?l28 ?c28 ?k28 ?a29 ?l29 ?c29 ?k29 ?y0 ?y1 ?y2 ?z0 ?z1 ?z2 ?z3 ?z4 ?z5 ?z6 ?z7 ?z8 ?z9 ?z10 ?z11 ?z12 ?zenumerate
    (case a0 => k_is); (case l0 => k_is); (case c0 => k_is); (case k0 => k_is); (case a1 => k_is); (case l1 => k_is)
    (case c1 => k_is); (case k1 => k_is); (case a2 => k_is); (case l2 => k_is); (case c2 => k_is); (case k2 => k_is)
    (case a3 => k_is); (case l3 => k_is); (case c3 => k_is); (case k3 => k_is); (case a4 => k_is); (case l4 => k_is)
    (case c4 => k_is); (case k4 => k_is); (case a5 => k_is); (case l5 => k_is); (case c5 => k_is); (case k5 => k_is)
    (case a6 => k_is); (case l6 => k_is); (case c6 => k_is); (case k6 => k_is); (case a7 => k_is); (case l7 => k_is)
    (case c7 => k_is); (case k7 => k_is); (case a8 => k_is); (case l8 => k_is); (case c8 => k_is); (case k8 => k_is)
    (case a9 => k_is); (case l9 => k_is); (case c9 => k_is); (case k9 => k_is); (case a10 => k_is); (case l10 => k_is)
    (case c10 => k_is); (case k10 => k_is); (case a11 => k_is); (case l11 => k_is); (case c11 => k_is); (case k11 => k_is)
    (case a12 => k_is); (case l12 => k_is); (case c12 => k_is); (case k12 => k_is); (case a13 => k_is); (case l13 => k_is)
    (case c13 => k_is); (case k13 => k_is); (case a14 => k_is); (case l14 => k_is); (case c14 => k_is); (case k14 => k_is)
    (case a15 => k_is); (case l15 => k_is); (case c15 => k_is); (case k15 => k_is); (case a16 => k_is); (case l16 => k_is)
    (case c16 => k_is); (case k16 => k_is); (case a17 => k_is); (case l17 => k_is); (case c17 => k_is); (case k17 => k_is)
    (case a18 => k_is); (case l18 => k_is); (case c18 => k_is); (case k18 => k_is); (case a19 => k_is); (case l19 => k_is)
    (case c19 => k_is); (case k19 => k_is); (case a20 => k_is); (case l20 => k_is); (case c20 => k_is); (case k20 => k_is)
    (case a21 => k_is); (case l21 => k_is); (case c21 => k_is); (case k21 => k_is); (case a22 => k_is); (case l22 => k_is)
    (case c22 => k_is); (case k22 => k_is); (case a23 => k_is); (case l23 => k_is); (case c23 => k_is); (case k23 => k_is)
    (case a24 => k_is); (case l24 => k_is); (case c24 => k_is); (case k24 => k_is); (case a25 => k_is); (case l25 => k_is)
    (case c25 => k_is); (case k25 => k_is); (case a26 => k_is); (case l26 => k_is); (case c26 => k_is); (case k26 => k_is)
    (case a27 => k_is); (case l27 => k_is); (case c27 => k_is); (case k27 => k_is); (case a28 => k_is); (case l28 => k_is)
    (case c28 => k_is); (case k28 => k_is); (case a29 => k_is); (case l29 => k_is); (case c29 => k_is); (case k29 => k_is)
    (case y0 => k_is); (case y1 => k_is); (case y2 => k_is); (case z0 => k_is); (case z1 => k_is); (case z2 => k_is)
    (case z3 => k_is); (case z4 => k_is); (case z5 => k_is); (case z6 => k_is); (case z7 => k_is); (case z8 => k_is)
    (case z9 => k_is); (case z10 => k_is); (case z11 => k_is); (case z12 => k_is); (case zenumerate => k_is)
